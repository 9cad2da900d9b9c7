import PyProof.Rows.All
import Wide.All
import OpenK.AllK
import Wide.FinOn
import HandS.Base
import HandS.Call
import HandS.List
import HandS.Comp
import HandS.Ends
import HandS.Dict
import HandS.Iter
import HandS.Text
import HandS.Words
import HandS.Wide
import HandS.Flow
import HandS.Style
import HandS.IsInst
import HandS.ExcInit
import HandS.ExcIs
import HandS.Defaults
import HandS.Walk
import HandS.Codes
import KE.IntTextLaws
import PyProof.ReprRoads
import HandS.WordsExc
import HandS.TryMany
import HandS.ExcOwn
import HandS.ExcField
import KE.GoesEnum
import PyProof.ReprBulk
import HandS.WideBits
import PyProof.EqKinds
import PyProof.FactsAll.dict_1
import PyProof.FactsAll.subtypes_3
import PyProof.FactsAll.subtypes_4
import KE.KExcInit
import PyProof.ExcBaseAll.LookupError
import HandS.CallSlots
import HandS.Conv
import HandS.Deep
import KE.DataFind
import HandS.SetKeys
import HandS.Small
import HandS.SetFor
import HandS.WordsDict
import HandS.DictComp
import HandS.TupAny
import PyProof.SliceSyntax
import HandS.TryOnly
import KE.GoesEnumKw
import HandS.SetBool
import HandS.Strs
import PyProof.DictUpdate
import HandS.More
import HandS.TupMul
import HandS.OwnEq
import PySem.Challenge.RW_guestsalone_k15_whole_runs_cut_in_two
set_option Elab.async false
set_option linter.all false
set_option maxRecDepth 100000
set_option maxHeartbeats 8000000
namespace Bk
open PySem PySem.Spec PyProof.Rows L2
/-! ## 1. rules of our own -/
section
variable {X : Cx} {CX : CXT} {k n : Nat} {f : Addr} {fd : FuncData} {ps ks : List Str} {sp : Sp} {E : XK} {x m : Str} {p p1 p2 pos : Pos} {e : Expr} {es : List Expr} {kws : List Keyword} {t tk ta : TA} {g : List Value → List Value → List Value} {gV : List V → List V → List V}
/-- C.m(e, ..): m a plain def of the class at B (or above it), read off the class -/
theorem pe_cdef {B : Addr} {mc : Value} {ds : List Value} {dvs : List V} {pl : Sem Bool} (F : FnOk X.prog X.w X.K X.mg X.base CX k f fd ps sp) (hr : Room k X.A) (hg : Gl X x) (hm : X.mg x = some (.ref B))
    (rd : PySem.W.readsIn X.K B mc = true) (ga : PySem.W.specialIn X.K (.ref B) "__getattribute__" = some (some (.builtin "type.__getattribute__"))) (at_ : PySem.W.findCls X.K (.ref B) mc m = some (.val (.ref f)))
    (hk : PySem.W.keepIn X.K (.ref f) = true) (hb : Binds X.K fd ps ds) (hd : Vals dvs ds) (hx : Passes CX X E) (ha : PA X (e :: es) t)
    (ht : eval (.Call (.Attribute (.Name x p1) m p2) (e :: es) [] pos) X.env = (do
      let ov ← eval (.Name x p1) X.env
      standAt p2.atName
      let (f, first) ← holding [ov] (getMethod ov m pl)
      callWith pos f first (backTo pos (starEach (e :: es) X.env)) (backToKw pos (keywordEach [] X.env))) := by rfl)
    (hdb : (x == ("__debug__" : Str)) = false := by decide) (he : starEach (e :: es) X.env = (false, eval e X.env) :: starEach es X.env := by rfl) (hpl : (backTo pos (starEach es X.env)).any (·.1) = false := by rfl) :
    PE X (.Call (.Attribute (.Name x p1) m p2) (e :: es) [] pos) (tCall sp dvs E t) := by
  refine ⟨fun pins s σ H Q I h => ?_⟩
  refine PySem.W.methodCall_KW (pl := pl) (ld_glob I hg hm ?_ hdb) ht
  refine PySem.W.method_cls I.kIn ga (PySem.W.cls_value I.kIn rd at_ rfl ?_)
  have I1 := I.tok (s.toks + 1)
  refine PySem.W.callWith_K (h₀ := X.base) I.ok.mod.kin hk (thn (ha.run pos pins _ σ H _ I1 h) fun us s1 ⟨vs, H1, I2, r, q⟩ => ⟨I2.kIn, ?_⟩) he hpl
  exact run_fn F hr hb hd hx I2 r q
/-- C(e, ..) as a value, C an own exception class under ValueError whose own __init__ keeps sp -/
def tMkV (C : Addr) (sp : Sp) (dvs : List V) (ta : TA) : TE := fun σ H Q => ta σ H fun vs H1 => vs.length ≤ 1000 ∧ ∀ a, H1 a = none → sp (.ref a :: (vs ++ dvs)) (upd H1 a (exo a C none)) (fun v H2 => v = .non ∧ Q (.ref a) H2) (fun _ _ _ => False)
/-- repr of a truth -/
def reprB (b : Bool) : Str := if b then "True" else "False"
end
/-! ### an exception as a value: isinstance, its field -/
end Bk
namespace PySem.W
open PySem PySem.Spec PySem.Calls PyProof.Rows
section
variable {prog : Program} {w : World} {A : Around} {E : Value → Shared → Prop} {s : Shared} {K : Frag} {x D : Addr} {ox : Obj} {od : Option Obj}
theorem bk_findObj {C : Addr} {name : Str} {a g : Value} (hc : (clsIn K C).isSome = true) (ha : findIn K (.ref C) name = some (some a)) (hg : specialIn K a "__get__" = some (some g)) (ht : takesIn K a = some true) : findObj K C od name = some (.bind g a) := by
  obtain ⟨cd, hc⟩ := Option.isSome_iff_exists.mp hc
  unfold findObj
  rw [hc, Option.bind_some, ha, Option.bind_some]
  simp [hg, ht]
theorem bk_class {Q : Option Value → Shared → Prop} (hga : findIn K (.ref D) "__getattribute__" = some (some (.builtin "BaseException.__getattribute__"))) (hgt : findIn K (.ref D) "__getattr__" = some none) (hsub : subIn K (.ref D) (.type "BaseException") = some true)
    (hdct : hasDictIn K D = true) (ha : findIn K (.ref D) "__class__" = some (some (.builtin "object.__class__")))
    (hn : specialIn K (.builtin "object.__class__") "__get__" = some (some (.builtin "getset_descriptor.__get__"))) (htk : takesIn K (.builtin "object.__class__") = some true) (hm : mroIn K D (.type "object") = some true)
    (X : K.In s.heap) (I : InstAt s.heap x ox D od) (h : Q (some (.ref D)) { s with toks := s.toks + 1 }) : wpAny (model prog w) A (getAttr? (.ref x) "__class__") Q E s := by
  have hf : findObj K D od "__class__" = some (.bind (.builtin "getset_descriptor.__get__") (.builtin "object.__class__")) := bk_findObj (by obtain ⟨cd, hc, _⟩ := any_some hdct; rw [hc]; rfl) ha hn htk
  obtain ⟨hp, g, d, t, os⟩ := s
  have L0 := I.type (M := model prog w)
  have L1 := looks_findIn (M := model prog w) X hga
  have L2 := looks_findIn (M := model prog w) X hgt
  have L3 := looks_find (M := model prog w) X I hf
  have sub : Looks (model prog w) hp (isInstance (.ref x) (.type "BaseException")) true := L0.andThen (looks_subIn X hsub)
  have hx0 : (false && onTheHeap (Value.builtin "BaseException.__getattribute__")) = false := rfl
  have hx2 : (Value.builtin "BaseException.__getattribute__" == Value.builtin "object.__getattribute__") = false := by decide +kernel
  have hx1 : (onTheHeap (Value.ref D) && Value.builtin "BaseException.__getattribute__" == Value.builtin "object.__getattribute__") = false := by rw [hx2]; rfl
  unfold getAttr? getAttrBy? getAttrBy
  refine wpAny_bind (wpAny_mkText (wpAny_bind (wpAny_attempt (wpAny_holding (wpAny_bind (L0.at (wpAny_bind (L1.at ?_))))))))
  show wpAny _ _ (if (onTheHeap (Value.ref D) && Value.builtin "BaseException.__getattribute__" == Value.builtin "object.__getattribute__") = true then _ else _) _ _ _
  rw [hx1, if_neg Bool.false_ne_true]
  unfold getAttrByItsOwn hookBefore
  refine wpAny_bind ?_
  rw [if_pos (show onTheHeap (Value.ref D) = true from rfl)]
  refine L2.at ?_
  refine wpAny_bind (wpAny_attempt (wpAny_holding ?_))
  unfold callGetattribute
  rw [hx0, if_neg Bool.false_ne_true]
  unfold boundAndCalled
  rw [PySem.F.excAttr_ValueError.ga.bind (.ref x)]
  refine wpAny_bind (wpAny_pure ?_)
  show wpAny _ _ (call (.builtin "BaseException.__getattribute__") [.ref x, .str "__class__" t]) _ _ _
  refine wpAny_call (codeAny_call_builtin PySem.F.excAttr_ValueError.ga.plain PySem.F.entry_bexc_ga ?_)
  refine @check_slot (model prog w) _ _ ⟨hp, g, d, t + 1, os⟩ "BaseException.__getattribute__" "BaseException" "__getattribute__" (.ref x) [.str "__class__" t] [] _ (by decide +kernel) (by decide +kernel) sub (PySem.F.args_bexc_ga (.ref x) (.str "__class__" t)) ?_
  unfold Builtin.«object.__getattribute__»
  refine wpAny_bind (wpAny_of_eq (a := ((Value.ref x : Value), [Value.str "__class__" t])) (by first | rfl | (simp only [slotArgs]; rfl)) ?_)
  refine wpAny_bind (wpAny_pure (wpAny_bind (L0.at (wpAny_bind (L3.at ?_)))))
  show wpAny _ _ (holding [Value.builtin "object.__class__"] (call (.builtin "getset_descriptor.__get__") [.builtin "object.__class__", .ref x, .ref D]) >>= ret) _ _ _
  refine wpAny_bind (wpAny_holding (wpAny_call (class_get (s := ⟨hp, g, d, t + 1, os⟩) (ox := ox) (od := od) X I hm ?_)))
  refine wpAny_pure ?_
  show wpAny _ _ (handedOut (.ref D)) _ _ _
  rw [handedOut_of (v := .ref D) rfl]
  first
    | exact wpAny_pure (wpAny_pure h)
    | exact wpAny_pure h
    | exact wpAny_pure (wpAny_bind (wpAny_pure (wpAny_pure h)))
theorem bk_kitx (hga : findIn K (.ref D) "__getattribute__" = some (some (.builtin "BaseException.__getattribute__"))) (hgt : findIn K (.ref D) "__getattr__" = some none) (hsub : subIn K (.ref D) (.type "BaseException") = some true) (hdct : hasDictIn K D = true) (ha : findIn K (.ref D) "__class__" = some (some (.builtin "object.__class__")))
    (hn : specialIn K (.builtin "object.__class__") "__get__" = some (some (.builtin "getset_descriptor.__get__"))) (htk : takesIn K (.builtin "object.__class__") = some true) (hm : mroIn K D (.type "object") = some true) :
    KitX K (.ref x) (.ref D) (fun h => InstAt h x ox D od) where
  ty := fun _ _ _ I => I.type
  it := fun _ _ X _ => by
    obtain ⟨cdD, hcD, _⟩ := any_some hdct
    unfold clsIn at hcD
    split at hcD
    · rename_i c' d' cd' sl' ho
      intro A' Q' E' s' k q
      unfold isType loadHead
      exact wpAny_bind (wpAny_loadPart (k _ _ (X _ _ ho)) (wpAny_pure q))
    · cases hcD
  ne := fun h tp dd its n sl X htp => by
    obtain ⟨cdD, hcD, _⟩ := any_some hdct
    refine Bool.eq_false_iff.mpr fun q => ?_
    have e : D = tp := Value.ref.inj (beq_iff_eq.mp q)
    subst e
    unfold clsIn at hcD
    split at hcD
    · rename_i c' d' cd' sl' ho
      have z := (X _ _ ho).symm.trans htp
      cases z
    · cases hcD
  ca := fun X I k => bk_class hga hgt hsub hdct ha hn htk hm X I k
end
end PySem.W
namespace Bk
open PySem PySem.Spec PyProof.Rows L2
/-- at a: an exception of the class at D, its own dict (at dx) holds fs -/
def XV (H : Hp) (a D dx : Addr) (fs : List (Str × V)) : Prop := H a = some (exo a D (some dx)) ∧ H dx = some (exd dx fs)
theorem xv_inst {X : Cx} {pins : List (Addr × Obj)} {σ : L2.St} {H : Hp} {s : Shared} {a D dx : Addr} {fs : List (Str × V)} (I : Inv X pins σ H s) (h : XV H a D dx fs) :
    ∃ (ox od : Obj) (mA : Str → Option Value), PySem.W.InstAt s.heap a ox D (some od) ∧ (∀ f, PySem.W.lookIn f od = some (mA f)) ∧ ∀ f, RelO (fs.lookup f) (mA f) := by
  obtain ⟨t1, ho⟩ := exo_at I.hok h.1
  obtain ⟨mA, hns, rel⟩ := exd_at I.hok h.2
  obtain ⟨od, hod, hl⟩ := lookIn_ns hns
  exact ⟨_, od, mA, ⟨ho, rfl, rfl, hod⟩, hl, rel⟩
/-- isinstance(e, c), e such an exception -/
def rIsX (K : PySem.W.Frag) : List V → Hp → VK → Prop := fun xs H Q => ∃ (a D dx : Addr) (fs : List (Str × V)) (c : V) (u : Value) (b : Bool), xs = [.ref a, c] ∧ XV H a D dx fs ∧ ExcC K D ∧ ClsV c u ∧ PySem.W.kitOne K (.ref D) u = some b ∧ Q (.bl b) H
theorem call_isX {X : Cx} : CallR X (.builtin "isinstance") (rIsX X.K) := by
  intro pins s σ H xs us Q I r h
  obtain ⟨a, D, dx, fs, c, u, b, rfl, xv, C, k, e, q⟩ := h
  obtain ⟨u1, u2, rfl, r1, r2⟩ := vals2 r
  have e2 := k.eq r2
  subst e2
  obtain rfl : u1 = Value.ref a := r1
  obtain ⟨ox, od, mA, J, _, _⟩ := xv_inst I xv
  exact PySem.W.kia_one (PySem.W.bk_kitx (ox := ox) (od := some od) C.hg C.hk C.hs C.hd C.ha C.hn C.ht C.hm) I.kIn J e (fun z => nomatch z) fun tk => ⟨.bl b, H, I.tok tk, rfl, q⟩
/-- isinstance of a value of any form met here -/
def rIs (K : PySem.W.Frag) : List V → Hp → VK → Prop := fun xs H Q => rIsi K xs H Q ∨ rIsX K xs H Q
theorem call_is {X : Cx} : CallR X (.builtin "isinstance") (rIs X.K) := CallR.or call_isi call_isX
end Bk

namespace Bk
open PySem PySem.Spec PyProof.Rows L2
/-! ## 2. a def that may be called by its name -/
structure Cal (P : Program) (w : World) (K : PySem.W.Frag) (mg : Str → Option Value) (base : Heap) (CX : CXT) (k : Nat) (x : Str) (sp : Sp) : Prop where
  ex : ∃ (f : Addr) (fd : FuncData) (ps : List Str) (ds : List Value) (dvs : List V), mg x = some (.ref f) ∧ PySem.W.keepIn K (.ref f) = true ∧ FnOk P w K mg base CX k f fd ps (fun vs H Q E => sp vs H Q E ∧ vs.length = ps.length) ∧ Binds K fd ps [] ∧ ds = [] ∧ dvs = []
/-- the same with keywords: n values by places, then those of the keywords ks; gV orders them -/
structure CalN (P : Program) (w : World) (K : PySem.W.Frag) (mg : Str → Option Value) (base : Heap) (CX : CXT) (k n : Nat) (ks : List Str) (x : Str) (sp : Sp) (gV : List V → List V → List V) : Prop where
  ex : ∃ (f : Addr) (fd : FuncData) (ps : List Str) (g : List Value → List Value → List Value), mg x = some (.ref f) ∧ PySem.W.keepIn K (.ref f) = true ∧ FnOk P w K mg base CX k f fd ps sp ∧ KBn K fd ps n ks g gV
/-- defaults fill up -/
structure CalD (P : Program) (w : World) (K : PySem.W.Frag) (mg : Str → Option Value) (base : Heap) (CX : CXT) (k : Nat) (x : Str) (sp : Sp) (dvs : List V) : Prop where
  ex : ∃ (f : Addr) (fd : FuncData) (ps : List Str) (ds : List Value), mg x = some (.ref f) ∧ PySem.W.keepIn K (.ref f) = true ∧ FnOk P w K mg base CX k f fd ps sp ∧ Binds K fd ps ds ∧ Vals dvs ds
/-- a method's def, by itself -/
structure Own (P : Program) (w : World) (K : PySem.W.Frag) (mg : Str → Option Value) (base : Heap) (CX : CXT) (k : Nat) (f : Addr) (fd : FuncData) (ps : List Str) (sp : Sp) : Prop where
  ok : FnOk P w K mg base CX k f fd ps sp
  bd : Binds K fd ps []
  kp : PySem.W.keepIn K (.ref f) = true
section
variable {X : Cx} {CX : CXT} {k j n : Nat} {ks : List Str} {sp : Sp} {E : XK} {x : Str} {p pos : Pos} {e : Expr} {es : List Expr} {kws : List Keyword} {t tk : TA} {gV : List V → List V → List V} {dvs : List V}
theorem pe_cal (c : CalD X.prog X.w X.K X.mg X.base CX0 k x sp []) (hr : Room j X.A) (hk : k ≤ j) (hg : Gl X x) (ha : PA X (e :: es) t)
    (hdb : (x == ("__debug__" : Str)) = false := by decide) (he : starEach (e :: es) X.env = (false, eval e X.env) :: starEach es X.env := by rfl) (hpl : (backTo pos (starEach es X.env)).any (·.1) = false := by rfl) :
    PE X (.Call (.Name x p) (e :: es) [] pos) (tCall sp [] E0 t) := by
  obtain ⟨f, fd, ps, ds, h1, h2, h3, h4, h5⟩ := c.ex
  exact pe_call h3 (hr.mono hk) hg h1 h2 h4 h5 pass0 ha hdb he hpl
end
theorem CalD.mk' {P : Program} {w : World} {K : PySem.W.Frag} {mg : Str → Option Value} {base : Heap} {CX : CXT} {k : Nat} {x : Str} {sp : Sp} {f : Addr} {fd : FuncData} {ps : List Str} (g : mg x = some (.ref f)) (kp : PySem.W.keepIn K (.ref f) = true) (F : FnOk P w K mg base CX k f fd ps sp) (b : Binds K fd ps []) :
    CalD P w K mg base CX k x sp [] := ⟨f, fd, ps, [], g, kp, F, b, .nil⟩
/-! ## 3. going through a reading -/
section
variable {K : PySem.W.Frag} {σ : L2.St} {H : Hp} {ta tb tc te : TE} {t u : TT} {x y v : V} {Q : VK} {QB : Bool → Hp → Prop} {QL : List V → Hp → Prop} {r r' : R2} {D : Ends} {a b : TS} {tr : TA}
theorem r_var {i : Nat} (h : σ[i]? = some (some v)) (q : Q v H) : tVar i σ H Q := ⟨v, h, q⟩
theorem r_c (q : Q v H) : tC v σ H Q := q
theorem r_op (q : ta σ H fun x H1 => tb σ H1 fun y H2 => r x y H2 Q) : tOp r ta tb σ H Q := q
theorem r_un {r : V → Hp → VK → Prop} (q : ta σ H fun x H1 => r x H1 Q) : tUn r ta σ H Q := q
theorem r_I0 {g : Int → Int → V} {i j : Int} (q : Q (g i j) H) : rI0 g (.int i) (.int j) H Q := ⟨i, j, rfl, rfl, q⟩
theorem r_I {C : Int → Int → Prop} {g : Int → Int → V} {i j : Int} (c : C i j) (q : Q (g i j) H) : rI C g (.int i) (.int j) H Q := ⟨i, j, rfl, rfl, c, q⟩
theorem r_U {g : Int → V} {i : Int} (q : Q (g i) H) : rU g (.int i) H Q := ⟨i, rfl, q⟩
theorem r_eq (s : scal x y = true) (q : Q (.bl (decide (x = y))) H) : rEq x y H Q := ⟨s, q⟩
theorem r_ne (s : scal x y = true) (q : Q (.bl (!decide (x = y))) H) : rNe x y H Q := ⟨s, q⟩
theorem r_nil (q : QL [] H) : tNil σ H QL := q
theorem r_cons (q : ta σ H fun x H1 => tr σ H1 fun xs H2 => QL (x :: xs) H2) : tCons ta tr σ H QL := q
theorem r_call {sp : Sp} {dvs : List V} {E : XK} (q : tr σ H fun vs H1 => sp (vs ++ dvs) H1 Q E) : tCall sp dvs E tr σ H Q := q
theorem r_callN {n m : Nat} {sp : Sp} {gV : List V → List V → List V} {E : XK} {tk : TA} (q : tr σ H fun vs H1 => tk σ H1 fun zs H2 => vs.length = n ∧ zs.length = m ∧ sp (gV vs zs) H2 Q E) : tCallN n m sp gV E tr tk σ H Q := q
theorem r_cb {rc : List V → Hp → VK → Prop} (q : tr σ H fun vs H1 => rc vs H1 Q) : tCB rc tr σ H Q := q
theorem r_ret (q : te σ H D.rt) : tRet te D σ H := q
theorem r_seq (q : a { D with nx := b D } σ H) : tSeq a b D σ H := q
theorem r_asg {g : TG} (q : te σ H fun x H1 => g x σ H1 D.nx) : tAsg te g D σ H := q
theorem r_name {i : Nat} {Qs : L2.St → Hp → Prop} (q : Qs (σ.set i (some v)) H) : gName i v σ H Qs := q
theorem r_if (q : t σ H fun b' H1 => if b' = true then a D σ H1 else b D σ H1) : tIfS t a b D σ H := q
theorem r_next (q : D.nx σ H) : tNext D σ H := q
theorem r_drop (q : te σ H fun _ H1 => D.nx σ H1) : tDrop te D σ H := q
theorem r_test (q : te σ H fun x H' => ∃ k, x = .bl k ∧ QB k H') : tTest te σ H QB := q
theorem r_tB (q : te σ H fun x H' => ∃ k, x = .bl k ∧ QB k H') : tB te σ H QB := q
theorem r_isv {k : Bool} {A : Bool → Prop} (q : A k) : ∃ k', V.bl k = .bl k' ∧ A k' := ⟨k, rfl, q⟩
theorem r_not (q : t σ H fun c H1 => QB (!c) H1) : tNot t σ H QB := q
theorem r_and (q : t σ H fun c H1 => if c = true then u σ H1 QB else QB false H1) : tAnd t u σ H QB := q
theorem r_or (q : t σ H fun c H1 => if c = true then QB true H1 else u σ H1 QB) : tOr t u σ H QB := q
theorem r_andV (q : ta σ H fun x H1 => ∃ c, x = .bl c ∧ if c = true then tb σ H1 Q else Q (.bl false) H1) : tAndV ta tb σ H Q := q
theorem r_orV (q : ta σ H fun x H1 => ∃ c, x = .bl c ∧ if c = true then Q (.bl true) H1 else tb σ H1 Q) : tOrV ta tb σ H Q := q
theorem r_notV (q : ta σ H fun x H1 => ∃ c, x = .bl c ∧ Q (.bl (!c)) H1) : tNotV ta σ H Q := q
theorem r_chain (q : ta σ H fun x H1 => tb σ H1 fun y H2 => r x y H2 fun z H3 => ∃ k, z = .bl k ∧ (if k = true then tc σ H3 fun w' H4 => r' y w' H4 Q else Q (.bl false) H3)) : tChain r r' ta tb tc σ H Q := q
theorem r_ifE (q : t σ H fun c H1 => if c = true then ta σ H1 Q else tb σ H1 Q) : tIf t ta tb σ H Q := q
def NewL (xs : List V) (H : Hp) (Q : VK) : Prop := xs.length ≤ sizeLine ∧ ∀ p, H p = none → Q (.ref p) (upd H p (.lst xs))
def NewT (xs : List V) (H : Hp) (Q : VK) : Prop := xs.length ≤ sizeLine ∧ ∀ p, H p = none → Q (.ref p) (upd H p (.tup xs))
theorem r_lst (q : tr σ H fun xs H1 => NewL xs H1 Q) : tLst tr σ H Q := q
theorem r_tup (q : tr σ H fun xs H1 => NewT xs H1 Q) : tTup tr σ H Q := q
theorem same_upd {p : Addr} {o : HO} (h : H p = none) : Same H (upd H p o) := fun b x e => by
  rw [upd_ne (ne_of_none e h)]
  exact e
theorem newT {xs : List V} (q : ∀ p H', H p = none → Same H H' → H' p = some (.tup xs) → Q (.ref p) H') (hl : xs.length ≤ 10000 := by exact Nat.le_of_ble_eq_true rfl) : NewT xs H Q :=
  ⟨Nat.le_trans hl (by decide), fun p hp => q p _ hp (same_upd hp) upd_same⟩
def NewDK (kvs : List (Key × V)) (H : Hp) (Q : VK) : Prop := ∀ p, H p = none → Q (.ref p) (upd H p (.dK kvs))
theorem r_dnewK (q : NewDK [] H Q) : tDNewK σ H Q := q
def MkV (C : Addr) (sp : Sp) (dvs vs : List V) (H : Hp) (Q : VK) : Prop := vs.length ≤ 1000 ∧ ∀ a, H a = none → sp (.ref a :: (vs ++ dvs)) (upd H a (exo a C none)) (fun v H2 => v = .non ∧ Q (.ref a) H2) (fun _ _ _ => False)
theorem r_mkV {C : Addr} {sp : Sp} {dvs : List V} (q : tr σ H fun vs H1 => MkV C sp dvs vs H1 Q) : tMkV C sp dvs tr σ H Q := q
def ForL (J : It) (g : TG) (tb : TS) (D : Ends) (σ : L2.St) (H : Hp) : Prop := ∃ W : Nat → Nat → L2.St → Hp → Prop, (∃ m, W 0 m σ H) ∧ ∀ i m σ H, W i m σ H →
  (J.stop i H ∧ D.nx σ H) ∨ (J.go i H ∧ ∃ N : L2.St → Hp → Prop, (∀ σ' H', N σ' H' → ∃ m', m' < m ∧ W (i + 1) m' σ' H') ∧ ∀ x H', J.yld i H x H' → g x σ H' fun σ2 H2 => tb { D with nx := N, ct := N, bk := D.nx } σ2 H2)
theorem r_for {wi : TI} {g : TG} (q : wi σ H fun J H1 => ForL J g a D σ H1) : tFor wi g a D σ H := q
theorem r_iList {tl : TE} {R : It → Hp → Prop} (q : tl σ H fun x H1 => ∃ p, x = .ref p ∧ (∃ xs, SqL K H1 p xs) ∧ R (Itl K p) H1) : iList K tl σ H R := q
theorem r_iTup {tl : TE} {R : It → Hp → Prop} (q : tl σ H fun x H1 => ∃ p, x = .ref p ∧ (∃ xs, SqT K H1 p xs) ∧ R (Itt K p) H1) : iTup K tl σ H R := q
theorem r_iRng1 {R : It → Hp → Prop} (q : tr σ H fun vs H1 => ∃ j : Int, vs = [.int j] ∧ -(2 ^ 62) ≤ j ∧ j < 2 ^ 62 ∧ R (Itr 0 j.toNat) H1) : iRng1 tr σ H R := q
theorem r_iRng2 {R : It → Hp → Prop} (q : tr σ H fun vs H1 => ∃ i j : Int, vs = [.int i, .int j] ∧ (-(2 ^ 62) ≤ i ∧ i < 2 ^ 62 ∧ -(2 ^ 62) ≤ j ∧ j < 2 ^ 62) ∧ R (Itr i (j - i).toNat) H1) : iRng2 tr σ H R := q
theorem r_ixL {p : Addr} {xs : List V} {i : Int} (h : SqL K H p xs) (ha : atI xs i = some v) (q : Q v H) : rIxL K (.ref p) (.int i) H Q := ⟨p, xs, i, v, rfl, rfl, h, ha, q⟩
theorem r_ixT {p : Addr} {xs : List V} {i : Int} (h : SqT K H p xs) (ha : atI xs i = some v) (q : Q v H) : rIxT K (.ref p) (.int i) H Q := ⟨p, xs, i, v, rfl, rfl, h, ha, q⟩
theorem r_gSub {to ti : TE} {ts : TSet} {Qs : L2.St → Hp → Prop} (q : to σ H fun o H1 => ti σ H1 fun i H2 => ts o i v H2 fun H3 => Qs σ H3) : gSub to ti ts v σ H Qs := q
theorem r_bm {T : String} {rm : V → List V → Hp → VK → Prop} {to : TE} (q : to σ H fun x H1 => tyV K T x H1 ∧ tr σ H1 fun xs H2 => rm x xs H2 Q) : tBM K T rm to tr σ H Q := q
theorem iteNF {A B : Prop} (h : B) : if (!true) = true then A else B := iteF h
theorem iteNT {A B : Prop} (h : A) : if (!false) = true then A else B := iteT h
theorem r_m1 {rm : V → List V → Hp → VK → Prop} {to te : TE} (q : to σ H fun x H1 => (∃ a, x = .str a) ∧ te σ H1 fun y H2 => rm x [y] H2 Q) : tM1 rm to te σ H Q := q
theorem sqL {p : Addr} {xs : List V} (h : H p = some (.lst xs)) : SqL K H p xs := .inl (.inl h)
theorem sqT {p : Addr} {xs : List V} (h : H p = some (.tup xs)) : SqT K H p xs := .inl (.inl h)
end
end Bk

namespace Bk
open PySem PySem.Spec PyProof.Rows L2
/-! ## 4. what isinstance answers -/
def IsA (K : PySem.W.Frag) (H : Hp) (x : V) (T : String) (b : Bool) : Prop :=
  (∃ t, TyX K H x t ∧ PySem.W.kitOne K t (.type T) = some b) ∨ (∃ (a D dx : Addr) (fs : List (Str × V)), x = .ref a ∧ XV H a D dx fs ∧ ExcC K D ∧ PySem.W.kitOne K (.ref D) (.type T) = some b)
section
variable {K : PySem.W.Frag} {H H' : Hp} {x : V} {T : String} {b : Bool} {Q : VK}
theorem r_is (h : IsA K H x T b) (q : Q (.bl b) H) : rIs K [x, .ty T] H Q := by
  rcases h with ⟨t, h1, h2⟩ | ⟨a, D, dx, fs, rfl, h1, h2, h3⟩
  · exact .inl ⟨x, .ty T, t, .type T, b, rfl, .ty T, h1, h2, q⟩
  · exact .inr ⟨a, D, dx, fs, .ty T, .type T, b, rfl, h1, h2, .ty T, h3, q⟩
theorem isa_int {i : Int} (h : kitB "int" T = some b := by decide +kernel) : IsA K H (.int i) T b := .inl ⟨.type "int", .base (.int i), kit_ty h⟩
theorem isa_str {z : Str} (h : kitB "str" T = some b := by decide +kernel) : IsA K H (.str z) T b := .inl ⟨.type "str", .base (.str z), kit_ty h⟩
theorem isa_tup {a : Addr} {xs : List V} (e : H a = some (.tup xs)) (h : kitB "tuple" T = some b := by decide +kernel) : IsA K H (.ref a) T b := .inl ⟨.type "tuple", .base (.tup e), kit_ty h⟩
end
/-! ## 5. the box of draws -/
def Box (a : Addr) (n : Nat) (H : Hp) : Prop := ∃ x y z : Int, H a = some (.lst [.int x, .int y, .int z]) ∧ 0 ≤ x ∧ 0 ≤ y ∧ y < 2147483629 ∧ 0 ≤ z ∧ z ≤ (n : Int)
/-- all but what stands at a is as it was -/
def But (a : Addr) (H H' : Hp) : Prop := ∀ b o, b ≠ a → H b = some o → H' b = some o
theorem But.trans {a : Addr} {H H1 H2 : Hp} (x : But a H H1) (y : But a H1 H2) : But a H H2 := fun b o n e => y b o n (x b o n e)
theorem But.same {a : Addr} {H H1 H2 : Hp} (x : But a H H1) (y : Same H1 H2) : But a H H2 := fun b o n e => y b o (x b o n e)
theorem But.of {a : Addr} {H H1 : Hp} (y : Same H H1) : But a H H1 := fun b o _ e => y b o e
theorem But.upd {a : Addr} {H : Hp} {o : HO} : But a H (upd H a o) := fun b u n e => by rw [upd_ne n]; exact e
theorem Box.same {a : Addr} {n : Nat} {H H' : Hp} (h : Box a n H) (s : Same H H') : Box a n H' := by
  obtain ⟨x, y, z, e, r⟩ := h
  exact ⟨x, y, z, s _ _ e, r⟩
theorem Box.mono {a : Addr} {n m : Nat} {H : Hp} (h : Box a n H) (l : n ≤ m) : Box a m H := by
  obtain ⟨x, y, z, e, r1, r2, r3, r4, r5⟩ := h
  exact ⟨x, y, z, e, r1, r2, r3, r4, by omega⟩
theorem Box.ne {a p : Addr} {n : Nat} {H : Hp} (h : Box a n H) (hp : H p = none) : p ≠ a := by
  obtain ⟨x, y, z, e, _⟩ := h
  exact (ne_of_none e hp).symm
theorem Box.ne_tup {a p : Addr} {n : Nat} {H : Hp} {xs : List V} (h : Box a n H) (hp : H p = some (.tup xs)) : p ≠ a := by
  obtain ⟨x, y, z, e, _⟩ := h
  exact fun q => by rw [q, e] at hp; cases hp
def spCell (K : PySem.W.Frag) : Sp := fun vs H Q _ => ∃ (a : Addr) (ns : List Int) (k : Nat), vs = [.ref a, .int k] ∧ SqL K H a (ns.map V.int) ∧ k ≤ 100000 ∧ ∀ c, Q (.int c) H
def spBox : Sp := fun vs H Q _ => ∃ c : Int, vs = [.int c] ∧ ∀ p H', H p = none → Same H H' → Box p 0 H' → Q (.ref p) H'
def spTake : Sp := fun vs H Q _ => ∃ (a : Addr) (n : Nat) (size : Int), vs = [.ref a, .int size] ∧ Box a n H ∧ n < 1000000 ∧ 0 < size ∧ size < 2 ^ 128 ∧
  ∀ d H', 0 ≤ d → d < size → Box a (n + 1) H' → But a H H' → Q (.int d) H'
theorem cdiv {i j : Int} (h : 0 < j) (h2 : j < 2 ^ 128) : CDivW i j := wide_div (b := 128) h (by omega) (by decide) (by decide)
theorem cmul {i j : Int} (h1 : -(2 ^ 128) < i) (h2 : i < 2 ^ 128) (h3 : -(2 ^ 128) < j) (h4 : j < 2 ^ 128) : CMulW i j := wide_mul (a := 128) (b := 128) (by omega) (by omega) (by decide) (by decide) (by decide)
theorem at_map {ns : List Int} {k : Nat} (h : k < ns.length) : atI (ns.map V.int) ((k : Nat) : Int) = some (.int ns[k]) := atI_nat (by rw [List.getElem?_map, List.getElem?_eq_getElem h]; rfl)
end Bk

namespace Bk
open PySem PySem.Spec PyProof.Rows L2
theorem sameBut {H H' : Hp} {D : Addr} {o : HO} (h : Same H H') (n : H D = none) : Same H (upd H' D o) := fun b u e => by
  rw [upd_ne (ne_of_none e n)]
  exact h b u e
/-! ## 6. a comprehension over a text's signs, all of it -/
section
variable {K : PySem.W.Frag} {σ : L2.St} {H : Hp} {Q : VK} {te : TE}
end
/-! ## 7. draws, items, slices -/
section
variable {K : PySem.W.Frag} {σ : L2.St} {H : Hp} {Q : VK} {E : XK} {te : TE} {tl th : TO} {QO : Option Int → Hp → Prop}
theorem r_take {a : Addr} {n : Nat} {size : Int} (hB : Box a n H) (q : ∀ d H', 0 ≤ d → d < size → Box a (n + 1) H' → But a H H' → Q (.int d) H') (hn : n < 1000000 := by omega) (h0 : 0 < size := by decide) (h1 : size < 2 ^ 128 := by decide) : spTake [.ref a, .int size] H Q E :=
  ⟨a, n, size, rfl, hB, hn, h0, h1, q⟩
theorem r_sl {r : V → Option Int → Option Int → Hp → VK → Prop} (q : te σ H fun x H1 => tl σ H1 fun l H2 => th σ H2 fun u H3 => r x l u H3 Q) : tSl r te tl th σ H Q := q
theorem r_noPart (q : QO none H) : tNoPart σ H QO := q
theorem r_part (q : te σ H fun x H1 => ∃ i, x = .int i ∧ QO (some i) H1) : tPart te σ H QO := q
theorem r_isi {i : Int} {A : Int → Prop} (q : A i) : ∃ i', V.int i = .int i' ∧ A i' := ⟨i, rfl, q⟩
end
theorem r_cut {a b : TS} {D : Ends} {σ : L2.St} {H : Hp} (Mid : L2.St → Hp → Prop) (h1 : a { D with nx := Mid } σ H) (h2 : ∀ σ' H', Mid σ' H' → b D σ' H') : C8.tCut a b D σ H := ⟨Mid, h1, h2⟩
end Bk

namespace Bk
open PySem PySem.Spec PyProof.Rows L2
/-! ## 9. defs that are run where no text is being told of a thing -/
structure FnG (P : Program) (w : World) (K : PySem.W.Frag) (mg : Str → Option Value) (base : Heap) (CX : CXT) (k : Nat) (f : Addr) (fd : FuncData) (ps : List Str) (sp : Sp) : Prop where
  len : ∀ vs H Q E, sp vs H Q E → vs.length = ps.length
  go : ∀ (A : Around) (ou : List Env) (s : Shared) (H : Hp) (ar : Args) (us : List Value) (vs : List V) (Q : VK) (E : XK), A.guards = some [] → Room k A → Env0 P w K mg base A ou s H → BindsTo s fd ar (ps.zip us) → Vals vs us → sp vs H Q E →
    codeAny (model P w) A (.call (.ref f) ar) (CR CX ou P w H s Q E) s
section
variable {P : Program} {w : World} {K : PySem.W.Frag} {mg : Str → Option Value} {base : Heap} {CX : CXT} {j k : Nat} {f : Addr} {fd : FuncData} {N ps : List Str} {sp : Sp} {x qual : Str} {st : Stmt}
theorem FnG.of (F : FnOk P w K mg base CX k f fd ps sp) : FnG P w K mg base CX k f fd ps sp := ⟨F.len, fun A ou s H ar us vs Q E _ => F.run A ou s H ar us vs Q E⟩
/-- by its body -/
theorem fun_okG (F : Fun K x qual st f fd) (S : FnScope N ps (defScope st)) (len : ∀ vs H Q E, sp vs H Q E → vs.length = ps.length)
    (hbody : ∀ (cdv : Value) (A : Around) (ou : List Env) (s : Shared) (H : Hp) (vs : List V) (Q : VK) (E : XK), (A.deeper (envOfC qual (defScope st) s.heap.objs.size f cdv)).guards = some [] → Room k (A.deeper (envOfC qual (defScope st) s.heap.objs.size f cdv)) → sp vs H Q E →
      ∃ t, PSs (cxOf CX0 P w K mg base N qual (defScope st) f cdv A ou s H E).nox (defBody st) t ∧ t { nx := fun _ H' => Q .non H', rt := Q } (start N vs) H) : FnG P w K mg base CX0 (k + 1) f fd ps sp := by
  obtain ⟨oc, od, kV, doc, pm, an, cdv, ct, osl, rfl, lk, hcd⟩ := F.ex
  refine ⟨len, fun A ou s H ar us vs Q E hg hr e0 hb rv hsp => ?_⟩
  have KX : K.In s.heap := e0.mod.kin.keeps fun b o z => (e0.bs b o z).1
  refine Att.call_fn KX (e0.mod.nolimit.keeps fun b o z => (e0.bs b o z).1) lk hcd hr.depth hb ?_ (fun s1 x1 => ?_) S.co S.gen S.kind
  · rw [List.all_eq_true]
    rintro ⟨n, v⟩ hy
    rcases S.par n (List.of_mem_zip hy).1 with q | q <;> simp [q]
  · obtain ⟨t, ht, hq⟩ := hbody cdv A ou s H vs Q E hg (hr.deeper _) hsp
    have I := inv_start (CX := CX0) (E := E) S hr.hd e0 (len _ _ _ _ hsp) rv x1
    refine wpAny_mono (ht.nox.run [] s1 (start N vs) H _ I hq) (fun fl s2 z => ?_) fun _ _ z => z
    cases fl with
    | ret u => exact let ⟨v, _, H2, J, r2, q2⟩ := z; ⟨v, H2, J.os, J.bare, J.base, J.hok, r2, q2⟩
    | next => exact let ⟨_, H2, J, q2⟩ := z; ⟨.non, H2, J.os, J.bare, J.base, J.hok, rfl, q2⟩
    | brk => exact (let ⟨_, _, _, q2⟩ := z; q2 : False).elim
    | cont => exact (let ⟨_, _, _, q2⟩ := z; q2 : False).elim
end
structure CalG (P : Program) (w : World) (K : PySem.W.Frag) (mg : Str → Option Value) (base : Heap) (CX : CXT) (k : Nat) (x : Str) (sp : Sp) : Prop where
  ex : ∃ (f : Addr) (fd : FuncData) (ps : List Str), mg x = some (.ref f) ∧ PySem.W.keepIn K (.ref f) = true ∧ FnG P w K mg base CX k f fd ps sp ∧ Binds K fd ps []
section
variable {X : Cx} {k j : Nat} {sp : Sp} {x : Str} {p pos : Pos} {e : Expr} {es : List Expr} {t : TA}
end
/-! ### the head -/
section
variable {P : Program} {w : World} {K : PySem.W.Frag} {mg mb : Str → Option Value} {s : Shared} {a : Addr} {vs : List Value} {ns : List Int} {H : Hp}
theorem lawG_core {k : Nat} {fa : Addr} {fd : FuncData} {x : Str} {sp : Sp} (KX : K.In s.heap) (hns : s.heap.Ns mainGlobals mg) (hb : s.heap.Ns builtinsNs mb) (hbb : ∀ x : Str, x ≠ "__name__" → mb x = bootBuiltins x) (hlim : s.heap.NoLimit) (hg : s.gens = #[])
    (ha : s.heap.get? a = some { cls := .type "list", data := .seq vs.toArray }) (hr : Room k callerA)
    (F : ∀ base : Heap, K.In base → base.Ns mainGlobals mg → FnG P w K mg base CX0 k fa fd [x] sp) (hbind : ∀ (s : Shared) (u : Value), BindsTo s fd ⟨[u], []⟩ [(x, u)])
    (hO : Only H) (hq : sp [.ref a] H (fun v _ => v = .bl true) fun _ _ _ => False) (ok : HOk P w H s.heap) (hA : ∀ b, H b ≠ none → b = a ∧ K.lookup a = none) :
    codeAny (model P w) callerA (.call (.ref fa) ⟨[.ref a], []⟩) (fun r s' => r = .ok (.ret (.bool true)) ∧ OldK s.heap s'.heap ∧ s'.os = s.os ∧ AllBare s'.gens) s := by
  have un : ∀ {b : Addr} {o : Obj}, s.heap.get? b = some o → (b = a → K.lookup a ≠ none ∨ ∃ es ep, o.data = .dict es ep) → (hidT s.heap H).get? b = some o := fun {b o} e n => hidT_get e (by
    apply Classical.byContradiction
    intro z
    obtain ⟨rfl, kn⟩ := hA b z
    rcases n rfl with q | ⟨es, ep, q⟩
    · exact q kn
    · rw [ha] at e
      cases e
      exact nomatch q)
  have nsK : ∀ {b : Addr} {m : Str → Option Value}, s.heap.Ns b m → (hidT s.heap H).Ns b m := fun ⟨o, es, ep, e, d, r⟩ => ⟨o, es, ep, un e fun _ => .inr ⟨es, ep, d⟩, d, r⟩
  have hKb : K.In (hidT s.heap H) := fun b o e => un (KX b o e) fun z => .inl (by rw [← z, e]; exact Option.some_ne_none o)
  have e0 : Env0 P w K mg (hidT s.heap H) callerA [] s H := ⟨rfl, ⟨hKb, nsK hns, ⟨mb, nsK hb, hbb⟩, hlim.elim fun mc z => ⟨mc, nsK z.1, z.2⟩⟩, fun b o z => of_hidT z, Nat.le_of_eq (hidT_size _ _), trivial, fun _ z => absurd z List.not_mem_nil, ok, .of_eq hg⟩
  refine codeAny_mono ((F _ hKb (nsK hns)).go callerA [] s H ⟨[.ref a], []⟩ [.ref a] [.ref a] _ _ rfl hr e0 (hbind s (.ref a)) (.cons rfl .nil) hq) fun r s' h => ?_
  match r, h with
  | .ok (.ret u), h =>
    obtain ⟨v, H2, os, bare, un2, ok2, rv, q2⟩ := h
    obtain rfl : v = .bl true := q2
    obtain rfl : u = Value.bool true := rv
    refine ⟨rfl, OldK.of_keep fun b o e => ?_, os, bare⟩
    rcases hO b with z | ⟨ob, xs, z⟩
    · exact un2.keep b o e z List.not_mem_nil List.not_mem_nil
    · have o1 := (ok b _ z).1
      have o2 := (ok2 b _ (un2.frzs b ob _ z)).1
      rw [e] at o1
      rw [o1]
      exact o2
theorem lawG {k : Nat} {fa : Addr} {fd : FuncData} {x : Str} {sp : Sp} (KX : K.In s.heap) (hns : s.heap.Ns mainGlobals mg) (hb : s.heap.Ns builtinsNs mb) (hbb : ∀ x : Str, x ≠ "__name__" → mb x = bootBuiltins x) (hlim : s.heap.NoLimit) (hg : s.gens = #[])
    (ha : s.heap.get? a = some { cls := .type "list", data := .seq vs.toArray }) (hi : IntsAre vs ns) (hl : ns.length ≤ sizeLine) (hr : Room k callerA)
    (F : ∀ base : Heap, K.In base → base.Ns mainGlobals mg → FnG P w K mg base CX0 k fa fd [x] sp) (hbind : ∀ (s : Shared) (u : Value), BindsTo s fd ⟨[u], []⟩ [(x, u)])
    (hsp : ∀ H : Hp, Only H → SqL K H a (ns.map V.int) → sp [.ref a] H (fun v _ => v = .bl true) fun _ _ _ => False) :
    codeAny (model P w) callerA (.call (.ref fa) ⟨[.ref a], []⟩) (fun r s' => r = .ok (.ret (.bool true)) ∧ OldK s.heap s'.heap ∧ s'.os = s.os ∧ AllBare s'.gens) s := by
  have rv := vals_ints hi
  cases hk : K.lookup a with
  | some o =>
    have e := KX a o hk
    rw [ha] at e
    cases e
    exact lawG_core KX hns hb hbb hlim hg ha hr F hbind (fun _ => .inl rfl) (hsp (fun _ => none) (fun _ => .inl rfl) (.inr ⟨_, vs.toArray, _, hk, rfl, rfl, rfl, by rw [List.size_toArray, hi.length]; exact hl, rv⟩)) (fun b u z => nomatch z) fun b z => absurd rfl z
  | none =>
    have ke : (fun b => if b = a then some (HO.frz { cls := .type "list", data := .seq vs.toArray } (.lst (ns.map V.int))) else none) a = some (HO.frz { cls := .type "list", data := .seq vs.toArray } (.lst (ns.map V.int))) := if_pos rfl
    have only : ∀ b, (fun b => if b = a then some (HO.frz { cls := .type "list", data := .seq vs.toArray } (.lst (ns.map V.int))) else none) b ≠ none → b = a := fun b z => Classical.byContradiction fun n => z (if_neg n)
    have hO : Only (fun b => if b = a then some (HO.frz { cls := .type "list", data := .seq vs.toArray } (.lst (ns.map V.int))) else none) := fun b => by
      by_cases q : b = a
      · exact .inr ⟨_, _, if_pos q⟩
      · exact .inl (if_neg q)
    refine lawG_core KX hns hb hbb hlim hg ha hr F hbind hO (hsp _ hO (.inl (.inr ⟨_, ke⟩))) (fun b u z => ?_) fun b z => ⟨only b z, hk⟩
    obtain rfl := only b fun y => nomatch z.symm.trans y
    have z2 := ke.symm.trans z
    cases z2
    exact ⟨ha, by rw [List.length_map]; exact hl, vs, _, rv, ha⟩
end
theorem walk_ofG {l : PySem.W.OpenLaw} {n k : Nat} {q : Program} {loose : List Str} {XP : (Str → Option Value) → Heap → Prop} {YP : World → Heap → Prop} {d : DefRec} {K : Params → PySem.W.Frag} {sp : World → Sp} {x : Str}
    (hn : l.most = some n) (hn2 : n ≤ sizeLine) (hdf : d.params.defaults = []) (hr : Room k callerA) (hY : ∀ (w : World) (h : Heap), YP w h → (K w.params).In h)
    (F : ∀ (w : World) (mg : Str → Option Value) (fa : Addr) (h : Heap), (K w.params).In h → h.Ns mainGlobals mg → mg d.name = some (.ref fa) →
      ∃ fd : FuncData, (∀ (s : Shared) (u : Value), BindsTo s fd ⟨[u], []⟩ [(x, u)]) ∧ ∀ base : Heap, (K w.params).In base → base.Ns mainGlobals mg → FnG l.prog w (K w.params) mg base CX0 k fa fd [x] (sp w))
    (hsp : ∀ (w : World) (H : Hp) (a : Addr) (ns : List Int), ns.length ≤ n → Only H → SqL (K w.params) H a (ns.map V.int) → sp w [.ref a] H (fun v _ => v = .bl true) fun _ _ _ => False) :
    PySem.W.WalkO q loose XP YP l.row.toRowW d [] (fun f vs => PySem.call f vs) :=
  Att.attach_call hn hdf fun w s₀ s₁ mg mb fa o pm cd doc a vs ns G Y ho hd hcd hmg hobj hints hlen hg => by
    obtain ⟨fd, hb, hF⟩ := F w mg fa _ (hY w _ Y) G.T.g hmg
    exact lawG (hY w _ Y) G.T.g G.T.b G.T.builtins G.T.nolimit hg hobj hints (Nat.le_trans hlen hn2) hr hF hb fun H hO hS => hsp w H a ns hlen hO hS
/-! ## 10. a thing's text -/
/-- z is how repr tells v -/
def Shw (K : PySem.W.Frag) (H : Hp) (v : V) (z : Str) : Prop := (∃ d, Dp K H v d ∧ d.showable = true ∧ d.shown.length ≤ sizeLine ∧ d.depth ≤ 60 ∧ z = d.shown) ∨ ∃ a, v = .ref a ∧ H a = some (.dK []) ∧ z = "{}"
section
variable {X : Cx} {j : Nat}
end
end Bk

namespace Bk
open PySem PySem.Spec PyProof.Rows L2
/-! ## 11. try: .. except A as e: .. except B as e: .. , what none of them takes does not come -/
abbrev ClA := Value × Nat × (Addr → Value → Option Addr → TS)
def offI (i : Nat) (D : Ends) : Ends := { nx := fun τ G => D.nx (τ.set i none) G, rt := D.rt, bk := fun τ G => D.bk (τ.set i none) G, ct := fun τ G => D.ct (τ.set i none) G }
def wAM (K : PySem.W.Frag) (D : Ends) : List ClA → WX
  | [] => fun _ _ _ _ => False
  | q :: l => fun cls d τ G => ∃ b, PySem.W.exmOne K cls q.1 = some b ∧ (b = true → ∀ a, G a = none → q.2.2 a cls d (offI q.2.1 D) (τ.set q.2.1 (some (.ref a))) G) ∧ (b = false → wAM K D l cls d τ G)
inductive HdA (X : Cx) : List ExceptHandler → List ClA → Prop
  | stop {hds : List ExceptHandler} : HdA X hds []
  | more {x n : Str} {c : Value} {i : Nat} {ts : Addr → Value → Option Addr → TS} {b : Stmt} {bs : List Stmt} {p1 p2 : Pos} {hds : List ExceptHandler} {l : List ClA} (nm : Names X x c) (hi : X.N[i]? = some n) (hn : X.env.kindOf n = some .local)
      (su : ∀ (a : Addr) (oe : Obj) (cls : Value) (d : Option Addr) (pn : List (Addr × Obj)), Zc cls d oe → (∃ vs, oe.data = .fields vs) → PSs (X.suite a ((a, oe) :: pn)) (b :: bs) (ts a cls d)) (r : HdA X hds l) :
      HdA X (.ExceptHandler (some (.Name x p1)) (some n) (b :: bs) p2 :: hds) ((c, i, ts) :: l)
section
variable {X : Cx} {body : List Stmt} {h₀ : ExceptHandler} {hds : List ExceptHandler} {l : List ClA} {pos : Pos} {tb : WX → TS}
end
end Bk

namespace Bk
open PySem PySem.Spec PyProof.Rows L2
/-! ## 12. enumerate of a tuple -/
/-- the tuple's items in new pairs -/
def Itu (K : PySem.W.Frag) (a : Addr) : It :=
  ⟨fun i H => ∃ (xs : List V) (x : V), SqT K H a xs ∧ xs[i]? = some x, fun i H v H' => ∃ T x, v = .ref T ∧ H T = none ∧ H' = upd H T (.tup [.int (i : Nat), x]) ∧ ∀ xs, SqT K H a xs → xs[i]? = some x, fun i H => ∃ xs : List V, SqT K H a xs ∧ xs.length ≤ i⟩
def iEnumA (K : PySem.W.Frag) (ta : TA) : TI := fun σ H R => ta σ H fun vs H1 => ∃ a xs, vs = [.ref a] ∧ ((SqL K H1 a xs ∧ R (Ite K a) H1) ∨ (SqT K H1 a xs ∧ R (Itu K a) H1))
def iSeqA (K : PySem.W.Frag) (te : TE) : TI := fun σ H R => te σ H fun x H1 => ∃ a xs, x = .ref a ∧ ((SqL K H1 a xs ∧ R (Itl K a) H1) ∨ (SqT K H1 a xs ∧ R (Itt K a) H1))
section
variable {X : Cx} {e tg : Expr} {ta : TA} {te : TE} {p pos tpos : Pos} {elts : List Expr} {kk : Nat}
theorem pi_seqA (he : PE X e te) : PI X tg e (iSeqA X.K te) := by
  refine ⟨fun pins s σ H R I h => thn (he.run pins s σ H _ I h) fun v s1 ⟨x, H1, I1, r1, q1⟩ => ?_⟩
  obtain ⟨a, xs, rfl, q⟩ := q1
  obtain rfl : v = Value.ref a := r1
  have near : ∀ {b : Addr}, b ∈ [s1.heap.objs.size] → FpOk X pins H1 b := fun {b} hb => by
    rw [List.mem_singleton.mp hb]
    exact I1.fpOk (Nat.le_refl _) (I1.hok.fresh (Nat.le_refl _))
  have J : ∀ {o : Obj}, Inv X pins σ H1 { s1 with heap := s1.heap.push o } := fun {o} => I1.kept (t' := s1.toks) fun b u z => Heap.get?_push_of_some _ z
  rcases q with ⟨hq, q⟩ | ⟨hq, q⟩
  · obtain ⟨its, rv, p', hz⟩ := I1.list hq
    exact wpAny_pyIter_list p'.isList ⟨s1.heap.objs.size, [s1.heap.objs.size], _, _, H1, rfl, J, turn_list a _, ⟨_, Heap.get?_push_size _ rfl, rfl, rfl⟩, fun b hb => near hb, q⟩
  · obtain ⟨its, rv, p', hz⟩ := I1.tuple hq
    exact wpAny_pyIter_tuple (show s1.heap.IsTuple a its.toArray from p') ⟨s1.heap.objs.size, [s1.heap.objs.size], _, _, H1, rfl, J, turn_tuple a _, ⟨_, Heap.get?_push_size _ rfl, rfl, rfl⟩, fun b hb => near hb, q⟩
end
section
variable {K : PySem.W.Frag} {a : Addr} {xs : List V}
end
end Bk

namespace Bk
open PySem PySem.Spec PyProof.Rows L2
/-! ## 13. defs that refuse -/
/-- what a refusal is: a new own exception of the class at C, v its only field -/
def Refuse (C : Addr) (v : V) (H : Hp) (E : XK) : Prop := ∀ d H', H d = none → Same H H' → H' d = some (.xd [("found", v)]) → E (.ref C) (some d) H'
def noE : XK := fun _ _ _ => False
structure CalX (P : Program) (w : World) (K : PySem.W.Frag) (mg : Str → Option Value) (base : Heap) (k : Nat) (x : Str) (sp : Sp) : Prop where
  ex : ∃ (f : Addr) (fd : FuncData) (ps : List Str), mg x = some (.ref f) ∧ PySem.W.keepIn K (.ref f) = true ∧ FnOk P w K mg base (L2.CX P w) k f fd ps sp ∧ Binds K fd ps []
theorem CalX.mk' {P : Program} {w : World} {K : PySem.W.Frag} {mg : Str → Option Value} {base : Heap} {k : Nat} {x : Str} {sp : Sp} {f : Addr} {fd : FuncData} {ps : List Str} (g : mg x = some (.ref f)) (kp : PySem.W.keepIn K (.ref f) = true) (F : FnOk P w K mg base (L2.CX P w) k f fd ps sp) (b : Binds K fd ps []) :
    CalX P w K mg base k x sp := ⟨f, fd, ps, g, kp, F, b⟩
/-- with keywords alone -/
structure CalNX (P : Program) (w : World) (K : PySem.W.Frag) (mg : Str → Option Value) (base : Heap) (k : Nat) (ks : List Str) (x : Str) (sp : Sp) (gV : List V → List V → List V) : Prop where
  ex : ∃ (f : Addr) (fd : FuncData) (ps : List Str) (g : List Value → List Value → List Value), mg x = some (.ref f) ∧ PySem.W.keepIn K (.ref f) = true ∧ FnOk P w K mg base (L2.CX P w) k f fd ps sp ∧ KBn K fd ps 0 ks g gV
section
variable {X : Cx} {k j : Nat} {ks : List Str} {sp : Sp} {x : Str} {p pos : Pos} {e : Expr} {es : List Expr} {kws : List Keyword} {t tk : TA} {W : WX} {gV : List V → List V → List V}
/-- in a def that may let it out itself -/
theorem pe_calX {E : XK} (c : CalX X.prog X.w X.K X.mg X.base k x sp) (hr : Room j X.A) (hk : k ≤ j) (hg : Gl X x) (tk : Takes X (fun cls d _ H => E cls d H)) (ha : PA X (e :: es) t)
    (hdb : (x == ("__debug__" : Str)) = false := by decide) (he : starEach (e :: es) X.env = (false, eval e X.env) :: starEach es X.env := by rfl) (hpl : (backTo pos (starEach es X.env)).any (·.1) = false := by rfl) :
    PE X (.Call (.Name x p) (e :: es) [] pos) (tCall sp [] E t) := by
  obtain ⟨f, fd, ps, h1, h2, h3, h4⟩ := c.ex
  exact pe_call h3 (hr.mono hk) hg h1 h2 h4 .nil (passes_call tk fun _ _ _ _ h => h) ha hdb he hpl
theorem pass_no : Passes (L2.CX X.prog X.w) X noE := fun _ _ _ _ _ _ _ z => by
  obtain ⟨_, _, _, _, _, _, _, _, _, _, _, _, q⟩ := z
  exact q.elim
end
section
variable {K : PySem.W.Frag} {σ : L2.St} {H : Hp} {Q : VK} {D : Ends} {l : List ClA} {q : ClA} {cls : Value} {d : Option Addr}
/-- raise C(v), C's own __init__ being this -/
def spInit (C : Addr) : Sp := fun vs H Q _ => ∃ (a : Addr) (x : V), vs = [.ref a, x] ∧ H a = some (exo a C none) ∧ ∀ dx, H dx = none → dx ≠ a → Q .non (upd (upd H dx (exd dx [("found", x)])) a (exo a C (some dx)))
end
/-! ## 14. isinstance of several classes -/
def rIs2 (K : PySem.W.Frag) : List V → Hp → VK → Prop := fun xs H Q => rIsi K xs H Q ∨ rIsiT K xs H Q
theorem call_is2 {X : Cx} : CallR X (.builtin "isinstance") (rIs2 X.K) := CallR.or call_isi call_isiT
def IsB (K : PySem.W.Frag) (H : Hp) (x : V) (T U : String) (b : Bool) : Prop := ∃ t, TyX K H x t ∧ PySem.W.kitAny K t [.type T, .type U] = some b
theorem kit2 {K : PySem.W.Frag} {t : Value} {T U : String} {a b : Bool} (h : PySem.W.kitOne K t (.type T) = some a) (h2 : PySem.W.kitOne K t (.type U) = some b) : PySem.W.kitAny K t [.type T, .type U] = some (a || b) := by
  cases a with
  | true => exact kitAny_cons h (fun z => nomatch z) (fun _ => rfl)
  | false => exact kitAny_cons h (fun _ => by cases b with
      | true => exact kitAny_cons h2 (fun z => nomatch z) (fun _ => rfl)
      | false => exact kitAny_cons h2 (fun _ => kitAny_nil) (fun z => nomatch z)) (fun z => nomatch z)
section
variable {K : PySem.W.Frag} {H H' : Hp} {x : V} {T U : String} {b c : Bool} {Q : VK} {tp : Addr}
theorem r_is2 (h : IsB K H x T U b) (e : H tp = some (.tup [.ty T, .ty U])) (q : Q (.bl b) H) : rIs2 K [x, .ref tp] H Q := by
  obtain ⟨t, h1, h2⟩ := h
  exact .inr ⟨x, tp, [.ty T, .ty U], t, [.type T, .type U], b, rfl, e, .cons (.ty T) (.cons (.ty U) .nil), h1, h2, q⟩
end
/-! ## 15. a comprehension, by what each turn gives -/
section
variable {J : It} {n : Nat} {G : Hp → Prop} {Y : Nat → Hp → V → Hp → Prop} {g : TG} {tt : TT} {te : TE} {vs : List Nat} {σ : L2.St} {H : Hp} {D : Addr} {Q : VK}
theorem lc_by (w : Walk J n G Y) (p : Nat → Option V) (hD : H D = none) (hn : n ≤ 10000) (hG : ∀ H', Same H H' → G H')
    (hs : ∀ i x H1 H2 (Q' : VK) (R' : Hp → Prop), i < n → Same H H1 → Y i H1 x H2 → (∀ v, p i = some v → ∀ H3, Same H1 H3 → Q' v H3) → (p i = none → ∀ H3, Same H1 H3 → R' H3) →
      g x (wipe σ vs) H2 fun τ H3 => wipe τ vs = wipe σ vs ∧ tt τ H3 fun b H4 => if b = true then te τ H4 Q' else R' H4)
    (q : ∀ H', Same H H' → H' D = some (.lst ((List.range n).filterMap p)) → Q (.ref D) H') :
    ∃ W : Nat → Nat → Hp → Prop, (∃ m, W 0 m (upd H D (.lst []))) ∧ ∀ i m H, W i m H →
      (J.stop i H ∧ Q (.ref D) H) ∨ (J.go i H ∧ ∃ Nx : Hp → Prop, (∀ H', Nx H' → ∃ m', m' < m ∧ W (i + 1) m' H') ∧ ∀ x H', J.yld i H x H' → g x (wipe σ vs) H' fun σ2 H2 => wipe σ2 vs = wipe σ vs ∧ tt σ2 H2 fun b H3 =>
        if b = true then te σ2 H3 fun y H4 => ∃ acc, H4 D = some (.lst acc) ∧ acc.length < sizeLine ∧ Nx (upd H4 D (.lst (acc ++ [y]))) else Nx H3) := by
  refine lc_it w (fun i G => Same H G ∧ G D = some (.lst ((List.range i).filterMap p))) ⟨same_upd hD, by rw [upd_same]; rfl⟩ (fun i G _ z => hG G z.1) (fun i x H1 H2 hi ⟨sm, e⟩ y => ?_) fun G z => q G z.1 z.2
  refine hs i x H1 H2 _ _ hi sm y (fun v hv H3 s3 => ⟨_, s3 _ _ e, ?_, sameBut (sm.trans s3) hD, ?_⟩) fun hv H3 s3 => ⟨sm.trans s3, ?_⟩
  · have l := List.length_filterMap_le p (List.range i)
    rw [List.length_range] at l
    exact Nat.lt_of_le_of_lt (Nat.le_trans l (Nat.le_trans (Nat.le_of_lt hi) hn)) (by decide)
  · rw [upd_same, List.range_succ, List.filterMap_append]
    simp only [List.filterMap_cons, List.filterMap_nil, hv]
  · rw [s3 _ _ e, List.range_succ, List.filterMap_append]
    simp only [List.filterMap_cons, List.filterMap_nil, hv, List.append_nil]
end
end Bk

namespace Bk
open PySem PySem.Spec PyProof.Rows L2
/-! ## 8. binding with keywords -/
section
variable {K : PySem.W.Frag} {x qual : Str} {params : Arguments} {body : List Stmt} {scope : Scope} {kws : List (Str × V)} {f : Addr} {fd : FuncData} {ps : List Str}
end
/-! ### within a comprehension: K by name -/
end Bk

namespace Bk
open PySem PySem.Spec PyProof.Rows L2
/-! ## 16. things whose text is short -/
mutual
def smallD : PyData → Bool
  | .none | .bool _ => true
  | .int i => decide (i.natAbs < 10 ^ 38)
  | .str x => x.cps.toList.all fun c => decide (c < 16 ^ 8)
  | .list xs | .tuple xs => smallL xs
  | .dict _ => false
def smallL : List PyData → Bool
  | [] => true
  | x :: xs => smallD x && smallL xs
end
section
variable {K : PySem.W.Frag} {H H' : Hp} {v : V} {a : Addr} {xs : List V}
/-- a thing within a list -/
def Itm (K : PySem.W.Frag) (H : Hp) (v : V) : Prop := ∃ d, Dp K H v d ∧ smallD d = true ∧ d.bulk ≤ 100 ∧ d.depth ≤ 20
/-! scalars -/
def datS : V → PyData
  | .bl b => .bool b
  | .int i => .int i
  | .str z => .str z
  | _ => .none
def smS : V → Bool
  | .non | .bl _ => true
  | .int i => decide (i.natAbs < 10 ^ 38)
  | .str z => decide (z.length ≤ 90) && z.cps.toList.all fun c => decide (c < 16 ^ 8)
  | _ => false
end
end Bk

namespace Bk
open PySem PySem.Spec PyProof.Rows L2
/-! ## 18. what k03 left for all -/
theorem seqT {K : PySem.W.Frag} {H H' : Hp} {a : Addr} {xs : List V} (s : Same H H') (h : SqT K H a xs) : SqT K H' a xs := by
  rcases h with (h | ⟨o, h⟩) | h
  · exact .inl (.inl (s _ _ h))
  · exact .inl (.inr ⟨o, s _ _ h⟩)
  · exact .inr h
section
variable {K : PySem.W.Frag} {H : Hp} {a : Addr} {T U : String} {b c : Bool}
theorem isb_lst {xs : List V} (e : H a = some (.lst xs)) (h : kitB "list" T = some b := by decide +kernel) (h2 : kitB "list" U = some c := by decide +kernel) : IsB K H (.ref a) T U (b || c) := ⟨.type "list", .base (.lst e), kit2 (kit_ty h) (kit_ty h2)⟩
theorem isb_tup {xs : List V} (e : H a = some (.tup xs)) (h : kitB "tuple" T = some b := by decide +kernel) (h2 : kitB "tuple" U = some c := by decide +kernel) : IsB K H (.ref a) T U (b || c) := ⟨.type "tuple", .base (.tup e), kit2 (kit_ty h) (kit_ty h2)⟩
end
theorem r_yes {σ : L2.St} {H : Hp} {te : TE} {Q : VK} {R : Hp → Prop} (q : te σ H Q) : tYes σ H (fun b H4 => if b = true then te σ H4 Q else R H4) := by
  show if true = true then te σ H Q else R H
  exact iteT q
section
variable {K : PySem.W.Frag} {σ : L2.St} {H : Hp} {Q : VK} {i0 j j1 j2 : Nat} {vs : List Nat} {a : Addr} {xs : List V} {te : TE} {tt : TT}
end
/-! ## 17. comprehensions over a list, a tuple, a range -/
section
variable {K : PySem.W.Frag} {σ : L2.St} {H : Hp} {Q : VK} {i0 j : Nat} {vs : List Nat} {a : Addr} {xs : List V} {te : TE}
theorem lc_map {J : It} {n : Nat} {G : Hp → Prop} {Y : Nat → Hp → V → Hp → Prop} {D : Addr} (wk : Walk J n G Y) (hY : ∀ i H1 x H2, i < n → Y i H1 x H2 → H2 = H1) (p : Nat → V) (hl : n ≤ 10000) (hG : ∀ H', Same H H' → G H') (hw : ∀ x, wipe ((wipe σ vs).set j (some x)) vs = wipe σ vs)
    (ht : ∀ (i : Nat) (y : V) (H1 H' : Hp) (Q' : VK), i < n → Y i H1 y H' → Same H H' → (∀ H2, Same H' H2 → Q' (p i) H2) → te ((wipe σ vs).set j (some y)) H' Q')
    (q : ∀ D H', H D = none → Same H H' → H' D = some (.lst ((List.range n).map p)) → Q (.ref D) H') (hD : H D = none) : ∃ W : Nat → Nat → Hp → Prop, (∃ m, W 0 m (upd H D (.lst []))) ∧ ∀ i m H, W i m H →
      (J.stop i H ∧ Q (.ref D) H) ∨ (J.go i H ∧ ∃ Nx : Hp → Prop, (∀ H', Nx H' → ∃ m', m' < m ∧ W (i + 1) m' H') ∧ ∀ x H', J.yld i H x H' → gName j x (wipe σ vs) H' fun σ2 H2 => wipe σ2 vs = wipe σ vs ∧ tYes σ2 H2 fun b H3 =>
        if b = true then te σ2 H3 fun y H4 => ∃ acc, H4 D = some (.lst acc) ∧ acc.length < sizeLine ∧ Nx (upd H4 D (.lst (acc ++ [y]))) else Nx H3) :=
  lc_by (g := gName j) (tt := tYes) (te := te) (vs := vs) (σ := σ) (Q := Q) wk (fun i => some (p i)) hD hl hG (fun i y H1 H2 Q' R' hi sm e h1 _ => ⟨hw _, by
    obtain rfl := hY i _ _ _ hi e
    exact r_yes (ht i y H2 H2 Q' hi e sm (h1 _ rfl))⟩) fun H' sm e => q D H' hD sm (by
      rw [e]
      show some (HO.lst (List.filterMap (some ∘ p) _)) = _
      rw [List.filterMap_eq_map])
theorem lcT (p : Nat → V) (hv : σ[i0]? = some (some (.ref a))) (hs : SqT K H a xs) (hl : xs.length ≤ 10000) (hw : ∀ x, wipe ((wipe σ vs).set j (some x)) vs = wipe σ vs)
    (ht : ∀ (i : Nat) (y : V) (H' : Hp) (Q' : VK), xs[i]? = some y → Same H H' → (∀ H2, Same H' H2 → Q' (p i) H2) → te ((wipe σ vs).set j (some y)) H' Q')
    (q : ∀ D H', H D = none → Same H H' → H' D = some (.lst ((List.range xs.length).map p)) → Q (.ref D) H') : tLc (iTup K (tVar i0)) (gName j) tYes te vs σ H Q :=
  ⟨_, hv, a, rfl, ⟨xs, hs⟩, fun D hD => lc_map (j := j) walk_tup (fun _ _ _ _ _ z => z.1) p hl (fun H' sm => seqT sm hs) hw (fun i y H1 H' Q' _ e sm k => ht i y H' Q' e.2 sm k) q hD⟩
end
section
variable {K : PySem.W.Frag} {H : Hp} {x y : V} {Q : VK}
theorem r_neSame {d : PyData} (h1 : Dp K H x d) (h2 : Dp K H y d) (s : SeqAt.shaped d = true) (q : Q (.bl false) H) : rNeD K x y H Q :=
  ⟨d, d, h1, h2, s, s, by rw [SeqAt.eqv_refl d (SeqAt.canLay_of_shaped s)]; exact q⟩
end
theorem box_upd {bx a : Addr} {n : Nat} {H : Hp} {o : HO} (h : Box bx n H) (ne : a ≠ bx) : Box bx n (upd H a o) := by
  obtain ⟨x, y, z, e, r⟩ := h
  exact ⟨x, y, z, by rw [upd_ne ne.symm]; exact e, r⟩
theorem cut_to {xs : List V} {m : Nat} (h : m ≤ xs.length) : cutV xs none (some (m : Int)) = xs.take m := by
  unfold cutV
  rw [HT.sIx_none, HT.sIx_nat, Nat.min_eq_left h, List.drop_zero, Nat.sub_zero]
theorem cut_from {xs : List V} {m : Nat} (h : m ≤ xs.length) : cutV xs (some (m : Int)) none = xs.drop m := by
  unfold cutV
  rw [HT.sIx_none, HT.sIx_nat, Nat.min_eq_left h]
  exact List.take_of_length_le (by rw [List.length_drop]; exact Nat.le_refl _)
section
variable {H : Hp} {Q : VK} {a b : Addr} {xs ys : List V} {lo hi : Option Int}
theorem r_slL {K : PySem.W.Frag} (h : SqL K H a xs) (e : cutV xs lo hi = ys) (q : ∀ p H', H p = none → Same H H' → H' p = some (.lst ys) → Q (.ref p) H') : rSlL K (.ref a) lo hi H Q :=
  ⟨a, xs, rfl, h, fun p n => q p _ n (same_upd n) (by rw [upd_same, e])⟩
end
theorem r_par {i j : Nat} {ta : TA} {D : Ends} {σ : L2.St} {H : Hp} (q : ta σ H fun vs H1 => ∃ v w, vs = [v, w] ∧ D.nx ((σ.set i (some v)).set j (some w)) H1) : tPar i j ta D σ H := q
structure Exc (K : PySem.W.Frag) (C f : Addr) : Prop where
  ox : OexC K C
  i : PySem.W.findIn K (.ref C) "__init__" = some (some (.ref f))
  t : PySem.W.typeIn K (.ref f) = some (.type "function")
  nf : PySem.W.findIn K (.ref C) "found" = some none
  xf : XfC K C
def spGE (K : PySem.W.Frag) : Sp := fun vs H Q _ => ∃ (a C : Addr) (x : V), vs = [.ref a, x] ∧ OexC K C ∧ H a = some (exo a C none) ∧ Q .non H
def wholeV (x : V) (lo hi : Int) : Bool := match x with
  | .int i => decide (lo ≤ i) && decide (i ≤ hi)
  | _ => false
/-- a thing of which isinstance(.., int) is known -/
def WD (K : PySem.W.Frag) (H : Hp) (x : V) : Prop := (∃ i, x = .int i) ∨ (∃ b, x = .bl b) ∨ (IsA K H x "int" false ∧ ∀ l h, wholeV x l h = false)
def spWhole (K : PySem.W.Frag) : Sp := fun vs H Q _ => ∃ (x : V) (lo hi : Int), vs = [x, .int lo, .int hi] ∧ WD K H x ∧ Q (.bl (wholeV x lo hi)) H
def wd (x : V) : Bool := wholeV x 0 4095
def spIsWord (K : PySem.W.Frag) : Sp := fun vs H Q _ => ∃ x : V, vs = [x] ∧ WD K H x ∧ Q (.bl (wd x)) H
def spCheck (K : PySem.W.Frag) (CW : Addr) : Sp := fun vs H Q E => ∃ x : V, vs = [x] ∧ WD K H x ∧ ((wd x = true ∧ Q .non H) ∨ (wd x = false ∧ Refuse CW x H E))
end Bk

namespace Bk
open PySem PySem.Spec PyProof.Rows L2
/-! ## 19. a text is no dict -/
def rEqSD : R2 := fun x y H Q => ∃ (z : Str) (a : Addr) (kvs : List (Key × V)), x = .str z ∧ y = .ref a ∧ H a = some (.dK kvs) ∧ Q (.bl false) H
section
variable {X : Cx}
/-- a text beside any thing -/
def rEqS (K : PySem.W.Frag) : R2 := fun x y H Q => (rEq x y H Q ∨ rEqD K x y H Q) ∨ rEqSD x y H Q
end
/-! ## 20. refusing defs called with keywords beside values, or with defaults -/
structure CalMX (P : Program) (w : World) (K : PySem.W.Frag) (mg : Str → Option Value) (base : Heap) (k n : Nat) (ks : List Str) (x : Str) (sp : Sp) (gV : List V → List V → List V) : Prop where
  ex : ∃ (f : Addr) (fd : FuncData) (ps : List Str) (g : List Value → List Value → List Value), mg x = some (.ref f) ∧ PySem.W.keepIn K (.ref f) = true ∧ FnOk P w K mg base (L2.CX P w) k f fd ps sp ∧ KBn K fd ps n ks g gV
theorem CalMX.mk' {P : Program} {w : World} {K : PySem.W.Frag} {mg : Str → Option Value} {base : Heap} {k n : Nat} {ks : List Str} {x : Str} {sp : Sp} {gV : List V → List V → List V} {f : Addr} {fd : FuncData} {ps : List Str} {g : List Value → List Value → List Value} (a : mg x = some (.ref f)) (kp : PySem.W.keepIn K (.ref f) = true)
    (F : FnOk P w K mg base (L2.CX P w) k f fd ps sp) (b : KBn K fd ps n ks g gV) : CalMX P w K mg base k n ks x sp gV := ⟨f, fd, ps, g, a, kp, F, b⟩
structure CalXD (P : Program) (w : World) (K : PySem.W.Frag) (mg : Str → Option Value) (base : Heap) (k : Nat) (x : Str) (sp : Sp) (dvs : List V) : Prop where
  ex : ∃ (f : Addr) (fd : FuncData) (ps : List Str) (ds : List Value), mg x = some (.ref f) ∧ PySem.W.keepIn K (.ref f) = true ∧ FnOk P w K mg base (L2.CX P w) k f fd ps sp ∧ Binds K fd ps ds ∧ Vals dvs ds
def tCallNS (n m : Nat) (sp : Sp) (gV : List V → List V → List V) (E : L2.St → XK) (t tk : TA) : TE := fun σ H Q => t σ H fun vs H1 => tk σ H1 fun zs H2 => vs.length = n ∧ zs.length = m ∧ sp (gV vs zs) H2 Q (E σ)
section
variable {X : Cx} {k j n : Nat} {ks : List Str} {sp : Sp} {x : Str} {p pos : Pos} {e : Expr} {es : List Expr} {kws : List Keyword} {t tk : TA} {W : WX} {gV : List V → List V → List V} {dvs : List V}
theorem pe_calMY (c : CalMX X.prog X.w X.K X.mg X.base k n ks x sp gV) (hr : Room j X.A) (hk : k ≤ j) (hg : Gl X x) (ha : PA X (e :: es) t) (hkw : PK X kws tk)
    (hall : (backToKw pos (keywordEach kws X.env)).all (·.1.isSome) = true := by rfl) (hks : (backToKw pos (keywordEach kws X.env)).filterMap (·.1) = ks := by rfl)
    (hdb : (x == ("__debug__" : Str)) = false := by decide) (he : starEach (e :: es) X.env = (false, eval e X.env) :: starEach es X.env := by rfl)
    (hpl : ((backTo pos (starEach (e :: es) X.env)).any (·.1) || (backToKw pos (keywordEach kws X.env)).any (·.1.isNone)) = false := by rfl) :
    PE X (.Call (.Name x p) (e :: es) kws pos) (tCallN n ks.length sp gV noE t tk) := by
  obtain ⟨f, fd, ps, g, h1, h2, h3, h4⟩ := c.ex
  exact pe_callN h3 (hr.mono hk) hg h1 h2 h4 pass_no ha hkw hall hks hdb he hpl
end
theorem ix_listK {X : Cx} {K : PySem.W.Frag} (h : X.K = K) : IxR X (rIxL K) := by
  subst h
  exact ix_list
theorem ix_tupK {X : Cx} {K : PySem.W.Frag} (h : X.K = K) : IxR X (rIxT K) := by
  subst h
  exact ix_tup
end Bk

namespace Bk
open PySem PySem.Spec PySem.Calls PyProof.Rows L2
/-! ## 20a. own exception classes under ValueError, LookupError or KeyError -/
/-- what a built-in __init__ of errors must be -/
structure IniF (B initId : String) : Prop where
  init : Slot B "__init__" initId
  entry : entryFor table initId = some Builtin.«BaseException.__init__»
  split : splitId initId = some (B, "__init__")
  kind : builtinKind initId = some .slot
  row : Manifest.signature? initId = some ⟨.positional, "*", B, .self, [⟨"args", .varPos, false⟩]⟩
  noStar : (B != "*") = true
theorem inf_of {B newId initId : String} (F : ExcCallFacts B newId initId) : IniF B initId := ⟨F.init, F.initEntry, F.initSplit, F.initKind, F.initRow, F.noStar⟩
theorem inf_KE : IniF "KeyError" "KeyError.__init__" where
  init := .of (owner := "KeyError") (n := "__init__") (by rw [typeLookup_type, builtinLookup_eq_fast]; kernel_rfl) (by decide +kernel) (by decide +kernel) (by decide +kernel)
    (by first | exact .inl (by decide +kernel) | exact .inr (by decide +kernel)) (by rw [isSubtype_type]; kernel_rfl)
  entry := entryFor_alias (id' := "BaseException.__init__") (by rw [fastTable_eq_tree]; kernel_rfl) (by first | rfl | decide +kernel) (by decide +kernel) (by rw [fastTable_eq_tree]; kernel_rfl)
  split := by kernel_rfl
  kind := by kernel_rfl
  row := by kernel_rfl
  noStar := by decide +kernel
section
variable {M : Model} {prog : Program} {w : World} {A : Around} {E : Value → Shared → Prop} {R : Result → Shared → Prop} {h : Heap} {g : Array GenState} {d : Drawn} {t : Nat} {os : OsState}
variable {nm q : Str} {C N : Addr} {bs bm bmB : List Value} {hdct : Bool} {sn : List Str} {sub : List Value} {ab : Bool} {col : Option Bool} {dd : Option Addr} {k0 k1 k2 k3 k5 : Option Value} {B newId i0 IB initId : String} {rest : List Value}
theorem checkNewW (F : ExcBaseFacts B newId i0 bmB) (hB : bm.contains (.type B) = true) {Q : Unit → Shared → Prop} (hC : h.get? C = some (excClassObj nm q C N bs bm hdct sn sub ab col dd k0 k1 k2 k3 k5 newId)) (hq : Q () ⟨h, g, d, t, os⟩) :
    wpAny M A (checkBuiltinCall newId ⟨.ref C :: rest, []⟩) Q E ⟨h, g, d, t, os⟩ := by
  have cB : (Value.ref C :: bm).contains (.type B) = true := by rw [List.contains_cons, hB, Bool.or_true]
  have star := F.noStar
  simp only [checkBuiltinCall, F.newKind, F.newSplit, F.newRow]
  repeat (first | refine wpAny_loadPart_at hC ?_ | (refine wpAny_isSubtype_exc hC ?_; rw [cB]) | refine wpAny_staticBase_exc hC ?_ | refine wpAny_madeBy_exc hC ?_ | simp only [bne_self_eq_false, Bool.false_eq_true, if_false] | wp_step)
  exact hq
theorem checkInitW (F : IniF IB initId) (hI : bm.contains (.type IB) = true) {e : Addr} {oe : Obj} {Q : Unit → Shared → Prop} (hC : h.get? C = some (excClassObj nm q C N bs bm hdct sn sub ab col dd k0 k1 k2 k3 k5 newId)) (he : h.get? e = some oe) (hcls : oe.cls = .ref C) (hq : Q () ⟨h, g, d, t, os⟩) :
    wpAny M A (checkBuiltinCall initId ⟨.ref e :: rest, []⟩) Q E ⟨h, g, d, t, os⟩ := by
  have cI : (Value.ref C :: bm).contains (.type IB) = true := by rw [List.contains_cons, hI, Bool.or_true]
  have star := F.noStar
  simp only [checkBuiltinCall, F.kind, F.split, F.row]
  repeat (first | (with_reducible refine wpAny_loadPart_at he ?_; rw [hcls]) | with_reducible refine wpAny_loadPart_at hC ?_ | (with_reducible refine wpAny_isSubtype_exc hC ?_; rw [cI]) | wp_step)
  refine wpAny_onRaise ?_
  rw [show ∀ (a b : String) (n : Nat), Bind.check ⟨.positional, "*", IB, .self, [⟨"args", .varPos, false⟩]⟩ a b n (List.map (fun x => x.fst) ({ pos := Value.ref e :: rest } : Args).kw) = pure () from fun a b n => check_star_args _ _ _ _ _ _]
  exact wpAny_pure hq
theorem newW (F : ExcBaseFacts B newId i0 bmB) (hB : bm.contains (.type B) = true) (hA : bm.contains (.type "AttributeError") = false) (hN : bm.contains (.type "NameError") = false) (hC : h.get? C = some (excClassObj nm q C N bs bm hdct sn sub ab col dd k0 k1 k2 k3 k5 newId)) (hrest : rest.length ≤ sizeLine)
    (hq : R (.ok (.ret (.ref (h.objs.size + 1)))) ⟨(h.push (PySem.W.kdv_tup rest)).push (PySem.HandSPX.excO C h.objs.size), g, d, t, os⟩) : codeAny (model prog w) A (.builtin newId ⟨.ref C :: rest, []⟩) R ⟨h, g, d, t, os⟩ := by
  have hends := F.ends
  have cB : (Value.ref C :: bm).contains (.type B) = true := by rw [List.contains_cons, hB, Bool.or_true]
  have cA : (Value.ref C :: bm).contains (.type "AttributeError") = false := by rw [List.contains_cons, hA]; rfl
  have cN : (Value.ref C :: bm).contains (.type "NameError") = false := by rw [List.contains_cons, hN]; rfl
  refine codeAny_builtinAt F.entry ?_
  unfold Builtin.«BaseException.__new__»
  refine PySem.wpAt_bind ?_
  show PySem.wpAt _ _ _ (stack >>= _) _ _ _
  refine PySem.wpAt_bind (PySem.wpAt_stack fun p below => PySem.wpAt_of_wpAny ?_)
  wp_walk
  refine PySem.wpAt_of_wpAny ?_
  rw [F.owner]
  repeat (first | with_reducible refine wpAny_madeHere_exc F.canon hC ?_ | with_reducible refine wpAny_loadPart_at hC ?_ | (with_reducible refine wpAny_isSubtype_exc hC ?_; first | rw [cB] | rw [cA] | rw [cN]) | wp_step)
  show R _ _
  rw [Heap.size_push]
  exact hq
theorem typeCallW (F : ExcBaseFacts B newId i0 bmB) (hB : bm.contains (.type B) = true) (hA : bm.contains (.type "AttributeError") = false) (hN : bm.contains (.type "NameError") = false) {fI : Addr} {Q : Fin → Shared → Prop} (hC : h.get? C = some (excClassObj nm q C N bs bm hdct sn sub ab col dd k0 k1 k2 k3 k5 newId))
    (hi : PySem.W.Looks (model prog w) h (typeLookup (.ref C) "__init__") (some (.ref fI))) (hb : ∀ self, PySem.W.Looks (model prog w) h (bindSpecial (.ref fI) self) (.ref fI, [self])) (hrest : rest.length ≤ sizeLine) {kw : List (Str × Value)} {Af : Around}
    (hq : codeAny (model prog w) A (.call (.ref fI) ⟨.ref (h.objs.size + 1) :: rest, []⟩) (fun r s' => match r with | .ok (.ret v) => v = .none ∧ Q (.done (.ret (.ref (h.objs.size + 1)))) s' | .ok _ => False | .error e => E e s') ⟨(h.push (PySem.W.kdv_tup rest)).push (PySem.HandSPX.excO C h.objs.size), g, d, t, os⟩) :
    wpAny (model prog w) A (Builtin.«type.__call__» ⟨.ref C :: rest, []⟩) Q E ⟨h, g, d, t, os⟩ := by
  repeat (first | with_reducible refine wpAny_loadPart_at hC ?_ | with_reducible refine wpAny_madeBy_exc hC ?_ | wp_step)
  refine codeAny_call_builtin_code (Code.quiet_builtin _ F.quiet) (checkNewW F hB hC ?_)
  refine newW F hB hA hN hC hrest ?_
  show wpAny _ _ _ _ _ _
  have k : ∀ c o, h.get? c = some o → ((h.push (PySem.W.kdv_tup rest)).push (PySem.HandSPX.excO C h.objs.size)).get? c = some o := fun c o e => Heap.get?_push_of_some _ (Heap.get?_push_of_some _ e)
  have hC1 := k _ _ hC
  have hget : ((h.push (PySem.W.kdv_tup rest)).push (PySem.HandSPX.excO C h.objs.size)).get? (h.objs.size + 1) = some (PySem.HandSPX.excO C h.objs.size) := by heap_get
  have cC : (Value.ref C :: bm).contains (.ref C) = true := by simp
  have i1 := hi.keeps k
  have b1 := (hb (.ref (h.objs.size + 1))).keeps k
  unfold isInstance
  repeat (first | with_reducible refine wpAny_loadPart_at hget ?_ | (with_reducible refine wpAny_isSubtype_exc hC1 ?_; rw [cC]) | wp_step)
  show wpAny _ _ (typeLookup (.ref C) _) _ _ _
  refine i1.at (wpAny_holding (wpAny_bind (b1.at (wpAny_bind (wpAny_call (codeAny_mono hq fun r s' z => ?_))))))
  rcases r with e | (v | _ | _ | _) <;> first | exact z | exact z.elim | skip
  obtain ⟨rfl, z⟩ := z
  first
    | exact wpAny_pure (wpAny_pure z)
    | (wp_walk; exact z)
theorem callW (F : ExcBaseFacts B newId i0 bmB) (hB : bm.contains (.type B) = true) (hA : bm.contains (.type "AttributeError") = false) (hN : bm.contains (.type "NameError") = false) {fI : Addr} (hC : h.get? C = some (excClassObj nm q C N bs bm hdct sn sub ab col dd k0 k1 k2 k3 k5 newId))
    (hi : PySem.W.Looks (model prog w) h (typeLookup (.ref C) "__init__") (some (.ref fI))) (hb : ∀ self, PySem.W.Looks (model prog w) h (bindSpecial (.ref fI) self) (.ref fI, [self])) (hrest : rest.length ≤ sizeLine)
    (hq : codeAny (model prog w) (A.under (.builtin "type.__call__" ⟨.ref C :: rest, []⟩)) (.call (.ref fI) ⟨.ref (h.objs.size + 1) :: rest, []⟩) (PySem.W.InitBack (h.objs.size + 1) R) ⟨(h.push (PySem.W.kdv_tup rest)).push (PySem.HandSPX.excO C h.objs.size), g, d, t, os⟩) :
    codeAny (model prog w) A (.call (.ref C) ⟨rest, []⟩) R ⟨h, g, d, t, os⟩ := by
  have f1 := PySem.tc_lookup
  have f2 := PySem.tc_bind (.ref C)
  have hTy : (⟨h, g, d, t, os⟩ : Shared).TypeIs (.ref C) "type" := ⟨_, hC, rfl⟩
  refine codeAny_of_tree ?_
  show wpAny _ _ (callAny (.ref C) _) _ _ _
  repeat (any_goals (first | assumption | with_reducible refine wpAny_loadPart_at hC ?_ | wp_step))
  refine ⟨rfl, codeAny_call_builtin_at (Code.quiet_builtin _ (by decide +kernel)) entry_typeCall (wpAny_check_type_call_sub hC (typeCallW F hB hA hN hC hi hb hrest (kw := []) (Af := A) ?_))⟩
  refine codeAny_mono hq fun r s' z => ?_
  rcases r with e | (v | _ | _ | _) <;> exact z
theorem initW (F : IniF IB initId) (hI : bm.contains (.type IB) = true) {e t0 : Addr} (hC : h.get? C = some (excClassObj nm q C N bs bm hdct sn sub ab col dd k0 k1 k2 k3 k5 newId)) (he : h.get? e = some (PySem.HandSPX.excO C t0)) (hrest : rest.length ≤ sizeLine)
    (hq : ∀ h' t1, (∀ c o, c ≠ e → h.get? c = some o → h'.get? c = some o) → h'.get? e = some (PySem.HandSPX.excO C t1) → R (.ok (.ret .none)) ⟨h', g, d, t, os⟩) : codeAny (model prog w) A (.call (.builtin initId) ⟨.ref e :: rest, []⟩) R ⟨h, g, d, t, os⟩ := by
  refine codeAny_call_builtin F.init.plain F.entry (checkInitW F hI hC he rfl ?_)
  wp_walk
  refine hq _ h.objs.size (fun c o hc ho => ?_) ?_
  · rw [Heap.get?_update_other _ _ (Ne.symm hc)]
    exact Heap.get?_push_of_some _ ho
  · rw [Heap.get?_update_self _ (Heap.get?_push_of_some _ he) rfl]
    rfl
end
inductive Bs where
  | ve
  | le
  | ke
def Bs.nm : Bs → String
  | .ve => "ValueError"
  | .le => "LookupError"
  | .ke => "KeyError"
/-- whose __new__ it is -/
def Bs.nb : Bs → String
  | .ve => "ValueError"
  | _ => "LookupError"
def Bs.new : Bs → String
  | .ve => "ValueError.__new__"
  | _ => "LookupError.__new__"
def Bs.init : Bs → String
  | .ve => "ValueError.__init__"
  | .le => "LookupError.__init__"
  | .ke => "KeyError.__init__"
def Bs.tl : Bs → List Value
  | .ve => [.type "ValueError", .type "Exception", .type "BaseException", .type "object"]
  | .le => [.type "LookupError", .type "Exception", .type "BaseException", .type "object"]
  | .ke => [.type "KeyError", .type "LookupError", .type "Exception", .type "BaseException", .type "object"]
theorem Bs.f : ∀ b : Bs, ∃ i0 bmB, ExcBaseFacts b.nb b.new i0 bmB
  | .ve => ⟨_, _, F.excBase_ValueError⟩
  | .le => ⟨_, _, F.excBase_LookupError⟩
  | .ke => ⟨_, _, F.excBase_LookupError⟩
theorem Bs.i : ∀ b : Bs, IniF b.nm b.init
  | .ve => inf_of F.excBase_ValueError.toExcCallFacts
  | .le => inf_of F.excBase_LookupError.toExcCallFacts
  | .ke => inf_KE
theorem pass_KE (self : Value) : refuseLoop self "__setattr__" [.type "KeyError", .type "LookupError", .type "Exception", .type "BaseException", .type "object"] = pure () := by kernel_rfl
theorem Bs.pass : ∀ (b : Bs) (self : Value), refuseLoop self "__setattr__" b.tl = pure ()
  | .ve, self => F.store_ValueError.passes self
  | .le, self => F.store_LookupError.passes self
  | .ke, self => pass_KE self
theorem Bs.obj (b : Bs) : b.tl.contains (.type "object") = true := by cases b <;> decide +kernel
theorem Bs.hB (b : Bs) : b.tl.contains (.type b.nb) = true := by cases b <;> decide +kernel
theorem Bs.hI (b : Bs) : b.tl.contains (.type b.nm) = true := by cases b <;> decide +kernel
theorem Bs.hA (b : Bs) : b.tl.contains (.type "AttributeError") = false := by cases b <;> decide +kernel
theorem Bs.hN (b : Bs) : b.tl.contains (.type "NameError") = false := by cases b <;> decide +kernel
/-- own classes, then the built-in one's line -/
inductive Tail (b : Bs) : List Value → Prop
  | here : Tail b b.tl
  | own (C : Addr) {l : List Value} : Tail b l → Tail b (.ref C :: l)
section
variable {b : Bs} {l : List Value}
theorem Tail.pass (h : Tail b l) (self : Value) : refuseLoop self "__setattr__" l = pure () := by
  induction h with
  | here => exact b.pass self
  | own C _ ih => rw [refuseLoop_ref]; exact ih
theorem Tail.has (h : Tail b l) (X : String) : l.contains (.type X) = b.tl.contains (.type X) := by
  induction h with
  | here => rfl
  | own C _ ih => rw [List.contains_cons, ih]; rfl
theorem Tail.ne (h : Tail b l) : l.isEmpty = false := by
  cases h with
  | here => cases b <;> rfl
  | own C _ => rfl
end
section
open Builtin Builtin.ObjectAttr
variable {prog : Program} {w : World} {A : Around} {E : Value → Shared → Prop} {R : Result → Shared → Prop} {hp : Heap} {g : Array GenState} {d : Drawn} {t : Nat} {os : OsState}
/-- the first field of an exception -/
theorem osaT {K : PySem.W.Frag} {b : Bs} {name : Str} {tk : Tok} {v : Value} {x C : Addr} {fv : Array Value} {cd : ClassData} (X : K.In hp) (hx : hp.get? x = some { cls := .ref C, data := .fields fv }) (hcd : PySem.W.clsIn K C = some cd) (hm : Tail b cd.mro) (hh : cd.hasDict = true) (ha : PySem.W.findIn K (.ref C) name = some none)
    (hq : ∀ h' tk' dx, (∀ c o, c ≠ x → hp.get? c = some o → h'.get? c = some o) → hp.objs.size ≤ dx → dx ≠ x → h'.get? x = some { cls := .ref C, dict := some dx, data := .fields fv } → h'.Ns1 dx (fun y => if y = name then some v else none) → R (.ok (.ret .none)) ⟨h', g, d, tk', os⟩) :
    codeAny (model prog w) A (.call (.builtin "object.__setattr__") ⟨[.ref x, .str name tk, v], []⟩) R ⟨hp, g, d, t, os⟩ := by
  have I : PySem.W.InstAt hp x { cls := .ref C, data := .fields fv } C none := ⟨hx, rfl, rfl, trivial⟩
  have SF := F.store_object
  have hob : cd.mro.contains (.type "object") = true := (hm.has "object").trans b.obj
  have hxs : x ≠ hp.objs.size := Nat.ne_of_lt (Heap.lt_size hx)
  have isO : PySem.W.Looks (model prog w) hp (isInstance (.ref x) (.type "object")) true :=
    I.type.andThen (PySem.W.looks_mroIn X (by unfold PySem.W.mroIn; rw [hcd, Option.bind_some, if_neg (by rw [hm.ne]; decide), hob]))
  have lineL : PySem.W.Looks (model prog w) hp (mroOf (.ref C)) cd.mro := (PySem.W.looks_clsIn X hcd).andThen .now
  have noTaker : PySem.W.Looks (model prog w) hp (storeTaker? none) none := .now
  have clsL : PySem.W.Looks (model prog w) hp (classData C) cd := PySem.W.looks_clsIn X hcd
  refine codeAny_call_builtin SF.slot.plain SF.entry (@PySem.W.check_slot (model prog w) _ _ ⟨hp, g, d, t, os⟩ "object.__setattr__" "object" "__setattr__" (.ref x) [.str name tk, v] [] _ SF.kind SF.split isO (SF.args (.ref x) (.str name tk) v) ?_)
  rw [PySem.W.osa_eq, refuse_eq]
  refine wpAny_bind (wpAny_bind (I.type.at (wpAny_bind (lineL.at ?_))))
  rw [hm.pass]
  refine wpAny_pure (wpAny_bind (I.type.at (wpAny_bind ((PySem.W.looks_findIn X ha).at (wpAny_bind (noTaker.at ?_))))))
  show wpAny _ _ (storeInOwnDict (.ref x) (.ref C) (.str name tk) name v false) _ _ _
  obtain ⟨nm, bs, mro, ns, qn, hd, sn, sb, ab, col, del⟩ := cd
  dsimp only at hh
  subst hh
  unfold storeInOwnDict ownDictForStores
  repeat (first | with_reducible refine PySem.HandSPX.store_in_new ?_ ?_ | with_reducible refine wpAny_loadPart_at hx ?_ | with_reducible refine clsL.at ?_ | wp_step)
  · exact ⟨_, #[], _, (Heap.get?_update_ne _ _ _ _ hxs.symm).trans (Heap.get?_push_at rfl rfl), rfl, fun e he => absurd he (by simp), fun _ => rfl⟩
  · intro h' tk' hn' hs
    have hx1 : (hp.push { cls := .type "dict", data := .dict #[] }).get? x = some { cls := .ref C, data := .fields fv } := Heap.get?_push_of_some _ hx
    refine hq h' tk' hp.objs.size (fun c o hc ho => ?_) (Nat.le_refl _) hxs.symm ?_ hn'
    · have z1 := hs.2 c (Nat.ne_of_lt (Heap.lt_size ho))
      exact z1.trans ((Heap.get?_update_ne _ _ _ _ hc).trans (Heap.get?_push_of_some _ ho))
    · exact (hs.2 x hxs).trans (Heap.get?_update_self _ hx1 rfl)
end
/-- what the written part says of the class -/
structure OexT (K : PySem.W.Frag) (b : Bs) (C : Addr) : Prop where
  cls : ∃ nm q N bs bm sn sub ab col dd k0 k1 k2 k3 k5, K.lookup C = some (excClassObj nm q C N bs bm true sn sub ab col dd k0 k1 k2 k3 k5 b.new) ∧ Tail b bm
  sa : PySem.W.findIn K (.ref C) "__setattr__" = some (some (.builtin "object.__setattr__"))
  exC : PySem.W.subIn K (.ref C) (.type "BaseException") = some true
  tyC : PySem.W.typeIn K (.ref C) = some (.type "type")
  kC : PySem.W.keepIn K (.ref C) = true
section
variable {X : Cx} {pins : List (Addr × Obj)} {σ : L2.St} {H : Hp} {s : Shared} {a C dx : Addr} {f : Str} {y : V} {u : Value} {b : Bs} {Q : Unit → Shared → Prop} {E : Value → Shared → Prop} {A : Around}
theorem ost_newT (T : OexT X.K b C) (I : Inv X pins σ H s) (e : H a = some (exo a C none)) (hno : PySem.W.findIn X.K (.ref C) f = some none) (ry : RelV y u)
    (h : ∀ dx s', H dx = none → dx ≠ a → Inv X pins σ (upd (upd H dx (exd dx [(f, y)])) a (exo a C (some dx))) s' → Q () s') : wpAny (model X.prog X.w) A (setAttr (.ref a) f u) Q E s := by
  obtain ⟨nm, q, N, bs, bm, sn, sub, ab, col, dd, k0, k1, k2, k3, k5, hC, hbm⟩ := T.cls
  obtain ⟨t1, ho⟩ := exo_at I.hok e
  obtain ⟨hp, g, d, t, os⟩ := s
  have hcl : PySem.W.clsIn X.K C = some { name := nm, bases := bs, mro := .ref C :: bm, ns := N, qualname := q, hasDict := true, slotNames := sn, subclasses := sub, abstract := ab, collection := col, hasDel := false } := by
    unfold PySem.W.clsIn
    rw [hC] <;> rfl
  refine PySem.W.set_plain I.kIn (ox := { cls := .ref C, dict := none, data := .fields #[.ref t1, .none, .none, .none, .bool false, .none] }) (od := none) ⟨ho, rfl, rfl, trivial⟩ T.sa ?_
  refine osaT I.kIn ho hcl (.own C hbm) rfl hno fun h' tk' dx k dn dne hx hn => ?_
  have hnd : H dx = none := I.hok.fresh dn
  have nd : ∀ {c : Addr} {o : Obj}, hp.get? c = some o → c ≠ dx := fun {c o} z => Nat.ne_of_lt (Nat.lt_of_lt_of_le (Heap.lt_size z) dn)
  have na : ∀ {c : Addr}, H c = none → c ≠ a := fun {c} n z => by
    rw [z, e] at n
    exact nomatch n
  have un : Un X.fs [] H (upd (upd H dx (exd dx [(f, y)])) a (exo a C (some dx))) hp h' := by
    refine ⟨fun c o z n _ _ => k c o (na n) z, fun c o z n _ _ => ⟨o.slots, k c o (na n) z⟩, fun c o z n _ => by rw [upd_ne (na n), upd_ne (nd z)]; exact n, fun c o z _ => ?_, fun c xs z => ?_, fun c o v z => ?_, fun c ps z => ⟨#[], ?_⟩⟩
    · by_cases hc : c = a
      · exact ⟨_, by rw [hc]; exact hx⟩
      · exact ⟨o, k c o hc z⟩
    · rw [upd_ne (at_ne e z exo_tup), upd_ne (ne_of_none z hnd)]; exact z
    · rw [upd_ne (at_ne e z exo_frz), upd_ne (ne_of_none z hnd)]; exact z
    · rw [upd_ne (at_ne e z exo_tbl), upd_ne (ne_of_none z hnd), z]; simp
  refine h dx _ hnd dne (I.un (t' := tk') un fun c o z => ?_)
  by_cases hc : c = a
  · subst hc
    rw [upd_same] at z
    obtain rfl := Option.some.inj z
    exact exo_ok hx
  · rw [upd_ne hc] at z
    by_cases hd : c = dx
    · subst hd
      rw [upd_same] at z
      obtain rfl := Option.some.inj z
      exact exd_ok hn (relO_put (fs := []) ry fun _ => True.intro)
    · rw [upd_ne hd] at z
      refine (I.hok c o z).stay (fun c2 v hc2 z2 => k c2 v ?_ z2) (fun c2 z2 => ?_) fun c2 xs z2 => ?_
      · rcases hc2 with q2 | q2
        · rw [q2]; exact hc
        · exact at_ne e q2 exo_own
      · rw [upd_ne (at_ne e z2 exo_own), upd_ne (ne_of_none z2 hnd)]; exact z2
      · rw [upd_ne (at_ne e z2 exo_tup), upd_ne (ne_of_none z2 hnd)]; exact z2
/-- the built-in class's __init__: nothing of it is told -/
theorem oinitT {us : List Value} {Q : Value → Shared → Prop} (T : OexT X.K b C) (I : Inv X pins σ H s) (e : H a = some (exo a C none)) (hl : us.length ≤ sizeLine) (h : ∀ s', Inv X pins σ H s' → Q .none s') : wpAny (model X.prog X.w) A (call (.builtin b.init) (.ref a :: us)) Q E s := by
  obtain ⟨nm, q, N, bs, bm, sn, sub, ab, col, dd, k0, k1, k2, k3, k5, hC, hbm⟩ := T.cls
  obtain ⟨t1, ho⟩ := exo_at I.hok e
  obtain ⟨hp, g, d, t, os⟩ := s
  refine wpAny_call (initW b.i ((hbm.has _).trans b.hI) (I.kIn _ _ hC) ho hl fun h' t2 k hx => ?_)
  have J := I.write (t' := t) (x := a) (e := a) (o := exo a C none) (by rw [e]; exact True.intro) (.inl rfl) k ⟨_, hx⟩ (exo_ok hx)
  have eu : upd H a (exo a C none) = H := funext fun c => by
    by_cases hc : c = a
    · rw [hc, upd_same, e]
    · rw [upd_ne hc]
  exact h _ (eu ▸ J)
end
def tBaI (K : PySem.W.Frag) (b : Bs) (ta : TA) : TE := fun σ H Q => ta σ H fun vs H1 => ∃ (a C : Addr) (ws : List V), vs = .ref a :: ws ∧ ws.length ≤ 1000 ∧ OexT K b C ∧ H1 a = some (exo a C none) ∧ Q .non H1
/-- self.f = e, the first one -/
def tOsN (K : PySem.W.Frag) (f : Str) (to te : TE) : TS := fun D σ H => te σ H fun y H1 => to σ H1 fun x H2 => ∃ (b : Bs) (a C : Addr), x = .ref a ∧ OexT K b C ∧ PySem.W.findIn K (.ref C) f = some none ∧
  H2 a = some (exo a C none) ∧ ∀ dx, H2 dx = none → dx ≠ a → D.nx σ (upd (upd H2 dx (exd dx [(f, y)])) a (exo a C (some dx)))
section
variable {X : Cx} {o e : Expr} {es : List Expr} {to te : TE} {ta : TA} {f : Str} {p p' p1 p2 pos : Pos}
theorem typ_LE : typeOf (.type "LookupError") = pure (.type "type") := by kernel_rfl
theorem pe_veI {pl : Sem Bool} (hg : Gl X "ValueError") (hm : X.mg "ValueError" = none) (vV : PySem.W.findCls X.K (.type "ValueError") (.type "type") "__init__" = some (.val (.builtin "ValueError.__init__"))) (ha : PA X (e :: es) ta)
    (hc : eval (.Call (.Attribute (.Name "ValueError" p1) "__init__" p2) (e :: es) [] pos) X.env = (do
      let ov ← eval (.Name "ValueError" p1) X.env
      standAt p2.atName
      let (f, first) ← holding [ov] (getMethod ov "__init__" pl)
      callWith pos f first (backTo pos (starEach (e :: es) X.env)) (backToKw pos (keywordEach [] X.env))) := by rfl)
    (he : starEach (e :: es) X.env = (false, eval e X.env) :: starEach es X.env := by rfl) (hpl : (backTo pos (starEach es X.env)).any (·.1) = false := by rfl) :
    PE X (.Call (.Attribute (.Name "ValueError" p1) "__init__" p2) (e :: es) [] pos) (tBaI X.K .ve ta) := by
  refine ⟨fun pins s σ H Q I h => PySem.W.methodCall_KW (ld_blt I hg hm PyProof.Rows.Boot.«ValueError» ?_ (by decide) (by decide)) hc⟩
  obtain ⟨m, fr⟩ := I.fr
  refine PySem.W.method_type fr I.ok.mod.kin PySem.OEX.typ_VE (by decide +kernel) vV (by decide +kernel) ?_
  refine PyProof.Rows.callWith_method1 (thn (ha.run pos pins _ σ H _ (I.tok _) h) fun us s1 ⟨vs, H1, I1, r1, a, C, ws, ev, hl, T, ea, q⟩ => ?_) he hpl
  subst ev
  cases r1 with
  | @cons _ u0 _ ur ra rw' =>
    obtain rfl : u0 = Value.ref a := ra
    exact oinitT T I1 ea (by rw [← Paired.length rw', sizeLine_eq]; omega) fun s' J => ⟨.non, H1, J, rfl, q⟩
theorem pe_leI {pl : Sem Bool} (hg : Gl X "LookupError") (hm : X.mg "LookupError" = none) (vV : PySem.W.findCls X.K (.type "LookupError") (.type "type") "__init__" = some (.val (.builtin "LookupError.__init__"))) (ha : PA X (e :: es) ta)
    (hc : eval (.Call (.Attribute (.Name "LookupError" p1) "__init__" p2) (e :: es) [] pos) X.env = (do
      let ov ← eval (.Name "LookupError" p1) X.env
      standAt p2.atName
      let (f, first) ← holding [ov] (getMethod ov "__init__" pl)
      callWith pos f first (backTo pos (starEach (e :: es) X.env)) (backToKw pos (keywordEach [] X.env))) := by rfl)
    (he : starEach (e :: es) X.env = (false, eval e X.env) :: starEach es X.env := by rfl) (hpl : (backTo pos (starEach es X.env)).any (·.1) = false := by rfl) :
    PE X (.Call (.Attribute (.Name "LookupError" p1) "__init__" p2) (e :: es) [] pos) (tBaI X.K .le ta) := by
  refine ⟨fun pins s σ H Q I h => PySem.W.methodCall_KW (ld_blt I hg hm PyProof.Rows.Boot.«LookupError» ?_ (by decide) (by decide)) hc⟩
  obtain ⟨m, fr⟩ := I.fr
  refine PySem.W.method_type fr I.ok.mod.kin typ_LE (by decide +kernel) vV (by decide +kernel) ?_
  refine PyProof.Rows.callWith_method1 (thn (ha.run pos pins _ σ H _ (I.tok _) h) fun us s1 ⟨vs, H1, I1, r1, a, C, ws, ev, hl, T, ea, q⟩ => ?_) he hpl
  subst ev
  cases r1 with
  | @cons _ u0 _ ur ra rw' =>
    obtain rfl : u0 = Value.ref a := ra
    exact oinitT T I1 ea (by rw [← Paired.length rw', sizeLine_eq]; omega) fun s' J => ⟨.non, H1, J, rfl, q⟩
theorem ps_osN (ho : PE X o to) (he : PE X e te) (hs : swapsWith e (some (.Attribute o f p')) pos.line X.env = pure false := by rfl) : PS X (.Assign [.Attribute o f p'] e pos) (tOsN X.K f to te) := by
  refine ⟨fun pins s σ H D I h => plainObj_wpAny_Assign_Attribute (thn (he.run pins s σ H _ I h) fun v s1 ⟨y, H1, I1, r1, q1⟩ => thn (ho.run pins s1 σ H1 _ I1 q1) fun u s2 ⟨x, H2, I2, r2, b, a, C, ex, T, hno, ea, q⟩ => ?_) hs⟩
  subst ex
  obtain rfl : u = Value.ref a := r2
  exact ost_newT T I2 ea hno r1 fun dx s' n ne J => ⟨σ, _, J, q dx n ne⟩
/-- C(e, ..) that is raised -/
theorem pmk_oexT {b : Bs} {CX : CXT} {x : Str} {C fI : Addr} {k : Nat} {fd : FuncData} {ps : List Str} {sp : Sp} {ds : List Value} {dvs : List V} (T : OexT X.K b C) (iC : PySem.W.findIn X.K (.ref C) "__init__" = some (some (.ref fI))) (tI : PySem.W.typeIn X.K (.ref fI) = some (.type "function"))
    (F1 : FnOk X.prog X.w X.K X.mg X.base CX k fI fd ps sp) (hr : Room (k + 1) X.A) (hb : Binds X.K fd ps ds) (hd : Vals dvs ds) (hx : Passes CX X (fun _ _ _ => False)) (hg : Gl X x) (hm : X.mg x = some (.ref C)) (ha : PA X (e :: es) ta)
    (hdb : (x == ("__debug__" : Str)) = false := by decide) (he : starEach (e :: es) X.env = (false, eval e X.env) :: starEach es X.env := by rfl) (hpl : (backTo pos (starEach es X.env)).any (·.1) = false := by rfl) :
    PMk X (.Call (.Name x p) (e :: es) [] pos) (tMkO C sp dvs ta) := by
  intro pins s σ H Q I h
  obtain ⟨nm, q, N, bs, bm, sn, sub, ab, col, dd, k0, k1, k2, k3, k5, hC, hbm⟩ := T.cls
  refine wpAny_Call_Name_kw (ld_glob I hg hm ?_ hdb)
  refine PySem.W.callWith_K (h₀ := X.base) I.ok.mod.kin T.kC (thn (ha.run pos pins s σ H _ I h) fun us s1 ⟨vs, H1, I1, r1, hz, q1⟩ => ⟨I1.kIn, ?_⟩) he hpl
  show wpAny _ _ (call (.ref C) us) _ _ _
  obtain ⟨hp, g, dr, tk, os⟩ := s1
  have hsz : hp.objs.size ≤ hp.objs.size + 1 := Nat.le_succ _
  have hq := q1 (hp.objs.size + 1) (I1.hok.fresh hsz)
  have hget : ((hp.push (PySem.W.kdv_tup us)).push (PySem.HandSPX.excO C hp.objs.size)).get? (hp.objs.size + 1) = some (PySem.HandSPX.excO C hp.objs.size) := by heap_get
  have kk : ∀ c o, hp.get? c = some o → ((hp.push (PySem.W.kdv_tup us)).push (PySem.HandSPX.excO C hp.objs.size)).get? c = some o := fun c o z => Heap.get?_push_of_some _ (Heap.get?_push_of_some _ z)
  have I2 : Inv X pins σ (upd H1 (hp.objs.size + 1) (exo (hp.objs.size + 1) C none)) ⟨(hp.push (PySem.W.kdv_tup us)).push (PySem.HandSPX.excO C hp.objs.size), g, dr, tk, os⟩ :=
    I1.laid (t' := tk) (a := hp.objs.size + 1) (o := exo (hp.objs.size + 1) C none) (h' := (hp.push (PySem.W.kdv_tup us)).push (PySem.HandSPX.excO C hp.objs.size)) kk hsz (exo_ok hget)
  have r2 : Vals (V.ref (hp.objs.size + 1) :: (vs ++ dvs)) (Value.ref (hp.objs.size + 1) :: (us ++ ds)) := .cons rfl (r1.append hd)
  have hl : (Value.ref (hp.objs.size + 1) :: us ++ ds).length = ps.length := r2.length.symm.trans (F1.len _ _ _ _ hq)
  have hus : us.length ≤ sizeLine := by rw [← Paired.length r1, sizeLine_eq]; omega
  obtain ⟨i0, bmB, bf⟩ := b.f
  refine wpAny_call (callW bf ((hbm.has _).trans b.hB) ((hbm.has _).trans b.hA) ((hbm.has _).trans b.hN) (I1.kIn _ _ hC) (PySem.W.looks_findIn I1.kIn iC) (fun self => PySem.W.bind_fn I1.kIn self tI) hus
    (codeAny_mono (F1.run _ X.stack _ _ ⟨Value.ref (hp.objs.size + 1) :: us, []⟩ (Value.ref (hp.objs.size + 1) :: (us ++ ds)) _ _ (fun _ _ _ => False) (hr.make C us []) (I2.env0.make C us []) (hb _ (Value.ref (hp.objs.size + 1) :: us) I2.kIn hl) r2 hq) fun r s' hq' => ?_))
  match r, hq' with
  | .error er, hq' => exact hx pins σ _ _ er s' I2 hq'
  | .ok (.ret u), hq' =>
    obtain ⟨v, H2, os2, bare2, un2, hok2, rv, ev, d, fs, ea, ed, hd1, q2⟩ := hq'
    subst ev
    obtain ⟨h2, g2, d2, t2, os'⟩ := s'
    exact ⟨rv, mk_end (raises_own T.exC T.tyC) I1 hsz kk un2 hok2 os2 bare2 ea ed hd1 q2⟩
end
/-- Base.__init__(self, text) of an own family -/
def spGT (K : PySem.W.Frag) (b : Bs) : Sp := fun vs H Q _ => ∃ (a C : Addr) (x : V), vs = [.ref a, x] ∧ OexT K b C ∧ H a = some (exo a C none) ∧ Q .non H
end Bk

namespace Bk
open PySem PySem.Spec PyProof.Rows L2
/-! ## 21. methods of own classes: what is raised is wished for at the caller's slots -/
structure CalM (P : Program) (w : World) (K : PySem.W.Frag) (mg : Str → Option Value) (base : Heap) (CX : CXT) (k : Nat) (C : Addr) (m : Str) (sp : Sp) : Prop where
  ex : ∃ (f : Addr) (fd : FuncData) (ps : List Str), Meth K C m f ∧ FnOk P w K mg base CX k f fd ps sp ∧ Binds K fd ps []
structure CalMK (P : Program) (w : World) (K : PySem.W.Frag) (mg : Str → Option Value) (base : Heap) (CX : CXT) (k n : Nat) (ks : List Str) (C : Addr) (m : Str) (sp : Sp) (gV : List V → List V → List V) : Prop where
  ex : ∃ (f : Addr) (fd : FuncData) (ps : List Str) (g : List Value → List Value → List Value), Meth K C m f ∧ FnOk P w K mg base CX k f fd ps sp ∧ KBn K fd ps (n + 1) ks g gV
/-- C(..) of a class whose objects are plain -/
structure CalC (P : Program) (w : World) (K : PySem.W.Frag) (mg : Str → Option Value) (base : Heap) (CX : CXT) (k : Nat) (C : Addr) (x : Str) (sp : Sp) : Prop where
  ex : ∃ (f : Addr) (fd : FuncData) (ps : List Str), Mk K C f ∧ FnOk P w K mg base CX k f fd ps sp ∧ Binds K fd ps [] ∧ mg x = some (.ref C)
def tMeS (C : Addr) (m : Str) (sp : Sp) (E : L2.St → XK) (ta : TE) (t : TA) : TE := fun σ H Q => ta σ H fun x H1 => ∃ a dx fs, x = .ref a ∧ H1 a = some (.ins C dx fs) ∧ fs.lookup m = none ∧ t σ H1 fun vs H2 => sp (x :: vs) H2 Q (E σ)
def tMeK (C : Addr) (m : Str) (j : Nat) (sp : Sp) (gV : List V → List V → List V) (E : L2.St → XK) (ta : TE) (tk : TA) : TE := fun σ H Q => ta σ H fun x H1 => ∃ a dx fs, x = .ref a ∧ H1 a = some (.ins C dx fs) ∧ fs.lookup m = none ∧ tk σ H1 fun zs H2 => zs.length = j ∧ sp (gV [x] zs) H2 Q (E σ)
def tMkS (C : Addr) (sp : Sp) (E : L2.St → XK) (t : TA) : TE := fun σ H Q => t σ H fun vs H1 => ∀ x dx, H1 x = none → H1 dx = none → dx ≠ x →
  sp (.ref x :: vs) (upd (upd H1 dx (.own x)) x (.ins C dx [])) (fun v H2 => v = .non ∧ Q (.ref x) H2) (E σ)
section
variable {X : Cx} {CX : CXT} {k j n : Nat} {ks : List Str} {f C : Addr} {fd : FuncData} {ps : List Str} {sp : Sp} {E : L2.St → XK} {x m : Str} {p pos apos : Pos} {e o : Expr} {es : List Expr} {kws : List Keyword} {ta : TE} {t tk : TA} {W : WX} {gV : List V → List V → List V} {g : List Value → List Value → List Value}
theorem ps0 : ∀ σ, PassesAt CX0 X σ ((fun _ => E0) σ) := fun _ _ _ _ _ _ _ h => h.elim
theorem psY : ∀ σ, PassesAt (L2.CX X.prog X.w) X σ ((fun _ => noE) σ) := fun σ pins H s e s' I h => pass_no (X := X) pins σ H s e s' I h
theorem psX {E : XK} (tk : Takes X (fun cls d _ H => E cls d H)) : ∀ σ, PassesAt (L2.CX X.prog X.w) X σ ((fun _ => E) σ) := fun σ pins H s e s' I h => passes_call tk (fun _ _ _ _ z => z) pins σ H s e s' I h
/-- o.m(e, ..) -/
theorem pe_mth {pl : Sem Bool} (he : PE X o ta) (cl : Cls X.K C) (c : CalM X.prog X.w X.K X.mg X.base CX k C m sp) (hr : Room j X.A) (hk : k ≤ j) (hx : ∀ σ, PassesAt CX X σ (E σ)) (ha : PA X (e :: es) t)
    (hst : starEach (e :: es) X.env = (false, eval e X.env) :: starEach es X.env := by rfl) (hpl : (backTo pos (starEach es X.env)).any (·.1) = false := by rfl)
    (ht : eval (.Call (.Attribute o m apos) (e :: es) [] pos) X.env = (do
      let ov ← eval o X.env
      standAt apos.atName
      let (f, first) ← holding [ov] (getMethod ov m pl)
      callWith pos f first (backTo pos (starEach (e :: es) X.env)) (backToKw pos (keywordEach [] X.env))) := by rfl) :
    PE X (.Call (.Attribute o m apos) (e :: es) [] pos) (tMeS C m sp E ta t) := by
  obtain ⟨f, fd, ps, hm, F, hb⟩ := c.ex
  refine ⟨fun pins s σ H Q I h => ?_⟩
  refine PySem.W.methodCall_KW (pl := pl) (thn (he.run pins s σ H _ I h) fun u s1 ⟨x, H1, I1, rx, a, dx, fs, ex, ea, l, q⟩ => ?_) ht
  subst ex
  obtain rfl : u = Value.ref a := rx
  refine getmeth_ok I1 ea cl hm l ?_
  refine PySem.W.callWith_K (first := [.ref a]) (h₀ := X.base) I.ok.mod.kin hm.kp (thn (ha.run pos pins s1 σ H1 _ I1 q) fun us s2 ⟨vs, H2, I2, r, q2⟩ => ⟨I2.kIn, ?_⟩) hst hpl
  exact run_fnS (us := .ref a :: us) (vs := .ref a :: vs) F (hr.mono hk) hb (hx σ) I2 (.cons rfl r) q2
/-- o.m() -/
theorem pe_mth0 {pl : Sem Bool} (he : PE X o ta) (cl : Cls X.K C) (c : CalM X.prog X.w X.K X.mg X.base CX k C m sp) (hr : Room j X.A) (hk : k ≤ j) (hx : ∀ σ, PassesAt CX X σ (E σ))
    (ht : eval (.Call (.Attribute o m apos) [] [] pos) X.env = (do
      let ov ← eval o X.env
      standAt apos.atName
      let (f, first) ← holding [ov] (getMethod ov m pl)
      callWith pos f first (backTo pos (starEach [] X.env)) (backToKw pos (keywordEach [] X.env))) := by rfl) :
    PE X (.Call (.Attribute o m apos) [] [] pos) (tMeS C m sp E ta tNil) := by
  obtain ⟨f, fd, ps, hm, F, hb⟩ := c.ex
  refine ⟨fun pins s σ H Q I h => ?_⟩
  refine PySem.W.methodCall_KW (pl := pl) (thn (he.run pins s σ H _ I h) fun u s1 ⟨x, H1, I1, rx, a, dx, fs, ex, ea, l, q⟩ => ?_) ht
  subst ex
  obtain rfl : u = Value.ref a := rx
  refine getmeth_ok I1 ea cl hm l ?_
  exact PySem.W.callWith_K0 (first := [.ref a]) I1.kIn hm.kp (run_fnS (us := [.ref a]) (vs := [.ref a]) F (hr.mono hk) hb (hx σ) I1 (.cons rfl .nil) q)
theorem run_mkS {pins : List (Addr × Obj)} {σ : L2.St} {H : Hp} {s : Shared} {Q : VK} {us : List Value} {vs : List V} (M : Mk X.K C f) (F : FnOk X.prog X.w X.K X.mg X.base CX k f fd ps sp) (hr : Room (k + 1) X.A) (hb : Binds X.K fd ps [])
    (hx : PassesAt CX X σ (E σ)) (I : Inv X pins σ H s) (r : Vals vs us)
    (h : ∀ x dx, H x = none → H dx = none → dx ≠ x → sp (.ref x :: vs) (upd (upd H dx (.own x)) x (.ins C dx [])) (fun v H2 => v = .non ∧ Q (.ref x) H2) (E σ)) :
    wpAny (model X.prog X.w) X.A (call (.ref C) us) (EP X pins σ Q) X.xe s := by
  have hq := h (s.heap.objs.size + 1) s.heap.objs.size (I.hok.fresh (Nat.le_succ _)) (I.hok.fresh (Nat.le_refl _)) (Nat.ne_of_lt (Nat.lt_succ_self _))
  have I2 := Inv.made (C := C) I
  have r2 : Vals (V.ref (s.heap.objs.size + 1) :: vs) (Value.ref (s.heap.objs.size + 1) :: us) := .cons rfl r
  have hl : (Value.ref (s.heap.objs.size + 1) :: us).length = ps.length := by
    have e := r2.length
    rw [F.len _ _ _ _ hq] at e
    exact e.symm
  have bb := hb { s with heap := _ } (Value.ref (s.heap.objs.size + 1) :: us) I2.kIn (by rw [List.append_nil]; exact hl)
  rw [List.append_nil] at bb
  refine wpAny_call (make_map (f := f) I.kIn M.makes M.init (beq_iff_eq.mp M.fn) (codeAny_mono (F.run _ X.stack _ _ ⟨Value.ref (s.heap.objs.size + 1) :: us, []⟩ (Value.ref (s.heap.objs.size + 1) :: us) _ _ (E σ) (hr.make C us [])
    (I2.env0.make C us []) bb r2 hq) fun r s' hq' => ?_))
  cases r with
  | error e => exact hx pins _ _ e s' I2 hq'
  | ok fl =>
    cases fl with
    | ret u =>
      obtain ⟨v, H', I3, rv, ev, q3⟩ := I2.after hq'
      subst ev
      exact ⟨rv, ⟨V.ref (s.heap.objs.size + 1), H', I3, rfl, q3⟩⟩
    | next => exact False.elim hq'
    | brk => exact False.elim hq'
    | cont => exact False.elim hq'
theorem pe_mk (c : CalC X.prog X.w X.K X.mg X.base CX k C x sp) (hr : Room j X.A) (hk : k + 1 ≤ j) (hg : Gl X x) (hx : ∀ σ, PassesAt CX X σ (E σ)) (ha : PA X (e :: es) t)
    (hdb : (x == ("__debug__" : Str)) = false := by decide) (he : starEach (e :: es) X.env = (false, eval e X.env) :: starEach es X.env := by rfl) (hpl : (backTo pos (starEach es X.env)).any (·.1) = false := by rfl) :
    PE X (.Call (.Name x p) (e :: es) [] pos) (tMkS C sp E t) := by
  obtain ⟨f, fd, ps, M, F, hb, hm⟩ := c.ex
  refine ⟨fun pins s σ H Q I h => ?_⟩
  refine wpAny_Call_Name_kw (ld_glob I hg hm ?_ hdb)
  refine PySem.W.callWith_K (h₀ := X.base) I.ok.mod.kin M.kp (thn (ha.run pos pins s σ H _ I h) fun us s1 ⟨vs, H1, I1, r, q⟩ => ⟨I1.kIn, ?_⟩) he hpl
  exact run_mkS M F (hr.mono hk) hb (hx σ) I1 r q
end
section
variable {σ : L2.St} {H : Hp} {Q : VK} {C a dx : Addr} {m : Str} {sp : Sp} {E : L2.St → XK} {ta : TE} {t tk : TA} {fs : List (Str × V)}
theorem r_mth (q : ta σ H fun x H1 => ∃ a dx fs, x = .ref a ∧ H1 a = some (.ins C dx fs) ∧ fs.lookup m = none ∧ t σ H1 fun vs H2 => sp (x :: vs) H2 Q (E σ)) : tMeS C m sp E ta t σ H Q := q
theorem r_mthK {j : Nat} {gV : List V → List V → List V} (q : ta σ H fun x H1 => ∃ a dx fs, x = .ref a ∧ H1 a = some (.ins C dx fs) ∧ fs.lookup m = none ∧ tk σ H1 fun zs H2 => zs.length = j ∧ sp (gV [x] zs) H2 Q (E σ)) : tMeK C m j sp gV E ta tk σ H Q := q
theorem r_mkS (q : t σ H fun vs H1 => ∀ x dx, H1 x = none → H1 dx = none → dx ≠ x → sp (.ref x :: vs) (upd (upd H1 dx (.own x)) x (.ins C dx [])) (fun v H2 => v = .non ∧ Q (.ref x) H2) (E σ)) : tMkS C sp E t σ H Q := q
end
/-! ## 22. refusals whose field has another name -/
def RefuseN (nm : Str) (C : Addr) (v : V) (H : Hp) (E : XK) : Prop := ∀ d H', H d = none → Same H H' → H' d = some (.xd [(nm, v)]) → E (.ref C) (some d) H'
theorem RefuseN.on {nm : Str} {C : Addr} {v : V} {H H' : Hp} {E : XK} (r : RefuseN nm C v H E) (s : Same H H') : RefuseN nm C v H' E := fun d H2 hd s2 e => r d H2 (s.free hd) (s.trans s2) e
def spInitN (nm : Str) (C : Addr) : Sp := fun vs H Q _ => ∃ (a : Addr) (x : V), vs = [.ref a, x] ∧ H a = some (exo a C none) ∧ ∀ dx, H dx = none → dx ≠ a → Q .non (upd (upd H dx (exd dx [(nm, x)])) a (exo a C (some dx)))
theorem r_mkN {nm : Str} {C : Addr} {v : V} {H : Hp} {E : XK} (z : RefuseN nm C v H E) : [v].length ≤ 1000 ∧ ∀ a, H a = none → spInitN nm C (.ref a :: ([v] ++ [])) (upd H a (exo a C none))
    (fun u H2 => u = .non ∧ ∃ (d : Addr) (fs : List (Str × V)), H2 a = some (exo a C (some d)) ∧ H2 d = some (exd d fs) ∧ H d = none ∧ E (.ref C) (some d) (upd (del H2 a) d (.xd fs))) (fun _ _ _ => False) := by
  refine ⟨Nat.le_of_ble_eq_true rfl, fun a ha => ⟨a, v, rfl, upd_same, fun dx hd ne => ⟨rfl, dx, [(nm, v)], upd_same, ?_, ?_, ?_⟩⟩⟩
  · rw [upd_ne ne, upd_same]
  · rw [upd_ne ne] at hd
    exact hd
  · rw [upd_ne ne] at hd
    refine z dx _ hd (fun b o e => ?_) upd_same
    have h1 : b ≠ a := ne_of_none e ha
    have h2 : b ≠ dx := ne_of_none e hd
    rw [upd_ne h2]
    show del _ a b = some o
    unfold del
    rw [if_neg h1, upd_ne h1, upd_ne h2, upd_ne h1]
    exact e
structure ExcN (K : PySem.W.Frag) (nm : Str) (C f : Addr) : Prop where
  ox : OexC K C
  i : PySem.W.findIn K (.ref C) "__init__" = some (some (.ref f))
  t : PySem.W.typeIn K (.ref f) = some (.type "function")
  nf : PySem.W.findIn K (.ref C) nm = some none
  xf : XfC K C
/-! ## 23. a comprehension each turn of which lays a new object, all of them unlike -/
section
variable {J : It} {n : Nat} {G : Hp → Prop} {Y : Nat → Hp → V → Hp → Prop} {g : TG} {te : TE} {vs : List Nat} {σ : L2.St} {H : Hp} {D : Addr} {Q : VK}
theorem lc_new (w : Walk J n G Y) (c : Nat → HO) (hD : H D = none) (hn : n ≤ 10000) (hG : ∀ H', Same H H' → G H')
    (hs : ∀ i x H1 H2 (Q' : VK) (R' : Hp → Prop), i < n → Same H H1 → Y i H1 x H2 → (∀ t H3, H1 t = none → Same H1 H3 → H3 t = some (c i) → Q' (.ref t) H3) →
      g x (wipe σ vs) H2 fun τ H3 => wipe τ vs = wipe σ vs ∧ tYes τ H3 fun b H4 => if b = true then te τ H4 Q' else R' H4)
    (q : ∀ H' (ts : List Addr), Same H H' → H' D = some (.lst (ts.map V.ref)) → ts.length = n → (∀ k t, ts[k]? = some t → H' t = some (c k)) → (D :: ts).Nodup → (∀ t ∈ ts, H t = none) → Q (.ref D) H') :
    ∃ W : Nat → Nat → Hp → Prop, (∃ m, W 0 m (upd H D (.lst []))) ∧ ∀ i m H, W i m H →
      (J.stop i H ∧ Q (.ref D) H) ∨ (J.go i H ∧ ∃ Nx : Hp → Prop, (∀ H', Nx H' → ∃ m', m' < m ∧ W (i + 1) m' H') ∧ ∀ x H', J.yld i H x H' → g x (wipe σ vs) H' fun σ2 H2 => wipe σ2 vs = wipe σ vs ∧ tYes σ2 H2 fun b H3 =>
        if b = true then te σ2 H3 fun y H4 => ∃ acc, H4 D = some (.lst acc) ∧ acc.length < sizeLine ∧ Nx (upd H4 D (.lst (acc ++ [y]))) else Nx H3) := by
  refine lc_it w (fun i G => Same H G ∧ ∃ ts : List Addr, G D = some (.lst (ts.map V.ref)) ∧ ts.length = i ∧ (∀ k t, ts[k]? = some t → G t = some (c k)) ∧ (D :: ts).Nodup ∧ ∀ t ∈ ts, H t = none)
    ⟨same_upd hD, [], upd_same, rfl, (fun _ _ z => nomatch z), (by simp), (fun _ z => nomatch z)⟩ (fun i G _ z => hG G z.1) (fun i x H1 H2 hi ⟨sm, ts, e, l, all, nd, fr⟩ y => ?_) fun G ⟨sm, ts, e, l, all, nd, fr⟩ => q G ts sm e l all nd fr
  refine hs i x H1 H2 _ _ hi sm y fun t H3 nt s3 et => ?_
  have tD : t ≠ D := fun z => by rw [z, e] at nt; exact nomatch nt
  have tts : t ∉ ts := fun z => by
    obtain ⟨k, hk⟩ := List.getElem?_of_mem z
    rw [all k t hk] at nt
    exact nomatch nt
  obtain ⟨nD, nts⟩ := List.nodup_cons.mp nd
  refine ⟨_, s3 _ _ e, by rw [List.length_map, l]; exact Nat.lt_of_lt_of_le hi (Nat.le_trans hn (by decide)), sameBut (sm.trans s3) hD, ts ++ [t], ?_, by rw [List.length_append, l]; rfl, fun k u hk => ?_, ?_, fun u hu => ?_⟩
  · rw [upd_same, List.map_append]
    rfl
  · by_cases hk2 : k < ts.length
    · rw [List.getElem?_append_left hk2] at hk
      have z := s3 _ _ (all k u hk)
      have nu : u ≠ D := fun q => by subst q; exact nD (List.mem_of_getElem? hk)
      rw [upd_ne nu]
      exact z
    · have e3 : k = i := by
        have := (List.getElem?_eq_some_iff.mp hk).1
        rw [List.length_append] at this
        have h1 : [t].length = 1 := rfl
        omega
      subst e3
      rw [List.getElem?_append_right (by omega), l, Nat.sub_self] at hk
      obtain rfl := Option.some.inj hk
      rw [upd_ne tD]
      exact et
  · refine List.nodup_cons.mpr ⟨fun z => ?_, List.nodup_append.mpr ⟨nts, by simp, fun a ha b hb q => ?_⟩⟩
    · rcases List.mem_append.mp z with z | z
      · exact nD z
      · exact tD (List.mem_singleton.mp z).symm
    · rw [List.mem_singleton.mp hb] at q
      exact tts (q ▸ ha)
  · rcases List.mem_append.mp hu with z | z
    · exact fr u z
    · rw [List.mem_singleton.mp z]
      exact sm.free nt
end
/-! ## 24. a list of lists -/
/-- at l: a list of the lists at rows, which hold ws -/
structure LL (H : Hp) (l : Addr) (rows : List Addr) (ws : List (List V)) : Prop where
  at_ : H l = some (.lst (rows.map V.ref))
  len : rows.length = ws.length
  row : ∀ (k : Nat) (r : Addr) (w : List V), rows[k]? = some r → ws[k]? = some w → H r = some (.lst w)
  nd : (l :: rows).Nodup
end Bk

namespace Bk
open PySem PySem.Spec PyProof.Rows L2
/-! ## 25. the text of things, dicts among them -/
mutual
/-- v is the thing d; b: a dict may be in it, and each list stands where no dict of modules does -/
inductive Dq (b : Bool) (K : PySem.W.Frag) (H : Hp) : V → PyData → Prop
  | non : Dq b K H .non .none
  | bl (c : Bool) : Dq b K H (.bl c) (.bool c)
  | int (i : Int) : Dq b K H (.int i) (.int i)
  | str (x : Str) : Dq b K H (.str x) (.str x)
  | lst {a : Addr} {xs : List V} {ds : List PyData} : (b = true → a ≠ sysModules) → SqL K H a xs → DqAll b K H xs ds → Dq b K H (.ref a) (.list ds)
  | tup {a : Addr} {xs : List V} {ds : List PyData} : SqT K H a xs → DqAll b K H xs ds → Dq b K H (.ref a) (.tuple ds)
  | dK {a : Addr} {kvs : List (Key × V)} {ps : List (PyData × PyData)} : b = true → H a = some (.dK kvs) → DqAll b K H (kvs.map fun q => kV q.1) (ps.map (·.1)) → DqAll b K H (kvs.map (·.2)) (ps.map (·.2)) → Dq b K H (.ref a) (.dict ps)
inductive DqAll (b : Bool) (K : PySem.W.Frag) (H : Hp) : List V → List PyData → Prop
  | nil : DqAll b K H [] []
  | cons {v : V} {vs : List V} {d : PyData} {ds : List PyData} : Dq b K H v d → DqAll b K H vs ds → DqAll b K H (v :: vs) (d :: ds)
end
section
variable {X : Cx} {pins : List (Addr × Obj)} {σ : L2.St} {H : Hp} {s : Shared} {b : Bool}
end
/-- z is how repr tells v -/
def Shq (K : PySem.W.Frag) (H : Hp) (v : V) (z : Str) : Prop := ∃ b d, Dq b K H v d ∧ d.showable = true ∧ d.shown.length ≤ sizeLine ∧ d.depth ≤ 60 ∧ z = d.shown
section
variable {X : Cx} {j : Nat}
end
mutual
def smQ : PyData → Bool
  | .none | .bool _ => true
  | .int i => decide (i.natAbs < 10 ^ 38)
  | .str x => x.cps.toList.all fun c => decide (c < 16 ^ 8)
  | .list xs | .tuple xs => smQL xs
  | .dict ps => smQK ps
def smQL : List PyData → Bool
  | [] => true
  | x :: xs => smQ x && smQL xs
def smQK : List (PyData × PyData) → Bool
  | [] => true
  | (x, y) :: xs => smQ x && smQ y && smQK xs
end
section
variable {b : Bool} {K : PySem.W.Frag} {H H' : Hp} {v : V} {a : Addr} {xs : List V}
/-- a thing that may stand in a list whose text is asked: m its size -/
def ItQ (b : Bool) (K : PySem.W.Frag) (H : Hp) (m : Nat) (v : V) : Prop := ∃ d, Dq b K H v d ∧ smQ d = true ∧ d.bulk ≤ m ∧ d.depth ≤ 20
end
/-! new lists and dicts stand where no dict of modules does -/
def NewLB (xs : List V) (H : Hp) (Q : VK) : Prop := xs.length ≤ sizeLine ∧ ∀ p, H p = none → p ≠ sysModules → Q (.ref p) (upd H p (.lst xs))
def tLstB (t : TA) : TE := fun σ H Q => t σ H fun xs H1 => NewLB xs H1 Q
section
variable {X : Cx} {es : List Expr} {t : TA} {pos : Pos}
theorem pe_lstB (h : PA X es t) : PE X (.List es pos) (tLstB t) := by
  refine ⟨fun pins s σ H Q I hq => ?_⟩
  refine wpAny_List_spliced (thn (h.run pos pins s σ H _ I hq) fun us s1 ⟨xs, H1, I1, r, z, q⟩ => ⟨by rw [← r.length]; exact z, ?_⟩)
  have hf : H1 s1.heap.objs.size = none := I1.hok.fresh (Nat.le_refl _)
  refine ⟨.ref s1.heap.objs.size, upd H1 s1.heap.objs.size (.lst xs), I1.laid (t' := s1.toks) (fun b u e => Heap.get?_push_of_some _ e) (Nat.le_refl _) ?_, rfl, q _ hf (Nat.ne_of_gt I1.big)⟩
  exact ⟨z, us, 0, r, Heap.get?_push_size _ rfl⟩
theorem r_lstB {σ : L2.St} {H : Hp} {Q : VK} (q : t σ H fun xs H1 => NewLB xs H1 Q) : tLstB t σ H Q := q
theorem newLB {xs : List V} {H : Hp} {Q : VK} (q : ∀ p H', H p = none → p ≠ sysModules → Same H H' → H' p = some (.lst xs) → Q (.ref p) H') (hl : xs.length ≤ 10000 := by exact Nat.le_of_ble_eq_true rfl) : NewLB xs H Q :=
  ⟨Nat.le_trans hl (by decide), fun p hp ns => q p _ hp ns (same_upd hp) upd_same⟩
end
end Bk

namespace Bk
open PySem PySem.Spec PyProof.Rows L2
/-! ### one step of a walk, found by the goal's head -/
class Stp (p : Prop) (q : outParam Prop) : Prop where
  h : q → p
section
variable {K : PySem.W.Frag} {σ : L2.St} {H : Hp} {ta tb tc te tl th : TE} {t u : TT} {x y v : V} {Q : VK} {QB : Bool → Hp → Prop} {QL : List V → Hp → Prop} {r r' : R2} {D : Ends} {a b : TS} {tr tk : TA}
instance : Stp (tSeq a b D σ H) (a { D with nx := b D } σ H) := ⟨r_seq⟩
instance {g : TG} : Stp (tAsg te g D σ H) (te σ H fun x H1 => g x σ H1 D.nx) := ⟨r_asg⟩
instance {i : Nat} {Qs : L2.St → Hp → Prop} : Stp (gName i v σ H Qs) (Qs (σ.set i (some v)) H) := ⟨r_name⟩
instance : Stp (tIfS t a b D σ H) (t σ H fun b' H1 => if b' = true then a D σ H1 else b D σ H1) := ⟨r_if⟩
instance : Stp (tRet te D σ H) (te σ H D.rt) := ⟨r_ret⟩
instance : Stp (tNext D σ H) (D.nx σ H) := ⟨r_next⟩
instance : Stp (tDrop te D σ H) (te σ H fun _ H1 => D.nx σ H1) := ⟨r_drop⟩
instance : Stp (tOp r ta tb σ H Q) (ta σ H fun x H1 => tb σ H1 fun y H2 => r x y H2 Q) := ⟨r_op⟩
instance {r : V → Hp → VK → Prop} : Stp (tUn r ta σ H Q) (ta σ H fun x H1 => r x H1 Q) := ⟨r_un⟩
instance : Stp (tC v σ H Q) (Q v H) := ⟨r_c⟩
instance {g : Int → Int → V} {i j : Int} : Stp (rI0 g (.int i) (.int j) H Q) (Q (g i j) H) := ⟨r_I0⟩
instance : Stp (tLstB tr σ H Q) (tr σ H fun xs H1 => NewLB xs H1 Q) := ⟨r_lstB⟩
instance {C : Addr} {m : Str} {sp : Sp} {E : L2.St → XK} : Stp (tMeS C m sp E ta tr σ H Q) (ta σ H fun x H1 => ∃ a dx fs, x = .ref a ∧ H1 a = some (.ins C dx fs) ∧ fs.lookup m = none ∧ tr σ H1 fun vs H2 => sp (x :: vs) H2 Q (E σ)) := ⟨r_mth⟩
instance {C : Addr} {m : Str} {sp : Sp} {E : L2.St → XK} {j : Nat} {gV : List V → List V → List V} : Stp (tMeK C m j sp gV E ta tk σ H Q) (ta σ H fun x H1 => ∃ a dx fs, x = .ref a ∧ H1 a = some (.ins C dx fs) ∧ fs.lookup m = none ∧ tk σ H1 fun zs H2 => zs.length = j ∧ sp (gV [x] zs) H2 Q (E σ)) := ⟨r_mthK⟩
instance {C : Addr} {sp : Sp} {E : L2.St → XK} : Stp (tMkS C sp E tr σ H Q) (tr σ H fun vs H1 => ∀ x dx, H1 x = none → H1 dx = none → dx ≠ x → sp (.ref x :: vs) (upd (upd H1 dx (.own x)) x (.ins C dx [])) (fun v H2 => v = .non ∧ Q (.ref x) H2) (E σ)) := ⟨r_mkS⟩
instance {i j : Nat} : Stp (tPar i j tr D σ H) (tr σ H fun vs H1 => ∃ v w, vs = [v, w] ∧ D.nx ((σ.set i (some v)).set j (some w)) H1) := ⟨r_par⟩
instance {g : Int → V} {i : Int} : Stp (rU g (.int i) H Q) (Q (g i) H) := ⟨r_U⟩
instance : Stp (tNil σ H QL) (QL [] H) := ⟨r_nil⟩
instance : Stp (tCons ta tr σ H QL) (ta σ H fun x H1 => tr σ H1 fun xs H2 => QL (x :: xs) H2) := ⟨r_cons⟩
instance {sp : Sp} {dvs : List V} {E : XK} : Stp (tCall sp dvs E tr σ H Q) (tr σ H fun vs H1 => sp (vs ++ dvs) H1 Q E) := ⟨r_call⟩
instance {n m : Nat} {sp : Sp} {gV : List V → List V → List V} {E : XK} : Stp (tCallN n m sp gV E tr tk σ H Q) (tr σ H fun vs H1 => tk σ H1 fun zs H2 => vs.length = n ∧ zs.length = m ∧ sp (gV vs zs) H2 Q E) := ⟨r_callN⟩
instance {wi : TI} {g : TG} : Stp (tFor wi g a D σ H) (wi σ H fun J H1 => ForL J g a D σ H1) := ⟨r_for⟩
instance {R : It → Hp → Prop} : Stp (iList K tl σ H R) (tl σ H fun x H1 => ∃ p, x = .ref p ∧ (∃ xs, SqL K H1 p xs) ∧ R (Itl K p) H1) := ⟨r_iList⟩
instance {R : It → Hp → Prop} : Stp (iTup K tl σ H R) (tl σ H fun x H1 => ∃ p, x = .ref p ∧ (∃ xs, SqT K H1 p xs) ∧ R (Itt K p) H1) := ⟨r_iTup⟩
instance {R : It → Hp → Prop} : Stp (iRng1 tr σ H R) (tr σ H fun vs H1 => ∃ j : Int, vs = [.int j] ∧ -(2 ^ 62) ≤ j ∧ j < 2 ^ 62 ∧ R (Itr 0 j.toNat) H1) := ⟨r_iRng1⟩
instance {R : It → Hp → Prop} : Stp (iRng2 tr σ H R) (tr σ H fun vs H1 => ∃ i j : Int, vs = [.int i, .int j] ∧ (-(2 ^ 62) ≤ i ∧ i < 2 ^ 62 ∧ -(2 ^ 62) ≤ j ∧ j < 2 ^ 62) ∧ R (Itr i (j - i).toNat) H1) := ⟨r_iRng2⟩
instance {C : Addr} {sp : Sp} {dvs : List V} : Stp (tMkV C sp dvs tr σ H Q) (tr σ H fun vs H1 => MkV C sp dvs vs H1 Q) := ⟨r_mkV⟩
instance : Stp (tDNewK σ H Q) (NewDK [] H Q) := ⟨r_dnewK⟩
instance {rc : List V → Hp → VK → Prop} : Stp (tCB rc tr σ H Q) (tr σ H fun vs H1 => rc vs H1 Q) := ⟨r_cb⟩
instance : Stp (tTest te σ H QB) (te σ H fun x H' => ∃ k, x = .bl k ∧ QB k H') := ⟨r_test⟩
instance : Stp (tB te σ H QB) (te σ H fun x H' => ∃ k, x = .bl k ∧ QB k H') := ⟨r_tB⟩
instance {k : Bool} {A : Bool → Prop} : Stp (∃ k', V.bl k = .bl k' ∧ A k') (A k) := ⟨r_isv⟩
instance : Stp (tNot t σ H QB) (t σ H fun c H1 => QB (!c) H1) := ⟨r_not⟩
instance : Stp (tAnd t u σ H QB) (t σ H fun c H1 => if c = true then u σ H1 QB else QB false H1) := ⟨r_and⟩
instance : Stp (tOr t u σ H QB) (t σ H fun c H1 => if c = true then QB true H1 else u σ H1 QB) := ⟨r_or⟩
instance : Stp (tAndV ta tb σ H Q) (ta σ H fun x H1 => ∃ c, x = .bl c ∧ if c = true then tb σ H1 Q else Q (.bl false) H1) := ⟨r_andV⟩
instance : Stp (tOrV ta tb σ H Q) (ta σ H fun x H1 => ∃ c, x = .bl c ∧ if c = true then Q (.bl true) H1 else tb σ H1 Q) := ⟨r_orV⟩
instance : Stp (tNotV ta σ H Q) (ta σ H fun x H1 => ∃ c, x = .bl c ∧ Q (.bl (!c)) H1) := ⟨r_notV⟩
instance : Stp (tChain r r' ta tb tc σ H Q) (ta σ H fun x H1 => tb σ H1 fun y H2 => r x y H2 fun z H3 => ∃ k, z = .bl k ∧ (if k = true then tc σ H3 fun w' H4 => r' y w' H4 Q else Q (.bl false) H3)) := ⟨r_chain⟩
instance : Stp (tIf t ta tb σ H Q) (t σ H fun c H1 => if c = true then ta σ H1 Q else tb σ H1 Q) := ⟨r_ifE⟩
instance : Stp (tLst tr σ H Q) (tr σ H fun xs H1 => NewL xs H1 Q) := ⟨r_lst⟩
instance : Stp (tTup tr σ H Q) (tr σ H fun xs H1 => NewT xs H1 Q) := ⟨r_tup⟩
instance {to ti : TE} {ts : TSet} {Qs : L2.St → Hp → Prop} : Stp (gSub to ti ts v σ H Qs) (to σ H fun o H1 => ti σ H1 fun i H2 => ts o i v H2 fun H3 => Qs σ H3) := ⟨r_gSub⟩
instance {T : String} {rm : V → List V → Hp → VK → Prop} {to : TE} : Stp (tBM K T rm to tr σ H Q) (to σ H fun x H1 => tyV K T x H1 ∧ tr σ H1 fun xs H2 => rm x xs H2 Q) := ⟨r_bm⟩
instance {rm : V → List V → Hp → VK → Prop} {to : TE} : Stp (tM1 rm to te σ H Q) (to σ H fun x H1 => (∃ a, x = .str a) ∧ te σ H1 fun y H2 => rm x [y] H2 Q) := ⟨r_m1⟩
instance {r : V → Option Int → Option Int → Hp → VK → Prop} {tl th : TO} : Stp (tSl r te tl th σ H Q) (te σ H fun x H1 => tl σ H1 fun l H2 => th σ H2 fun u H3 => r x l u H3 Q) := ⟨r_sl⟩
instance {QO : Option Int → Hp → Prop} : Stp (tNoPart σ H QO) (QO none H) := ⟨r_noPart⟩
instance {QO : Option Int → Hp → Prop} : Stp (tPart te σ H QO) (te σ H fun x H1 => ∃ i, x = .int i ∧ QO (some i) H1) := ⟨r_part⟩
instance {i : Int} {A : Int → Prop} : Stp (∃ i', V.int i = .int i' ∧ A i') (A i) := ⟨r_isi⟩
end
section
variable {σ : L2.St} {H : Hp} {Q : List (V × V) → Hp → Prop}
instance : Stp (tPairs [] σ H Q) (Q [] H) := ⟨fun q => q⟩
instance {tk tv : TE} {r : List (TE × TE)} : Stp (tPairs ((tk, tv) :: r) σ H Q) (tk σ H fun x H1 => tv σ H1 fun y H2 => tPairs r σ H2 fun ps H3 => Q ((x, y) :: ps) H3) := ⟨fun q => q⟩
end
section
variable {A B : Prop}
instance : Stp (if true = true then A else B) A := ⟨iteT⟩
instance : Stp (if false = true then A else B) B := ⟨iteF⟩
instance : Stp (if (!true) = true then A else B) B := ⟨iteNF⟩
instance : Stp (if (!false) = true then A else B) A := ⟨iteNT⟩
end
end Bk

namespace Bk
open PySem PySem.Spec PyProof.Rows L2
/-! ## 26. isinstance of what an except suite holds -/
def rIsH (K : PySem.W.Frag) (a : Addr) (cls : Value) (d : Option Addr) (C : Addr) : List V → Hp → VK → Prop := fun xs H Q => ∃ (c : V) (u : Value) (b : Bool) (dd : Addr) (fs : List (Str × V)), xs = [.ref a, c] ∧ cls = .ref C ∧ d = some dd ∧ H dd = some (.xd fs) ∧ ClsV c u ∧ PySem.W.kitOne K (.ref C) u = some b ∧ Q (.bl b) H
def rIsH2 (K : PySem.W.Frag) (a : Addr) (cls : Value) (d : Option Addr) (C : Addr) : List V → Hp → VK → Prop := fun xs H Q => ∃ (tp : Addr) (cs : List V) (us : List Value) (b : Bool) (dd : Addr) (fs : List (Str × V)), xs = [.ref a, .ref tp] ∧ cls = .ref C ∧ d = some dd ∧ H dd = some (.xd fs) ∧ H tp = some (.tup cs) ∧ Paired ClsV cs us ∧ PySem.W.kitAny K (.ref C) us = some b ∧ Q (.bl b) H
section
variable {X : Cx} {a C : Addr} {oe : Obj} {cls : Value} {d : Option Addr} {pn : List (Addr × Obj)}
end
section
variable {K : PySem.W.Frag} {a C : Addr} {cls : Value} {d : Option Addr} {H : Hp} {Q : VK}
end
theorem call_list_ofK {X : Cx} {K : PySem.W.Frag} (h : X.K = K) : CallR X (.type "list") (fun xs H Q => ∃ p ys, xs = [.ref p] ∧ (SqL K H p ys ∨ SqT K H p ys) ∧ ∀ l, H l = none → Q (.ref l) (upd H l (.lst ys))) := by
  subst h
  exact call_list_of
/-- all that is asked of an own exception class -/
structure ExcA (K : PySem.W.Frag) (b : Bs) (nm : Str) (C f : Addr) : Prop where
  ox : OexT K b C
  i : PySem.W.findIn K (.ref C) "__init__" = some (some (.ref f))
  t : PySem.W.typeIn K (.ref f) = some (.type "function")
  nf : PySem.W.findIn K (.ref C) nm = some none
  xf : XfC K C
  xc : ExcC K C
/-! ## 26a. comprehensions that lay new things -/
section
variable {K : PySem.W.Frag} {σ : L2.St} {H : Hp} {Q : VK} {j : Nat} {vs : List Nat} {te tl : TE} {a : Addr} {xs : List V}
theorem lcNewL (c : Nat → HO) (hv : ∀ QQ : VK, QQ (.ref a) H → tl σ H QQ) (hs : SqL K H a xs) (hl : xs.length ≤ 10000) (hw : ∀ x, wipe ((wipe σ vs).set j (some x)) vs = wipe σ vs)
    (ht : ∀ (i : Nat) (y : V) (H1 : Hp) (Q' : VK), xs[i]? = some y → Same H H1 → (∀ t H3, H1 t = none → Same H1 H3 → H3 t = some (c i) → Q' (.ref t) H3) → te ((wipe σ vs).set j (some y)) H1 Q')
    (q : ∀ D H' (ts : List Addr), H D = none → Same H H' → H' D = some (.lst (ts.map V.ref)) → ts.length = xs.length → (∀ k t, ts[k]? = some t → H' t = some (c k)) → (D :: ts).Nodup → (∀ t ∈ ts, H t = none) → Q (.ref D) H') :
    tLc (iList K tl) (gName j) tYes te vs σ H Q := by
  refine hv _ ⟨a, rfl, ⟨xs, hs⟩, fun D hD => ?_⟩
  refine lc_new (g := gName j) (te := te) (vs := vs) (σ := σ) (Q := Q) walk_list c hD hl (fun _ s => s.seq hs) (fun i x H1 H2 Q' R' hi sm y k => ?_) fun H' ts s e l all nd fr => q D H' ts hD s e l all nd fr
  obtain ⟨rfl, hx⟩ := y
  exact ⟨hw _, r_yes (ht i x H2 Q' hx sm k)⟩
end
/-! ## 27. a count -/
def countV (x : V) : Bool := match x with
  | .int i => decide (0 ≤ i)
  | _ => false
/-- a thing of which isinstance(.., int) is known -/
def WC (K : PySem.W.Frag) (H : Hp) (x : V) : Prop := (∃ i, x = .int i) ∨ (∃ b, x = .bl b) ∨ (IsA K H x "int" false ∧ (∀ l h, wholeV x l h = false) ∧ countV x = false)
def spCount (K : PySem.W.Frag) : Sp := fun vs H Q _ => ∃ x : V, vs = [x] ∧ WC K H x ∧ Q (.bl (countV x)) H
def spCheckN (K : PySem.W.Frag) (C : Addr) : Sp := fun vs H Q E => ∃ (x : V) (lo hi : Int), vs = [x, .int lo, .int hi] ∧ WD K H x ∧ ((wholeV x lo hi = true ∧ Q .non H) ∨ (wholeV x lo hi = false ∧ Refuse C x H E))
def spCheckC (K : PySem.W.Frag) (C : Addr) : Sp := fun vs H Q E => ∃ x : V, vs = [x] ∧ WC K H x ∧ ((countV x = true ∧ Q .non H) ∨ (countV x = false ∧ Refuse C x H E))
end Bk

namespace Bk
open PySem PySem.Spec PyProof.Rows L2
/-! ## 28. return [tag, e.f, isinstance(e, G) and not isinstance(e, (B1, B2))] -/
def tHit (K : PySem.W.Frag) (i : Nat) (C G B1 B2 : Addr) (tag nm : Str) (a : Addr) (cls : Value) (d : Option Addr) : TS :=
  tRet (tLstB (tCons (tC (.str tag)) (tCons (tXf a cls d C nm (tVar i)) (tCons (tAndV (tCB (rIsH K a cls d C) (tCons (tVar i) (tCons (tC (.ref G)) tNil)))
    (tNotV (tCB (rIsH2 K a cls d C) (tCons (tVar i) (tCons (tTup (tCons (tC (.ref B1)) (tCons (tC (.ref B2)) tNil))) tNil))))) tNil))))
/-! ## 29. things of a known depth -/
section
variable {b : Bool} {K : PySem.W.Frag} {H H' : Hp} {v : V} {a : Addr} {xs : List V}
def ItD (b : Bool) (K : PySem.W.Frag) (H : Hp) (m k : Nat) (v : V) : Prop := ∃ d, Dq b K H v d ∧ smQ d = true ∧ d.bulk ≤ m ∧ d.depth ≤ k
theorem ItD.q {m k : Nat} (h : ItD b K H m k v) (l : k ≤ 20) : ItQ b K H m v := let ⟨d, h1, h2, h3, h4⟩ := h; ⟨d, h1, h2, h3, by omega⟩
end
section
variable {b : Bool} {K : PySem.W.Frag} {H H' : Hp} {v : V} {a : Addr} {xs : List V}
end
/-! ## 30. odd things -/
/-- a thing that is no number of any use; fp: its lists; m: how many things a list of it has at most -/
inductive OddV (H : Hp) (m : Nat) : List Addr → V → Prop
  | sc {v : V} (h : smS v = true) (hw : ∀ lo hi, 0 ≤ lo → wholeV v lo hi = false) (hc : countV v = false) : OddV H m [] v
  | tup {a : Addr} {xs : List V} (e : H a = some (.tup xs)) (h : ∀ y ∈ xs, smS y = true) (l : xs.length ≤ 5) : OddV H m [] (.ref a)
  | dK {a : Addr} {kvs : List (Key × V)} (e : H a = some (.dK kvs)) (h : ∀ q ∈ kvs, smS (kV q.1) = true ∧ smS q.2 = true) (l : kvs.length ≤ 5) : OddV H m [] (.ref a)
  | lst {a : Addr} {xs : List V} {fp : List Addr} (e : H a = some (.lst xs)) (ns : a ≠ sysModules) (l : xs.length ≤ m) (h : ∀ y ∈ xs, smS y = true ∨ ∃ c ∈ fp, y = .ref c) (na : a ∉ fp) (hf : ∀ c ∈ fp, c ≠ sysModules ∧ ∃ ys, H c = some (.lst ys) ∧ (∀ y ∈ ys, smS y = true) ∧ ys.length ≤ 5) : OddV H m (a :: fp) (.ref a)
section
variable {K : PySem.W.Frag} {H H' : Hp} {m n : Nat} {fp : List Addr} {v : V} {bx : Addr}
end
end Bk

namespace Bk
open PySem PySem.Spec PySem.Calls PyProof.Rows L2
/-! ## 31. own exceptions made with keywords, as values -/
section
variable {M : Model} {prog : Program} {w : World} {A : Around} {E : Value → Shared → Prop} {R : Result → Shared → Prop} {h : Heap} {g : Array GenState} {d : Drawn} {t : Nat} {os : OsState}
variable {nm q : Str} {C N : Addr} {bs bm bmB : List Value} {hdct : Bool} {sn : List Str} {sub : List Value} {ab : Bool} {col : Option Bool} {dd : Option Addr} {k0 k1 k2 k3 k5 : Option Value} {B newId i0 IB initId : String} {rest : List Value}
variable {kw : List (Str × Value)}
end
end Bk

namespace Bk
open PySem PySem.Spec PySem.Calls PyProof.Rows L2
/-! ## 32. own exceptions as values -/
section
open Builtin Builtin.ObjectAttr
variable {prog : Program} {w : World} {A : Around} {E : Value → Shared → Prop} {R : Result → Shared → Prop} {hp : Heap} {g : Array GenState} {d : Drawn} {t : Nat} {os : OsState}
end
section
variable {X : Cx} {pins : List (Addr × Obj)} {σ : L2.St} {H : Hp} {s : Shared} {a C dx : Addr} {f : Str} {y : V} {u : Value} {b : Bs} {fs : List (Str × V)} {Q : Unit → Shared → Prop} {E : Value → Shared → Prop} {A : Around}
end
/-- self.f = e, a further one -/
def tOsO (K : PySem.W.Frag) (f : Str) (to te : TE) : TS := fun D σ H => te σ H fun y H1 => to σ H1 fun x H2 => ∃ (b : Bs) (a C dx : Addr) (fs : List (Str × V)), x = .ref a ∧ OexT K b C ∧ PySem.W.findIn K (.ref C) f = some none ∧
  H2 a = some (exo a C (some dx)) ∧ H2 dx = some (exd dx fs) ∧ fs.length ≤ 900 ∧ D.nx σ (upd H2 dx (exd dx ((f, y) :: fs)))
/-- C(..), C an own exception class: a value -/
structure CalO (P : Program) (w : World) (K : PySem.W.Frag) (mg : Str → Option Value) (base : Heap) (k n : Nat) (ks : List Str) (C : Addr) (x : Str) (sp : Sp) (gV : List V → List V → List V) : Prop where
  ex : ∃ (b : Bs) (fI : Addr) (fd : FuncData) (ps : List Str) (g : List Value → List Value → List Value), OexT K b C ∧ PySem.W.findIn K (.ref C) "__init__" = some (some (.ref fI)) ∧ PySem.W.typeIn K (.ref fI) = some (.type "function") ∧ FnOk P w K mg base CX0 k fI fd ps sp ∧ KBn K fd ps (n + 1) ks g gV ∧ mg x = some (.ref C)
def tMkO1 (C : Addr) (n m : Nat) (sp : Sp) (gV : List V → List V → List V) (t tk : TA) : TE := fun σ H Q => t σ H fun vs H1 => tk σ H1 fun zs H2 => vs.length = n ∧ zs.length = m ∧ n ≤ 1000 ∧ ∀ a, H2 a = none →
  sp (gV (.ref a :: vs) zs) (upd H2 a (exo a C none)) (fun v H3 => v = .non ∧ Q (.ref a) H3) (fun _ _ _ => False)
section
variable {X : Cx} {k j n : Nat} {ks : List Str} {C : Addr} {x : Str} {sp : Sp} {gV : List V → List V → List V} {t tk : TA} {e : Expr} {es : List Expr} {kws : List Keyword} {p pos : Pos}
end
section
variable {σ : L2.St} {H : Hp} {Q : VK} {C : Addr} {n m : Nat} {sp : Sp} {gV : List V → List V → List V} {t tk : TA}
end
/-- at a: an exception of the class at D; its own dict, if it has one, holds fs -/
def XVo (H : Hp) (a D : Addr) (d : Option Addr) (fs : List (Str × V)) : Prop := H a = some (exo a D d) ∧ match d with
  | none => fs = []
  | some dx => H dx = some (exd dx fs)
def rIsV (K : PySem.W.Frag) : List V → Hp → VK → Prop := fun xs H Q => ∃ (a D : Addr) (d : Option Addr) (fs : List (Str × V)) (c : V) (u : Value) (b : Bool), xs = [.ref a, c] ∧ XVo H a D d fs ∧ ExcC K D ∧ ClsV c u ∧ PySem.W.kitOne K (.ref D) u = some b ∧ Q (.bl b) H
def tXv (K : PySem.W.Frag) (f : Str) (te : TE) : TE := fun σ H Q => te σ H fun x H1 => ∃ (a D dx : Addr) (fs : List (Str × V)) (v : V), x = .ref a ∧ XV H1 a D dx fs ∧ XfC K D ∧ PySem.W.findIn K (.ref D) f = some none ∧ fs.lookup f = some v ∧ Q v H1
end Bk

namespace Bk
open PySem PySem.Spec PyProof.Rows L2
/-! ## 33. l.remove(x) of data -/
def rRemD (K : PySem.W.Frag) : V → List V → Hp → VK → Prop := fun x vs H Q => ∃ (l : Addr) (xs : List V) (ds : List PyData) (y : V) (d : PyData) (j : Nat), x = .ref l ∧ vs = [y] ∧ H l = some (.lst xs) ∧ DpAll K H xs ds ∧ Dp K H y d ∧
  PyData.plainAll ds = true ∧ d.plain = true ∧ d.depth ≤ 60 ∧ SeqAt.dataPlace ds d = some j ∧ Q .non (upd H l (.lst (xs.eraseIdx j)))
end Bk

namespace Bk
open PySem PySem.Spec PyProof.Rows L2
/-! ## 34. a list of asks, tuples of a name and a number -/
def askD (p : Str × Nat) : PyData := .tuple [.str p.1, .int p.2]
structure AL (H : Hp) (l : Addr) (ts : List Addr) (as : List (Str × Nat)) : Prop where
  at_ : H l = some (.lst (ts.map V.ref))
  len : ts.length = as.length
  row : ∀ (k : Nat) (t : Addr) (p : Str × Nat), ts[k]? = some t → as[k]? = some p → H t = some (.tup [.str p.1, .int p.2])
def asOk (as : List (Str × Nat)) : Prop := ∀ p ∈ as, PyData.strOk p.1 = true
section
variable {K : PySem.W.Frag} {H H' : Hp} {l : Addr} {ts : List Addr} {as : List (Str × Nat)}
end
end Bk

namespace Bk
open PySem PySem.Spec PyProof.Rows L2
/-! ## 34. l.count(x) of data, a text times a number -/
def rCntD (K : PySem.W.Frag) : V → List V → Hp → VK → Prop := fun x vs H Q => ∃ (l : Addr) (xs : List V) (ds : List PyData) (y : V) (d : PyData), x = .ref l ∧ vs = [y] ∧ H l = some (.lst xs) ∧ DpAll K H xs ds ∧ Dp K H y d ∧
  PyData.plainAll ds = true ∧ d.plain = true ∧ d.depth ≤ 60 ∧ Q (.int (ds.countP (fun z => PyData.eqv z d) : Nat)) H
/-- len of an own object -/
def rLenO (C : Addr) (sp : Sp) : List V → Hp → VK → Prop := fun xs H Q => ∃ (a dx : Addr) (fs : List (Str × V)), xs = [.ref a] ∧ H a = some (.ins C dx fs) ∧ sp [.ref a] H (fun v H' => ∃ n : Nat, v = .int n ∧ (n : Int) < 2 ^ 63 ∧ Q v H') E0
end Bk

namespace Bk
open PySem PySem.Spec PyProof.Rows L2
/-! ## 35. names, dicts by names -/
def allW (f l : Nat) (z : Str) : Bool := z.cps.toList.all fun c => decide (f ≤ c) && decide (c ≤ l)
def spAllW : Sp := fun vs H Q _ => ∃ (z F L : Str) (f l : Nat), vs = [.str z, .str F, .str L] ∧ F.cps.toList = [f] ∧ L.cps.toList = [l] ∧ z.length ≤ 1000 ∧ ∀ H', Same H H' → Q (.bl (allW f l z)) H'
def nameOk (z : Str) : Bool := decide (1 ≤ z.length ∧ z.length ≤ 8) && allW 97 122 z
def spName (K : PySem.W.Frag) : Sp := fun vs H Q _ => ∃ x : V, vs = [x] ∧ ((∃ z : Str, x = .str z ∧ z.length ≤ 1000 ∧ ∀ H', Same H H' → Q (.bl (nameOk z)) H') ∨ (IsA K H x "str" false ∧ Q (.bl false) H))
theorem rng_get {α : Type} (d : α) (l : List α) : (List.range l.length).map (fun i => l.getD i d) = l := by
  refine List.ext_getElem (by rw [List.length_map, List.length_range]) fun i h1 h2 => ?_
  rw [List.getElem_map, List.getElem_range, List.getD_eq_getElem?_getD, List.getElem?_eq_getElem h2]
  rfl
theorem rng_fm {α β : Type} (d : α) (l : List α) (f : α → Option β) : (List.range l.length).filterMap (fun i => f (l.getD i d)) = l.filterMap f := by
  conv => rhs; rw [← rng_get d l]
  rw [List.filterMap_map]
  rfl
section
variable {K : PySem.W.Frag} {σ : L2.St} {H : Hp} {Q : VK} {j : Nat} {vs : List Nat} {tt : TT} {te tl : TE} {a : Addr} {xs : List V}
theorem lcLF (p : Nat → Option V) (hv : ∀ QQ : VK, QQ (.ref a) H → tl σ H QQ) (hs : SqL K H a xs) (hl : xs.length ≤ 10000) (hw : ∀ x, wipe ((wipe σ vs).set j (some x)) vs = wipe σ vs)
    (ht : ∀ (i : Nat) (y : V) (H1 : Hp) (Q' : VK) (R' : Hp → Prop), xs[i]? = some y → Same H H1 → (∀ v, p i = some v → ∀ H3, Same H1 H3 → Q' v H3) → (p i = none → ∀ H3, Same H1 H3 → R' H3) →
      tt ((wipe σ vs).set j (some y)) H1 fun b H4 => if b = true then te ((wipe σ vs).set j (some y)) H4 Q' else R' H4)
    (q : ∀ D H', H D = none → Same H H' → H' D = some (.lst ((List.range xs.length).filterMap p)) → Q (.ref D) H') : tLc (iList K tl) (gName j) tt te vs σ H Q := by
  refine hv _ ⟨a, rfl, ⟨xs, hs⟩, fun D hD => ?_⟩
  refine lc_by (g := gName j) (tt := tt) (te := te) (vs := vs) (σ := σ) (Q := Q) walk_list p hD hl (fun _ s => s.seq hs) (fun i x H1 H2 Q' R' hi sm y h1 h2 => ?_) fun H' s e => q D H' hD s e
  obtain ⟨rfl, hx⟩ := y
  exact ⟨hw _, ht i x _ Q' R' hx sm h1 h2⟩
end
theorem units65 {k : Nat} {A : Around} (r : Room k A) : A.units + 65 < cLine := by
  have := r.un
  omega
theorem r_while {c : TT} {tb : TS} {D : Ends} {σ : L2.St} {H : Hp} (W : Nat → L2.St → Hp → Prop) (h0 : ∃ m, W m σ H) (hs : ∀ m σ H, W m σ H → c σ H fun b H1 => if b = true then ∃ N : L2.St → Hp → Prop, (∀ σ' H', N σ' H' → ∃ m', m' < m ∧ W m' σ' H') ∧ tb { D with nx := N, ct := N, bk := D.nx } σ H1 else D.nx σ H1) : tWhile c tb D σ H := ⟨W, h0, hs⟩
theorem units1 {k : Nat} {A : Around} (r : Room k A) : A.units + 1 < cLine := by
  have := r.un
  omega
section
variable {K : PySem.W.Frag} {σ : L2.St} {H : Hp} {Q : VK} {j : Nat} {vs : List Nat} {tt : TT} {te tl : TE} {d : Addr} {kvs : List (Key × V)}
end
theorem eqv_nil {ds : List PyData} : PyData.eqv (.list ds) (.list []) = decide (ds = []) := by
  cases ds with
  | nil => rfl
  | cons a r => rfl
section
variable {σ : L2.St} {H : Hp} {Q : VK} {i j : Nat} {a b : Addr} {z x : Str} {kvs lvs : List (Key × V)} {y : V}
end
theorem ne_ct {H : Hp} {a b : Addr} {u w : HO} (h : H a = some u) (h2 : H b = some w) (n : u ≠ w) : a ≠ b := fun z => n (by rw [z, h2] at h; exact (Option.some.inj h).symm)
theorem r_dget2 {td ty tx : TE} {σ : L2.St} {H : Hp} {Q : VK} (h : td σ H fun x H1 => ∃ a, x = .ref a ∧ IsD H1 a ∧ ty σ H1 fun y H2 => tx σ H2 fun z H3 => ∃ o, DGet H3 a y o ∧ Q (o.getD z) H3) : tDGet2 td ty tx σ H Q := h
def lowS (z : Str) : Prop := ∀ c ∈ z.cps.toList, 97 ≤ c ∧ c ≤ 122
def one1 (z : Str) : Prop := lowS z ∧ z.length = 1
/-! ## 36. a dict by an order of names -/
def dicF (G : List Str) (f : Str → V) : List (Key × V) := G.map fun x => (.inr x, f x)
theorem dicF_get {f : Str → V} {x : Str} : ∀ {G : List Str}, valV (dicF G f) (.inr x : Key) = if x ∈ G then some (f x) else none
  | [] => rfl
  | a :: r => by
    have ih := dicF_get (f := f) (x := x) (G := r)
    by_cases c : a = x
    · rw [if_pos (by rw [c]; exact List.mem_cons_self)]
      refine (valV_pos (p := ((.inr a : Key), f a)) (by rw [c])).trans ?_
      rw [c]
    · refine (valV_neg (p := ((.inr a : Key), f a)) (fun z => c (by injection z))).trans ?_
      show valV (dicF r f) (.inr x) = _
      rw [ih]
      by_cases d : x ∈ r
      · rw [if_pos d, if_pos (List.mem_cons_of_mem _ d)]
      · rw [if_neg d, if_neg (fun z => (List.mem_cons.mp z).elim (fun w => c w.symm) d)]
theorem dicF_any {G : List Str} {f : Str → V} {x : Str} : ((dicF G f).any fun kv => decide (kv.1 = (.inr x : Key))) = decide (x ∈ G) := by
  rw [valV_any, dicF_get]
  by_cases c : x ∈ G
  · rw [if_pos c, decide_eq_true c]; rfl
  · rw [if_neg c, decide_eq_false c]; rfl
theorem dicF_put {G : List Str} {f : Str → V} {x : Str} {v : V} : putK (dicF G f) (.inr x : Key) v = dicF (if x ∈ G then G else G ++ [x]) (fun y => if y = x then v else f y) := by
  unfold putK
  rw [dicF_any]
  by_cases c : x ∈ G
  · rw [if_pos (decide_eq_true c), if_pos c]
    unfold dicF
    rw [List.map_map]
    refine List.map_congr_left fun y _ => ?_
    show (if (.inr y : Key) = .inr x then ((.inr y : Key), v) else (.inr y, f y)) = (.inr y, if y = x then v else f y)
    by_cases d : y = x
    · rw [if_pos (by rw [d]), if_pos d]
    · rw [if_neg (fun z => d (by injection z)), if_neg d]
  · rw [if_neg (by rw [decide_eq_false c]; exact Bool.false_ne_true), if_neg c]
    unfold dicF
    rw [List.map_append]
    congr 1
    · refine List.map_congr_left fun y hy => ?_
      show ((.inr y : Key), f y) = (.inr y, if y = x then v else f y)
      rw [if_neg (fun z => c (by rw [← z]; exact hy))]
    · show [((.inr x : Key), v)] = [(.inr x, if x = x then v else f x)]
      rw [if_pos rfl]
theorem dicF_congr {G : List Str} {f g : Str → V} (h : ∀ x ∈ G, f x = g x) : dicF G f = dicF G g := List.map_congr_left fun x hx => by rw [h x hx]
end Bk

namespace Bk
open PySem PySem.Spec PyProof.Rows L2
/-! ## 36. dicts walked by their values; dict comprehensions -/
section
variable {K : PySem.W.Frag} {σ : L2.St} {H : Hp} {Q : VK} {vs : List Nat} {g : TG} {tt : TT} {te tl : TE} {d : Addr} {kvs : List (Key × V)}
end
end Bk

namespace Bk
open PySem PySem.Spec PyProof.Rows L2
/-! ## 37. a comprehension over a list of names, some left out as drawn -/
section
variable {K : PySem.W.Frag} {σ : L2.St} {H H0 : Hp} {Q : VK} {j : Nat} {vs : List Nat} {tt : TT} {te tl : TE} {a bx : Addr} {M : List Str} {m : Nat} {q : Str}
end
/-! ## 38. a list of names as data -/
def strD (l : List Str) : PyData := .list (l.map PyData.str)
theorem sh_nil : SeqAt.shaped (.list []) = true := by decide +kernel
end Bk

namespace Bk
open PySem PySem.Spec PyProof.Rows L2
/-! ## 39. dicts made of pairs -/
theorem dicF_merge {f : Str → V} : ∀ {M G : List Str}, (G ++ M).Nodup → mergeK (dicF G f) (dicF M f) = dicF (G ++ M) f
  | [], G, _ => by rw [List.append_nil]; rfl
  | a :: r, G, h => by
    have ha : a ∉ G := fun z => (List.nodup_append.mp h).2.2 a z a List.mem_cons_self rfl
    have e : putK (dicF G f) (.inr a : Key) (f a) = dicF (G ++ [a]) f := by
      rw [dicF_put, if_neg ha]
      refine dicF_congr fun y _ => ?_
      by_cases c : y = a
      · rw [if_pos c, c]
      · rw [if_neg c]
    show mergeK (putK (dicF G f) (.inr a : Key) (f a)) (dicF r f) = _
    rw [e]
    have h2 : ((G ++ [a]) ++ r).Nodup := by rw [List.append_assoc]; exact h
    rw [dicF_merge h2, List.append_assoc]
    rfl
theorem dicF_new {f : Str → V} {M : List Str} (h : M.Nodup) : mergeK [] (dicF M f) = dicF M f := dicF_merge (G := []) h
section
variable {J : It} {G : Hp → Prop} {Y : Nat → Hp → V → Hp → Prop} {te : TE} {vs : List Nat} {σ : L2.St} {H : Hp} {D : Addr} {Q : VK} {M : List Str} {j : Nat}
end
/-! ## 40. a dict of pairs of a name and a drawn number -/
section
variable {K : PySem.W.Frag} {σ : L2.St} {H : Hp} {Q : VK} {j : Nat} {vs : List Nat} {te tl : TE} {a bx : Addr} {M : List Str} {m : Nat}
end
end Bk

namespace Bk
open PySem PySem.Spec PyProof.Rows L2
/-! ## 41. C(k = e, ..) -/
structure CalCK (P : Program) (w : World) (K : PySem.W.Frag) (mg : Str → Option Value) (base : Heap) (CX : CXT) (k : Nat) (ks : List Str) (C : Addr) (x : Str) (sp : Sp) (gV : List V → List V → List V) : Prop where
  ex : ∃ (f : Addr) (fd : FuncData) (ps : List Str) (g : List Value → List Value → List Value), Mk K C f ∧ FnOk P w K mg base CX k f fd ps sp ∧ KBn K fd ps 1 ks g gV ∧ mg x = some (.ref C)
def tMkK (C : Addr) (j : Nat) (sp : Sp) (gV : List V → List V → List V) (E : L2.St → XK) (tk : TA) : TE := fun σ H Q => tk σ H fun zs H1 => zs.length = j ∧ ∀ x dx, H1 x = none → H1 dx = none → dx ≠ x →
  sp (gV [.ref x] zs) (upd (upd H1 dx (.own x)) x (.ins C dx [])) (fun v H2 => v = .non ∧ Q (.ref x) H2) (E σ)
section
variable {X : Cx} {CX : CXT} {k j n : Nat} {ks : List Str} {f C : Addr} {fd : FuncData} {ps : List Str} {sp : Sp} {E : L2.St → XK} {x m : Str} {p pos apos : Pos} {e o : Expr} {es : List Expr} {kws : List Keyword} {ta : TE} {t tk : TA} {gV : List V → List V → List V} {g : List Value → List Value → List Value}
end
end Bk

namespace Bk
open PySem PySem.Spec PyProof.Rows L2
/-! ## 42. what a locked dict leaves behind -/
section
variable {H H' : Hp} {d bx : Addr} {kvs : List (Key × V)} {od : Obj}
end
/-! ## 43. comprehensions over a locked dict that lay new things -/
section
variable {K : PySem.W.Frag} {σ : L2.St} {H : Hp} {Q : VK} {j : Nat} {vs : List Nat} {g : TG} {tt : TT} {te tl : TE} {d bx : Addr} {kvs : List (Key × V)}
/-- tuples stay -/
def TS (H H' : Hp) : Prop := ∀ a xs, H a = some (.tup xs) → H' a = some (.tup xs)
theorem Same.ts {H H' : Hp} (s : Same H H') : TS H H' := fun _ _ e => s _ _ e
theorem TS.trans {A B C : Hp} (a : TS A B) (b : TS B C) : TS A C := fun x xs e => b x xs (a x xs e)
section
variable {J : It} {n : Nat} {G : Hp → Prop} {Y : Nat → Hp → V → Hp → Prop} {D : Addr}
end
end
section
variable {J : It} {G : Hp → Prop} {Y : Nat → Hp → V → Hp → Prop} {g : TG} {te tl : TE} {vs : List Nat} {σ : L2.St} {H : Hp} {D d : Addr} {Q : VK} {M : List Str}
end
/-! ## 44. a comprehension over a locked dict by names, some left out as drawn -/
section
variable {K : PySem.W.Frag} {σ : L2.St} {H : Hp} {Q : VK} {j m : Nat} {vs : List Nat} {tt : TT} {te tl : TE} {d bx : Addr} {M : List Str} {f : Str → V}
end
end Bk

namespace Bk
open PySem PySem.Spec PyProof.Rows L2
/-! ## 45. no thing of ours stands where the modules' dict does -/
/-! ## 46. != of what is data or plain -/
def rNeS (K : PySem.W.Frag) : R2 := fun x y H Q => rNe x y H Q ∨ rNeD K x y H Q
/-! ## 47. slices of a list or a tuple -/
def rSlQ (K : PySem.W.Frag) : V → Option Int → Option Int → Hp → VK → Prop := fun x lo hi H Q => rSlL K x lo hi H Q ∨ rSlA K x lo hi H Q
/-! ## 48. a comprehension over a list or a tuple -/
def SqA (K : PySem.W.Frag) (H : Hp) (a : Addr) (xs : List V) : Prop := SqL K H a xs ∨ SqT K H a xs
section
variable {K : PySem.W.Frag} {σ : L2.St} {H : Hp} {Q : VK} {g : TG} {tt : TT} {te tl : TE} {vs : List Nat} {a : Addr} {xs : List V}
theorem lcQ (p : Nat → Option V) (hs : SqA K H a xs) (hl : xs.length ≤ 10000) (hv : ∀ QQ : VK, QQ (.ref a) H → tl σ H QQ)
    (ht : ∀ i x (H1 : Hp) (Q' : VK) (R' : Hp → Prop), xs[i]? = some x → Same H H1 → (∀ v, p i = some v → ∀ H3, Same H1 H3 → Q' v H3) → (p i = none → ∀ H3, Same H1 H3 → R' H3) →
      g x (wipe σ vs) H1 fun τ H3 => wipe τ vs = wipe σ vs ∧ tt τ H3 fun b H4 => if b = true then te τ H4 Q' else R' H4)
    (q : ∀ D H', H D = none → Same H H' → H' D = some (.lst ((List.range xs.length).filterMap p)) → Q (.ref D) H') : tLc (iSeqA K tl) g tt te vs σ H Q := by
  refine hv _ ⟨a, xs, rfl, ?_⟩
  rcases hs with hs | hs
  · refine .inl ⟨hs, fun D hD => ?_⟩
    exact lc_by (walk_list (xs := xs)) p hD hl (fun H' s => Same.seq s hs) (fun i x H1 H2 Q' R' hi sm y h1 h2 => by
      obtain ⟨rfl, hx⟩ := y
      exact ht i x _ Q' R' hx sm h1 h2) fun H' s e => q D H' hD s e
  · refine .inr ⟨hs, fun D hD => ?_⟩
    exact lc_by (walk_tup (xs := xs)) p hD hl (fun H' s => seqT s hs) (fun i x H1 H2 Q' R' hi sm y h1 h2 => by
      obtain ⟨rfl, hx⟩ := y
      exact ht i x _ Q' R' hx sm h1 h2) fun H' s e => q D H' hD s e
end
end Bk

namespace Bk
open PySem PySem.Spec PyProof.Rows L2 HT
/-! ## 49. xs[i:j] = ys, j beyond the end too -/
section
variable {prog : Program} {w : World} {A : Around} {E : Value → Shared → Prop} {s : Shared}
end
section
variable {X : Cx}
/-- xs[i:j] = .. as a target -/
def gCut (to : TE) (tl th : TO) : TG := fun v σ H Q => to σ H fun o H1 => tl σ H1 fun a H2 => th σ H2 fun c H3 => ∃ (p q : Addr) (xs ys : List V) (i j : Nat), o = .ref p ∧ v = .ref q ∧ a = some (i : Int) ∧ c = some (j : Int) ∧ H3 p = some (.lst xs) ∧ H3 q = some (.lst ys) ∧ p ≠ q ∧ i ≤ j ∧ i ≤ xs.length ∧ xs.length + ys.length ≤ sizeLine ∧ Q σ (upd H3 p (.lst (xs.take i ++ ys ++ xs.drop j)))
end
end Bk

namespace Bk
open PySem PySem.Spec PyProof.Rows L2
/-! ## 50. the text of a list whose things have dicts among them, wherever lists stand -/
inductive EachQ (K : PySem.W.Frag) (H : Hp) : List V → List PyData → Prop
  | nil : EachQ K H [] []
  | cons {b : Bool} {v : V} {vs : List V} {d : PyData} {ds : List PyData} : Dq b K H v d → EachQ K H vs ds → EachQ K H (v :: vs) (d :: ds)
def ShL (K : PySem.W.Frag) (H : Hp) (v : V) (z : Str) : Prop := ∃ p vs ds, v = .ref p ∧ vs ≠ [] ∧ SqL K H p vs ∧ EachQ K H vs ds ∧ (PyData.list ds).showable = true ∧ (PyData.list ds).shown.length ≤ sizeLine ∧ (PyData.list ds).depth ≤ 60 ∧ z = (PyData.list ds).shown
section
variable {X : Cx} {pins : List (Addr × Obj)} {σ : L2.St} {H : Hp} {s : Shared}
end
end Bk

namespace Bk
open PySem PySem.Spec PyProof.Rows L2
/-! ## 51. a, b = a list, in a comprehension; a def that keeps two words -/
theorem _root_.L2.FnOk.or {P : Program} {w : World} {K : PySem.W.Frag} {mg : Str → Option Value} {base : Heap} {CX : CXT} {k : Nat} {f : Addr} {fd : FuncData} {ps : List Str} {sp sq : Sp} (F : FnOk P w K mg base CX k f fd ps sp) (G : FnOk P w K mg base CX k f fd ps sq) :
    FnOk P w K mg base CX k f fd ps (fun vs H Q E => sp vs H Q E ∨ sq vs H Q E) :=
  ⟨fun vs H Q E h => h.elim (F.len vs H Q E) (G.len vs H Q E), fun A outer s H args us vs Q E hr he hb hv hs => hs.elim (F.run A outer s H args us vs Q E hr he hb hv) (G.run A outer s H args us vs Q E hr he hb hv)⟩
end Bk

namespace Bk
open PySem PySem.Spec PyProof.Rows L2
/-! ## 52. texts in parts and together -/
/-- signs that repr can tell shortly -/
def okS (z : Str) : Prop := ∀ c ∈ z.cps.toList, c < 1114112
/-- a text so many times -/
def mulS (z : Str) (n : Nat) : Str := ⟨(List.replicate n z.cps).foldl (fun x y => x ++ y) #[]⟩
/-! ## 53. enumerate(list, start=0) -/
def iEnumK (K : PySem.W.Frag) (ta tk : TA) : TI := fun σ H R => ta σ H fun vs H1 => tk σ H1 fun zs H2 => ∃ a xs, vs = [.ref a] ∧ zs = [.int 0] ∧ SqL K H2 a xs ∧ R (Ite K a) H2
section
variable {X : Cx} {e e2 : Expr} {ta tk : TA} {p pos tpos : Pos} {elts : List Expr} {kk : Nat} {kws : List Keyword}
end
/-! ## 54. data in a tuple of data -/
def rInDT (K : PySem.W.Frag) : R2 := fun x y H Q => ∃ d ds, Dp K H x d ∧ Dp K H y (.tuple ds) ∧ d.plain = true ∧ PyData.plainAll ds = true ∧ d.depth ≤ 60 ∧ Q (.bl (ds.any fun z => z.eqv d)) H
theorem call_tuple_ofK {X : Cx} {K : PySem.W.Frag} (h : X.K = K) : CallR X (.type "tuple") (fun xs H Q => ∃ p ys, xs = [.ref p] ∧ ((SqL K H p ys ∧ ∀ l, H l = none → Q (.ref l) (upd H l (.tup ys))) ∨ (SqT K H p ys ∧ Q (.ref p) H))) := by
  subst h
  exact call_tuple_of
end Bk

namespace Bk
open PySem PySem.Spec PyProof.Rows L2
/-! ## 60. a set comprehension of numbers with two clauses -/
section
variable {Pr : Program} {Wd : World} {Ar : Around} {env : Env}
abbrev NoE : Value → Shared → Prop := fun _ _ => False
def testsAll (cs : List Expr) (env : Env) : Sem Bool := forIn cs true fun c b => if b = true then (isTrue c env (eval c env) >>= fun x => pure (ForInStep.yield x)) else pure (ForInStep.yield b)
/-- a comprehension of a set with two clauses -/
abbrev Sc2 (el t0 i0 t1 i1 : Expr) (c0 c1 : List Expr) (sc : Scope) (po : Pos) : Expr := .SetComp el [⟨t0, i0, c0, 0⟩, ⟨t1, i1, c1, 0⟩] sc po
/-- one turn of a clause: what comes, its store, its tests, then what stands behind them -/
def oneTurn (c : Code) (ip : Pos) (tg : Expr) (cs : List Expr) (it : Value) (env : Env) (th : Sem Fin) : Sem Fin :=
  standAt ip >>= fun _ => pyNext it >>= fun r => match r with
    | none => pure (.done .next)
    | some v => letOwnedTupleGo tg it v >>= fun _ => assign tg env v >>= fun _ => testsAll cs env >>= fun ok => if ok = true then th else again c
section
variable {el t0 i0 t1 i1 : Expr} {c0 c1 : List Expr} {sc : Scope} {po : Pos}
end
end
section
variable {Y : Cx} {el t0 i0 t1 i1 : Expr} {c0 c1 : List Expr} {sc : Scope} {po : Pos} {tg : Expr} {k : Nat} {ip : Pos} {cs : List Expr} {it : Addr} {acc : Value} {th : Sem Fin} {R : Result → Shared → Prop} {J : It} {fp : List Addr} {tn : Nat → Heap → Prop} {g : TG} {tt : TT} {pins : List (Addr × Obj)} {σ0 : L2.St} {vs : List Nat} {W : Nat → Nat → Hp → Prop} {Qd : Hp → Prop} {B : (Hp → Prop) → L2.St → Hp → Prop}
/-- what a turn that began with the slots σ0 leaves: at least these slots -/
def Left (Y : Cx) (pins : List (Addr × Obj)) (σ0 : L2.St) (N : Hp → Prop) (s : Shared) : Prop :=
  ∃ σ H, Inv Y pins σ H s ∧ σ0.length = σ.length ∧ (∀ (j : Nat) v, σ0[j]? = some (some v) → σ[j]? = some (some v)) ∧ N H
end
section
variable {Pr : Program} {Wd : World} {Ar : Around} {env : Env} {el t0 i0 t1 i1 : Expr} {c0 c1 : List Expr} {sc : Scope} {po : Pos} {it acc : Value}
end
section
variable {Pr : Program} {Wd : World} {Ar : Around} {env : Env} {el t0 i0 t1 i1 : Expr} {c0 c1 : List Expr} {sc : Scope} {po : Pos} {it acc : Value} {R : Result → Shared → Prop} {s : Shared}
end
section
variable {X : Cx}
/-- the number is put into the set -/
def AddB (w : World) (D : Addr) (te : TE) (N : Hp → Prop) (σ : L2.St) (H : Hp) : Prop := te σ H fun y H1 => ∃ (c : Int) (S : Int → Bool) (n : Nat), y = .int c ∧ H1 D = some (SetO w D S n) ∧ n + 1 < scanBound ∧ N (upd H1 D (SetO w D (fun j => S j || decide (j = c)) (if S c = true then n else n + 1)))
/-- the inner clause -/
def InB (w : World) (D : Addr) (wi : TI) (g : TG) (tt : TT) (te : TE) (vs : List Nat) (N : Hp → Prop) (σ : L2.St) (H : Hp) : Prop := wi σ H fun J H1 => ∃ W : Nat → Nat → Hp → Prop, (∃ m, W 0 m H1) ∧ ∀ i m H, W i m H →
  (J.stop i H ∧ N H) ∨ (J.go i H ∧ ∃ Nx : Hp → Prop, (∀ H', Nx H' → ∃ m', m' < m ∧ W (i + 1) m' H') ∧ ∀ x H', J.yld i H x H' → g x (wipe σ vs) H' fun σ2 H2 => wipe σ2 vs = wipe σ vs ∧ tt σ2 H2 fun b H3 => if b = true then AddB w D te Nx σ2 H3 else Nx H3)
/-- {el for t0 in i0 if .. for t1 in i1 if ..}, el a number -/
def tSc2 (w : World) (wi : TI) (g : TG) (tt : TT) (wi1 : TI) (g1 : TG) (tt1 : TT) (te : TE) (vs vs1 : List Nat) : TE := fun σ H Q => wi σ H fun J H1 => ∀ D, H1 D = none → ∃ W : Nat → Nat → Hp → Prop, (∃ m, W 0 m (upd H1 D (SetO w D (fun _ => false) 0))) ∧ ∀ i m H, W i m H →
  (J.stop i H ∧ Q (.ref D) H) ∨ (J.go i H ∧ ∃ Nx : Hp → Prop, (∀ H', Nx H' → ∃ m', m' < m ∧ W (i + 1) m' H') ∧ ∀ x H', J.yld i H x H' → g x (wipe σ vs) H' fun σ2 H2 => wipe σ2 vs = wipe σ vs ∧ tt σ2 H2 fun b H3 => if b = true then InB w D wi1 g1 tt1 te vs1 Nx σ2 H3 else Nx H3)
variable {el t0 i0 t1 i1 : Expr} {c0 c1 : List Expr} {sc : Scope} {po : Pos} {own : List (PySem.Str × Nat)} {vs1 : List Nat} {wi wi1 : TI} {g g1 : TG} {tt tt1 : TT} {te : TE}
end
/-! ### over the lists that are the values of a locked dict -/
def isI : V → Bool
  | .int _ => true
  | _ => false
/-- the set at D has just the numbers among l -/
def SetL (w : World) (D : Addr) (l : List V) (G : Hp) : Prop := ∃ (S : Int → Bool) (ks : List Int), G D = some (SetO w D S ks.length) ∧ ks.Nodup ∧ (∀ k, S k = true ↔ k ∈ ks) ∧ ∀ k, k ∈ ks ↔ V.int k ∈ l
theorem SetL.add {w : World} {D : Addr} {l : List V} {G : Hp} {c : Int} {S : Int → Bool} {ks : List Int} (nd : ks.Nodup) (hS : ∀ k, S k = true ↔ k ∈ ks) (hk : ∀ k, k ∈ ks ↔ V.int k ∈ l) :
    SetL w D (l ++ [.int c]) (upd G D (SetO w D (fun j => S j || decide (j = c)) (if S c = true then ks.length else ks.length + 1))) := by
  by_cases e : S c = true
  · rw [if_pos e]
    have mc := (hS c).mp e
    refine ⟨_, ks, upd_same, nd, fun k => ?_, fun k => ?_⟩
    · rw [Bool.or_eq_true, decide_eq_true_eq, hS k]
      exact ⟨fun z => z.elim id fun z => z ▸ mc, .inl⟩
    · rw [hk k, List.mem_append, List.mem_singleton]
      refine ⟨.inl, fun z => z.elim id fun z => ?_⟩
      injection z with z
      rw [z]
      exact (hk c).mp mc
  · rw [if_neg e]
    have nc : c ∉ ks := fun z => e ((hS c).mpr z)
    refine ⟨_, c :: ks, upd_same, List.nodup_cons.mpr ⟨nc, nd⟩, fun k => ?_, fun k => ?_⟩
    · rw [Bool.or_eq_true, decide_eq_true_eq, hS k, List.mem_cons]
      exact Or.comm
    · rw [List.mem_cons, hk k, List.mem_append, List.mem_singleton]
      refine ⟨fun z => z.elim (fun z => .inr (by rw [z])) .inl, fun z => z.elim .inr fun z => .inl ?_⟩
      injection z
end Bk

namespace Bk
open PySem PySem.Spec PyProof.Rows L2
/-! ## 61. comprehensions told by what each turn gives, some left out -/
/-- item by item -/
def All2 {α : Type} (Pr : α → V → Hp → Prop) (l : List α) (xs : List V) (H : Hp) : Prop := xs.length = l.length ∧ ∀ (k : Nat) z v, l[k]? = some z → xs[k]? = some v → Pr z v H
theorem All2.nil {α : Type} {Pr : α → V → Hp → Prop} {H : Hp} : All2 Pr [] [] H := ⟨rfl, fun _ _ _ z => nomatch z⟩
section
variable {σ : L2.St} {H : Hp} {Q : VK} {vs : List Nat} {g : TG} {tt : TT} {te : TE} {J : It} {n : Nat} {G : Hp → Prop} {Y : Nat → Hp → V → Hp → Prop} {D : Addr} {α : Type}
end
section
variable {K : PySem.W.Frag} {σ : L2.St} {H : Hp} {Q : VK} {j : Nat} {vs : List Nat} {g : TG} {tt : TT} {te tl : TE} {a : Addr} {ys : List V} {α : Type}
end
end Bk

namespace Rm
/-! Rooms that guests share, as values: cells by number, when each was given, places of each guest -/
inductive Pl
  | blank
  | own (ws : List Nat)
  | at (n : Nat)
deriving DecidableEq
abbrev Gs := List (PySem.Str × List Pl)
structure R where
  cells : List (List Nat)
  given : List Nat
  givings : Nat
  gs : Gs
def zeros : List Nat := [0, 0, 0, 0, 0, 0, 0, 0]
def words (c : List (List Nat)) : Pl → List Nat
  | .blank => zeros
  | .own ws => ws
  | .at n => c.getD n []
/-- what each guest has, by words -/
def told (c : List (List Nat)) (gs : Gs) : List (PySem.Str × List (List Nat)) := gs.map fun g => (g.1, g.2.map (words c))
def isAt (n : Nat) : Pl → Bool
  | .at m => decide (m = n)
  | _ => false
/-- is the room of the number in use -/
def used (gs : Gs) (n : Nat) : Bool := gs.any fun g => g.2.any (isAt n)
/-- every place at n becomes p -/
def put (gs : Gs) (n : Nat) (p : Pl) : Gs := gs.map fun g => (g.1, g.2.map fun q => if isAt n q = true then p else q)
/-- one place of one guest becomes p -/
def setAt (gs : Gs) (x : PySem.Str) (r : Nat) (p : Pl) : Gs := gs.map fun g => if g.1 = x then (g.1, g.2.set r p) else g
/-! ### which room is taken -/
/-- the first number below k that nobody uses -/
def freeAt (gs : Gs) : Nat → Nat → Option Nat
  | 0, _ => none
  | k + 1, n => if used gs n = true then freeAt gs k (n + 1) else some n
/-- the place of the least number -/
def leastAt (l : List Nat) : Nat := l.idxOf (l.foldl min (l.headD 0))
/-- a room that nobody uses: the first, else the one given longest ago, whose words go to the places first -/
def R.free (s : R) : R × Nat := match freeAt s.gs s.cells.length 0 with
  | some n => (s, n)
  | none => ({ s with gs := put s.gs (leastAt s.given) (.own (s.cells.getD (leastAt s.given) [])) }, leastAt s.given)
structure R.Ok (s : R) : Prop where
  len : s.given.length = s.cells.length
  ne : s.cells ≠ []
  eight : ∀ ws ∈ s.cells, ws.length = 8
  at_ : ∀ g ∈ s.gs, g.2.length = 8 ∧ ∀ p ∈ g.2, (words s.cells p).length = 8 ∧ ∀ n, p = .at n → n < s.cells.length
  nd : (s.gs.map (·.1)).Nodup
theorem names_setAt {gs : Gs} {x : PySem.Str} {r : Nat} {p : Pl} : (setAt gs x r p).map (·.1) = gs.map (·.1) := by
  unfold setAt
  rw [List.map_map]
  refine List.map_congr_left fun g _ => ?_
  show (if g.1 = x then (g.1, g.2.set r p) else g).1 = g.1
  split <;> rfl
/-! ### a room comes to a place -/
def getG (gs : Gs) (x : PySem.Str) : Option (List Pl) := (gs.find? fun g => decide (g.1 = x)).map (·.2)
theorem getG_mem {gs : Gs} {x : PySem.Str} {ps : List Pl} (h : getG gs x = some ps) : (x, ps) ∈ gs := by
  unfold getG at h
  cases hf : gs.find? fun g => decide (g.1 = x) with
  | none => rw [hf] at h; exact nomatch h
  | some e =>
    rw [hf] at h
    have h1 := List.mem_of_find?_eq_some hf
    have h2 : e.1 = x := of_decide_eq_true (List.find?_some (p := fun g : PySem.Str × List Pl => decide (g.1 = x)) hf)
    have h3 : e.2 = ps := Option.some.inj h
    rw [← h2, ← h3]
    exact h1
/-- the place (x, r) is brought into a room: the rooms then, and the room's number -/
def R.brought (s : R) (x : PySem.Str) (r : Nat) : R × Nat := match ((getG s.gs x).getD [])[r]?.getD .blank with
  | .at n => (s, n)
  | p =>
    let f := s.free
    ({ cells := s.cells.set f.2 (words s.cells p), given := s.given.set f.2 (s.givings + 1), givings := s.givings + 1, gs := setAt f.1.gs x r (.at f.2) }, f.2)
/-! ### a word is written -/
theorem words_set {c : List (List Nat)} {n : Nat} {ws : List Nat} {q : Pl} (h : q ≠ .at n) : words (c.set n ws) q = words c q := by
  cases q with
  | blank => rfl
  | own _ => rfl
  | «at» m =>
    show (c.set n ws).getD m [] = c.getD m []
    rw [List.getD_eq_getElem?_getD, List.getD_eq_getElem?_getD, List.getElem?_set_ne fun e => h (by rw [e])]
/-- only the place (x, r) lies in the room n -/
def Alone (gs : Gs) (x : PySem.Str) (r n : Nat) : Prop := ∀ g ∈ gs, ∀ j, g.2[j]? = some (.at n) → g.1 = x ∧ j = r
def setW (t : List (PySem.Str × List (List Nat))) (x : PySem.Str) (r : Nat) (ws : List Nat) : List (PySem.Str × List (List Nat)) := t.map fun g => if g.1 = x then (g.1, g.2.set r ws) else g
/-! ### as it should be, still -/
/-- a place as it should be -/
def PlOk (c : List (List Nat)) (p : Pl) : Prop := (words c p).length = 8 ∧ ∀ n, p = .at n → n < c.length
theorem PlOk.own {c : List (List Nat)} {ws : List Nat} (h : ws.length = 8) : PlOk c (.own ws) := ⟨h, fun _ z => nomatch z⟩
theorem R.Ok.cell {s : R} (h : s.Ok) {n : Nat} {ws : List Nat} (hw : ws.length = 8) {gv : List Nat} (hg : gv.length = s.given.length) {k : Nat} : R.Ok { cells := s.cells.set n ws, given := gv, givings := k, gs := s.gs } := by
  refine ⟨by show gv.length = (s.cells.set n ws).length; rw [List.length_set, hg, h.len], fun z => h.ne ?_, fun v hv => ?_, fun g hg => ⟨(h.at_ g hg).1, fun p hp => ?_⟩, h.nd⟩
  · have := congrArg List.length z
    rw [List.length_set] at this
    exact List.length_eq_zero_iff.mp this
  · rcases List.mem_or_eq_of_mem_set hv with z | z
    · exact h.eight v z
    · rw [z]; exact hw
  · obtain ⟨a, b⟩ := (h.at_ g hg).2 p hp
    refine ⟨?_, fun m e => by show m < (s.cells.set n ws).length; rw [List.length_set]; exact b m e⟩
    by_cases e : p = .at n
    · rw [e]
      show ((s.cells.set n ws).getD n []).length = 8
      rw [List.getD_eq_getElem?_getD, List.getElem?_set_self (b n e)]
      exact hw
    · show (words (s.cells.set n ws) p).length = 8
      rw [words_set e]
      exact a
end Rm

namespace Rm
/-! Rooms that guests share, as values: what the class's methods do -/
/-- the places that lie in the room n, in their order -/
def lying (gs : Gs) (n : Nat) : List (PySem.Str × Nat) := gs.flatMap fun g => ((List.range g.2.length).filter fun j => isAt n (g.2.getD j .blank)).map fun j => (g.1, j)
/-- write_cell behind its checks -/
def R.write (s : R) (x : PySem.Str) (r c w : Nat) : R :=
  let b1 := s.brought x r
  let b2 := if 1 < (lying b1.1.gs b1.2).length then R.brought { b1.1 with gs := setAt b1.1.gs x r (.own (b1.1.cells.getD b1.2 [])) } x r else b1
  { b2.1 with cells := b2.1.cells.set b2.2 ((b2.1.cells.getD b2.2 []).set c w) }
end Rm

namespace Rm
/-- the numbers in use, rising -/
def inUse (s : R) : List Nat := (List.range s.cells.length).filter (used s.gs)
/-- share: rooms of the same words become the first of them -/
def shareGo (c : List (List Nat)) : List Nat → Gs → List (List Nat × Nat) → Nat → Gs × Nat
  | [], gs, _, k => (gs, k)
  | n :: l, gs, fs, k => match fs.find? fun e => decide (e.1 = c.getD n []) with
    | some e => shareGo c l (put gs n (.at e.2)) fs (k + 1)
    | none => shareGo c l gs (fs ++ [(c.getD n [], n)]) k
def R.share (s : R) : R × Nat :=
  let z := shareGo s.cells (inUse s) s.gs [] 0
  ({ s with gs := z.1 }, z.2)
/-- where the words of a row go first -/
def placeOf (ws : List Nat) : Pl := if ws = zeros then .blank else .own ws
/-- replaced -/
def replG (gs : Gs) (x : PySem.Str) (ps : List Pl) : Gs := gs.map fun g => if g.1 = x then (g.1, ps) else g
/-- go -/
def dropG (gs : Gs) (x : PySem.Str) : Gs := gs.filter fun g => !decide (g.1 = x)
/-! ### what ways lead where -/
end Rm

namespace Rm
open PySem PySem.Spec PyProof.Rows L2 Bk
/-! A Rooms object in the heap -/
structure Sk where
  o : Addr
  cl : Addr
  gv : Addr
  gd : Addr
  cs : List Addr
  ga : PySem.Str → Addr
def R.names (s : R) : List PySem.Str := s.gs.map (·.1)
def own (k : Sk) (s : R) (b : Addr) : Prop := b = k.o ∨ b = k.cl ∨ b = k.gv ∨ b = k.gd ∨ b ∈ k.cs ∨ ∃ x ∈ s.names, b = k.ga x
def nv (ws : List Nat) : List V := ws.map fun (w : Nat) => V.int w
def PlV (H : Hp) : Pl → V → Prop
  | .blank, v => v = .non
  | .own ws, v => ∃ t, v = .ref t ∧ H t = some (.tup (nv ws))
  | .at n, v => v = .int n
def PlsV (H : Hp) (ps : List Pl) (xs : List V) : Prop := xs.length = ps.length ∧ ∀ (i : Nat) (p : Pl) (v : V), ps[i]? = some p → xs[i]? = some v → PlV H p v
theorem nd_idx {α : Type} {l : List α} (h : l.Nodup) {i j : Nat} (hi : i < l.length) (hj : j < l.length) (e : l[i] = l[j]) : i = j := by
  have p := List.pairwise_iff_getElem.mp h
  rcases Nat.lt_trichotomy i j with z | z | z
  · exact absurd e (p i j hi hj z)
  · exact z
  · exact absurd e.symm (p j i hj hi z)
structure At (Cl : Addr) (H : Hp) (k : Sk) (s : R) : Prop where
  ob : ∃ dx fs, H k.o = some (.ins Cl dx fs) ∧ fs.lookup ("_cells" : PySem.Str) = some (.ref k.cl) ∧ fs.lookup ("_given" : PySem.Str) = some (.ref k.gv) ∧ fs.lookup ("_givings" : PySem.Str) = some (.int s.givings) ∧ fs.lookup ("_guests" : PySem.Str) = some (.ref k.gd) ∧ fs.length ≤ 4 ∧
    ∀ m : PySem.Str, (m == ("_cells" : PySem.Str)) = false → (m == ("_given" : PySem.Str)) = false → (m == ("_givings" : PySem.Str)) = false → (m == ("_guests" : PySem.Str)) = false → fs.lookup m = none
  cl : H k.cl = some (.lst (k.cs.map V.ref))
  cn : k.cs.length = s.cells.length
  cx : ∀ (i : Nat) c, k.cs[i]? = some c → H c = some (.lst (nv (s.cells.getD i [])))
  gv : H k.gv = some (.lst (nv s.given))
  gd : H k.gd = some (.dK (dicF s.names fun x => .ref (k.ga x)))
  gl : ∀ g ∈ s.gs, ∃ xs, H (k.ga g.1) = some (.lst xs) ∧ PlsV H g.2 xs
  n1 : k.cl ≠ k.gv
  n2 : ∀ c ∈ k.cs, k.cl ≠ c ∧ k.gv ≠ c
  n3 : ∀ x ∈ s.names, k.cl ≠ k.ga x ∧ k.gv ≠ k.ga x ∧ k.ga x ∉ k.cs
  n4 : ∀ x ∈ s.names, ∀ y ∈ s.names, k.ga x = k.ga y → x = y
  n5 : k.cs.Nodup
  ok : s.Ok
section
variable {Cl : Addr} {H H' : Hp} {k k' : Sk} {s s' : R}
theorem PlV.keep {p : Pl} {v : V} (h : PlV H p v) (t : TS H H') : PlV H' p v := by
  cases p with
  | blank => exact h
  | «at» n => exact h
  | own ws =>
    obtain ⟨a, e, z⟩ := h
    exact ⟨a, e, t _ _ z⟩
theorem PlsV.keep {ps : List Pl} {xs : List V} (h : PlsV H ps xs) (t : TS H H') : PlsV H' ps xs := ⟨h.1, fun i p v a b => (h.2 i p v a b).keep t⟩
theorem At.has (h : At Cl H k s) {b : Addr} (z : own k s b) : ∃ u, H b = some u ∧ ∀ xs, u ≠ .tup xs := by
  obtain ⟨dx, fs, e, _⟩ := h.ob
  rcases z with z | z | z | z | z | ⟨x, hx, z⟩
  · exact ⟨.ins _ _ _, z ▸ e, fun _ q => (nomatch q)⟩
  · exact ⟨.lst _, z ▸ h.cl, fun _ q => (nomatch q)⟩
  · exact ⟨.lst _, z ▸ h.gv, fun _ q => (nomatch q)⟩
  · exact ⟨.dK _, z ▸ h.gd, fun _ q => (nomatch q)⟩
  · obtain ⟨i, hi, rfl⟩ := List.getElem_of_mem z
    exact ⟨.lst _, h.cx i _ (List.getElem?_eq_getElem hi), fun _ q => (nomatch q)⟩
  · obtain ⟨g, hg, rfl⟩ := List.mem_map.mp hx
    obtain ⟨xs, e2, _⟩ := h.gl g hg
    exact ⟨.lst _, z ▸ e2, fun _ q => (nomatch q)⟩
theorem At.none (h : At Cl H k s) {b : Addr} (e : H b = none) : ¬ own k s b := fun z => by
  obtain ⟨u, e2, _⟩ := h.has z
  rw [e] at e2
  exact nomatch e2
theorem At.ntup (h : At Cl H k s) {b : Addr} {xs : List V} (e : H b = some (.tup xs)) : ¬ own k s b := fun z => by
  obtain ⟨u, e2, n⟩ := h.has z
  rw [e] at e2
  exact n xs (Option.some.inj e2).symm
theorem At.ts (h : At Cl H k s) (f : ∀ b u, ¬ own k s b → H b = some u → H' b = some u) : TS H H' := fun a xs e => f _ _ (h.ntup e) e
/-- what a deed of the rooms may have changed -/
structure Mv (Cl : Addr) (H : Hp) (k : Sk) (s : R) (H' : Hp) (k' : Sk) (s' : R) : Prop where
  at_ : At Cl H' k' s'
  fr : ∀ b u, ¬ own k s b → H b = some u → H' b = some u
  nw : ∀ b, own k' s' b → own k s b ∨ H b = .none
  oo : k'.o = k.o
  cc : k'.cl = k.cl
/-! ### one thing changes -/
theorem At.o_ne (h : At Cl H k s) {b : Addr} {u : HO} (e : H b = some u) (n : ∀ dx fs, u ≠ .ins Cl dx fs) : k.o ≠ b := fun z => by
  obtain ⟨dx, fs, e2, _⟩ := h.ob
  rw [z, e] at e2
  exact n _ _ (Option.some.inj e2)
theorem At.gd_ne (h : At Cl H k s) {b : Addr} {xs : List V} (e : H b = some (.lst xs)) : k.gd ≠ b := ne_ct h.gd e fun z => nomatch z
theorem At.mem (h : At Cl H k s) {g : PySem.Str × List Pl} (hg : g ∈ s.gs) : g.1 ∈ s.names := List.mem_map.mpr ⟨g, hg, rfl⟩
/-- a frame by one own address -/
theorem fr1 {b : Addr} {v : HO} (o : own k s b) : ∀ c u, ¬ own k s c → H c = some u → upd H b v c = some u := fun c u n e => by
  rw [upd_ne fun z => n (by rw [z]; exact o)]
  exact e
/-- the words of a room of the house -/
theorem At.cell (h : At Cl H k s) {i : Nat} {c : Addr} {ws : List Nat} (hc : k.cs[i]? = some c) (ok' : R.Ok { s with cells := s.cells.set i ws }) : Mv Cl H k s (upd H c (.lst (nv ws))) k { s with cells := s.cells.set i ws } := by
  have mc := List.mem_of_getElem? hc
  have ec := h.cx i c hc
  have oc : own k s c := .inr (.inr (.inr (.inr (.inl mc))))
  have t : TS H (upd H c (.lst (nv ws))) := h.ts (fr1 oc)
  refine ⟨⟨?_, ?_, by rw [List.length_set]; exact h.cn, fun j d hd => ?_, ?_, ?_, fun g hg => ?_, h.n1, h.n2, h.n3, h.n4, h.n5, ok'⟩, fr1 oc, fun b z => .inl z, rfl, rfl⟩
  · rw [upd_ne (h.o_ne ec fun _ _ z => nomatch z)]; exact h.ob
  · rw [upd_ne (h.n2 c mc).1]; exact h.cl
  · by_cases e : d = c
    · subst e
      have : j = i := by
        have l1 := (List.getElem?_eq_some_iff.mp hd).1
        have l2 := (List.getElem?_eq_some_iff.mp hc).1
        have e1 := (List.getElem?_eq_some_iff.mp hd).2
        have e2 := (List.getElem?_eq_some_iff.mp hc).2
        exact nd_idx h.n5 l1 l2 (e1.trans e2.symm)
      subst this
      have l : j < s.cells.length := by rw [← h.cn]; exact (List.getElem?_eq_some_iff.mp hc).1
      rw [upd_same]
      show _ = some (HO.lst (nv ((s.cells.set j ws).getD j [])))
      rw [List.getD_eq_getElem?_getD, List.getElem?_set_self l]
      rfl
    · rw [upd_ne e]
      have : j ≠ i := fun z => e (by rw [z, hc] at hd; exact (Option.some.inj hd).symm)
      show _ = some (HO.lst (nv ((s.cells.set i ws).getD j [])))
      rw [List.getD_eq_getElem?_getD, List.getElem?_set_ne this.symm, ← List.getD_eq_getElem?_getD]
      exact h.cx j d hd
  · rw [upd_ne (h.n2 c mc).2]; exact h.gv
  · rw [upd_ne (h.gd_ne ec)]; exact h.gd
  · obtain ⟨xs, e2, q⟩ := h.gl g hg
    refine ⟨xs, ?_, q.keep t⟩
    rw [upd_ne fun z => (h.n3 _ (h.mem hg)).2.2 (by rw [z]; exact mc)]
    exact e2
theorem names_setAt' {x : PySem.Str} {r : Nat} {p : Pl} {s : R} : R.names { s with gs := setAt s.gs x r p } = s.names := names_setAt
/-- one place of one guest -/
theorem At.place (h : At Cl H k s) {x : PySem.Str} {r : Nat} {p : Pl} {v : V} {xs : List V} {ps : List Pl} (hx : getG s.gs x = some ps) (ex : H (k.ga x) = some (.lst xs)) (pv : PlV H p v) (ok' : R.Ok { s with gs := setAt s.gs x r p }) :
    Mv Cl H k s (upd H (k.ga x) (.lst (xs.set r v))) k { s with gs := setAt s.gs x r p } := by
  have mx := getG_mem hx
  have nx : x ∈ s.names := List.mem_map.mpr ⟨_, mx, rfl⟩
  have oc : own k s (k.ga x) := .inr (.inr (.inr (.inr (.inr ⟨x, nx, rfl⟩))))
  have t : TS H (upd H (k.ga x) (.lst (xs.set r v))) := h.ts (fr1 oc)
  refine ⟨⟨?_, ?_, h.cn, fun j d hd => ?_, ?_, ?_, fun g hg => ?_, h.n1, h.n2, by rw [names_setAt']; exact h.n3, by rw [names_setAt']; exact h.n4, h.n5, ok'⟩, fr1 oc, fun b z => .inl ?_, rfl, rfl⟩
  · rw [upd_ne (h.o_ne ex fun _ _ z => nomatch z)]; exact h.ob
  · rw [upd_ne (h.n3 x nx).1]; exact h.cl
  · rw [upd_ne fun z => (h.n3 x nx).2.2 (by rw [← z]; exact List.mem_of_getElem? hd)]
    exact h.cx j d hd
  · rw [upd_ne (h.n3 x nx).2.1]; exact h.gv
  · rw [upd_ne (h.gd_ne ex), names_setAt']; exact h.gd
  · obtain ⟨g0, hg0, rfl⟩ := List.mem_map.mp hg
    obtain ⟨ys, e2, q⟩ := h.gl g0 hg0
    by_cases e : g0.1 = x
    · rw [if_pos e]
      show ∃ zs, upd H (k.ga x) _ (k.ga g0.1) = _ ∧ PlsV _ (g0.2.set r p) zs
      rw [e] at e2 ⊢
      rw [ex] at e2
      obtain rfl := HO.lst.inj (Option.some.inj e2)
      refine ⟨xs.set r v, upd_same, by rw [List.length_set, List.length_set]; exact q.1, fun i p' v' h1 h2 => ?_⟩
      rw [List.getElem?_set] at h1 h2
      by_cases hi : r = i
      · rw [if_pos hi] at h1 h2
        split at h1
        · split at h2
          · rw [← Option.some.inj h1, ← Option.some.inj h2]
            exact pv.keep t
          · exact nomatch h2
        · exact nomatch h1
      · rw [if_neg hi] at h1 h2
        exact (q.2 i p' v' h1 h2).keep t
    · rw [if_neg e]
      refine ⟨ys, ?_, q.keep t⟩
      rw [upd_ne fun z => e (h.n4 _ (h.mem hg0) _ nx z)]
      exact e2
  · rcases z with z | z | z | z | z | ⟨y, hy, z⟩
    · exact .inl z
    · exact .inr (.inl z)
    · exact .inr (.inr (.inl z))
    · exact .inr (.inr (.inr (.inl z)))
    · exact .inr (.inr (.inr (.inr (.inl z))))
    · rw [names_setAt'] at hy
      exact .inr (.inr (.inr (.inr (.inr ⟨y, hy, z⟩))))
end
end Rm

namespace Rm
open PySem PySem.Spec PyProof.Rows L2 Bk
section
variable {Cl : Addr} {H H0 H' : Hp} {k k' : Sk} {s s' : R}
/-- the guests' dict becomes another one -/
theorem At.dict (h : At Cl H k s) {gs' : Gs} {ga' : PySem.Str → Addr} {kvs : List (Key × V)} (ed : kvs = dicF (gs'.map (·.1)) fun x => .ref (ga' x)) (gl' : ∀ g ∈ gs', ∃ xs, H (ga' g.1) = some (.lst xs) ∧ PlsV H g.2 xs)
    (n3' : ∀ x ∈ gs'.map (·.1), k.cl ≠ ga' x ∧ k.gv ≠ ga' x ∧ ga' x ∉ k.cs) (n4' : ∀ x ∈ gs'.map (·.1), ∀ y ∈ gs'.map (·.1), ga' x = ga' y → x = y) (ok' : R.Ok { s with gs := gs' }) : At Cl (upd H k.gd (.dK kvs)) { k with ga := ga' } { s with gs := gs' } := by
  have oc : own k s k.gd := .inr (.inr (.inr (.inl rfl)))
  have t : TS H (upd H k.gd (.dK kvs)) := h.ts (fr1 oc)
  refine ⟨?_, ?_, h.cn, fun j d hd => ?_, ?_, ?_, fun g hg => ?_, h.n1, h.n2, n3', n4', h.n5, ok'⟩
  · rw [upd_ne (h.o_ne h.gd fun _ _ z => nomatch z)]; exact h.ob
  · rw [upd_ne (h.gd_ne h.cl).symm]; exact h.cl
  · rw [upd_ne (h.gd_ne (h.cx j d hd)).symm]; exact h.cx j d hd
  · rw [upd_ne (h.gd_ne h.gv).symm]; exact h.gv
  · rw [upd_same, ed]; rfl
  · obtain ⟨xs, e2, q⟩ := gl' g hg
    refine ⟨xs, ?_, q.keep t⟩
    show upd H k.gd _ (ga' g.1) = _
    rw [upd_ne (h.gd_ne e2).symm]
    exact e2
/-- a guest comes, or other rooms come in the place of its own -/
theorem At.put (h : At Cl H k s) (h0 : At Cl H0 k s) (f : Same H0 H) {x : PySem.Str} {a : Addr} {xs : List V} {ps : List Pl} {gs' : Gs} (na : H0 a = .none) (ea : H a = some (.lst xs)) (pv : PlsV H ps xs)
    (c1 : ∀ g ∈ gs', g.1 = x ∧ g.2 = ps ∨ g.1 ≠ x ∧ g ∈ s.gs) (c2 : gs'.map (·.1) = if x ∈ s.names then s.names else s.names ++ [x]) (ok' : R.Ok { s with gs := gs' }) :
    Mv Cl H0 k s (upd H k.gd (.dK (putK (dicF s.names fun x => .ref (k.ga x)) (.inr x : Key) (.ref a)))) { k with ga := fun y => if y = x then a else k.ga y } { s with gs := gs' } := by
  have nown := h0.none na
  have nm : ∀ y ∈ gs'.map (·.1), y ≠ x → y ∈ s.names := fun y hy n => by
    rw [c2] at hy
    split at hy
    · exact hy
    · exact (List.mem_append.mp hy).elim id fun z => absurd (List.mem_singleton.mp z) n
  have nga : ∀ y ∈ s.names, a ≠ k.ga y := fun y hy z => nown (.inr (.inr (.inr (.inr (.inr ⟨y, hy, z⟩)))))
  refine ⟨h.dict (ga' := fun y => if y = x then a else k.ga y) ?_ (fun g hg => ?_) (fun y hy => ?_) (fun y hy z hz e => ?_) ok', fun b u n e => fr1 (.inr (.inr (.inr (.inl rfl)))) b u n (f _ _ e), fun b z => ?_, rfl, rfl⟩
  · rw [dicF_put, c2]
    refine dicF_congr fun y _ => ?_
    show (if y = x then V.ref a else V.ref (k.ga y)) = V.ref (if y = x then a else k.ga y)
    split <;> rfl
  · rcases c1 g hg with ⟨e1, e2⟩ | ⟨e1, e2⟩
    · show ∃ xs, H (if g.1 = x then a else k.ga g.1) = _ ∧ _
      rw [if_pos e1, e2]
      exact ⟨xs, ea, pv⟩
    · show ∃ xs, H (if g.1 = x then a else k.ga g.1) = _ ∧ _
      rw [if_neg e1]
      exact h.gl g e2
  · show k.cl ≠ (if y = x then a else k.ga y) ∧ k.gv ≠ (if y = x then a else k.ga y) ∧ (if y = x then a else k.ga y) ∉ k.cs
    by_cases e : y = x
    · rw [if_pos e]
      exact ⟨fun z => nown (.inr (.inl z.symm)), fun z => nown (.inr (.inr (.inl z.symm))), fun z => nown (.inr (.inr (.inr (.inr (.inl z)))))⟩
    · rw [if_neg e]
      exact h.n3 y (nm y hy e)
  · have e : (if y = x then a else k.ga y) = if z = x then a else k.ga z := e
    by_cases e1 : y = x <;> by_cases e2 : z = x
    · rw [e1, e2]
    · rw [if_pos e1, if_neg e2] at e
      exact absurd e (nga z (nm z hz e2))
    · rw [if_neg e1, if_pos e2] at e
      exact absurd e.symm (nga y (nm y hy e1))
    · rw [if_neg e1, if_neg e2] at e
      exact h.n4 y (nm y hy e1) z (nm z hz e2) e
  · rcases z with z | z | z | z | z | ⟨y, hy, z⟩
    · exact .inl (.inl z)
    · exact .inl (.inr (.inl z))
    · exact .inl (.inr (.inr (.inl z)))
    · exact .inl (.inr (.inr (.inr (.inl z))))
    · exact .inl (.inr (.inr (.inr (.inr (.inl z)))))
    · have z : b = if y = x then a else k.ga y := z
      by_cases e : y = x
      · rw [if_pos e] at z
        exact .inr (by rw [z]; exact na)
      · rw [if_neg e] at z
        exact .inl (.inr (.inr (.inr (.inr (.inr ⟨y, nm y hy e, z⟩)))))
theorem names_come {x : PySem.Str} {ps : List Pl} : R.names { s with gs := s.gs ++ [(x, ps)] } = s.names ++ [x] := by
  unfold R.names
  rw [List.map_append]
  rfl
/-- a guest comes -/
theorem At.come (h : At Cl H k s) (h0 : At Cl H0 k s) (f : Same H0 H) {x : PySem.Str} {a : Addr} {xs : List V} {ps : List Pl} (na : H0 a = .none) (ea : H a = some (.lst xs)) (pv : PlsV H ps xs) (nx : x ∉ s.names) (ok' : R.Ok { s with gs := s.gs ++ [(x, ps)] }) :
    Mv Cl H0 k s (upd H k.gd (.dK (putK (dicF s.names fun x => .ref (k.ga x)) (.inr x : Key) (.ref a)))) { k with ga := fun y => if y = x then a else k.ga y } { s with gs := s.gs ++ [(x, ps)] } := by
  refine h.put h0 f na ea pv (fun g hg => ?_) (by rw [if_neg nx]; exact names_come) ok'
  rcases List.mem_append.mp hg with m | m
  · exact .inr ⟨fun e => nx (by rw [← e]; exact h.mem m), m⟩
  · rw [List.mem_singleton.mp m]
    exact .inl ⟨rfl, rfl⟩
end
end Rm

namespace Rm
open PySem PySem.Spec PyProof.Rows L2 Bk
/-! words, rows of words and rooms as data -/
def numsD (ws : List Nat) : List PyData := ws.map fun (w : Nat) => PyData.int w
def rowT (ws : List Nat) : PyData := .tuple (numsD ws)
def rowL (ws : List Nat) : PyData := .list (numsD ws)
def rowsT (rows : List (List Nat)) : PyData := .tuple (rows.map rowT)
section
variable {K : PySem.W.Frag} {H : Hp}
theorem nv_len {ws : List Nat} : (nv ws).length = ws.length := List.length_map _
theorem nv_at {ws : List Nat} {i : Nat} {w : Nat} (h : ws[i]? = some w) : (nv ws)[i]? = some (.int w) := by
  unfold nv
  rw [List.getElem?_map, h]
  rfl
theorem at_nv {ws : List Nat} {i : Nat} {y : V} (h : (nv ws)[i]? = some y) : ∃ w, ws[i]? = some w ∧ y = .int w := by
  unfold nv at h
  rw [List.getElem?_map] at h
  cases e : ws[i]? with
  | none => rw [e] at h; exact nomatch h
  | some w => rw [e] at h; exact ⟨w, rfl, (Option.some.inj h).symm⟩
theorem dpa_nums : ∀ ws : List Nat, DpAll K H (nv ws) (numsD ws)
  | [] => .nil
  | a :: r => .cons (.int _) (dpa_nums r)
theorem dp_rowL {t : Addr} {ws : List Nat} (h : SqL K H t (nv ws)) : Dp K H (.ref t) (rowL ws) := .lst h (dpa_nums ws)
theorem lay_nums : ∀ l : List Nat, PyData.canLayAll0 (numsD l) = true ∧ PyData.depthAll (numsD l) = 0
  | [] => ⟨rfl, rfl⟩
  | a :: r => by
    obtain ⟨h1, h2⟩ := lay_nums r
    constructor
    · show (PyData.canLay0 (.int a) && PyData.canLayAll0 (numsD r)) = true
      rw [h1]
      simp only [PyData.canLay0, Bool.true_and]
    · show max (PyData.depth (.int a)) (PyData.depthAll (numsD r)) = 0
      rw [h2]
      rfl
end
end Rm

namespace Rm
open PySem PySem.Spec PyProof.Rows L2 Bk
section
variable {Cl : Addr} {H H' : Hp} {k k' : Sk} {s s' : R}
/-- the lists of the guests' places -/
structure Lists (H : Hp) (ga : PySem.Str → Addr) (gs : Gs) (Ls : List (List V)) : Prop where
  len : Ls.length = gs.length
  at_ : ∀ (i : Nat) g xs, gs[i]? = some g → Ls[i]? = some xs → H (ga g.1) = some (.lst xs) ∧ PlsV H g.2 xs
end
end Rm

namespace Rm
open PySem PySem.Spec PyProof.Rows L2 Bk
/-! what the loops of the class do, as values -/
/-- what lies of one guest -/
def lyG (n : Nat) (g : PySem.Str × List Pl) : List (PySem.Str × Nat) := ((List.range g.2.length).filter fun j => isAt n (g.2.getD j .blank)).map fun j => (g.1, j)
/-- one place after another becomes p -/
def setAll (gs : Gs) (l : List (PySem.Str × Nat)) (p : Pl) : Gs := l.foldl (fun gs z => setAt gs z.1 z.2 p) gs
/-! ### which room is taken -/
end Rm

namespace Rm
open PySem PySem.Spec PyProof.Rows L2 Bk
section
variable {Cl : Addr} {H H' : Hp} {k k' : Sk} {s s' : R}
end
end Rm

namespace Cm
open PySem
/-! A machine of guests, as values: what each step does -/
inductive St
  | runs
  | idle
  | ended
  | fell
deriving DecidableEq
def St.s : St → Str
  | .runs => Str.ofString "runs"
  | .idle => Str.ofString "idle"
  | .ended => Str.ofString "ended"
  | .fell => Str.ofString "fell"
structure Ask where
  no : Nat
  wr : Bool
  blk : Nat
  room : Nat
  due : Nat
structure M where
  r : List Nat
  at_ : Nat
  tb : Nat
  tm : Nat
  hd : Nat
  bk : Nat
  cs : Nat
  tr : Bool
  st : St
  ln : List Nat
  nt : List Nat
  td : List Nat
  sn : List (Nat × Nat)
  as : List Ask
  mq : Nat
  dn : Nat
  bs : List (List Nat)
  rs : List (List Nat)
inductive Way
  | no (c : Nat)
  | room (n : Nat)
inductive Th
  | non
  | num (n : Nat)
  | two (a b : Nat)
  | ask (n : Nat) (k : Bool) (b r : Nat)
inductive Out
  | trap (c : Nat)
  | jump (p : Nat)
  | row (k : String) (t : Th)
structure Row where
  tm : Nat
  kind : String
  pl : Nat
  th : Th
def rg (m : M) (i : Nat) : Nat := m.r.getD i 0
def cel (l : List (List Nat)) (i c : Nat) : Nat := (l.getD i []).getD c 0
def M.setr (m : M) (i v : Nat) : M := { m with r := m.r.set i v }
def M.setc (m : M) (i c v : Nat) : M := { m with rs := m.rs.set i ((m.rs.getD i []).set c v) }
def lead (m : M) (p : Nat) (w : Bool) : Way :=
  if cel m.rs m.tb (p / 8) % 2 = 0 then .no 1 else if w = true ∧ cel m.rs m.tb (p / 8) / 2 % 2 = 0 then .no 2 else .room (cel m.rs m.tb (p / 8) / 4 % 8)
def load (m : M) (a p : Nat) : M × Out := match lead m p false with
  | .no c => (m, .trap c)
  | .room n => (m.setr a (cel m.rs n (p % 8)), .row "step" .non)
def save (m : M) (a p : Nat) : M × Out := match lead m p true with
  | .no c => (m, .trap c)
  | .room n => (m.setc n (p % 8) (rg m a), .row "step" .non)
def part (m : M) (a c : Nat) : M × Out := if rg m c = 0 then (m, .trap 3) else ((m.setr a (rg m a / rg m c)).setr c (rg m a % rg m c), .row "step" .non)
def jump (m : M) (a b : Nat) : M × Out :=
  if ([true, decide (rg m 0 = 0), !decide (rg m 0 = 0), decide (rg m 0 < rg m 1)].getD a false) = true then (m, .jump b) else (m, .row "step" .non)
def traps (m : M) (a b : Nat) : M × Out := match a with
  | 0 => ({ m with hd := b }, .row "step" .non)
  | 1 => ({ m with tr := false }, .jump m.bk)
  | 2 => (m.setr (b % 4) m.cs, .row "step" .non)
  | _ => (m, .trap 4)
def clock (m : M) (a b : Nat) : M × Out :=
  let t := (if b % 2 = 0 then m.tm else m.tm / 4096) % 4096
  (m.setr a t, .row "clock" (.num t))
def askM (m : M) (wr : Bool) (blk room : Nat) : M × Out :=
  if 8 ≤ m.as.length then (m, .row "asked" .non) else ({ m with as := m.as ++ [⟨m.mq, wr, blk, room, m.tm + 6⟩], mq := m.mq + 1 }, .row "asked" (.ask m.mq wr blk room))
def outM (m : M) (a c : Nat) : M × Out := match c with
  | 0 => ({ m with td := m.td ++ [rg m a % 128] }, .row "told" (.num (rg m a % 128)))
  | 1 => ({ m with sn := m.sn ++ [(rg m ((a + 1) % 4) % 8, rg m a)] }, .row "sent" (.two (rg m ((a + 1) % 4) % 8) (rg m a)))
  | c + 2 => askM m (decide (c = 1)) (rg m a % 8) (rg m ((a + 1) % 4) % 8)
def inM (m : M) (a c : Nat) : M × Out := match c with
  | 0 => (({ m with ln := m.ln.tail } : M).setr a (m.ln.headD 4095), .row "read" (.num (m.ln.headD 4095)))
  | 1 => (({ m with nt := m.nt.tail } : M).setr a (m.nt.headD 4095), .row "read" (.num (m.nt.headD 4095)))
  | 2 => (m.setr a (m.dn % 4096), .row "read" (.num (m.dn % 4096)))
  | _ => (m.setr a m.as.length, .row "read" (.num m.as.length))
def exec (m : M) (op a b : Nat) : M × Out := match op with
  | 0 => ({ m with st := .ended }, .row "ended" .non)
  | 1 => (m.setr a b, .row "step" .non)
  | 2 => load m a b
  | 3 => save m a b
  | 4 => load m a (rg m (b % 4) % 64)
  | 5 => save m a (rg m (b % 4) % 64)
  | 6 => (m.setr a ((rg m a + rg m (b % 4)) % 4096), .row "step" .non)
  | 7 => (m.setr a ((rg m a + 4096 - rg m (b % 4)) % 4096), .row "step" .non)
  | 8 => part m a (b % 4)
  | 9 => jump m a b
  | 10 => ({ m with tb := rg m a % 8 }, .row "step" .non)
  | 11 => traps m a b
  | 12 => clock m a b
  | 13 => outM m a (b % 4)
  | _ => inM m a (b % 4)
def doAsk (z : List (List Nat) × List (List Nat)) (a : Ask) : List (List Nat) × List (List Nat) :=
  if a.wr = true then (z.1.set a.blk (z.2.getD a.room []), z.2) else (z.1, z.2.set a.room (z.1.getD a.blk []))
def ready (m : M) : List Ask := m.as.filter fun a => decide (a.due ≤ m.tm)
def serve (m : M) : M :=
  { m with bs := ((ready m).foldl doAsk (m.bs, m.rs)).1, rs := ((ready m).foldl doAsk (m.bs, m.rs)).2, as := m.as.filter (fun a => decide (m.tm < a.due)), dn := m.dn + (ready m).length }
def trapM (m : M) (c : Nat) : M × Option Row :=
  if m.tr = true then ({ m with tm := m.tm + 1, st := .fell }, some ⟨m.tm, "fell", m.at_, .num c⟩)
  else ({ m with tm := m.tm + 1, tr := true, cs := c, bk := if c = 4 then (m.at_ + 1) % 64 else m.at_, at_ := m.hd }, some ⟨m.tm, "trap", m.at_, .num c⟩)
def onward (m : M) (z : M × Out) : M × Option Row := match z.2 with
  | .trap c => trapM z.1 c
  | .jump p => ({ z.1 with tm := z.1.tm + 1, at_ := p }, some ⟨m.tm, "step", m.at_, .non⟩)
  | .row k t => ({ z.1 with tm := z.1.tm + 1, at_ := (m.at_ + 1) % 64 }, some ⟨m.tm, k, m.at_, t⟩)
def wait (m : M) (f : Nat) : M × Option Row :=
  if f = 0 ∧ m.ln = [] ∧ m.nt = [] then match m.as with
    | [] => ({ m with st := .idle }, none)
    | a :: _ => ({ m with tm := max m.tm a.due + 1, at_ := (m.at_ + 1) % 64 }, some ⟨m.tm, "waited", m.at_, .num (max m.tm a.due + 1)⟩)
  else ({ m with tm := m.tm + 1, at_ := (m.at_ + 1) % 64 }, some ⟨m.tm, "waited", m.at_, .num (m.tm + 1)⟩)
def act (m : M) (f : Nat) : M × Option Row := match lead m m.at_ false with
  | .no c => trapM m c
  | .room n =>
    let w := cel m.rs n (m.at_ % 8)
    if w / 256 = 15 then wait m f else onward m (exec m (w / 256) (w / 64 % 4) (w % 64))
/-- one step of a machine that runs or is idle -/
def step (m : M) : M × Option Row := act { serve m with st := .runs } (ready m).length
/-! ### as it should be -/
structure Rows8 (l : List (List Nat)) : Prop where
  l8 : l.length = 8
  e8 : ∀ ws ∈ l, ws.length = 8 ∧ ∀ w ∈ ws, w ≤ 4095
structure M.Ok (m : M) : Prop where
  r4 : m.r.length = 4
  rw_ : ∀ w ∈ m.r, w ≤ 4095
  a64 : m.at_ < 64
  t8 : m.tb < 8
  h64 : m.hd < 64
  b64 : m.bk < 64
  c4 : m.cs ≤ 4
  a8 : m.as.length ≤ 8
  ao : ∀ a ∈ m.as, a.blk < 8 ∧ a.room < 8 ∧ a.due ≤ m.tm + 6
  bo : Rows8 m.bs
  ro : Rows8 m.rs
  lo : ∀ w ∈ m.ln, w ≤ 4095
  no : ∀ w ∈ m.nt, w ≤ 4095
  to_ : ∀ w ∈ m.td, w ≤ 4095
  so : ∀ w ∈ m.sn, w.1 ≤ 4095 ∧ w.2 ≤ 4095
/-- not too much -/
structure M.Lim (m : M) (n : Nat) : Prop where
  tm : m.tm ≤ n
  mq : m.mq ≤ n
  dn : m.dn ≤ n
  td : m.td.length ≤ n
  sn : m.sn.length ≤ n
  ln : m.ln.length ≤ n
  nt : m.nt.length ≤ n
  ao : ∀ a ∈ m.as, a.no ≤ n
theorem getD_le {l : List Nat} {n : Nat} (h : ∀ w ∈ l, w ≤ n) (i : Nat) : l.getD i 0 ≤ n := by
  rw [List.getD_eq_getElem?_getD]
  cases e : l[i]? with
  | none => exact Nat.zero_le _
  | some w => exact h w (List.mem_of_getElem? e)
theorem set_le {l : List Nat} {n i v : Nat} (h : ∀ w ∈ l, w ≤ n) (hv : v ≤ n) : ∀ w ∈ l.set i v, w ≤ n := fun w hw => by
  rcases List.mem_or_eq_of_mem_set hw with z | z
  · exact h w z
  · rw [z]; exact hv
theorem Rows8.cel_le {l : List (List Nat)} (h : Rows8 l) (i c : Nat) : cel l i c ≤ 4095 := by
  unfold cel
  refine getD_le (fun w hw => ?_) c
  rw [List.getD_eq_getElem?_getD] at hw
  cases e : l[i]? with
  | none => rw [e] at hw; exact nomatch hw
  | some ws => rw [e] at hw; exact (h.e8 _ (List.mem_of_getElem? e)).2 w hw
theorem Rows8.row {l : List (List Nat)} (h : Rows8 l) {i : Nat} (hi : i < 8) : l[i]? = some (l.getD i []) ∧ (l.getD i []).length = 8 ∧ ∀ w ∈ l.getD i [], w ≤ 4095 := by
  have li : i < l.length := by rw [h.l8]; exact hi
  rw [List.getD_eq_getElem?_getD, List.getElem?_eq_getElem li]
  exact ⟨rfl, h.e8 _ (List.getElem_mem li)⟩
theorem Rows8.at {l : List (List Nat)} (h : Rows8 l) {i c : Nat} (hi : i < 8) (hc : c < 8) : (l.getD i [])[c]? = some (cel l i c) := by
  obtain ⟨_, l8, _⟩ := h.row hi
  unfold cel
  generalize l.getD i [] = ws at l8
  rw [List.getD_eq_getElem?_getD, List.getElem?_eq_getElem (show c < ws.length by omega)]
  rfl
theorem Rows8.set {l : List (List Nat)} (h : Rows8 l) {i : Nat} {ws : List Nat} (l8 : ws.length = 8) (le : ∀ w ∈ ws, w ≤ 4095) : Rows8 (l.set i ws) :=
  ⟨by rw [List.length_set]; exact h.l8, fun v hv => by
    rcases List.mem_or_eq_of_mem_set hv with z | z
    · exact h.e8 v z
    · rw [z]; exact ⟨l8, le⟩⟩
theorem rg_le {m : M} (h : m.Ok) (i : Nat) : rg m i ≤ 4095 := getD_le h.rw_ i
theorem rg_at {m : M} (h : m.Ok) {i : Nat} (hi : i < 4) : m.r[i]? = some (rg m i) := by
  unfold rg
  rw [List.getD_eq_getElem?_getD, List.getElem?_eq_getElem (by rw [h.r4]; exact hi)]
  rfl
theorem M.Ok.setr {m : M} (h : m.Ok) {i v : Nat} (hv : v ≤ 4095) : (m.setr i v).Ok :=
  { h with r4 := (List.length_set ..).trans h.r4, rw_ := set_le h.rw_ hv }
theorem M.Ok.setc {m : M} (h : m.Ok) {i c v : Nat} (hi : i < 8) (hv : v ≤ 4095) : (m.setc i c v).Ok :=
  { h with ro := h.ro.set ((List.length_set ..).trans (h.ro.row hi).2.1) (set_le (h.ro.row hi).2.2 hv) }
theorem lead_ok {m : M} {p : Nat} {w : Bool} : (∃ c, lead m p w = .no c ∧ 1 ≤ c ∧ c ≤ 2) ∨ ∃ n, lead m p w = .room n ∧ n < 8 := by
  unfold lead
  split
  · exact .inl ⟨1, rfl, by omega, by omega⟩
  · split
    · exact .inl ⟨2, rfl, by omega, by omega⟩
    · exact .inr ⟨_, rfl, by omega⟩
/-- what an op leaves -/
def OutOk : Out → Prop
  | .trap c => 1 ≤ c ∧ c ≤ 4
  | .jump p => p < 64
  | .row _ _ => True
theorem exec_ok {m : M} (h : m.Ok) {op a b : Nat} (ha : a < 4) (hb : b < 64) : (exec m op a b).1.Ok ∧ OutOk (exec m op a b).2 ∧ (exec m op a b).1.tm = m.tm ∧ (exec m op a b).1.at_ = m.at_ ∧ (exec m op a b).1.tr = (if op = 11 ∧ a = 1 then false else m.tr) := by
  have ld : ∀ p, (load m a p).1.Ok ∧ OutOk (load m a p).2 ∧ (load m a p).1.tm = m.tm ∧ (load m a p).1.at_ = m.at_ ∧ (load m a p).1.tr = m.tr := fun p => by
    unfold load
    rcases lead_ok (m := m) (p := p) (w := false) with ⟨c, e, h1, h2⟩ | ⟨n, e, hn⟩
    · rw [e]
      exact ⟨h, ⟨h1, by omega⟩, rfl, rfl, rfl⟩
    · rw [e]
      exact ⟨h.setr (h.ro.cel_le _ _), trivial, rfl, rfl, rfl⟩
  have sv : ∀ p, (save m a p).1.Ok ∧ OutOk (save m a p).2 ∧ (save m a p).1.tm = m.tm ∧ (save m a p).1.at_ = m.at_ ∧ (save m a p).1.tr = m.tr := fun p => by
    unfold save
    rcases lead_ok (m := m) (p := p) (w := true) with ⟨c, e, h1, h2⟩ | ⟨n, e, hn⟩
    · rw [e]
      exact ⟨h, ⟨h1, by omega⟩, rfl, rfl, rfl⟩
    · rw [e]
      exact ⟨h.setc hn (rg_le h _), trivial, rfl, rfl, rfl⟩
  have ra := rg_le h a
  have tn : ∀ {op : Nat}, op ≠ 11 → (if op = 11 ∧ a = 1 then false else m.tr) = m.tr := fun z => if_neg fun w => z w.1
  unfold exec
  split
  · exact ⟨{ h with }, trivial, rfl, rfl, (tn (by decide)).symm⟩
  · exact ⟨h.setr (by omega), trivial, rfl, rfl, (tn (by decide)).symm⟩
  · rw [tn (by decide)]; exact ld _
  · rw [tn (by decide)]; exact sv _
  · rw [tn (by decide)]; exact ld _
  · rw [tn (by decide)]; exact sv _
  · exact ⟨h.setr (by omega), trivial, rfl, rfl, (tn (by decide)).symm⟩
  · exact ⟨h.setr (by omega), trivial, rfl, rfl, (tn (by decide)).symm⟩
  · unfold part
    split
    · exact ⟨h, ⟨by omega, by omega⟩, rfl, rfl, (tn (by decide)).symm⟩
    · refine ⟨(h.setr (Nat.le_trans (Nat.div_le_self _ _) ra)).setr (Nat.le_trans (Nat.mod_le _ _) ra), trivial, rfl, rfl, (tn (by decide)).symm⟩
  · unfold jump
    split
    · exact ⟨h, hb, rfl, rfl, (tn (by decide)).symm⟩
    · exact ⟨h, trivial, rfl, rfl, (tn (by decide)).symm⟩
  · exact ⟨{ h with t8 := Nat.mod_lt _ (by decide) }, trivial, rfl, rfl, (tn (by decide)).symm⟩
  · unfold traps
    split
    · exact ⟨{ h with h64 := hb }, trivial, rfl, rfl, (if_neg (by omega)).symm⟩
    · exact ⟨{ h with }, h.b64, rfl, rfl, (if_pos ⟨rfl, rfl⟩).symm⟩
    · exact ⟨h.setr (by have := h.c4; omega), trivial, rfl, rfl, (if_neg (by omega)).symm⟩
    · rename_i n1 n2 n3
      exact ⟨h, ⟨by omega, by omega⟩, rfl, rfl, (if_neg (fun w => n2 w.2)).symm⟩
  · refine ⟨h.setr ?_, trivial, rfl, rfl, (tn (by decide)).symm⟩
    have := Nat.mod_lt (if b % 2 = 0 then m.tm else m.tm / 4096) (show 4096 > 0 by decide)
    omega
  · unfold outM
    split
    · refine ⟨{ h with to_ := fun w hw => ?_ }, trivial, rfl, rfl, (tn (by decide)).symm⟩
      rcases List.mem_append.mp hw with z | z
      · exact h.to_ w z
      · rw [List.mem_singleton.mp z]; omega
    · refine ⟨{ h with so := fun w hw => ?_ }, trivial, rfl, rfl, (tn (by decide)).symm⟩
      rcases List.mem_append.mp hw with z | z
      · exact h.so w z
      · rw [List.mem_singleton.mp z]
        exact ⟨by show _ % 8 ≤ 4095; omega, ra⟩
    · unfold askM
      split
      · exact ⟨h, trivial, rfl, rfl, (tn (by decide)).symm⟩
      · refine ⟨{ h with a8 := ?_, ao := fun x hx => ?_ }, trivial, rfl, rfl, (tn (by decide)).symm⟩
        · show (m.as ++ _).length ≤ 8
          rw [List.length_append, List.length_singleton]
          omega
        · rcases List.mem_append.mp hx with z | z
          · exact h.ao x z
          · rw [List.mem_singleton.mp z]
            exact ⟨Nat.mod_lt _ (by decide), Nat.mod_lt _ (by decide), Nat.le_refl _⟩
  · rename_i n11 _ _
    have e11 : (if op = 11 ∧ a = 1 then false else m.tr) = m.tr := if_neg fun w => by
      have := w.1
      subst this
      exact absurd rfl ‹(11 : Nat) = 11 → False›
    have hd : ∀ {l : List Nat}, (∀ w ∈ l, w ≤ 4095) → l.headD 4095 ≤ 4095 := fun {l} hl => by
      cases l with
      | nil => exact Nat.le_refl _
      | cons x l => exact hl x List.mem_cons_self
    rw [e11]
    unfold inM
    split
    · exact ⟨M.Ok.setr (m := { m with ln := m.ln.tail }) { h with lo := fun w hw => h.lo w (List.mem_of_mem_tail hw) } (hd h.lo), trivial, rfl, rfl, rfl⟩
    · exact ⟨M.Ok.setr (m := { m with nt := m.nt.tail }) { h with no := fun w hw => h.no w (List.mem_of_mem_tail hw) } (hd h.no), trivial, rfl, rfl, rfl⟩
    · exact ⟨h.setr (by omega), trivial, rfl, rfl, rfl⟩
    · exact ⟨h.setr (by have := h.a8; omega), trivial, rfl, rfl, rfl⟩
end Cm

namespace Cm
open PySem
theorem doAsk_ok {z : List (List Nat) × List (List Nat)} {a : Ask} (h1 : Rows8 z.1) (h2 : Rows8 z.2) (hb : a.blk < 8) (hr : a.room < 8) : Rows8 (doAsk z a).1 ∧ Rows8 (doAsk z a).2 := by
  unfold doAsk
  split
  · exact ⟨h1.set (h2.row hr).2.1 (h2.row hr).2.2, h2⟩
  · exact ⟨h1, h2.set (h1.row hb).2.1 (h1.row hb).2.2⟩
theorem asks_ok : ∀ {l : List Ask} {z : List (List Nat) × List (List Nat)}, Rows8 z.1 → Rows8 z.2 → (∀ a ∈ l, a.blk < 8 ∧ a.room < 8) → Rows8 (l.foldl doAsk z).1 ∧ Rows8 (l.foldl doAsk z).2
  | [], _, h1, h2, _ => ⟨h1, h2⟩
  | a :: l, z, h1, h2, h => by
    obtain ⟨x, y⟩ := h a List.mem_cons_self
    obtain ⟨g1, g2⟩ := doAsk_ok h1 h2 x y
    exact asks_ok (z := doAsk z a) g1 g2 fun b hb => h b (List.mem_cons_of_mem _ hb)
theorem ready_sub {m : M} {a : Ask} (h : a ∈ ready m) : a ∈ m.as := (List.mem_filter.mp h).1
theorem serve_ok {m : M} (h : m.Ok) : (serve m).Ok := by
  obtain ⟨g1, g2⟩ := asks_ok (l := ready m) (z := (m.bs, m.rs)) h.bo h.ro fun a ha => ⟨(h.ao a (ready_sub ha)).1, (h.ao a (ready_sub ha)).2.1⟩
  exact { h with a8 := Nat.le_trans (List.length_filter_le _ _) h.a8, ao := fun a ha => h.ao a (List.mem_filter.mp ha).1, bo := g1, ro := g2 }
theorem trapM_ok {m : M} (h : m.Ok) {c : Nat} (hc : c ≤ 4) : (trapM m c).1.Ok := by
  have ao : ∀ a ∈ m.as, a.blk < 8 ∧ a.room < 8 ∧ a.due ≤ m.tm + 1 + 6 := fun a ha => ⟨(h.ao a ha).1, (h.ao a ha).2.1, by have := (h.ao a ha).2.2; omega⟩
  unfold trapM
  split
  · exact { h with ao := ao }
  · have bk : (if c = 4 then (m.at_ + 1) % 64 else m.at_) < 64 := by
      split
      · omega
      · exact h.a64
    exact { h with ao := ao, c4 := hc, b64 := bk, a64 := h.h64 }
theorem onward_ok {m : M} {z : M × Out} (h : m.Ok) (hz : z.1.Ok) (o : OutOk z.2) : (onward m z).1.Ok := by
  have ao : ∀ a ∈ z.1.as, a.blk < 8 ∧ a.room < 8 ∧ a.due ≤ z.1.tm + 1 + 6 := fun a ha => ⟨(hz.ao a ha).1, (hz.ao a ha).2.1, by have := (hz.ao a ha).2.2; omega⟩
  obtain ⟨m2, o2⟩ := z
  unfold onward
  cases o2 with
  | trap c => exact trapM_ok hz o.2
  | jump p => exact { hz with ao := ao, a64 := o }
  | row k t => exact { hz with ao := ao, a64 := Nat.mod_lt _ (by decide) }
theorem wait_ok {m : M} (h : m.Ok) {f : Nat} : (wait m f).1.Ok := by
  unfold wait
  split
  · split
    · exact { h with }
    · rename_i a l e
      exact { h with a64 := Nat.mod_lt _ (by decide), ao := fun x hx => ⟨(h.ao x hx).1, (h.ao x hx).2.1, by have := (h.ao x hx).2.2; show x.due ≤ max m.tm a.due + 1 + 6; omega⟩ }
  · exact { h with a64 := Nat.mod_lt _ (by decide), ao := fun x hx => ⟨(h.ao x hx).1, (h.ao x hx).2.1, by have := (h.ao x hx).2.2; show x.due ≤ m.tm + 1 + 6; omega⟩ }
theorem runs_ok {m : M} (h : m.Ok) : ({ m with st := .runs } : M).Ok := { h with }
theorem act_ok {m : M} (h : m.Ok) {f : Nat} : (act m f).1.Ok := by
  unfold act
  rcases lead_ok (m := m) (p := m.at_) (w := false) with ⟨c, e, h1, h2⟩ | ⟨n, e, hn⟩
  · rw [e]; exact trapM_ok h (by omega)
  · rw [e]
    dsimp only
    split
    · exact wait_ok h
    · obtain ⟨g1, g2, _⟩ := exec_ok h (op := cel m.rs n (m.at_ % 8) / 256) (a := cel m.rs n (m.at_ % 8) / 64 % 4) (b := cel m.rs n (m.at_ % 8) % 64) (by omega) (by omega)
      exact onward_ok h g1 g2
theorem step_ok {m : M} (h : m.Ok) : (step m).1.Ok := act_ok (runs_ok (serve_ok h))
/-! ### how much there may be -/
theorem M.Lim.mono {m : M} {n n' : Nat} (h : m.Lim n) (l : n ≤ n') : m.Lim n' :=
  ⟨Nat.le_trans h.tm l, Nat.le_trans h.mq l, Nat.le_trans h.dn l, Nat.le_trans h.td l, Nat.le_trans h.sn l, Nat.le_trans h.ln l, Nat.le_trans h.nt l, fun a ha => Nat.le_trans (h.ao a ha) l⟩
theorem M.Lim.setr {m : M} {n i v : Nat} (h : m.Lim n) : (m.setr i v).Lim n := { h with }
theorem M.Lim.setc {m : M} {n i c v : Nat} (h : m.Lim n) : (m.setc i c v).Lim n := { h with }
theorem ready_le {m : M} (h : m.Ok) : (ready m).length ≤ 8 := Nat.le_trans (List.length_filter_le _ _) h.a8
theorem serve_lim {m : M} {n : Nat} (ok : m.Ok) (h : m.Lim n) : (serve m).Lim (n + 8) := by
  have r := ready_le ok
  have h' := h.mono (n' := n + 8) (by omega)
  have d := h.dn
  exact { h' with dn := by show m.dn + (ready m).length ≤ n + 8; omega, ao := fun a ha => h'.ao a (List.mem_filter.mp ha).1 }
theorem exec_lim {m : M} {n op a b : Nat} (h : m.Lim n) : (exec m op a b).1.Lim (n + 1) := by
  have h' := h.mono (n' := n + 1) (by omega)
  have ld : ∀ p, (load m a p).1.Lim (n + 1) := fun p => by
    unfold load
    cases lead m p false with
    | no c => exact h'
    | room n => exact h'.setr
  have sv : ∀ p, (save m a p).1.Lim (n + 1) := fun p => by
    unfold save
    cases lead m p true with
    | no c => exact h'
    | room n => exact h'.setc
  unfold exec
  split
  · exact { h' with }
  · exact h'.setr
  · exact ld _
  · exact sv _
  · exact ld _
  · exact sv _
  · exact h'.setr
  · exact h'.setr
  · unfold part
    split
    · exact h'
    · exact h'.setr.setr
  · unfold jump
    split
    · exact h'
    · exact h'
  · exact { h' with }
  · unfold traps
    split
    · exact { h' with }
    · exact { h' with }
    · exact h'.setr
    · exact h'
  · exact h'.setr
  · unfold outM
    split
    · exact { h' with td := by show (m.td ++ _).length ≤ n + 1; rw [List.length_append, List.length_singleton]; have := h.td; omega }
    · exact { h' with sn := by show (m.sn ++ _).length ≤ n + 1; rw [List.length_append, List.length_singleton]; have := h.sn; omega }
    · unfold askM
      split
      · exact h'
      · have q := h.mq
        refine { h' with mq := by show m.mq + 1 ≤ n + 1; omega, ao := fun x hx => ?_ }
        rcases List.mem_append.mp hx with z | z
        · exact h'.ao x z
        · rw [List.mem_singleton.mp z]
          show m.mq ≤ n + 1
          omega
  · have tl : ∀ {l : List Nat}, l.length ≤ n + 1 → l.tail.length ≤ n + 1 := fun {l} hl => by rw [List.length_tail]; omega
    unfold inM
    split
    · exact M.Lim.setr (m := { m with ln := m.ln.tail }) { h' with ln := tl h'.ln }
    · exact M.Lim.setr (m := { m with nt := m.nt.tail }) { h' with nt := tl h'.nt }
    · exact h'.setr
    · exact h'.setr
theorem act_lim {m : M} {n f : Nat} (ok : m.Ok) (h : m.Lim n) : (act m f).1.Lim (n + 8) := by
  have tp : ∀ {m : M} {c : Nat}, m.Lim (n + 1) → (trapM m c).1.Lim (n + 8) := fun {m c} h => by
    have h' := h.mono (n' := n + 8) (by omega)
    have t := h.tm
    unfold trapM
    split
    · exact { h' with tm := by show m.tm + 1 ≤ n + 8; omega }
    · exact { h' with tm := by show m.tm + 1 ≤ n + 8; omega }
  have h1 := h.mono (n' := n + 1) (by omega)
  have h8 := h.mono (n' := n + 8) (by omega)
  have t := h.tm
  unfold act
  cases lead m m.at_ false with
  | no c => exact tp h1
  | room k =>
    dsimp only
    split
    · unfold wait
      split
      · split
        · exact { h8 with }
        · rename_i a l e
          have d := (ok.ao a (by rw [e]; exact List.mem_cons_self)).2.2
          exact { h8 with tm := by show max m.tm a.due + 1 ≤ n + 8; omega }
      · exact { h8 with tm := by show m.tm + 1 ≤ n + 8; omega }
    · have e1 := exec_lim (op := cel m.rs k (m.at_ % 8) / 256) (a := cel m.rs k (m.at_ % 8) / 64 % 4) (b := cel m.rs k (m.at_ % 8) % 64) h
      generalize exec m (cel m.rs k (m.at_ % 8) / 256) (cel m.rs k (m.at_ % 8) / 64 % 4) (cel m.rs k (m.at_ % 8) % 64) = z at e1
      obtain ⟨m2, o2⟩ := z
      have e1 : m2.Lim (n + 1) := e1
      have e8 := e1.mono (n' := n + 8) (by omega)
      have t2 := e1.tm
      unfold onward
      cases o2 with
      | trap c => exact tp e1
      | jump p => exact { e8 with tm := by show m2.tm + 1 ≤ n + 8; omega }
      | row k t => exact { e8 with tm := by show m2.tm + 1 ≤ n + 8; omega }
theorem step_lim {m : M} {n : Nat} (ok : m.Ok) (h : m.Lim n) : (step m).1.Lim (n + 16) :=
  act_lim (n := n + 8) (runs_ok (serve_ok ok)) { (serve_lim ok h) with }
/-! ### the rows -/
def Th.le (n : Nat) : Th → Prop
  | .non => True
  | .num a => a ≤ n
  | .two a b => a ≤ n ∧ b ≤ n
  | .ask a _ b c => a ≤ n ∧ b ≤ n ∧ c ≤ n
def Row.le (n : Nat) (z : Row) : Prop := z.tm ≤ n ∧ z.pl ≤ n ∧ z.th.le n
theorem exec_row {m : M} {n op a b : Nat} (ok : m.Ok) (h : m.Lim n) {k : String} {t : Th} (e : (exec m op a b).2 = .row k t) : t.le (n + 4095) := by
  have ld : ∀ p, (load m a p).2 = .row k t → t.le (n + 4095) := fun p e => by
    unfold load at e
    cases q : lead m p false with
    | no c => rw [q] at e; exact nomatch e
    | room n => rw [q] at e; injection e with _ e; rw [← e]; trivial
  have sv : ∀ p, (save m a p).2 = .row k t → t.le (n + 4095) := fun p e => by
    unfold save at e
    cases q : lead m p true with
    | no c => rw [q] at e; exact nomatch e
    | room n => rw [q] at e; injection e with _ e; rw [← e]; trivial
  have ra := rg_le ok a
  have hq := h.mq
  unfold exec at e
  split at e
  · injection e with _ e; rw [← e]; trivial
  · injection e with _ e; rw [← e]; trivial
  · exact ld _ e
  · exact sv _ e
  · exact ld _ e
  · exact sv _ e
  · injection e with _ e; rw [← e]; trivial
  · injection e with _ e; rw [← e]; trivial
  · unfold part at e
    split at e
    · exact nomatch e
    · injection e with _ e; rw [← e]; trivial
  · unfold jump at e
    split at e
    · exact nomatch e
    · injection e with _ e; rw [← e]; trivial
  · injection e with _ e; rw [← e]; trivial
  · unfold traps at e
    split at e
    · injection e with _ e; rw [← e]; trivial
    · exact nomatch e
    · injection e with _ e; rw [← e]; trivial
    · exact nomatch e
  · unfold clock at e
    injection e with _ e
    rw [← e]
    show _ % 4096 ≤ n + 4095
    omega
  · unfold outM at e
    split at e
    · injection e with _ e; rw [← e]; show _ % 128 ≤ n + 4095; omega
    · injection e with _ e; rw [← e]; exact ⟨by show _ % 8 ≤ n + 4095; omega, by omega⟩
    · unfold askM at e
      split at e
      · injection e with _ e; rw [← e]; trivial
      · injection e with _ e; rw [← e]; exact ⟨by omega, by show _ % 8 ≤ n + 4095; omega, by show _ % 8 ≤ n + 4095; omega⟩
  · have hd : ∀ {l : List Nat}, (∀ w ∈ l, w ≤ 4095) → l.headD 4095 ≤ n + 4095 := fun {l} hl => by
      cases l with
      | nil => show 4095 ≤ _; omega
      | cons x l => have := hl x List.mem_cons_self; show x ≤ _; omega
    unfold inM at e
    split at e
    · injection e with _ e; rw [← e]; exact hd ok.lo
    · injection e with _ e; rw [← e]; exact hd ok.no
    · injection e with _ e; rw [← e]; show _ % 4096 ≤ n + 4095; omega
    · injection e with _ e; rw [← e]; show m.as.length ≤ n + 4095; have := ok.a8; omega
theorem step_row {m : M} {n : Nat} (ok : m.Ok) (h : m.Lim n) {z : Row} (e : (step m).2 = some z) : z.le (n + 5000) := by
  unfold step at e
  have ok1 := runs_ok (serve_ok ok)
  have l1 : ({ serve m with st := .runs } : M).Lim (n + 8) := { (serve_lim ok h) with }
  generalize ({ serve m with st := .runs } : M) = m1 at e ok1 l1
  have tp : ∀ {m2 : M} {c : Nat}, m2.tm ≤ n + 10 → m2.at_ < 64 → c ≤ 4 → (trapM m2 c).2 = some z → z.le (n + 5000) := fun {m2 c} h1 h2 h3 e => by
    unfold trapM at e
    split at e
    · have e := Option.some.inj e; rw [← e]; exact ⟨by show m2.tm ≤ _; omega, by show m2.at_ ≤ _; omega, by show c ≤ _; omega⟩
    · have e := Option.some.inj e; rw [← e]; exact ⟨by show m2.tm ≤ _; omega, by show m2.at_ ≤ _; omega, by show c ≤ _; omega⟩
  have t := l1.tm
  have a64 := ok1.a64
  unfold act at e
  rcases lead_ok (m := m1) (p := m1.at_) (w := false) with ⟨c, q, h1, h2⟩ | ⟨k, q, hn⟩
  · rw [q] at e
    exact tp (by omega) a64 (by omega) e
  · rw [q] at e
    dsimp only at e
    split at e
    · unfold wait at e
      split at e
      · split at e
        · exact nomatch e
        · rename_i a l ea
          have d := (ok1.ao a (by rw [ea]; exact List.mem_cons_self)).2.2
          have e := Option.some.inj e
          rw [← e]
          exact ⟨by show m1.tm ≤ _; omega, by show m1.at_ ≤ _; omega, by show max m1.tm a.due + 1 ≤ _; omega⟩
      · have e := Option.some.inj e
        rw [← e]
        exact ⟨by show m1.tm ≤ _; omega, by show m1.at_ ≤ _; omega, by show m1.tm + 1 ≤ _; omega⟩
    · have g := exec_ok ok1 (op := cel m1.rs k (m1.at_ % 8) / 256) (a := cel m1.rs k (m1.at_ % 8) / 64 % 4) (b := cel m1.rs k (m1.at_ % 8) % 64) (by omega) (by omega)
      have er := fun k' t' => exec_row (op := cel m1.rs k (m1.at_ % 8) / 256) (a := cel m1.rs k (m1.at_ % 8) / 64 % 4) (b := cel m1.rs k (m1.at_ % 8) % 64) (k := k') (t := t') ok1 l1
      generalize exec m1 (cel m1.rs k (m1.at_ % 8) / 256) (cel m1.rs k (m1.at_ % 8) / 64 % 4) (cel m1.rs k (m1.at_ % 8) % 64) = y at e g er
      obtain ⟨m2, o2⟩ := y
      obtain ⟨g1, g2, g3, g4, g5⟩ := g
      have g3 : m2.tm = m1.tm := g3
      have g4 : m2.at_ = m1.at_ := g4
      unfold onward at e
      cases o2 with
      | trap c => exact tp (by omega) (by omega) g2.2 e
      | jump p =>
        have e := Option.some.inj e
        rw [← e]
        exact ⟨by show m1.tm ≤ _; omega, by show m1.at_ ≤ _; omega, trivial⟩
      | row k t =>
        have e := Option.some.inj e
        have tl := er k t rfl
        rw [← e]
        refine ⟨by show m1.tm ≤ _; omega, by show m1.at_ ≤ _; omega, ?_⟩
        show t.le _
        cases t with
        | non => trivial
        | num a => have : a ≤ n + 8 + 4095 := tl; show a ≤ _; omega
        | two a b => have : a ≤ n + 8 + 4095 ∧ b ≤ n + 8 + 4095 := tl; exact ⟨by omega, by omega⟩
        | ask a k b c => have : a ≤ n + 8 + 4095 ∧ b ≤ n + 8 + 4095 ∧ c ≤ n + 8 + 4095 := tl; exact ⟨by omega, by omega, by omega⟩
/-! ### idle -/
def Rest (m : M) : Prop := m.st = .idle → m.as = [] ∧ m.ln = [] ∧ m.nt = [] ∧ ∃ n, lead m m.at_ false = .room n ∧ cel m.rs n (m.at_ % 8) / 256 = 15
theorem serve_idle {m : M} (h : m.as = []) : serve m = m ∧ ready m = [] := by
  have r : ready m = [] := by unfold ready; rw [h]; rfl
  refine ⟨?_, r⟩
  unfold serve
  rw [r, h]
  cases m
  dsimp only at h
  subst h
  rfl
end Cm

namespace Cm
open PySem PySem.Spec PyProof.Rows L2 Bk Rm
/-! A machine and its store in the heap -/
def Hold (H : Hp) (l : List (Addr × HO)) : Prop := ∀ (i : Nat) a u, l[i]? = some (a, u) → H a = some u
theorem nd_ne {l : List Addr} (h : l.Nodup) {i j : Nat} {a b : Addr} (ha : l[i]? = some a) (hb : l[j]? = some b) (n : i ≠ j) : a ≠ b := fun e => by
  obtain ⟨li, ea⟩ := List.getElem?_eq_some_iff.mp ha
  obtain ⟨lj, eb⟩ := List.getElem?_eq_some_iff.mp hb
  exact n (nd_idx h li lj (ea.trans (e.trans eb.symm)))
section
variable {H H' : Hp} {l : List (Addr × HO)} {i : Nat} {a : Addr} {u v : HO}
theorem Hold.set (h : Hold H l) (nd : (l.map (·.1)).Nodup) (e : l[i]? = some (a, u)) : Hold (upd H a v) (l.set i (a, v)) := fun j b w hj => by
  by_cases ij : i = j
  · subst ij
    rw [List.getElem?_set_self (List.getElem?_eq_some_iff.mp e).1] at hj
    obtain ⟨rfl, rfl⟩ := Prod.mk.inj (Option.some.inj hj)
    exact upd_same
  · rw [List.getElem?_set_ne ij] at hj
    rw [upd_ne (nd_ne nd (i := j) (j := i) (by rw [List.getElem?_map, hj]; rfl) (by rw [List.getElem?_map, e]; rfl) fun z => ij z.symm)]
    exact h j b w hj
theorem Hold.keep (h : Hold H l) (f : ∀ b w, b ∈ l.map (·.1) → H b = some w → H' b = some w) : Hold H' l := fun j b w hj => f b w (List.mem_map.mpr ⟨_, List.mem_of_getElem? hj, rfl⟩) (h j b w hj)
end
/-- rows of words -/
def Rw (H : Hp) (as : List Addr) (ls : List (List Nat)) : Prop := as.length = ls.length ∧ ∀ (i : Nat) a, as[i]? = some a → H a = some (.lst (nv (ls.getD i [])))
section
variable {H H' : Hp} {as : List Addr} {ls : List (List Nat)} {i : Nat} {a p : Addr} {ws : List Nat}
theorem Rw.keep (h : Rw H as ls) (f : ∀ b w, b ∈ as → H b = some w → H' b = some w) : Rw H' as ls := ⟨h.1, fun i a e => f _ _ (List.mem_of_getElem? e) (h.2 i a e)⟩
theorem getD_set {l : List (List Nat)} {i j : Nat} {ws : List Nat} (hi : i < l.length) : (l.set i ws).getD j [] = if i = j then ws else l.getD j [] := by
  rw [List.getD_eq_getElem?_getD, List.getD_eq_getElem?_getD]
  by_cases z : i = j
  · subst z
    rw [if_pos rfl, List.getElem?_set_self hi]
    rfl
  · rw [if_neg z, List.getElem?_set_ne z]
/-- a row's words change -/
theorem Rw.row (h : Rw H as ls) (nd : as.Nodup) (e : as[i]? = some a) : Rw (upd H a (.lst (nv ws))) as (ls.set i ws) := by
  have li : i < ls.length := by rw [← h.1]; exact (List.getElem?_eq_some_iff.mp e).1
  refine ⟨by rw [List.length_set]; exact h.1, fun j b hb => ?_⟩
  rw [getD_set li]
  by_cases z : i = j
  · subst z
    rw [if_pos rfl]
    rw [hb] at e
    obtain rfl := Option.some.inj e
    exact upd_same
  · rw [if_neg z, upd_ne (nd_ne nd hb e fun w => z w.symm)]
    exact h.2 j b hb
/-- a row is a new list -/
theorem Rw.new (h : Rw H as ls) (hi : i < as.length) (ep : H p = some (.lst (nv ws))) : Rw H (as.set i p) (ls.set i ws) := by
  have li : i < ls.length := by rw [← h.1]; exact hi
  refine ⟨by rw [List.length_set, List.length_set]; exact h.1, fun j b hb => ?_⟩
  rw [getD_set li]
  by_cases z : i = j
  · subst z
    rw [List.getElem?_set_self hi] at hb
    rw [if_pos rfl, ← Option.some.inj hb]
    exact ep
  · rw [List.getElem?_set_ne z] at hb
    rw [if_neg z]
    exact h.2 j b hb
end
/-- tuples of what was asked, of what was sent -/
def kindS (w : Bool) : Str := if w = true then Str.ofString "write" else Str.ofString "read"
def askV (a : Ask) : List V := [.int (a.no : Nat), .str (kindS a.wr), .int (a.blk : Nat), .int (a.room : Nat), .int (a.due : Nat)]
def Tps {α : Type} (f : α → List V) (H : Hp) (ts : List Addr) (l : List α) : Prop := ts.length = l.length ∧ ∀ (i : Nat) t z, ts[i]? = some t → l[i]? = some z → H t = some (.tup (f z))
section
variable {α : Type} {f : α → List V} {H H' : Hp} {ts : List Addr} {l : List α} {t : Addr} {z : α}
theorem Tps.keep (h : Tps f H ts l) (s : TS H H') : Tps f H' ts l := ⟨h.1, fun i t z a b => s _ _ (h.2 i t z a b)⟩
theorem Tps.push (h : Tps f H ts l) (e : H t = some (.tup (f z))) : Tps f H (ts ++ [t]) (l ++ [z]) := by
  refine ⟨by rw [List.length_append, List.length_append, h.1]; rfl, fun i u y a b => ?_⟩
  by_cases hi : i < ts.length
  · rw [List.getElem?_append_left hi] at a
    rw [List.getElem?_append_left (by rw [← h.1]; exact hi)] at b
    exact h.2 i u y a b
  · rw [List.getElem?_append_right (by omega)] at a
    rw [List.getElem?_append_right (by rw [← h.1]; omega), ← h.1] at b
    have i0 : i - ts.length = 0 := by
      have := (List.getElem?_eq_some_iff.mp a).1
      rw [List.length_singleton] at this
      omega
    rw [i0] at a b
    rw [← Option.some.inj a, ← Option.some.inj b]
    exact e
end
def sentV (z : Nat × Nat) : List V := [.int (z.1 : Nat), .int (z.2 : Nat)]
structure Ck where
  o : Addr
  dk : Addr
  so : Addr
  qd : Addr
  rg : Addr
  lq : Addr
  nq : Addr
  td : Addr
  sn : Addr
  bl : Addr
  al : Addr
  rl : Addr
  dxo : Addr
  dxd : Addr
  dxs : Addr
  bs : List Addr
  rs : List Addr
  ss : List Addr
  ts : List Addr
structure Cs where
  C : Addr
  D : Addr
  S : Addr
def CF (k : Ck) (m : M) : List (Str × V) := [("_registers", .ref k.rg), ("_counter", .int (m.at_ : Nat)), ("_table", .int (m.tb : Nat)), ("_time", .int (m.tm : Nat)), ("_handler", .int (m.hd : Nat)), ("_back_to", .int (m.bk : Nat)), ("_cause", .int (m.cs : Nat)), ("_trapped", .bl m.tr), ("_state", .str m.st.s), ("_queues", .ref k.qd), ("_told", .ref k.td), ("_sent", .ref k.sn), ("_disk", .ref k.dk)]
def DF (k : Ck) (m : M) : List (Str × V) := [("_blocks", .ref k.bl), ("_asks", .ref k.al), ("_made", .int (m.mq : Nat)), ("_done", .int (m.dn : Nat))]
def SF (k : Ck) : List (Str × V) := [("_rooms", .ref k.rl)]
def QD (k : Ck) : List (Key × V) := [((.inr (Str.ofString "line") : Key), .ref k.lq), (.inr (Str.ofString "net"), .ref k.nq)]
def facts (c : Cs) (k : Ck) (m : M) : List (Addr × HO) := [(k.o, .ins c.C k.dxo (CF k m)), (k.dk, .ins c.D k.dxd (DF k m)), (k.so, .ins c.S k.dxs (SF k)), (k.qd, .dK (QD k)), (k.rg, .lst (nv m.r)), (k.lq, .lst (nv m.ln)), (k.nq, .lst (nv m.nt)), (k.td, .lst (nv m.td)), (k.sn, .lst (k.ss.map V.ref)), (k.bl, .lst (k.bs.map V.ref)), (k.al, .lst (k.ts.map V.ref)), (k.rl, .lst (k.rs.map V.ref))]
def ownl (k : Ck) : List Addr := [k.o, k.dk, k.so, k.qd, k.rg, k.lq, k.nq, k.td, k.sn, k.bl, k.al, k.rl] ++ (k.bs ++ k.rs)
structure PAt (c : Cs) (H : Hp) (k : Ck) (m : M) : Prop where
  nm : Hold H (facts c k m)
  bw : Rw H k.bs m.bs
  rw_ : Rw H k.rs m.rs
  sv : Tps sentV H k.ss m.sn
  av : Tps askV H k.ts m.as
  nd : (ownl k).Nodup
  ok : m.Ok
section
variable {c : Cs} {H H' : Hp} {k k' : Ck} {m m' : M}
theorem PAt.nd1 (h : PAt c H k m) : ((facts c k m).map (·.1)).Nodup := (List.nodup_append.mp h.nd).1
theorem PAt.ndr (h : PAt c H k m) : (k.bs ++ k.rs).Nodup := (List.nodup_append.mp h.nd).2.1
theorem PAt.sep (h : PAt c H k m) {a b : Addr} (ha : a ∈ (facts c k m).map (·.1)) (hb : b ∈ k.bs ++ k.rs) : a ≠ b := (List.nodup_append.mp h.nd).2.2 a ha b hb
theorem PAt.has (h : PAt c H k m) {b : Addr} (o : b ∈ ownl k) : ∃ u, H b = some u ∧ ∀ xs, u ≠ .tup xs := by
  rcases List.mem_append.mp o with o | o
  · have o : b ∈ (facts c k m).map (·.1) := o
    obtain ⟨⟨a, u⟩, hm, rfl⟩ := List.mem_map.mp o
    obtain ⟨i, hi, e⟩ := List.getElem_of_mem hm
    refine ⟨u, h.nm i a u (by rw [List.getElem?_eq_getElem hi, e]), ?_⟩
    have : ∀ z ∈ facts c k m, ∀ xs, z.2 ≠ HO.tup xs := fun z hz xs => by
      simp only [facts, List.mem_cons, List.not_mem_nil, or_false] at hz
      rcases hz with rfl | rfl | rfl | rfl | rfl | rfl | rfl | rfl | rfl | rfl | rfl | rfl <;> exact fun w => nomatch w
    exact this _ hm
  · rcases List.mem_append.mp o with o | o
    · obtain ⟨i, hi, e⟩ := List.getElem_of_mem o
      exact ⟨_, h.bw.2 i b (by rw [List.getElem?_eq_getElem hi, e]), fun _ z => nomatch z⟩
    · obtain ⟨i, hi, e⟩ := List.getElem_of_mem o
      exact ⟨_, h.rw_.2 i b (by rw [List.getElem?_eq_getElem hi, e]), fun _ z => nomatch z⟩
theorem PAt.none (h : PAt c H k m) {b : Addr} (e : H b = none) : b ∉ ownl k := fun o => by
  obtain ⟨u, e2, _⟩ := h.has o
  rw [e] at e2
  exact nomatch e2
theorem PAt.ntup (h : PAt c H k m) {b : Addr} {xs : List V} (e : H b = some (.tup xs)) : b ∉ ownl k := fun o => by
  obtain ⟨u, e2, n⟩ := h.has o
  rw [e] at e2
  exact n xs (Option.some.inj e2).symm
theorem PAt.ts (h : PAt c H k m) (f : ∀ b u, b ∉ ownl k → H b = some u → H' b = some u) : TS H H' := fun a xs e => f _ _ (h.ntup e) e
/-- what a deed of the machine may have changed -/
structure PMv (c : Cs) (H : Hp) (k : Ck) (m : M) (H' : Hp) (k' : Ck) (m' : M) : Prop where
  at_ : PAt c H' k' m'
  fr : ∀ b u, b ∉ ownl k → H b = some u → H' b = some u
  nw : ∀ b, b ∈ ownl k' → b ∈ ownl k ∨ H b = .none
  oo : k'.o = k.o
  ss : k'.so = k.so
/-- one named thing changes -/
theorem PAt.upd1 (h : PAt c H k m) (i : Nat) {a : Addr} {u v : HO} (e : (facts c k m)[i]? = some (a, u)) (ok' : m'.Ok) (f : facts c k' m' = (facts c k m).set i (a, v)) (ow : ownl k' = ownl k) (e1 : k'.bs = k.bs ∧ m'.bs = m.bs ∧ k'.rs = k.rs ∧ m'.rs = m.rs) (sv : Tps sentV H k'.ss m'.sn) (av : Tps askV H k'.ts m'.as) (oo : k'.o = k.o ∧ k'.so = k.so) : PMv c H k m (upd H a v) k' m' := by
  have ma : a ∈ (facts c k m).map (·.1) := List.mem_map.mpr ⟨_, List.mem_of_getElem? e, rfl⟩
  have mo : a ∈ ownl k := List.mem_append.mpr (.inl ma)
  have fr : ∀ b w, b ∉ ownl k → H b = some w → upd H a v b = some w := fun b w n eb => by rw [upd_ne fun z => n (by rw [z]; exact mo)]; exact eb
  have t := h.ts fr
  have rn : ∀ b w, b ∈ k.bs ++ k.rs → H b = some w → upd H a v b = some w := fun b w hb eb => by rw [upd_ne (h.sep ma hb).symm]; exact eb
  refine ⟨⟨?_, ?_, ?_, sv.keep t, av.keep t, by rw [ow]; exact h.nd, ok'⟩, fr, fun b z => .inl (by rw [← ow]; exact z), oo.1, oo.2⟩
  · rw [f]; exact h.nm.set h.nd1 e
  · rw [e1.1, e1.2.1]; exact h.bw.keep fun b w hb => rn b w (List.mem_append.mpr (.inl hb))
  · rw [e1.2.2.1, e1.2.2.2]; exact h.rw_.keep fun b w hb => rn b w (List.mem_append.mpr (.inr hb))
/-- words of a room of the store change -/
theorem PAt.room (h : PAt c H k m) {i : Nat} {a : Addr} {ws : List Nat} (e : k.rs[i]? = some a) (ok' : M.Ok { m with rs := m.rs.set i ws }) : PMv c H k m (upd H a (.lst (nv ws))) k { m with rs := m.rs.set i ws } := by
  have ma := List.mem_of_getElem? e
  have mo : a ∈ ownl k := List.mem_append.mpr (.inr (List.mem_append.mpr (.inr ma)))
  have fr : ∀ b w, b ∉ ownl k → H b = some w → upd H a (.lst (nv ws)) b = some w := fun b w n eb => by rw [upd_ne fun z => n (by rw [z]; exact mo)]; exact eb
  have t := h.ts fr
  refine ⟨⟨h.nm.keep fun b w hb eb => ?_, h.bw.keep fun b w hb eb => ?_, h.rw_.row (List.nodup_append.mp h.ndr).2.1 e, h.sv.keep t, h.av.keep t, h.nd, ok'⟩, fr, fun b z => .inl z, rfl, rfl⟩
  · rw [upd_ne (h.sep hb (List.mem_append.mpr (.inr ma)))]; exact eb
  · rw [upd_ne ((List.nodup_append.mp h.ndr).2.2 b hb a ma)]; exact eb
end
end Cm

namespace Cm
open PySem PySem.Spec PyProof.Rows L2 Bk Rm

theorem Hold.new {H : Hp} {l : List (Addr × HO)} {i : Nat} {p : Addr} {v : HO} (h : Hold H l) (e : H p = some v) : Hold H (l.set i (p, v)) := fun j b w hj => by
  by_cases ij : i = j
  · subst ij
    have li := (List.getElem?_eq_some_iff.mp hj).1
    rw [List.length_set] at li
    rw [List.getElem?_set_self li] at hj
    obtain ⟨rfl, rfl⟩ := Prod.mk.inj (Option.some.inj hj)
    exact e
  · rw [List.getElem?_set_ne ij] at hj
    exact h j b w hj
theorem nd_set {l : List Addr} (h : l.Nodup) {i : Nat} {p : Addr} (np : p ∉ l) : (l.set i p).Nodup := by
  refine List.pairwise_iff_getElem.mpr fun a b ha hb lt => ?_
  rw [List.length_set] at ha hb
  rw [List.getElem_set, List.getElem_set]
  have pn : ∀ {c : Nat} (hc : c < l.length), p ≠ l[c] := fun hc z => np (z ▸ List.getElem_mem hc)
  split <;> split
  · omega
  · exact pn hb
  · exact (pn ha).symm
  · exact List.pairwise_iff_getElem.mp h a b ha hb lt
theorem mem_set {l : List Addr} {i : Nat} {p b : Addr} (h : b ∈ l.set i p) : b ∈ l ∨ b = p := List.mem_or_eq_of_mem_set h
section
variable {c : Cs} {H Hb : Hp} {k : Ck} {m : M}
end
/-! ### the law's own machine in the heap -/
structure Lk where
  d : Addr
  r : Addr
  ln : Addr
  nt : Addr
  td : Addr
  sn : Addr
  al : Addr
  bl : Addr
  rl : Addr
  bs : List Addr
  rs : List Addr
  ss : List Addr
  ts : List Addr
def DM (k : Lk) (m : M) (f : Option Nat) : List (Key × V) := [((.inr (Str.ofString "r") : Key), .ref k.r), (.inr (Str.ofString "at"), .int (m.at_ : Nat)), (.inr (Str.ofString "table"), .int (m.tb : Nat)), (.inr (Str.ofString "time"), .int (m.tm : Nat)), (.inr (Str.ofString "handler"), .int (m.hd : Nat)), (.inr (Str.ofString "back"), .int (m.bk : Nat)), (.inr (Str.ofString "cause"), .int (m.cs : Nat)), (.inr (Str.ofString "trapped"), .bl m.tr),
  (.inr (Str.ofString "state"), .str m.st.s), (.inr (Str.ofString "line"), .ref k.ln), (.inr (Str.ofString "net"), .ref k.nt), (.inr (Str.ofString "told"), .ref k.td), (.inr (Str.ofString "sent"), .ref k.sn), (.inr (Str.ofString "asks"), .ref k.al), (.inr (Str.ofString "made"), .int (m.mq : Nat)), (.inr (Str.ofString "done"), .int (m.dn : Nat)), (.inr (Str.ofString "blocks"), .ref k.bl), (.inr (Str.ofString "rooms"), .ref k.rl)] ++ (match f with | none => [] | some n => [((.inr (Str.ofString "fresh") : Key), V.int (n : Nat))])
def lfacts (k : Lk) (m : M) (f : Option Nat) : List (Addr × HO) := [(k.d, .dK (DM k m f)), (k.r, .lst (nv m.r)), (k.ln, .lst (nv m.ln)), (k.nt, .lst (nv m.nt)), (k.td, .lst (nv m.td)), (k.sn, .lst (k.ss.map V.ref)), (k.al, .lst (k.ts.map V.ref)), (k.bl, .lst (k.bs.map V.ref)), (k.rl, .lst (k.rs.map V.ref))]
def ownL (k : Lk) : List Addr := [k.d, k.r, k.ln, k.nt, k.td, k.sn, k.al, k.bl, k.rl] ++ (k.bs ++ k.rs)
structure LAt (H : Hp) (k : Lk) (m : M) (f : Option Nat) : Prop where
  nm : Hold H (lfacts k m f)
  bw : Rw H k.bs m.bs
  rw_ : Rw H k.rs m.rs
  sv : Tps sentV H k.ss m.sn
  av : Tps askV H k.ts m.as
  nd : (ownL k).Nodup
  ok : m.Ok
section
variable {H H' : Hp} {k k' : Lk} {m m' : M} {f f' : Option Nat}
theorem LAt.nd1 (h : LAt H k m f) : ((lfacts k m f).map (·.1)).Nodup := (List.nodup_append.mp h.nd).1
theorem LAt.ndr (h : LAt H k m f) : (k.bs ++ k.rs).Nodup := (List.nodup_append.mp h.nd).2.1
theorem LAt.sep (h : LAt H k m f) {a b : Addr} (ha : a ∈ (lfacts k m f).map (·.1)) (hb : b ∈ k.bs ++ k.rs) : a ≠ b := (List.nodup_append.mp h.nd).2.2 a ha b hb
theorem LAt.has (h : LAt H k m f) {b : Addr} (o : b ∈ ownL k) : ∃ u, H b = some u ∧ ∀ xs, u ≠ .tup xs := by
  rcases List.mem_append.mp o with o | o
  · have o : b ∈ (lfacts k m f).map (·.1) := o
    obtain ⟨⟨a, u⟩, hm, rfl⟩ := List.mem_map.mp o
    obtain ⟨i, hi, e⟩ := List.getElem_of_mem hm
    refine ⟨u, h.nm i a u (by rw [List.getElem?_eq_getElem hi, e]), ?_⟩
    have : ∀ z ∈ lfacts k m f, ∀ xs, z.2 ≠ HO.tup xs := fun z hz xs => by
      simp only [lfacts, List.mem_cons, List.not_mem_nil, or_false] at hz
      rcases hz with rfl | rfl | rfl | rfl | rfl | rfl | rfl | rfl | rfl <;> exact fun w => nomatch w
    exact this _ hm
  · rcases List.mem_append.mp o with o | o
    · obtain ⟨i, hi, e⟩ := List.getElem_of_mem o
      exact ⟨_, h.bw.2 i b (by rw [List.getElem?_eq_getElem hi, e]), fun _ z => nomatch z⟩
    · obtain ⟨i, hi, e⟩ := List.getElem_of_mem o
      exact ⟨_, h.rw_.2 i b (by rw [List.getElem?_eq_getElem hi, e]), fun _ z => nomatch z⟩
theorem LAt.none (h : LAt H k m f) {b : Addr} (e : H b = none) : b ∉ ownL k := fun o => by
  obtain ⟨u, e2, _⟩ := h.has o
  rw [e] at e2
  exact nomatch e2
theorem LAt.ntup (h : LAt H k m f) {b : Addr} {xs : List V} (e : H b = some (.tup xs)) : b ∉ ownL k := fun o => by
  obtain ⟨u, e2, n⟩ := h.has o
  rw [e] at e2
  exact n xs (Option.some.inj e2).symm
theorem LAt.ts (h : LAt H k m f) (g : ∀ b u, b ∉ ownL k → H b = some u → H' b = some u) : TS H H' := fun a xs e => g _ _ (h.ntup e) e
/-- what a deed of the machine may have changed -/
structure LMv (H : Hp) (k : Lk) (m : M) (f : Option Nat) (H' : Hp) (k' : Lk) (m' : M) (f' : Option Nat) : Prop where
  at_ : LAt H' k' m' f'
  fr : ∀ b u, b ∉ ownL k → H b = some u → H' b = some u
  nw : ∀ b, b ∈ ownL k' → b ∈ ownL k ∨ H b = .none
  oo : k'.d = k.d
/-- one named thing changes -/
theorem LAt.upd1 (h : LAt H k m f) (i : Nat) {a : Addr} {u v : HO} (e : (lfacts k m f)[i]? = some (a, u)) (ok' : m'.Ok) (fe : lfacts k' m' f' = (lfacts k m f).set i (a, v)) (ow : ownL k' = ownL k) (e1 : k'.bs = k.bs ∧ m'.bs = m.bs ∧ k'.rs = k.rs ∧ m'.rs = m.rs) (sv : Tps sentV H k'.ss m'.sn) (av : Tps askV H k'.ts m'.as) (oo : k'.d = k.d) : LMv H k m f (upd H a v) k' m' f' := by
  have ma : a ∈ (lfacts k m f).map (·.1) := List.mem_map.mpr ⟨_, List.mem_of_getElem? e, rfl⟩
  have mo : a ∈ ownL k := List.mem_append.mpr (.inl ma)
  have fr : ∀ b w, b ∉ ownL k → H b = some w → upd H a v b = some w := fun b w n eb => by rw [upd_ne fun z => n (by rw [z]; exact mo)]; exact eb
  have t := h.ts fr
  have rn : ∀ b w, b ∈ k.bs ++ k.rs → H b = some w → upd H a v b = some w := fun b w hb eb => by rw [upd_ne (h.sep ma hb).symm]; exact eb
  refine ⟨⟨?_, ?_, ?_, sv.keep t, av.keep t, by rw [ow]; exact h.nd, ok'⟩, fr, fun b z => .inl (by rw [← ow]; exact z), oo⟩
  · rw [fe]; exact h.nm.set h.nd1 e
  · rw [e1.1, e1.2.1]; exact h.bw.keep fun b w hb => rn b w (List.mem_append.mpr (.inl hb))
  · rw [e1.2.2.1, e1.2.2.2]; exact h.rw_.keep fun b w hb => rn b w (List.mem_append.mpr (.inr hb))
/-- words of a room of the store change -/
theorem LAt.room (h : LAt H k m f) {i : Nat} {a : Addr} {ws : List Nat} (e : k.rs[i]? = some a) (ok' : M.Ok { m with rs := m.rs.set i ws }) : LMv H k m f (upd H a (.lst (nv ws))) k { m with rs := m.rs.set i ws } f := by
  have ma := List.mem_of_getElem? e
  have mo : a ∈ ownL k := List.mem_append.mpr (.inr (List.mem_append.mpr (.inr ma)))
  have fr : ∀ b w, b ∉ ownL k → H b = some w → upd H a (.lst (nv ws)) b = some w := fun b w n eb => by rw [upd_ne fun z => n (by rw [z]; exact mo)]; exact eb
  have t := h.ts fr
  refine ⟨⟨h.nm.keep fun b w hb eb => ?_, h.bw.keep fun b w hb eb => ?_, h.rw_.row (List.nodup_append.mp h.ndr).2.1 e, h.sv.keep t, h.av.keep t, h.nd, ok'⟩, fr, fun b z => .inl z, rfl⟩
  · rw [upd_ne (h.sep hb (List.mem_append.mpr (.inr ma)))]; exact eb
  · rw [upd_ne ((List.nodup_append.mp h.ndr).2.2 b hb a ma)]; exact eb
end
section
variable {H Hb : Hp} {k : Lk} {m : M} {f : Option Nat}
end
end Cm

namespace Bk
open PySem PySem.Spec PyProof.Rows L2
/-! ## a def that a variable holds -/
def tCallV (P : Program) (w : World) (K : PySem.W.Frag) (mg : Str → Option Value) (base : Heap) (j : Nat) (tv : TE) (ta : TA) : TE := fun σ H Q => tv σ H fun y H1 => ∃ (sp : Sp) (f : Addr) (fd : FuncData) (ps : List Str) (k : Nat), y = .ref f ∧ PySem.W.keepIn K (.ref f) = true ∧ FnOk P w K mg base (L2.CX P w) k f fd ps sp ∧ Binds K fd ps [] ∧ k ≤ j ∧ ta σ H1 fun vs H2 => sp vs H2 Q noE
section
variable {X : Cx} {j : Nat} {x : Str} {e : Expr} {es : List Expr} {p pos : Pos} {tv : TE} {t : TA}
theorem pe_callV (hv : PE X (.Name x p) tv) (hr : Room j X.A) (ha : PA X (e :: es) t)
    (he : starEach (e :: es) X.env = (false, eval e X.env) :: starEach es X.env := by rfl) (hpl : (backTo pos (starEach es X.env)).any (·.1) = false := by rfl) :
    PE X (.Call (.Name x p) (e :: es) [] pos) (tCallV X.prog X.w X.K X.mg X.base j tv t) := by
  refine ⟨fun pins s σ H Q I h => ?_⟩
  refine wpAny_Call_Name_kw (thn (hv.run pins s σ H _ I h) fun u s1 ⟨y, H1, I1, r1, sp, f, fd, ps, k, e1, kp, F, b, hk, q1⟩ => ?_)
  subst e1
  obtain rfl : u = Value.ref f := r1
  refine PySem.W.callWith_K (h₀ := X.base) I1.ok.mod.kin kp (thn (ha.run pos pins s1 σ H1 _ I1 q1) fun us s2 ⟨vs, H2, I2, r, q⟩ => ⟨I2.kIn, ?_⟩) he hpl
  exact run_fn (dvs := []) F (hr.mono hk) b .nil pass_no I2 r (by rw [List.append_nil]; exact q)
end
end Bk

namespace Cm
open PySem PySem.Spec PyProof.Rows L2 Bk Rm
/-! what an op tells, as things; a step in two halves -/
def waitO (m : M) (f : Nat) : M × Option Out :=
  if f = 0 ∧ m.ln = [] ∧ m.nt = [] then match m.as with
    | [] => (m, none)
    | a :: _ => ({ m with tm := max m.tm a.due }, some (.row "waited" (.num (max m.tm a.due + 1))))
  else (m, some (.row "waited" (.num (m.tm + 1))))
def actO (m : M) (f : Nat) : M × Option Out := match lead m m.at_ false with
  | .no c => (m, some (.trap c))
  | .room n =>
    let w := cel m.rs n (m.at_ % 8)
    if w / 256 = 15 then waitO m f else ((exec m (w / 256) (w / 64 % 4) (w % 64)).1, some (exec m (w / 256) (w / 64 % 4) (w % 64)).2)
def finish (m : M) (z : M × Option Out) : M × Option Row := match z.2 with
  | none => ({ z.1 with st := .idle }, none)
  | some o => onward m (z.1, o)
theorem act_two {m : M} {f : Nat} : act m f = finish m (actO m f) := by
  unfold act actO
  cases lead m m.at_ false with
  | no c => rfl
  | room n =>
    dsimp only
    split
    · unfold wait waitO
      split
      · obtain ⟨r, at_, tb, tm, hd, bk, cs, tr, st, ln, nt, td, sn, as, mq, dn, bs, rs⟩ := m
        cases as with
        | nil => rfl
        | cons a l => rfl
      · rfl
    · rfl
theorem waitO_ok {m : M} (h : m.Ok) {f : Nat} : (waitO m f).1.Ok ∧ (waitO m f).1.at_ = m.at_ ∧ (waitO m f).1.st = m.st ∧ m.tm ≤ (waitO m f).1.tm ∧ (waitO m f).1.tm ≤ m.tm + 6 ∧ (waitO m f).1.tr = m.tr := by
  unfold waitO
  split
  · split
    · exact ⟨h, rfl, rfl, Nat.le_refl _, by show m.tm ≤ _; omega, rfl⟩
    · rename_i a l e
      have d := (h.ao a (by rw [e]; exact List.mem_cons_self)).2.2
      exact ⟨{ h with ao := fun x hx => ⟨(h.ao x hx).1, (h.ao x hx).2.1, by have := (h.ao x hx).2.2; show x.due ≤ max m.tm a.due + 6; omega⟩ }, rfl, rfl, Nat.le_max_left _ _, by show max m.tm a.due ≤ _; omega, rfl⟩
  · exact ⟨h, rfl, rfl, Nat.le_refl _, by show m.tm ≤ _; omega, rfl⟩
theorem actO_ok {m : M} (h : m.Ok) {f : Nat} : (actO m f).1.Ok ∧ ∀ o, (actO m f).2 = some o → OutOk o := by
  unfold actO
  rcases lead_ok (m := m) (p := m.at_) (w := false) with ⟨c, e, h1, h2⟩ | ⟨n, e, hn⟩
  · rw [e]
    exact ⟨h, fun o z => by rw [← Option.some.inj z]; exact ⟨h1, by omega⟩⟩
  · rw [e]
    dsimp only
    split
    · refine ⟨(waitO_ok h).1, fun o z => ?_⟩
      unfold waitO at z
      split at z
      · split at z
        · exact nomatch z
        · rw [← Option.some.inj z]; trivial
      · rw [← Option.some.inj z]; trivial
    · have g := exec_ok h (op := cel m.rs n (m.at_ % 8) / 256) (a := cel m.rs n (m.at_ % 8) / 64 % 4) (b := cel m.rs n (m.at_ % 8) % 64) (by omega) (by omega)
      exact ⟨g.1, fun o z => by rw [← Option.some.inj z]; exact g.2.1⟩
/-! the things -/
def ThV (H : Hp) : Th → V → Prop
  | .non, v => v = .non
  | .num n, v => v = .int (n : Nat)
  | .two a b, v => ∃ t, v = .ref t ∧ H t = some (.tup [.int (a : Nat), .int (b : Nat)])
  | .ask n k b r, v => ∃ t, v = .ref t ∧ H t = some (.tup [.int (n : Nat), .str (kindS k), .int (b : Nat), .int (r : Nat)])
theorem ThV.keep {H H' : Hp} {t : Th} {v : V} (h : ThV H t v) (s : TS H H') : ThV H' t v := by
  cases t with
  | non => exact h
  | num n => exact h
  | two a b => obtain ⟨t, e, h⟩ := h; exact ⟨t, e, s _ _ h⟩
  | ask n k b r => obtain ⟨t, e, h⟩ := h; exact ⟨t, e, s _ _ h⟩
/-- (kind, thing) -/
def KtV (H : Hp) (k : String) (t : Th) (v : V) : Prop := ∃ p x, v = .ref p ∧ H p = some (.tup [.str (Str.ofString k), x]) ∧ ThV H t x
def OutV (H : Hp) : Option Out → V → Prop
  | none, v => KtV H "idle" .non v
  | some (.trap c), v => KtV H "trap" (.num c) v
  | some (.jump p), v => KtV H "jump" (.num p) v
  | some (.row k t), v => KtV H k t v
/-- a row of a step -/
def RowV (H : Hp) : Option Row → V → Prop
  | none, v => v = .non
  | some z, v => ∃ p x, v = .ref p ∧ H p = some (.tup [.int (z.tm : Nat), .str (Str.ofString z.kind), .int (z.pl : Nat), x]) ∧ ThV H z.th x
theorem RowV.keep {H H' : Hp} {o : Option Row} {v : V} (h : RowV H o v) (s : TS H H') : RowV H' o v := by
  match o, h with
  | none, h => exact h
  | some z, h =>
    obtain ⟨p, x, e, a, b⟩ := h
    exact ⟨p, x, e, s _ _ a, ThV.keep b s⟩
def thD : Th → PyData
  | .non => .none
  | .num n => .int n
  | .two a b => .tuple [.int a, .int b]
  | .ask n k b r => .tuple [.int n, .str (kindS k), .int b, .int r]
def rowDat : Option Row → PyData
  | none => .none
  | some z => .tuple [.int z.tm, .str (Str.ofString z.kind), .int z.pl, thD z.th]
theorem dq_th {K : PySem.W.Frag} {H : Hp} {t : Th} {v : V} (h : ThV H t v) : Dq false K H v (thD t) := by
  cases t with
  | non => obtain rfl : v = .non := h; exact .non
  | num n => obtain rfl : v = .int (n : Nat) := h; exact .int _
  | two a b => obtain ⟨t, rfl, h⟩ := h; exact .tup (sqT h) (.cons (.int _) (.cons (.int _) .nil))
  | ask n k b r => obtain ⟨t, rfl, h⟩ := h; exact .tup (sqT h) (.cons (.int _) (.cons (.str _) (.cons (.int _) (.cons (.int _) .nil))))
theorem dq_rowV {K : PySem.W.Frag} {H : Hp} {o : Option Row} {v : V} (h : RowV H o v) : Dq false K H v (rowDat o) := by
  cases o with
  | none => obtain rfl : v = .non := h; exact .non
  | some z =>
    obtain ⟨p, x, rfl, a, b⟩ := h
    exact .tup (sqT a) (.cons (.int _) (.cons (.str _) (.cons (.int _) (.cons (dq_th b) .nil))))
end Cm

namespace Bk
open PySem PySem.Spec PyProof.Rows L2
/-! ## d.update(d2) -/
def tDUpd (td te : TE) : TE := fun σ H Q => td σ H fun x H1 => ∃ a, x = .ref a ∧ IsD H1 a ∧ te σ H1 fun y H2 => ∃ b kvs more, y = .ref b ∧ H2 a = some (.dK kvs) ∧ H2 b = some (.dK more) ∧ a ≠ b ∧ kvs.length + more.length ≤ sizeLine ∧ Q .non (upd H2 a (.dK (mergeK kvs more)))
section
variable {X : Cx} {pins : List (Addr × Obj)} {σ : L2.St} {H : Hp} {s : Shared} {a b : Addr} {kvs more : List (Key × V)} {A : Around} {E : Value → Shared → Prop}
end
section
variable {X : Cx} {o e : Expr} {td te : TE} {apos cpos : Pos}
end
end Bk

namespace Cm
open PySem PySem.Spec PyProof.Rows L2 Bk Rm
section
variable {σ : L2.St} {H : Hp} {Q : VK}
theorem rn_div {n : Nat} (d : Nat) (hd : 0 < d ∧ d < 2 ^ 60) (q : Q (.int (n / d : Nat)) H) : rI CDivW (fun i j => V.int (i / j)) (.int (n : Nat)) (.int (d : Nat)) H Q :=
  r_I (cdiv (by omega) (by omega)) (by rw [← Int.natCast_ediv]; exact q)
theorem rn_mod {n : Nat} (d : Nat) (hd : 0 < d) (q : Q (.int (n % d : Nat)) H) : rI (fun x j => 0 < j) (fun i j => V.int (i % j)) (.int (n : Nat)) (.int (d : Nat)) H Q :=
  r_I (by show (0 : Int) < (d : Nat); omega) (by rw [← Int.natCast_emod]; exact q)
end
variable {k : Ck} {m : M} {n : Nat} {b : Bool} {s : St}
variable {kl : Lk} {f : Option Nat}
section
variable {c : Cs} {H : Hp} {k : Ck} {m : M}
theorem nv_set {l : List Nat} {i v : Nat} : (nv l).set i (.int (v : Nat)) = nv (l.set i v) := by unfold nv; rw [List.map_set]
theorem PAt.core (h : PAt c H k m) {a t tm hd bk cs : Nat} {tr : Bool} {st : St} (ok' : M.Ok { m with at_ := a, tb := t, tm := tm, hd := hd, bk := bk, cs := cs, tr := tr, st := st }) : PMv c H k m (upd H k.o (.ins c.C k.dxo (CF k { m with at_ := a, tb := t, tm := tm, hd := hd, bk := bk, cs := cs, tr := tr, st := st }))) k { m with at_ := a, tb := t, tm := tm, hd := hd, bk := bk, cs := cs, tr := tr, st := st } :=
  h.upd1 0 (u := .ins c.C k.dxo (CF k m)) rfl ok' rfl rfl ⟨rfl, rfl, rfl, rfl⟩ h.sv h.av ⟨rfl, rfl⟩
end
end Cm

namespace Cm
open PySem PySem.Spec PyProof.Rows L2 Bk Rm
/-! A thing that is made: it, and what was laid for it -/
structure Bn (H0 : Hp) (x : Addr) (H : Hp) (o : HO) (fs : List (Addr × HO)) : Prop where
  but : But x H0 H
  ox : H x = some o
  nm : ∀ z ∈ fs, H z.1 = some z.2
  nd : (x :: fs.map (·.1)).Nodup
  nw : ∀ b ∈ fs.map (·.1), H0 b = none
section
variable {H0 H H' : Hp} {x p : Addr} {o o' u : HO} {fs l : List (Addr × HO)}
theorem Bn.start (e : H0 x = some o) : Bn H0 x H0 o [] := ⟨fun _ _ _ h => h, e, fun _ z => (nomatch z), by simp, fun _ z => (nomatch z)⟩
theorem Bn.nx (h : Bn H0 x H o fs) : ∀ z ∈ fs, z.1 ≠ x := fun z hz e => (List.nodup_cons.mp h.nd).1 (by rw [← e]; exact List.mem_map.mpr ⟨z, hz, rfl⟩)
theorem Bn.put (h : Bn H0 x H o fs) : Bn H0 x (upd H x o') o' fs := ⟨fun b w n e => by rw [upd_ne n]; exact h.but b w n e, upd_same, fun z hz => by rw [upd_ne (h.nx z hz)]; exact h.nm z hz, h.nd, h.nw⟩
theorem Bn.same (h : Bn H0 x H o fs) (s : Same H H') : Bn H0 x H' o fs := ⟨fun b w n e => s _ _ (h.but b w n e), s _ _ h.ox, fun z hz => s _ _ (h.nm z hz), h.nd, h.nw⟩
theorem Bn.add (h : Bn H0 x H o fs) (s : Same H H') (hl : ∀ z ∈ l, H' z.1 = some z.2) (nl : (l.map (·.1)).Nodup) (fr : ∀ b ∈ l.map (·.1), H b = none) : Bn H0 x H' o (fs ++ l) := by
  have h1 := h.same s
  refine ⟨h1.but, h1.ox, fun z hz => ?_, ?_, fun b hb => ?_⟩
  · rcases List.mem_append.mp hz with z1 | z1
    · exact h1.nm z z1
    · exact hl z z1
  · rw [List.map_append, ← List.cons_append]
    refine List.nodup_append.mpr ⟨h.nd, nl, fun a ha b hb e => ?_⟩
    have e1 := fr b hb
    rw [← e] at e1
    rcases List.mem_cons.mp ha with z | z
    · rw [z, h.ox] at e1
      exact nomatch e1
    · obtain ⟨y, hy, rfl⟩ := List.mem_map.mp z
      rw [h.nm y hy] at e1
      exact nomatch e1
  · rw [List.map_append] at hb
    rcases List.mem_append.mp hb with z | z
    · exact h.nw b z
    · have e1 := fr b z
      have nb : b ≠ x := fun e => by rw [e, h.ox] at e1; exact nomatch e1
      cases e0 : H0 b with
      | none => rfl
      | some w => rw [h.but b w nb e0] at e1; exact nomatch e1
theorem Bn.new (h : Bn H0 x H o fs) (s : Same H H') (np : H p = none) (ep : H' p = some u) : Bn H0 x H' o (fs ++ [(p, u)]) :=
  h.add s (fun z hz => by rw [List.mem_singleton.mp hz]; exact ep) (by simp) (fun b hb => by rw [List.mem_singleton.mp hb]; exact np)
/-- a made thing, by the heap before it -/
theorem Bn.all (h : Bn (upd H0 x u) x H o fs) (nx : H0 x = none) : Same H0 H ∧ (∀ z ∈ (x, o) :: fs, H z.1 = some z.2) ∧ (((x, o) :: fs).map (·.1)).Nodup ∧ ∀ b ∈ ((x, o) :: fs).map (·.1), H0 b = none := by
  refine ⟨fun b w e => ?_, fun z hz => ?_, h.nd, fun b hb => ?_⟩
  · have nb : b ≠ x := fun z => by rw [z, nx] at e; exact nomatch e
    exact h.but b w nb (by rw [upd_ne nb]; exact e)
  · rcases List.mem_cons.mp hz with rfl | z1
    · exact h.ox
    · exact h.nm z z1
  · rcases List.mem_cons.mp hb with rfl | z1
    · exact nx
    · have e := h.nw b z1
      have nb : b ≠ x := fun z => by rw [z, upd_same] at e; exact nomatch e
      rwa [upd_ne nb] at e
end
/-- rows laid -/
def rowsF (bs : List Addr) (rows : List (List Nat)) : List (Addr × HO) := (bs.zip rows).map fun z => (z.1, .lst (nv z.2))
theorem rowsF_own {bs : List Addr} {rows : List (List Nat)} (e : bs.length = rows.length) : (rowsF bs rows).map (·.1) = bs := by
  unfold rowsF
  rw [List.map_map]
  exact List.map_fst_zip (by omega)
theorem rowsF_of {H : Hp} {bs : List Addr} {rows : List (List Nat)} (e : bs.length = rows.length) (h : ∀ z ∈ rowsF bs rows, H z.1 = some z.2) : Rw H bs rows := by
  refine ⟨e, fun i a ea => ?_⟩
  obtain ⟨hi, rfl⟩ := List.getElem?_eq_some_iff.mp ea
  have h2 : i < rows.length := by omega
  have hz : i < (bs.zip rows).length := by rw [List.length_zip]; omega
  have := h (bs[i], .lst (nv rows[i])) (List.mem_map.mpr ⟨(bs[i], rows[i]), by rw [← List.getElem_zip (h := hz)]; exact List.getElem_mem hz, rfl⟩)
  rw [List.getD_eq_getElem?_getD, List.getElem?_eq_getElem h2]
  exact this
theorem rowsF_mk {H : Hp} {bs : List Addr} {rows : List (List Nat)} (e : bs.length = rows.length) (h : ∀ (i : Nat) a, bs[i]? = some a → H a = some (.lst (nv (rows.getD i [])))) : ∀ z ∈ rowsF bs rows, H z.1 = some z.2 := fun z hz => by
  obtain ⟨⟨a, ws⟩, hy, rfl⟩ := List.mem_map.mp hz
  obtain ⟨i, hi, ez⟩ := List.getElem_of_mem hy
  rw [List.length_zip] at hi
  rw [List.getElem_zip] at ez
  obtain ⟨rfl, rfl⟩ := Prod.mk.inj ez
  have := h i _ (List.getElem?_eq_getElem (by omega))
  rw [List.getD_eq_getElem?_getD, List.getElem?_eq_getElem (by omega)] at this
  exact this
section
variable {K : PySem.W.Frag} {σ : L2.St} {H : Hp} {Q : VK} {j : Nat} {vs : List Nat} {te tl : TE} {a : Addr} {xs : List V}
theorem lcNewTup (c : Nat → HO) (hv : ∀ QQ : VK, QQ (.ref a) H → tl σ H QQ) (hs : SqT K H a xs) (hl : xs.length ≤ 10000) (hw : ∀ x, wipe ((wipe σ vs).set j (some x)) vs = wipe σ vs)
    (ht : ∀ (i : Nat) (y : V) (H1 : Hp) (Q' : VK), xs[i]? = some y → Same H H1 → (∀ t H3, H1 t = none → Same H1 H3 → H3 t = some (c i) → Q' (.ref t) H3) → te ((wipe σ vs).set j (some y)) H1 Q')
    (q : ∀ D H' (ts : List Addr), H D = none → Same H H' → H' D = some (.lst (ts.map V.ref)) → ts.length = xs.length → (∀ k t, ts[k]? = some t → H' t = some (c k)) → (D :: ts).Nodup → (∀ t ∈ ts, H t = none) → Q (.ref D) H') :
    tLc (iTup K tl) (gName j) tYes te vs σ H Q := by
  refine hv _ ⟨a, rfl, ⟨xs, hs⟩, fun D hD => ?_⟩
  refine lc_new (g := gName j) (te := te) (vs := vs) (σ := σ) (Q := Q) walk_tup c hD hl (fun _ s => seqT s hs) (fun i x H1 H2 Q' R' hi sm y k => ?_) fun H' ts s e l all nd fr => q D H' ts hD s e l all nd fr
  obtain ⟨rfl, hx⟩ := y
  exact ⟨hw _, r_yes (ht i x H2 Q' hx sm k)⟩
end
end Cm

namespace Cm
open PySem PySem.Spec PyProof.Rows L2 Bk Rm
def trapB (m : M) (c : Nat) : M × String := if m.tr = true then ({ m with st := .fell }, "fell") else ({ m with tr := true, cs := c, bk := if c = 4 then (m.at_ + 1) % 64 else m.at_, at_ := m.hd }, "trap")
theorem trapM_two {m : M} {c : Nat} : trapM m c = ((trapB { m with tm := m.tm + 1 } c).1, some ⟨m.tm, (trapB { m with tm := m.tm + 1 } c).2, m.at_, .num c⟩) := by
  unfold trapM trapB
  by_cases h : m.tr = true
  · rw [if_pos h, if_pos h]
  · rw [if_neg h, if_neg h]
/-- kinds that are told -/
def KindOk (k : String) : Prop := Str.ofString k ≠ Str.ofString "idle" ∧ Str.ofString k ≠ Str.ofString "trap" ∧ Str.ofString k ≠ Str.ofString "jump"
theorem k_step : KindOk "step" := ⟨by decide +kernel, by decide +kernel, by decide +kernel⟩
theorem k_ended : KindOk "ended" := ⟨by decide +kernel, by decide +kernel, by decide +kernel⟩
theorem k_clock : KindOk "clock" := ⟨by decide +kernel, by decide +kernel, by decide +kernel⟩
theorem k_told : KindOk "told" := ⟨by decide +kernel, by decide +kernel, by decide +kernel⟩
theorem k_sent : KindOk "sent" := ⟨by decide +kernel, by decide +kernel, by decide +kernel⟩
theorem k_asked : KindOk "asked" := ⟨by decide +kernel, by decide +kernel, by decide +kernel⟩
theorem k_read : KindOk "read" := ⟨by decide +kernel, by decide +kernel, by decide +kernel⟩
theorem k_waited : KindOk "waited" := ⟨by decide +kernel, by decide +kernel, by decide +kernel⟩
def OutK : Out → Prop
  | .row k _ => KindOk k
  | _ => True
theorem exec_kind {m : M} {op a b : Nat} : OutK (exec m op a b).2 := by
  have ld : ∀ p, OutK (load m a p).2 := fun p => by
    unfold load
    cases lead m p false
    · trivial
    · exact k_step
  have sv : ∀ p, OutK (save m a p).2 := fun p => by
    unfold save
    cases lead m p true
    · trivial
    · exact k_step
  unfold exec
  split
  · exact k_ended
  · exact k_step
  · exact ld _
  · exact sv _
  · exact ld _
  · exact sv _
  · exact k_step
  · exact k_step
  · unfold part
    split
    · trivial
    · exact k_step
  · unfold jump
    split
    · trivial
    · exact k_step
  · exact k_step
  · unfold traps
    split
    · exact k_step
    · trivial
    · exact k_step
    · trivial
  · exact k_clock
  · unfold outM
    split
    · exact k_told
    · exact k_sent
    · unfold askM
      split
      · exact k_asked
      · exact k_asked
  · unfold inM
    split <;> exact k_read
theorem actO_kind {m : M} {f : Nat} : ∀ o, (actO m f).2 = some o → OutK o := fun o e => by
  unfold actO at e
  cases q : lead m m.at_ false with
  | no c => rw [q] at e; rw [← Option.some.inj e]; trivial
  | room n =>
    rw [q] at e
    dsimp only at e
    split at e
    · unfold waitO at e
      split at e
      · split at e
        · exact nomatch e
        · rw [← Option.some.inj e]; exact k_waited
      · rw [← Option.some.inj e]; exact k_waited
    · rw [← Option.some.inj e]; exact exec_kind
theorem actO_trap {m : M} (h : m.Ok) {f c : Nat} (e : (actO m f).2 = some (.trap c)) : (actO m f).1.tm = m.tm ∧ (actO m f).1.at_ = m.at_ ∧ c ≤ 4 := by
  have oc := (actO_ok h (f := f)).2 _ e
  refine ⟨?_, ?_, oc.2⟩
  · unfold actO at e ⊢
    cases q : lead m m.at_ false with
    | no c => rfl
    | room n =>
      rw [q] at e
      dsimp only at e ⊢
      split
      · rename_i h15
        rw [if_pos h15] at e
        unfold waitO at e
        split at e
        · split at e
          · exact nomatch e
          · exact nomatch e
        · exact nomatch e
      · exact (exec_ok h (by omega) (by omega)).2.2.1
  · unfold actO at e ⊢
    cases q : lead m m.at_ false with
    | no c => rfl
    | room n =>
      dsimp only
      split
      · exact (waitO_ok h).2.1
      · exact (exec_ok h (by omega) (by omega)).2.2.2.1
theorem M.Ok.tick {m : M} (h : m.Ok) : M.Ok { m with tm := m.tm + 1 } := { h with ao := fun x hx => ⟨(h.ao x hx).1, (h.ao x hx).2.1, by have := (h.ao x hx).2.2; show x.due ≤ m.tm + 1 + 6; omega⟩ }
end Cm

namespace Cm
open PySem PySem.Spec PyProof.Rows L2 Bk Rm
section
variable {H0 H H' : Hp} {x p : Addr} {o o' u : HO} {fs l : List (Addr × HO)}
theorem Bn.none (b : Bn H0 x H o fs) (np : H p = none) : H0 p = none ∧ p ≠ x := by
  have px : p ≠ x := fun e => by rw [e, b.ox] at np; exact nomatch np
  refine ⟨?_, px⟩
  cases e : H0 p with
  | none => rfl
  | some w => rw [b.but p w px e] at np; exact nomatch np
def IsL (fs : List (Addr × HO)) : Prop := ∀ z ∈ fs, ∃ xs, z.2 = HO.lst xs
theorem IsL.one {xs : List V} : IsL [(p, HO.lst xs)] := fun z hz => by rw [List.mem_singleton.mp hz]; exact ⟨_, rfl⟩
theorem IsL.nil : IsL [] := fun _ z => nomatch z
end
section
variable {K : PySem.W.Frag} {σ : L2.St} {H : Hp} {Q : VK} {k : Lk} {m : M} {f : Option Nat}
theorem LAt.dict (hL : LAt H k m f) {f' : Option Nat} {a t tm hd bk cs mq dn : Nat} {tr : Bool} {st : Cm.St} (ok' : M.Ok { m with at_ := a, tb := t, tm := tm, hd := hd, bk := bk, cs := cs, tr := tr, st := st, mq := mq, dn := dn }) : LMv H k m f (upd H k.d (.dK (DM k { m with at_ := a, tb := t, tm := tm, hd := hd, bk := bk, cs := cs, tr := tr, st := st, mq := mq, dn := dn } f'))) k { m with at_ := a, tb := t, tm := tm, hd := hd, bk := bk, cs := cs, tr := tr, st := st, mq := mq, dn := dn } f' :=
  hL.upd1 0 (u := .dK (DM k m f)) rfl ok' rfl rfl ⟨rfl, rfl, rfl, rfl⟩ hL.sv hL.av rfl
end
end Cm

namespace Cm
open PySem PySem.Spec PyProof.Rows L2 Bk Rm
/-! kinds of arrivals, and what comes -/
def kq (b : Bool) : Str := if b = true then Str.ofString "net" else Str.ofString "line"
def kmax (b : Bool) : Nat := if b = true then 4095 else 127
structure Kinds (K : PySem.W.Frag) (w : World) (a : Addr) (es : Array DictEntry) (n : Nat) : Prop where
  D : KDict K w a es n
  two : ∃ t1 t2 u1 u2, es = #[⟨PyData.keyHash w.params "line", .str "line" t1, .int 127 u1⟩, ⟨PyData.keyHash w.params "net", .str "net" t2, .int 4095 u2⟩]
section
variable {K : PySem.W.Frag} {w : World} {a : Addr} {es : Array DictEntry} {n : Nat}
theorem Kinds.is (h : Kinds K w a es n) (b : Bool) : ∃ u, PySem.W.nsIn K a (kq b) = some (some u) ∧ RelV (.int (kmax b : Nat)) u := by
  obtain ⟨t1, t2, u1, u2, e⟩ := h.two
  have at_ := h.D.at_
  rw [e] at at_
  unfold PySem.W.nsIn
  rw [at_]
  cases b with
  | false => exact ⟨.int 127 u1, rfl, u1, rfl⟩
  | true =>
    refine ⟨.int 4095 u2, ?_, u2, rfl⟩
    show (match List.find? (fun x : DictEntry => x.key.isStr (kq true)) [⟨PyData.keyHash w.params "line", .str "line" t1, .int 127 u1⟩, ⟨PyData.keyHash w.params "net", .str "net" t2, .int 4095 u2⟩] with
      | some e => some (some e.val)
      | none => (if ([⟨PyData.keyHash w.params "line", .str "line" t1, .int 127 u1⟩, ⟨PyData.keyHash w.params "net", .str "net" t2, .int 4095 u2⟩] : List DictEntry).any (fun x => x.refKey) = true then none else some none)) = _
    rw [List.find?_cons_of_neg (by show ¬ (Str.ofString "line" == kq true) = true; decide +kernel), List.find?_cons_of_pos (by show (Str.ofString "net" == kq true) = true; decide +kernel)]
theorem Kinds.get (h : Kinds K w a es n) (b : Bool) : KDct K w a (kq b) (.int (kmax b : Nat)) := by
  obtain ⟨u, e, r⟩ := h.is b
  exact ⟨es, n, u, h.D.at_, h.D.lit, e, r⟩
end
/-- a word comes -/
def comesM (m : M) (b : Bool) (x : Nat) : M := if b = true then { m with nt := m.nt ++ [x], st := .runs } else { m with ln := m.ln ++ [x], st := .runs }
def qu (m : M) (b : Bool) : List Nat := if b = true then m.nt else m.ln
theorem kmax_le (b : Bool) : kmax b ≤ 4095 := by cases b <;> decide
theorem comesM_ok {m : M} (h : m.Ok) {b : Bool} {x : Nat} (hx : x ≤ kmax b) : (comesM m b x).Ok := by
  have l := Nat.le_trans hx (kmax_le b)
  unfold comesM
  split
  · refine { h with no := fun w hw => ?_ }
    rcases List.mem_append.mp hw with z | z
    · exact h.no w z
    · rw [List.mem_singleton.mp z]; exact l
  · refine { h with lo := fun w hw => ?_ }
    rcases List.mem_append.mp hw with z | z
    · exact h.lo w z
    · rw [List.mem_singleton.mp z]; exact l
theorem comesM_lim {m : M} {n : Nat} (h : m.Lim n) {b : Bool} {x : Nat} : (comesM m b x).Lim (n + 1) := by
  have h' := h.mono (Nat.le_succ n)
  unfold comesM
  split
  · exact { h' with nt := by show (m.nt ++ [x]).length ≤ _; rw [List.length_append, List.length_singleton]; have := h.nt; omega }
  · exact { h' with ln := by show (m.ln ++ [x]).length ≤ _; rw [List.length_append, List.length_singleton]; have := h.ln; omega }
/-! ### all that a machine tells, as data -/
theorem dqa_refs {α : Type} {K : PySem.W.Frag} {H : Hp} {f : α → List V} {g : α → PyData} (hg : ∀ a p, H p = some (.tup (f a)) → Dq false K H (.ref p) (g a)) : ∀ {ts : List Addr} {l : List α}, Tps f H ts l → DqAll false K H (ts.map V.ref) (l.map g)
  | [], [], _ => .nil
  | [], _ :: _, h => nomatch h.1
  | _ :: _, [], h => nomatch h.1
  | t :: ts, a :: l, h => .cons (hg a t (h.2 0 t a rfl rfl)) (dqa_refs hg ⟨Nat.succ.inj h.1, fun i u z e1 e2 => h.2 (i + 1) u z e1 e2⟩)
def sentD (z : Nat × Nat) : PyData := .tuple [.int (z.1 : Nat), .int (z.2 : Nat)]
def asqD (a : Ask) : PyData := .tuple [.int (a.no : Nat), .str (kindS a.wr), .int (a.blk : Nat), .int (a.room : Nat), .int (a.due : Nat)]
theorem dq_sent {K : PySem.W.Frag} {H : Hp} {z : Nat × Nat} {p : Addr} (e : H p = some (.tup (sentV z))) : Dq false K H (.ref p) (sentD z) := .tup (SqT.of e) (.cons (.int _) (.cons (.int _) .nil))
theorem dq_ask {K : PySem.W.Frag} {H : Hp} {a : Ask} {p : Addr} (e : H p = some (.tup (askV a))) : Dq false K H (.ref p) (asqD a) := .tup (SqT.of e) (.cons (.int _) (.cons (.str _) (.cons (.int _) (.cons (.int _) (.cons (.int _) .nil)))))
end Cm

namespace Cm
open PySem PySem.Spec PyProof.Rows L2 Bk Rm
/-! sizes of data -/
structure SmB (d : PyData) (b e : Nat) : Prop where
  sm : smQ d = true
  bk : d.bulk ≤ b
  dp : d.depth ≤ e
theorem SmB.all {b e : Nat} : ∀ {ds : List PyData}, (∀ d ∈ ds, SmB d b e) → smQL ds = true ∧ PyData.bulkAll ds ≤ (b + 1) * ds.length ∧ PyData.depthAll ds ≤ e
  | [], _ => ⟨rfl, Nat.zero_le _, Nat.zero_le _⟩
  | d :: ds, h => by
    obtain ⟨a1, a2, a3⟩ := h d List.mem_cons_self
    obtain ⟨b1, b2, b3⟩ := SmB.all fun z hz => h z (List.mem_cons_of_mem _ hz)
    refine ⟨by simp only [smQL, a1, b1, Bool.and_true], ?_, ?_⟩
    · simp only [PyData.bulkAll, List.length_cons]
      rw [Nat.mul_succ]
      omega
    · simp only [PyData.depthAll]
      omega
theorem SmB.int {n : Nat} (h : n < 10 ^ 31) : SmB (.int n) 0 0 := ⟨by simp only [smQ, decide_eq_true_eq, Int.natAbs_natCast]; omega, Nat.le_refl _, Nat.zero_le _⟩
theorem SmB.bool {b : Bool} : SmB (.bool b) 1 0 := ⟨rfl, by simp only [PyData.bulk]; omega, Nat.zero_le _⟩
theorem SmB.st {s : St} : SmB (.str s.s) 9 0 := by
  cases s <;> exact ⟨by show smQ (.str _) = true; decide +kernel, by show PyData.bulk (.str _) ≤ 9; decide +kernel, Nat.zero_le _⟩
/-! ### all that a machine tells, as data -/
theorem dqa_nums {K : PySem.W.Frag} {H : Hp} : ∀ ws : List Nat, DqAll false K H (nv ws) (numsD ws)
  | [] => .nil
  | w :: ws => .cons (.int _) (dqa_nums ws)
def sentsD (l : List (Nat × Nat)) : PyData := .list (l.map sentD)
def asksD (l : List Ask) : PyData := .list (l.map asqD)
def rowsD (l : List (List Nat)) : PyData := .list (l.map rowL)
/-- each of the things that a machine tells of itself -/
structure Tld (m : M) (d : PyData) : Prop where
  sm : ∀ n, m.Lim n → n ≤ 1000000 → m.Ok → SmB d (3 * n + 500) 3
section
variable {m : M}
/-- the numbers of the asks that are due -/
def dueL (m : M) : List Nat := (m.as.filter fun a => decide (a.due ≤ m.tm)).map Ask.no
end
end Cm

namespace Cm
open PySem PySem.Spec PyProof.Rows L2 Bk Rm
/-! what a drawing def lays, beside its box -/
structure Gn (bx : Addr) (n : Nat) (H0 H : Hp) (F : List (Addr × HO)) : Prop where
  bt : But bx H0 H
  hb : Box bx n H
  f : ∀ z ∈ F, H z.1 = some z.2
  nb : ∀ z ∈ F, z.1 ≠ bx
  fr : ∀ z ∈ F, H0 z.1 = none
  nd : (F.map (·.1)).Nodup
section
variable {bx : Addr} {n n' : Nat} {H0 H H' : Hp} {F F' : List (Addr × HO)} {p : Addr} {o : HO}
theorem Gn.start (h : Box bx n H) : Gn bx n H H [] := ⟨fun _ _ _ e => e, h, fun _ z => (nomatch z), fun _ z => (nomatch z), fun _ z => (nomatch z), List.nodup_nil⟩
theorem Gn.same (g : Gn bx n H0 H F) (s : Same H H') : Gn bx n H0 H' F := ⟨g.bt.same s, g.hb.same s, fun z hz => s _ _ (g.f z hz), g.nb, g.fr, g.nd⟩
theorem Gn.take (g : Gn bx n H0 H F) (b : But bx H H') (hb : Box bx n' H') : Gn bx n' H0 H' F := ⟨g.bt.trans b, hb, fun z hz => b _ _ (g.nb z hz) (g.f z hz), g.nb, g.fr, g.nd⟩
theorem Gn.mono (g : Gn bx n H0 H F) (l : n ≤ n') : Gn bx n' H0 H F := ⟨g.bt, g.hb.mono l, g.f, g.nb, g.fr, g.nd⟩
theorem Gn.none (g : Gn bx n H0 H F) (e : H p = Option.none) : p ≠ bx ∧ H0 p = Option.none ∧ p ∉ F.map (·.1) := by
  have n1 := g.hb.ne e
  refine ⟨n1, ?_, fun h => ?_⟩
  · cases z : H0 p with
    | none => rfl
    | some u => rw [g.bt _ _ n1 z] at e; exact nomatch e
  · obtain ⟨z, hz, rfl⟩ := List.mem_map.mp h
    rw [g.f z hz] at e
    exact nomatch e
theorem Gn.new (g : Gn bx n H0 H F) (s : Same H H') (np : H p = Option.none) (e : H' p = some o) : Gn bx n H0 H' ((p, o) :: F) := by
  obtain ⟨n1, n2, n3⟩ := g.none np
  have g' := g.same s
  refine ⟨g'.bt, g'.hb, fun z hz => ?_, fun z hz => ?_, fun z hz => ?_, List.nodup_cons.mpr ⟨n3, g.nd⟩⟩ <;> rcases List.mem_cons.mp hz with rfl | hz
  · exact e
  · exact g'.f z hz
  · exact n1
  · exact g.nb z hz
  · exact n2
  · exact g.fr z hz
theorem Gn.lay (g : Gn bx n H0 H F) (np : H p = Option.none) : Gn bx n H0 (upd H p o) ((p, o) :: F) := g.new (same_upd np) np upd_same
theorem Gn.newB (g : Gn bx n H0 H F) (b : But bx H H') (hb : Box bx n' H') (np : H p = Option.none) (e : H' p = some o) : Gn bx n' H0 H' ((p, o) :: F) := by
  obtain ⟨n1, n2, n3⟩ := g.none np
  have g' := g.take b hb
  refine ⟨g'.bt, g'.hb, fun z hz => ?_, fun z hz => ?_, fun z hz => ?_, List.nodup_cons.mpr ⟨n3, g.nd⟩⟩ <;> rcases List.mem_cons.mp hz with rfl | hz
  · exact e
  · exact g'.f z hz
  · exact n1
  · exact g.nb z hz
  · exact n2
  · exact g.fr z hz
theorem Gn.at (g : Gn bx n H0 H F) (i : Nat) (h : F[i]? = some (p, o)) : H p = some o := g.f _ (List.mem_of_getElem? h)
theorem Gn.set (g : Gn bx n H0 H F) (i : Nat) {o' : HO} (h : F[i]? = some (p, o)) : Gn bx n H0 (upd H p o') (F.set i (p, o')) := by
  have mp : (p, o) ∈ F := List.mem_of_getElem? h
  have em : (F.set i (p, o')).map (·.1) = F.map (·.1) := by
    rw [List.map_set]
    refine List.ext_getElem? fun j => ?_
    by_cases ij : i = j
    · subst ij
      rw [List.getElem?_set_self (by rw [List.length_map]; exact (List.getElem?_eq_some_iff.mp h).1), List.getElem?_map, h]
      rfl
    · rw [List.getElem?_set_ne ij]
  refine ⟨fun c u nc e => ?_, ?_, fun z hz => ?_, fun z hz => ?_, fun z hz => ?_, by rw [em]; exact g.nd⟩
  · rw [upd_ne fun y => by rw [y, g.fr _ mp] at e; exact nomatch e]
    exact g.bt _ _ nc e
  · obtain ⟨x, y, z, eb, r⟩ := g.hb
    exact ⟨x, y, z, by rw [upd_ne (g.nb _ mp).symm]; exact eb, r⟩
  · obtain ⟨j, hj⟩ := List.getElem?_of_mem hz
    by_cases ij : i = j
    · subst ij
      rw [List.getElem?_set_self (List.getElem?_eq_some_iff.mp h).1] at hj
      obtain rfl := Option.some.inj hj
      exact upd_same
    · rw [List.getElem?_set_ne ij] at hj
      rw [upd_ne]
      · exact g.f _ (List.mem_of_getElem? hj)
      · refine nd_ne g.nd (i := j) (j := i) ?_ ?_ fun y => ij y.symm
        · rw [List.getElem?_map, hj]; rfl
        · rw [List.getElem?_map, h]; rfl
  · rcases List.mem_or_eq_of_mem_set hz with hz | rfl
    · exact g.nb z hz
    · exact g.nb (p, o) mp
  · rcases List.mem_or_eq_of_mem_set hz with hz | rfl
    · exact g.fr z hz
    · exact g.fr (p, o) mp
theorem Gn.drop (g : Gn bx n H0 H F) (s : F'.Sublist F) : Gn bx n H0 H F' := ⟨g.bt, g.hb, fun z hz => g.f z (s.subset hz), fun z hz => g.nb z (s.subset hz), fun z hz => g.fr z (s.subset hz), g.nd.sublist (s.map _)⟩
end
end Cm

namespace Cm
open PySem PySem.Spec PyProof.Rows L2 Bk Rm
/-! drawing defs: short words -/
section
variable {K : PySem.W.Frag} {σ : L2.St} {H : Hp} {Q : VK} {j : Nat} {vs : List Nat} {te : TE} {ta : TA}
end
theorem ixI {l : List Int} {d : Int} (h0 : 0 ≤ d) (h1 : d < l.length) : ∃ v ∈ l, atI (l.map V.int) d = some (.int v) := by
  obtain ⟨d, rfl⟩ := Int.eq_ofNat_of_zero_le h0
  have hd : d < l.length := by omega
  exact ⟨l[d], List.getElem_mem hd, atI_nat (by rw [List.getElem?_map, List.getElem?_eq_getElem hd]; rfl)⟩
theorem lcDrawC {σ : L2.St} {H : Hp} {Q : VK} {j : Nat} {vs : List Nat} {te : TE} {n m : Nat} (c : Nat) {bx : Addr} (p : V → Prop) (hb : Box bx m H) (hl : n ≤ 1000) (hw : ∀ x, wipe ((wipe σ vs).set j (some x)) vs = wipe σ vs)
    (ht : ∀ (i : Nat) (H' : Hp) (Q' : VK), i < n → Box bx (m + c * i) H' → But bx H H' → (∀ v H2, p v → Box bx (m + c * i + c) H2 → But bx H' H2 → Q' v H2) → te ((wipe σ vs).set j (some (.int i))) H' Q')
    (q : ∀ D H' xs, H D = none → But bx H H' → Box bx (m + c * n) H' → H' D = some (.lst xs) → xs.length = n → (∀ v ∈ xs, p v) → Q (.ref D) H') : tLc (iRng1 (tCons (tC (.int n)) tNil)) (gName j) tYes te vs σ H Q := by
  refine ⟨_, rfl, by omega, by omega, fun D hD => ?_⟩
  have nD : D ≠ bx := hb.ne hD
  rw [Int.toNat_natCast]
  refine lc_it (g := gName j) (tt := tYes) (te := te) (vs := vs) (σ := σ) (n := n) walk_range (fun i G => But bx H G ∧ Box bx (m + c * i) G ∧ ∃ xs, G D = some (.lst xs) ∧ xs.length = i ∧ ∀ v ∈ xs, p v)
    ⟨.of (same_upd hD), hb.same (same_upd hD), [], upd_same, rfl, fun _ z => nomatch z⟩ (fun _ _ _ _ => trivial) (fun i x H1 H2 hi ⟨bt, hB, xs, e, l, hp⟩ y => ?_) fun G ⟨bt, hB, xs, e, l, hp⟩ => q D G xs hD bt hB e l hp
  obtain ⟨rfl, rfl⟩ := y
  refine ⟨hw _, ?_⟩
  show te ((wipe σ vs).set j (some (.int (0 + (i : Int))))) _ _
  rw [Int.zero_add]
  refine ht i H2 _ hi hB bt fun v H3 pv hB3 b3 => ⟨xs, b3 _ _ nD e, by rw [l]; exact Nat.lt_of_lt_of_le hi (Nat.le_trans hl (by decide)), ?_, ?_, xs ++ [v], upd_same, by rw [List.length_append, l]; rfl, fun u hu => ?_⟩
  · exact fun b o ne e0 => by
      have z := b3 _ _ ne (bt _ _ ne e0)
      rw [upd_ne (ne_of_none e0 hD)]
      exact z
  · obtain ⟨x1, y1, z1, eB, r⟩ := hB3
    exact ⟨x1, y1, z1, by rw [upd_ne nD.symm]; exact eB, by rw [show m + c * (i + 1) = m + c * i + c from by rw [Nat.mul_succ, Nat.add_assoc]]; exact r⟩
  · rcases List.mem_append.mp hu with z | z
    · exact hp u z
    · rw [List.mem_singleton.mp z]; exact pv
theorem r_rep8 {K : PySem.W.Frag} {σ : L2.St} {H : Hp} {Q : VK} {x : Nat} (q : ∀ t H', Same H H' → H' t = some (.tup (nv (List.replicate 8 x))) → Q (.ref t) H') : NewT [.int (x : Nat)] H fun x H1 => tC (.int 8) σ H1 fun y H2 => rRepT K x y H2 Q :=
  newT fun p H1 n1 s1 e1 => ⟨p, 8, _, rfl, rfl, SqT.of e1, by simp, by decide, by decide, Nat.le_of_ble_eq_true rfl, fun p2 n2 => q p2 _ (s1.trans (same_upd n2)) upd_same⟩
theorem words_of {xs : List V} (h : ∀ v ∈ xs, ∃ w : Nat, v = .int (w : Nat) ∧ w ≤ 4095) : ∃ ws, xs = nv ws ∧ ws.length = xs.length ∧ ∀ w ∈ ws, w ≤ 4095 := by
  induction xs with
  | nil => exact ⟨[], rfl, rfl, fun _ z => nomatch z⟩
  | cons v xs ih =>
    obtain ⟨ws, e, l, le⟩ := ih fun u hu => h u (List.mem_cons_of_mem _ hu)
    obtain ⟨w, rfl, hw⟩ := h v List.mem_cons_self
    exact ⟨w :: ws, by rw [e]; rfl, by rw [List.length_cons, List.length_cons, l], fun u hu => (List.mem_cons.mp hu).elim (fun z => by rw [z]; exact hw) (le u)⟩
theorem r_mul {H : Hp} {Q : VK} {i j : Int} (h : -(2 ^ 100) < i ∧ i < 2 ^ 100 ∧ -(2 ^ 100) < j ∧ j < 2 ^ 100) (q : Q (.int (i * j)) H) : rI CMulW (fun i j => V.int (i * j)) (.int i) (.int j) H Q :=
  r_I (cmul (by omega) (by omega) (by omega) (by omega)) q
theorem cut_mid {xs : List V} {m k : Nat} (h : m ≤ k) (hk : k ≤ xs.length) : cutV xs (some (m : Int)) (some (k : Int)) = (xs.drop m).take (k - m) := by
  unfold cutV
  rw [HT.sIx_nat, HT.sIx_nat, Nat.min_eq_left hk, Nat.min_eq_left (by omega)]
theorem pe_fldK {X : Cx} {K : PySem.W.Frag} {e : Expr} {f : Str} {pos : Pos} {ta : TE} (eK : X.K = K) (h : PE X e ta) (hb : attributeBase e f X.env (eval e X.env) = eval e X.env) : PE X (.Attribute e f pos) (tFld K ta f) := by
  subst eK
  exact pe_fld h hb
theorem forL_it {J : It} {n : Nat} {G : Hp → Prop} {Y : Nat → Hp → V → Hp → Prop} (w : Walk J n G Y) {g : TG} {tb : TS} {D : Ends} {σ : L2.St} {H : Hp} (Pv : Nat → L2.St → Hp → Prop) (h0 : Pv 0 σ H) (hG : ∀ (i : Nat) (σ : L2.St) (H : Hp), i ≤ n → Pv i σ H → G H)
    (ht : ∀ (i : Nat) (x : V) (σ : L2.St) (H H' : Hp), i < n → Pv i σ H → Y i H x H' → g x σ H' fun σ2 H2 => tb { nx := Pv (i + 1), rt := D.rt, bk := D.nx, ct := Pv (i + 1) } σ2 H2) (hq : ∀ (σ : L2.St) (H : Hp), Pv n σ H → D.nx σ H) : ForL J g tb D σ H := for_it w Pv h0 hG ht hq
theorem ts_but {bx : Addr} {n : Nat} {H H' : Hp} (b : But bx H H') (hB : Box bx n H) : TS H H' := fun t xs e => b t _ (hB.ne_tup e) e
theorem ts_upd {H : Hp} {a : Addr} {xs : List V} {o : HO} (e : H a = some (.lst xs)) : TS H (upd H a o) := fun t ys et => by
  rw [upd_ne fun z => by rw [z, e] at et; exact nomatch et]
  exact et
/-- rows of words in tuples -/
def RL (H : Hp) (ts : List Addr) : Prop := ∀ t ∈ ts, ∃ ws : List Nat, H t = some (.tup (nv ws)) ∧ ws.length = 8 ∧ ∀ w ∈ ws, w ≤ 4095
theorem RL.keep {H H' : Hp} {ts : List Addr} (h : RL H ts) (s : TS H H') : RL H' ts := fun t ht => by
  obtain ⟨ws, e, r⟩ := h t ht
  exact ⟨ws, s _ _ e, r⟩
theorem RL.app {H : Hp} {ts us : List Addr} (h : RL H ts) (g : RL H us) : RL H (ts ++ us) := fun t ht => (List.mem_append.mp ht).elim (h t) (g t)
theorem RL.one {H : Hp} {t : Addr} {ws : List Nat} (e : H t = some (.tup (nv ws))) (l : ws.length = 8) (le : ∀ w ∈ ws, w ≤ 4095) : RL H [t] := fun u hu => by
  rw [List.mem_singleton.mp hu]
  exact ⟨ws, e, l, le⟩
theorem RL.nil {H : Hp} : RL H [] := fun _ z => nomatch z
theorem RL.rows {H : Hp} : ∀ {ts : List Addr}, RL H ts → ∃ rows : List (List Nat), rows.length = ts.length ∧ (∀ (i : Nat) t ws, ts[i]? = some t → rows[i]? = some ws → H t = some (.tup (nv ws))) ∧ ∀ ws ∈ rows, ws.length = 8 ∧ ∀ w ∈ ws, w ≤ 4095
  | [], _ => ⟨[], rfl, fun _ _ _ z => (nomatch z), fun _ z => (nomatch z)⟩
  | t :: ts, h => by
    obtain ⟨rows, l, a, b⟩ := RL.rows (fun u hu => h u (List.mem_cons_of_mem _ hu))
    obtain ⟨ws, e, l8, le⟩ := h t List.mem_cons_self
    refine ⟨ws :: rows, by rw [List.length_cons, List.length_cons, l], fun i u vs hu hv => ?_, fun vs hv => ?_⟩
    · cases i with
      | zero => obtain rfl := Option.some.inj hu; obtain rfl := Option.some.inj hv; exact e
      | succ i => exact a i u vs hu hv
    · exact (List.mem_cons.mp hv).elim (fun z => by rw [z]; exact ⟨l8, le⟩) (b vs)
theorem RL.eight {H : Hp} {ts : List Addr} (h : RL H ts) (l8 : ts.length = 8) : ∃ rows : List (List Nat), Rows8 rows ∧ rows.length = ts.length ∧ ∀ (i : Nat) t ws, ts[i]? = some t → rows[i]? = some ws → H t = some (.tup (nv ws)) := by
  obtain ⟨rows, l, a, b⟩ := h.rows
  exact ⟨rows, ⟨l.trans l8, b⟩, l, a⟩
end Cm

namespace Cm
open PySem PySem.Spec PyProof.Rows L2 Bk Rm
/-! A core, and whatever store -/
structure Cq where
  o : Addr
  dk : Addr
  so : Addr
  qd : Addr
  rg : Addr
  lq : Addr
  nq : Addr
  td : Addr
  sn : Addr
  bl : Addr
  al : Addr
  dxo : Addr
  dxd : Addr
  bs : List Addr
  ss : List Addr
  ts : List Addr
  sow : Addr → Prop
  sat : Hp → List (List Nat) → Prop
def CQ (k : Cq) (m : M) : List (Str × V) := [("_registers", .ref k.rg), ("_counter", .int (m.at_ : Nat)), ("_table", .int (m.tb : Nat)), ("_time", .int (m.tm : Nat)), ("_handler", .int (m.hd : Nat)), ("_back_to", .int (m.bk : Nat)), ("_cause", .int (m.cs : Nat)), ("_trapped", .bl m.tr), ("_state", .str m.st.s), ("_queues", .ref k.qd), ("_told", .ref k.td), ("_sent", .ref k.sn), ("_disk", .ref k.dk)]
def DQ (k : Cq) (m : M) : List (Str × V) := [("_blocks", .ref k.bl), ("_asks", .ref k.al), ("_made", .int (m.mq : Nat)), ("_done", .int (m.dn : Nat))]
def QQ (k : Cq) : List (Key × V) := [((.inr (Str.ofString "line") : Key), .ref k.lq), (.inr (Str.ofString "net"), .ref k.nq)]
def factsQ (c : Cs) (k : Cq) (m : M) : List (Addr × HO) := [(k.o, .ins c.C k.dxo (CQ k m)), (k.dk, .ins c.D k.dxd (DQ k m)), (k.qd, .dK (QQ k)), (k.rg, .lst (nv m.r)), (k.lq, .lst (nv m.ln)), (k.nq, .lst (nv m.nt)), (k.td, .lst (nv m.td)), (k.sn, .lst (k.ss.map V.ref)), (k.bl, .lst (k.bs.map V.ref)), (k.al, .lst (k.ts.map V.ref))]
def namesQ (k : Cq) : List Addr := [k.o, k.dk, k.qd, k.rg, k.lq, k.nq, k.td, k.sn, k.bl, k.al]
def ownQ (k : Cq) : List Addr := namesQ k ++ k.bs
structure CAt (c : Cs) (H : Hp) (k : Cq) (m : M) : Prop where
  nm : Hold H (factsQ c k m)
  bw : Rw H k.bs m.bs
  sv : Tps sentV H k.ss m.sn
  av : Tps askV H k.ts m.as
  nd : (ownQ k).Nodup
  ok : m.Ok
section
variable {c : Cs} {H H' : Hp} {k k' : Cq} {m m' : M}
theorem factsQ_own : (factsQ c k m).map (·.1) = namesQ k := rfl
theorem CAt.nd1 (h : CAt c H k m) : ((factsQ c k m).map (·.1)).Nodup := (List.nodup_append.mp h.nd).1
theorem CAt.sep (h : CAt c H k m) {a b : Addr} (ha : a ∈ (factsQ c k m).map (·.1)) (hb : b ∈ k.bs) : a ≠ b := (List.nodup_append.mp h.nd).2.2 a ha b hb
theorem CAt.has (h : CAt c H k m) {b : Addr} (o : b ∈ ownQ k) : ∃ u, H b = some u ∧ ∀ xs, u ≠ .tup xs := by
  rcases List.mem_append.mp o with o | o
  · have o : b ∈ (factsQ c k m).map (·.1) := o
    obtain ⟨⟨a, u⟩, hm, rfl⟩ := List.mem_map.mp o
    obtain ⟨i, hi, e⟩ := List.getElem_of_mem hm
    refine ⟨u, h.nm i a u (by rw [List.getElem?_eq_getElem hi, e]), ?_⟩
    have : ∀ z ∈ factsQ c k m, ∀ xs, z.2 ≠ HO.tup xs := fun z hz xs => by
      simp only [factsQ, List.mem_cons, List.not_mem_nil, or_false] at hz
      rcases hz with rfl | rfl | rfl | rfl | rfl | rfl | rfl | rfl | rfl | rfl <;> exact fun w => nomatch w
    exact this _ hm
  · obtain ⟨i, hi, e⟩ := List.getElem_of_mem o
    exact ⟨_, h.bw.2 i b (by rw [List.getElem?_eq_getElem hi, e]), fun _ z => nomatch z⟩
theorem CAt.none (h : CAt c H k m) {b : Addr} (e : H b = none) : b ∉ ownQ k := fun o => by
  obtain ⟨u, e2, _⟩ := h.has o
  rw [e] at e2
  exact nomatch e2
theorem CAt.ntup (h : CAt c H k m) {b : Addr} {xs : List V} (e : H b = some (.tup xs)) : b ∉ ownQ k := fun o => by
  obtain ⟨u, e2, n⟩ := h.has o
  rw [e] at e2
  exact n xs (Option.some.inj e2).symm
theorem CAt.ts (h : CAt c H k m) (f : ∀ b u, b ∉ ownQ k → H b = some u → H' b = some u) : TS H H' := fun a xs e => f _ _ (h.ntup e) e
theorem CAt.keep (h : CAt c H k m) (f : ∀ b u, b ∈ ownQ k → H b = some u → H' b = some u) (t : TS H H') : CAt c H' k m :=
  ⟨h.nm.keep fun b w hb e => f b w (List.mem_append.mpr (.inl hb)) e, h.bw.keep fun b w hb e => f b w (List.mem_append.mpr (.inr hb)) e, h.sv.keep t, h.av.keep t, h.nd, h.ok⟩
theorem CAt.same (h : CAt c H k m) (f : Same H H') : CAt c H' k m := h.keep (fun b u _ e => f _ _ e) (Same.ts f)
/-- what a deed of the core may have changed -/
structure CMv (c : Cs) (H : Hp) (k : Cq) (m : M) (H' : Hp) (k' : Cq) (m' : M) : Prop where
  at_ : CAt c H' k' m'
  fr : ∀ b u, b ∉ ownQ k → H b = some u → H' b = some u
  nw : ∀ b, b ∈ ownQ k' → b ∈ ownQ k ∨ H b = .none
  oo : k'.o = k.o
  ee : k'.so = k.so ∧ k'.sow = k.sow ∧ k'.sat = k.sat
  rr : m'.rs = m.rs
theorem CMv.same (h : CAt c H k m) (f : Same H H') : CMv c H k m H' k m := ⟨h.same f, fun b u _ e => f _ _ e, fun b z => .inl z, rfl, ⟨rfl, rfl, rfl⟩, rfl⟩
theorem CMv.trans {H2 : Hp} {k2 : Cq} {m2 : M} (a : CMv c H k m H' k' m') (b : CMv c H' k' m' H2 k2 m2) : CMv c H k m H2 k2 m2 := by
  refine ⟨b.at_, fun d u n e => ?_, fun d z => ?_, b.oo.trans a.oo, ⟨b.ee.1.trans a.ee.1, b.ee.2.1.trans a.ee.2.1, b.ee.2.2.trans a.ee.2.2⟩, b.rr.trans a.rr⟩
  · refine b.fr _ _ (fun z => ?_) (a.fr _ _ n e)
    rcases a.nw d z with z | z
    · exact n z
    · rw [e] at z; exact nomatch z
  · rcases b.nw d z with z | z
    · exact a.nw d z
    · by_cases o : d ∈ ownQ k
      · exact .inl o
      · cases hc : H d with
        | none => exact .inr rfl
        | some u =>
          rw [a.fr _ _ o hc] at z
          exact nomatch z
theorem CMv.ts (a : CMv c H k m H' k' m') (h : CAt c H k m) : TS H H' := h.ts a.fr
/-- one named thing changes -/
theorem CAt.upd1 (h : CAt c H k m) (i : Nat) {a : Addr} {u v : HO} (e : (factsQ c k m)[i]? = some (a, u)) (ok' : m'.Ok) (f : factsQ c k' m' = (factsQ c k m).set i (a, v)) (ow : ownQ k' = ownQ k) (e1 : k'.bs = k.bs ∧ m'.bs = m.bs) (sv : Tps sentV H k'.ss m'.sn) (av : Tps askV H k'.ts m'.as) (oo : k'.o = k.o) (ee : k'.so = k.so ∧ k'.sow = k.sow ∧ k'.sat = k.sat) (rr : m'.rs = m.rs) : CMv c H k m (upd H a v) k' m' := by
  have ma : a ∈ (factsQ c k m).map (·.1) := List.mem_map.mpr ⟨_, List.mem_of_getElem? e, rfl⟩
  have mo : a ∈ ownQ k := List.mem_append.mpr (.inl ma)
  have fr : ∀ b w, b ∉ ownQ k → H b = some w → upd H a v b = some w := fun b w n eb => by rw [upd_ne fun z => n (by rw [z]; exact mo)]; exact eb
  have t := h.ts fr
  have rn : ∀ b w, b ∈ k.bs → H b = some w → upd H a v b = some w := fun b w hb eb => by rw [upd_ne (h.sep ma hb).symm]; exact eb
  refine ⟨⟨?_, ?_, sv.keep t, av.keep t, by rw [ow]; exact h.nd, ok'⟩, fr, fun b z => .inl (by rw [← ow]; exact z), oo, ee, rr⟩
  · rw [f]; exact h.nm.set h.nd1 e
  · rw [e1.1, e1.2]; exact h.bw.keep fun b w hb => rn b w hb
end
section
variable {c : Cs} {H Hb : Hp} {k : Cq} {m : M}
/-- the asks are a new list -/
theorem CAt.newAsks (h : CAt c Hb k m) (f : Same Hb H) {p : Addr} {ts : List Addr} {as : List Ask} (np : Hb p = .none) (ep : H p = some (.lst (ts.map V.ref))) (tp : Tps askV H ts as) (ok' : M.Ok { m with as := as }) :
    CMv c Hb k m (upd H k.dk (.ins c.D k.dxd (DQ { k with al := p } m))) { k with al := p, ts := ts } { m with as := as } := by
  have h1 := h.same f
  have npo := h.none np
  have mo : k.dk ∈ ownQ k := List.mem_append.mpr (.inl (List.mem_cons_of_mem _ List.mem_cons_self))
  have pd : p ≠ k.dk := fun z => npo (z ▸ mo)
  have fr : ∀ b w, b ∉ ownQ k → H b = some w → upd H k.dk (.ins c.D k.dxd (DQ { k with al := p } m)) b = some w := fun b w n eb => by rw [upd_ne fun z => n (by rw [z]; exact mo)]; exact eb
  have t := h1.ts fr
  have rn : ∀ b w, b ∈ k.bs → H b = some w → upd H k.dk (.ins c.D k.dxd (DQ { k with al := p } m)) b = some w := fun b w hb eb => by rw [upd_ne (h1.sep (List.mem_cons_of_mem _ List.mem_cons_self) hb).symm]; exact eb
  have ow : ownQ { k with al := p, ts := ts } = (ownQ k).set 9 p := rfl
  refine ⟨⟨?_, h1.bw.keep fun b w hb => rn b w hb, h1.sv.keep t, tp.keep t, by rw [ow]; exact nd_set h.nd npo, ok'⟩, fun b w n eb => fr b w n (f _ _ eb), fun b z => ?_, rfl, ⟨rfl, rfl, rfl⟩, rfl⟩
  · have e1 := h1.nm.set (i := 1) h1.nd1 (u := .ins c.D k.dxd (DQ k m)) (a := k.dk) (v := .ins c.D k.dxd (DQ { k with al := p } m)) rfl
    exact e1.new (i := 9) (p := p) (v := .lst (ts.map V.ref)) (by rw [upd_ne pd]; exact ep)
  · rw [ow] at z
    exact (mem_set z).imp id fun z => by rw [z]; exact np
/-- a block is a new list -/
theorem CAt.newBlock (h : CAt c Hb k m) (f : Same Hb H) {p : Addr} {i : Nat} {ws : List Nat} (hi : i < 8) (np : Hb p = .none) (ep : H p = some (.lst (nv ws))) (ok' : M.Ok { m with bs := m.bs.set i ws }) :
    CMv c Hb k m (upd H k.bl (.lst ((k.bs.set i p).map V.ref))) { k with bs := k.bs.set i p } { m with bs := m.bs.set i ws } := by
  have h1 := h.same f
  have npo := h.none np
  have mb : k.bl ∈ (factsQ c k m).map (·.1) := by rw [factsQ_own]; simp [namesQ]
  have mo : k.bl ∈ ownQ k := List.mem_append.mpr (.inl mb)
  have pd : p ≠ k.bl := fun z => npo (z ▸ mo)
  have li : i < k.bs.length := by rw [h.bw.1, h.ok.bo.l8]; exact hi
  have fr : ∀ b w, b ∉ ownQ k → H b = some w → upd H k.bl (.lst ((k.bs.set i p).map V.ref)) b = some w := fun b w n eb => by rw [upd_ne fun z => n (by rw [z]; exact mo)]; exact eb
  have t := h1.ts fr
  have rn : ∀ b w, b ∈ k.bs → H b = some w → upd H k.bl (.lst ((k.bs.set i p).map V.ref)) b = some w := fun b w hb eb => by rw [upd_ne (h1.sep mb hb).symm]; exact eb
  have ow : ownQ { k with bs := k.bs.set i p } = (ownQ k).set (10 + i) p := by
    show namesQ k ++ k.bs.set i p = (namesQ k ++ k.bs).set (10 + i) p
    rw [List.set_append_right _ _ (by show 10 ≤ 10 + i; omega), show 10 + i - (namesQ k).length = i by show 10 + i - 10 = i; omega]
  refine ⟨⟨?_, (h1.bw.keep fun b w hb => rn b w hb).new li (by rw [upd_ne pd]; exact ep), h1.sv.keep t, h1.av.keep t, by rw [ow]; exact nd_set h.nd npo, ok'⟩, fun b w n eb => fr b w n (f _ _ eb), fun b z => ?_, rfl, ⟨rfl, rfl, rfl⟩, rfl⟩
  · exact h1.nm.set (i := 8) h1.nd1 (u := .lst (k.bs.map V.ref)) (a := k.bl) (v := .lst ((k.bs.set i p).map V.ref)) rfl
  · rw [ow] at z
    exact (mem_set z).imp id fun z => by rw [z]; exact np
theorem CAt.reg (h : CAt c H k m) {i v : Nat} (hv : v ≤ 4095) : CMv c H k m (upd H k.rg (.lst (nv (m.r.set i v)))) k (m.setr i v) :=
  h.upd1 3 (u := .lst (nv m.r)) rfl (h.ok.setr hv) rfl rfl ⟨rfl, rfl⟩ h.sv h.av rfl ⟨rfl, rfl, rfl⟩ rfl
theorem CAt.core (h : CAt c H k m) {a t tm hd bk cs : Nat} {tr : Bool} {st : St} (ok' : M.Ok { m with at_ := a, tb := t, tm := tm, hd := hd, bk := bk, cs := cs, tr := tr, st := st }) : CMv c H k m (upd H k.o (.ins c.C k.dxo (CQ k { m with at_ := a, tb := t, tm := tm, hd := hd, bk := bk, cs := cs, tr := tr, st := st }))) k { m with at_ := a, tb := t, tm := tm, hd := hd, bk := bk, cs := cs, tr := tr, st := st } :=
  h.upd1 0 (u := .ins c.C k.dxo (CQ k m)) rfl ok' rfl rfl ⟨rfl, rfl⟩ h.sv h.av rfl ⟨rfl, rfl, rfl⟩ rfl
end
/-! ### with a store -/
structure StoOk (S so : Addr) (sow : Addr → Prop) (sat : Hp → List (List Nat) → Prop) : Prop where
  fr : ∀ H H' rs, sat H rs → (∀ b u, sow b → H b = some u → H' b = some u) → TS H H' → sat H' rs
  hs : ∀ H rs, sat H rs → ∀ b, sow b → ∃ u, H b = some u ∧ ∀ xs, u ≠ .tup xs
  ob : ∀ H rs, sat H rs → ∃ dx fs, H so = some (.ins S dx fs) ∧ fs.lookup ("read_cell" : Str) = none ∧ fs.lookup ("write_cell" : Str) = none
/-- the classes, and the kind of the store -/
structure Cz extends Cs where
  kd : Addr → (Addr → Prop) → (Hp → List (List Nat) → Prop) → Prop
  kok : ∀ so w s, kd so w s → StoOk S so w s
def Own (k : Cq) (b : Addr) : Prop := b ∈ ownQ k ∨ k.sow b
structure QAt (c : Cz) (H : Hp) (k : Cq) (m : M) : Prop extends CAt c.toCs H k m where
  st : k.sat H m.rs
  sp : ∀ b ∈ ownQ k, ¬ k.sow b
  kd : c.kd k.so k.sow k.sat
structure QMv (c : Cz) (H : Hp) (k : Cq) (m : M) (H' : Hp) (k' : Cq) (m' : M) : Prop where
  at_ : QAt c H' k' m'
  fr : ∀ b u, ¬ Own k b → H b = some u → H' b = some u
  nw : ∀ b, Own k' b → Own k b ∨ H b = .none
  oo : k'.o = k.o
  ss : k'.so = k.so
section
variable {c : Cz} {H H' : Hp} {k k' : Cq} {m m' : M}
theorem QAt.so_ (h : QAt c H k m) : StoOk c.S k.so k.sow k.sat := c.kok _ _ _ h.kd
theorem QAt.obS (h : QAt c H k m) : ∃ dx fs, H k.so = some (.ins c.S dx fs) ∧ fs.lookup ("read_cell" : Str) = none ∧ fs.lookup ("write_cell" : Str) = none := h.so_.ob H m.rs h.st
theorem QAt.hasQ (h : QAt c H k m) {b : Addr} (o : Own k b) : ∃ u, H b = some u ∧ ∀ xs, u ≠ .tup xs := o.elim h.has (h.so_.hs H m.rs h.st b)
theorem QAt.noneQ (h : QAt c H k m) {b : Addr} (e : H b = none) : ¬ Own k b := fun o => by
  obtain ⟨u, e2, _⟩ := h.hasQ o
  rw [e] at e2
  exact nomatch e2
theorem QAt.ntupQ (h : QAt c H k m) {b : Addr} {xs : List V} (e : H b = some (.tup xs)) : ¬ Own k b := fun o => by
  obtain ⟨u, e2, n⟩ := h.hasQ o
  rw [e] at e2
  exact n xs (Option.some.inj e2).symm
theorem QAt.tsQ (h : QAt c H k m) (f : ∀ b u, ¬ Own k b → H b = some u → H' b = some u) : TS H H' := fun a xs e => f _ _ (h.ntupQ e) e
theorem QAt.keepQ (h : QAt c H k m) (f : ∀ b u, Own k b → H b = some u → H' b = some u) (t : TS H H') : QAt c H' k m :=
  ⟨h.toCAt.keep (fun b u hb e => f b u (.inl hb) e) t, h.so_.fr H H' m.rs h.st (fun b u hb e => f b u (.inr hb) e) t, h.sp, h.kd⟩
theorem QAt.same (h : QAt c H k m) (f : Same H H') : QAt c H' k m := h.keepQ (fun b u _ e => f _ _ e) (Same.ts f)
theorem QMv.same (h : QAt c H k m) (f : Same H H') : QMv c H k m H' k m := ⟨h.same f, fun b u _ e => f _ _ e, fun b z => .inl z, rfl, rfl⟩
theorem QMv.refl (h : QAt c H k m) : QMv c H k m H k m := QMv.same h (Same.refl _)
theorem QMv.trans {H2 : Hp} {k2 : Cq} {m2 : M} (a : QMv c H k m H' k' m') (b : QMv c H' k' m' H2 k2 m2) : QMv c H k m H2 k2 m2 := by
  refine ⟨b.at_, fun d u n e => ?_, fun d z => ?_, b.oo.trans a.oo, b.ss.trans a.ss⟩
  · refine b.fr _ _ (fun z => ?_) (a.fr _ _ n e)
    rcases a.nw d z with z | z
    · exact n z
    · rw [e] at z; exact nomatch z
  · rcases b.nw d z with z | z
    · exact a.nw d z
    · by_cases o : Own k d
      · exact .inl o
      · cases hc : H d with
        | none => exact .inr rfl
        | some u =>
          rw [a.fr _ _ o hc] at z
          exact nomatch z
theorem QMv.then {H2 : Hp} (a : QMv c H k m H' k' m') (f : Same H' H2) : QMv c H k m H2 k' m' := a.trans (QMv.same a.at_ f)
theorem QMv.ts (a : QMv c H k m H' k' m') (h : QAt c H k m) : TS H H' := h.tsQ a.fr
/-- what the core alone does -/
theorem QAt.ofC (h : QAt c H k m) (mv : CMv c.toCs H k m H' k' m') : QMv c H k m H' k' m' := by
  obtain ⟨e1, e2, e3⟩ := mv.ee
  refine ⟨⟨mv.at_, ?_, fun b hb => ?_, by rw [e1, e2, e3]; exact h.kd⟩, fun b u n e => mv.fr b u (fun z => n (.inl z)) e, fun b z => ?_, mv.oo, e1⟩
  · rw [e3, mv.rr]
    exact h.so_.fr H H' m.rs h.st (fun b u hb e => mv.fr b u (fun z => h.sp b z hb) e) (mv.ts h.toCAt)
  · rw [e2]
    rcases mv.nw b hb with z | z
    · exact h.sp b z
    · exact fun y => by
        obtain ⟨u, eu, _⟩ := h.so_.hs H m.rs h.st b y
        rw [z] at eu
        exact nomatch eu
  · rcases z with z | z
    · exact (mv.nw b z).imp .inl id
    · rw [e2] at z
      exact .inl (.inr z)
theorem QAt.upd1 (h : QAt c H k m) (i : Nat) {a : Addr} {u v : HO} (e : (factsQ c.toCs k m)[i]? = some (a, u)) (ok' : m'.Ok) (f : factsQ c.toCs k' m' = (factsQ c.toCs k m).set i (a, v)) (ow : ownQ k' = ownQ k) (e1 : k'.bs = k.bs ∧ m'.bs = m.bs) (sv : Tps sentV H k'.ss m'.sn) (av : Tps askV H k'.ts m'.as) (oo : k'.o = k.o) (ee : k'.so = k.so ∧ k'.sow = k.sow ∧ k'.sat = k.sat) (rr : m'.rs = m.rs) : QMv c H k m (upd H a v) k' m' :=
  h.ofC (h.toCAt.upd1 i e ok' f ow e1 sv av oo ee rr)
theorem QAt.reg (h : QAt c H k m) {i v : Nat} (hv : v ≤ 4095) : QMv c H k m (upd H k.rg (.lst (nv (m.r.set i v)))) k (m.setr i v) := h.ofC (h.toCAt.reg hv)
theorem QAt.core (h : QAt c H k m) {a t tm hd bk cs : Nat} {tr : Bool} {st : St} (ok' : M.Ok { m with at_ := a, tb := t, tm := tm, hd := hd, bk := bk, cs := cs, tr := tr, st := st }) : QMv c H k m (upd H k.o (.ins c.C k.dxo (CQ k { m with at_ := a, tb := t, tm := tm, hd := hd, bk := bk, cs := cs, tr := tr, st := st }))) k { m with at_ := a, tb := t, tm := tm, hd := hd, bk := bk, cs := cs, tr := tr, st := st } := h.ofC (h.toCAt.core ok')
theorem QAt.newAsks {Hb : Hp} (h : QAt c Hb k m) (f : Same Hb H) {p : Addr} {ts : List Addr} {as : List Ask} (np : Hb p = .none) (ep : H p = some (.lst (ts.map V.ref))) (tp : Tps askV H ts as) (ok' : M.Ok { m with as := as }) : QMv c Hb k m (upd H k.dk (.ins c.D k.dxd (DQ { k with al := p } m))) { k with al := p, ts := ts } { m with as := as } := h.ofC (h.toCAt.newAsks f np ep tp ok')
theorem QAt.newBlock {Hb : Hp} (h : QAt c Hb k m) (f : Same Hb H) {p : Addr} {i : Nat} {ws : List Nat} (hi : i < 8) (np : Hb p = .none) (ep : H p = some (.lst (nv ws))) (ok' : M.Ok { m with bs := m.bs.set i ws }) : QMv c Hb k m (upd H k.bl (.lst ((k.bs.set i p).map V.ref))) { k with bs := k.bs.set i p } { m with bs := m.bs.set i ws } := h.ofC (h.toCAt.newBlock f hi np ep ok')
end
section
variable {k : Cq} {m : M} {n : Nat} {b : Bool} {s : St}
theorem pq_at : putF ("_counter" : Str) (.int (n : Nat)) (CQ k m) = CQ k { m with at_ := n } := rfl
theorem pq_tb : putF ("_table" : Str) (.int (n : Nat)) (CQ k m) = CQ k { m with tb := n } := rfl
theorem pq_tm : putF ("_time" : Str) (.int (n : Nat)) (CQ k m) = CQ k { m with tm := n } := rfl
theorem pq_hd : putF ("_handler" : Str) (.int (n : Nat)) (CQ k m) = CQ k { m with hd := n } := rfl
theorem pq_bk : putF ("_back_to" : Str) (.int (n : Nat)) (CQ k m) = CQ k { m with bk := n } := rfl
theorem pq_cs : putF ("_cause" : Str) (.int (n : Nat)) (CQ k m) = CQ k { m with cs := n } := rfl
theorem pq_tr : putF ("_trapped" : Str) (.bl b) (CQ k m) = CQ k { m with tr := b } := rfl
theorem pq_st : putF ("_state" : Str) (.str s.s) (CQ k m) = CQ k { m with st := s } := rfl
theorem pq_al {p : Addr} : putF ("_asks" : Str) (.ref p) (DQ k m) = DQ { k with al := p } m := rfl
theorem pq_mq : putF ("_made" : Str) (.int (n : Nat)) (DQ k m) = DQ k { m with mq := n } := rfl
theorem pq_dn : putF ("_done" : Str) (.int (n : Nat)) (DQ k m) = DQ k { m with dn := n } := rfl
end
/-! ### a plain store -/
def ownS (so rl : Addr) (rs : List Addr) : Addr → Prop := fun b => b = so ∨ b = rl ∨ b ∈ rs
def satS (S so dxs rl : Addr) (rs : List Addr) : Hp → List (List Nat) → Prop := fun H l => H so = some (.ins S dxs [("_rooms", .ref rl)]) ∧ H rl = some (.lst (rs.map V.ref)) ∧ Rw H rs l ∧ (so :: rl :: rs).Nodup
theorem stoS {S so dxs rl : Addr} {rs : List Addr} : StoOk S so (ownS so rl rs) (satS S so dxs rl rs) :=
  ⟨fun H H' l ⟨a, b, c, d⟩ f t => ⟨f _ _ (.inl rfl) a, f _ _ (.inr (.inl rfl)) b, c.keep fun p w hp e => f _ _ (.inr (.inr hp)) e, d⟩, fun H l ⟨a, b, c, d⟩ p hp => by
    rcases hp with rfl | rfl | hp
    · exact ⟨_, a, fun _ z => nomatch z⟩
    · exact ⟨_, b, fun _ z => nomatch z⟩
    · obtain ⟨i, hi, e⟩ := List.getElem_of_mem hp
      exact ⟨_, c.2 i p (by rw [List.getElem?_eq_getElem hi, e]), fun _ z => nomatch z⟩, fun H l ⟨a, _, _, _⟩ => ⟨dxs, _, a, rfl, rfl⟩⟩
/-- a store of one's own: a plain one -/
def kdP (S : Addr) : Addr → (Addr → Prop) → (Hp → List (List Nat) → Prop) → Prop := fun so w s => ∃ dxs rl rs, w = ownS so rl rs ∧ s = satS S so dxs rl rs
theorem kdP_ok {S : Addr} : ∀ so w s, kdP S so w s → StoOk S so w s := fun so w s ⟨_, _, _, e1, e2⟩ => by
  subst e1
  subst e2
  exact stoS
/-- the classes of plain machines -/
def czP (C D S : Addr) : Cz := { C := C, D := D, S := S, kd := kdP S, kok := kdP_ok }
section
variable {c : Cz} {H H' : Hp} {k k' : Cq} {m m' : M} {S dxs rl : Addr} {rs : List Addr}
/-- words of a room change -/
theorem QAt.room (h : QAt c H k m) (e1 : k.sow = ownS k.so rl rs) (e2 : k.sat = satS S k.so dxs rl rs) {i : Nat} {a : Addr} {ws : List Nat} (e : rs[i]? = some a) (ok' : M.Ok { m with rs := m.rs.set i ws }) : QMv c H k m (upd H a (.lst (nv ws))) k { m with rs := m.rs.set i ws } := by
  have ma := List.mem_of_getElem? e
  have mo : Own k a := .inr (by rw [e1]; exact .inr (.inr ma))
  have fr : ∀ b w, ¬ Own k b → H b = some w → upd H a (.lst (nv ws)) b = some w := fun b w n eb => by rw [upd_ne fun z => n (by rw [z]; exact mo)]; exact eb
  have t := h.tsQ fr
  have st := h.st
  rw [e2] at st
  obtain ⟨s1, s2, s3, s4⟩ := st
  have n1 : k.so ≠ a := fun z => (List.nodup_cons.mp s4).1 (by rw [z]; exact List.mem_cons_of_mem _ ma)
  have n2 : rl ≠ a := fun z => (List.nodup_cons.mp (List.nodup_cons.mp s4).2).1 (by rw [z]; exact ma)
  have n3 := (List.nodup_cons.mp (List.nodup_cons.mp s4).2).2
  refine ⟨⟨{ h.toCAt.keep (fun b u hb eb => by rw [upd_ne fun z => h.sp b hb (by rw [z, e1]; exact .inr (.inr ma))]; exact eb) t with ok := ok' }, ?_, h.sp, h.kd⟩, fr, fun b z => .inl z, rfl, rfl⟩
  rw [e2]
  exact ⟨by rw [upd_ne n1]; exact s1, by rw [upd_ne n2]; exact s2, s3.row n3 e, s4⟩
end
end Cm

namespace Cm
open PySem PySem.Spec PyProof.Rows L2 Bk Rm
section
variable {c : Cz} {H G : Hp} {k k1 : Cq} {m m1 : M} {p : Addr}
def delH (G : Hp) (p : Addr) : Hp := fun b => if b = p then none else G b
theorem delH_same : Same (delH G p) G := fun b u e => by
  unfold delH at e
  split at e
  · exact nomatch e
  · exact e
theorem delH_ne {b : Addr} (n : b ≠ p) : delH G p b = G b := if_neg n
/-- a new thing apart changes -/
theorem QMv.updF (mv : QMv c H k m G k1 m1) (nH : H p = none) (np : ¬ Own k1 p) {xs : List V} (ep : G p = some (.lst xs)) {o : HO} : QMv c H k m (upd G p o) k1 m1 := by
  refine ⟨mv.at_.keepQ (fun b u hb e => by rw [upd_ne fun z => np (by rw [← z]; exact hb)]; exact e) (ts_upd ep), fun b u n e => ?_, mv.nw, mv.oo, mv.ss⟩
  rw [upd_ne fun z => by rw [z, nH] at e; exact nomatch e]
  exact mv.fr b u n e
theorem QMv.del (mv : QMv c H k m G k1 m1) (nH : H p = none) (np : ¬ Own k1 p) {xs : List V} (ep : G p = some (.lst xs)) : QMv c H k m (delH G p) k1 m1 := by
  refine ⟨mv.at_.keepQ (fun b u hb e => by rw [delH_ne fun z => np (by rw [← z]; exact hb)]; exact e) (fun a ys e => by rw [delH_ne fun z => by rw [z, ep] at e; exact nomatch e]; exact e), fun b u n e => ?_, mv.nw, mv.oo, mv.ss⟩
  rw [delH_ne fun z => by rw [z, nH] at e; exact nomatch e]
  exact mv.fr b u n e
theorem QMv.newBlock (mv : QMv c H k m G k1 m1) (nH : H p = none) (np : ¬ Own k1 p) {i : Nat} {ws : List Nat} (hi : i < 8) (ep : G p = some (.lst (nv ws))) (ok' : M.Ok { m1 with bs := m1.bs.set i ws }) :
    QMv c H k m (upd G k1.bl (.lst ((k1.bs.set i p).map V.ref))) { k1 with bs := k1.bs.set i p } { m1 with bs := m1.bs.set i ws } :=
  (mv.del nH np ep).trans ((mv.del nH np ep).at_.newBlock delH_same hi (if_pos rfl) ep ok')
end
section
variable {c : Cz} {H : Hp} {k : Cq} {m : M} {σ : L2.St} {Q : VK} {j : Nat} {vs : List Nat} {te : TE} {tn : TA} {n : Nat}
/-- a comprehension over a range, each turn of which asks the store -/
theorem lcQs (p : Nat → V) (hP : QAt c H k m) (hl : n ≤ 10000) (hn : ∀ R : List V → Hp → Prop, R [.int (n : Nat)] H → tn σ H R) (hw : ∀ x, wipe ((wipe σ vs).set j (some x)) vs = wipe σ vs)
    (ht : ∀ (i : Nat) (G : Hp) (Q' : VK) (w : Addr → Prop) (s : Hp → List (List Nat) → Prop), i < n → QMv c H k m G { k with sow := w, sat := s } m → (∀ w' s' G', QMv c G { k with sow := w, sat := s } m G' { k with sow := w', sat := s' } m → Q' (p i) G') → te ((wipe σ vs).set j (some (.int (0 + (i : Int))))) G Q')
    (q : ∀ D G w s, H D = none → QMv c H k m G { k with sow := w, sat := s } m → ¬ Own { k with sow := w, sat := s } D → G D = some (.lst ((List.range n).map p)) → Q (.ref D) G) : tLc (iRng1 tn) (gName j) tYes te vs σ H Q := by
  refine hn _ ⟨_, rfl, by omega, by omega, fun D hD => ?_⟩
  rw [Int.toNat_natCast]
  have nO := hP.noneQ hD
  refine lc_it (g := gName j) (tt := tYes) (te := te) (vs := vs) (σ := σ) (n := n) walk_range (fun i G => ∃ w s, QMv c H k m G { k with sow := w, sat := s } m ∧ ¬ Own { k with sow := w, sat := s } D ∧ G D = some (.lst ((List.range i).map p)))
    ⟨k.sow, k.sat, QMv.same hP (same_upd hD), nO, upd_same⟩ (fun _ _ _ _ => trivial) (fun i x H1 H2 hi ⟨w, s, mv, no, e⟩ y => ?_) fun G ⟨w, s, mv, no, e⟩ => q D G w s hD mv no e
  obtain ⟨rfl, rfl⟩ := y
  refine ⟨hw _, r_yes (ht i _ _ w s hi mv fun w' s' G' mv' => ?_)⟩
  have eG : G' D = some (.lst ((List.range i).map p)) := mv'.fr _ _ no e
  have no' : ¬ Own { k with sow := w', sat := s' } D := fun z => (mv'.nw D z).elim no fun y => by rw [e] at y; exact nomatch y
  refine ⟨_, eG, by rw [List.length_map, List.length_range, sizeLine_eq]; omega, w', s', (mv.trans mv').updF hD no' eG, no', ?_⟩
  rw [upd_same, List.range_succ, List.map_append]
  rfl
end
def m0 (rows rms : List (List Nat)) : M := ⟨[0, 0, 0, 0], 0, 0, 0, 0, 0, 0, false, .runs, [], [], [], [], [], 0, 0, rows, rms⟩
theorem m0_ok {rows rms : List (List Nat)} (h1 : Rows8 rows) (h2 : Rows8 rms) : (m0 rows rms).Ok where
  r4 := rfl
  rw_ := fun w hw => by
    have : w = 0 := by simpa using (show w ∈ [0, 0, 0, 0] from hw)
    omega
  a64 := by show 0 < 64; decide
  t8 := by show 0 < 8; decide
  h64 := by show 0 < 64; decide
  b64 := by show 0 < 64; decide
  c4 := Nat.zero_le _
  a8 := Nat.zero_le _
  ao := fun _ z => nomatch z
  bo := h1
  ro := h2
  lo := fun _ z => nomatch z
  no := fun _ z => nomatch z
  to_ := fun _ z => nomatch z
  so := fun _ z => nomatch z
end Cm

namespace Cm
open PySem PySem.Spec PyProof.Rows L2 Bk Rm
/-! an attribute as a target -/
def gFld (K : PySem.W.Frag) (ta : TE) (f : Str) : TG := fun v σ H Q => ta σ H fun x H2 => ∃ a C dx fs, x = .ref a ∧ H2 a = some (.ins C dx fs) ∧ Cls K C ∧ NoAttr K C f ∧ fs.length < 1000 ∧ Q σ (upd H2 a (.ins C dx (putF f v fs)))
theorem pg_fld {X : Cx} {o : Expr} {f : Str} {pos : Pos} {ta : TE} (ho : PE X o ta) : PG X (.Attribute o f pos) (gFld X.K ta f) := by
  refine ⟨fun pins s σ H v u Q I r h => ?_⟩
  rw [assign_Attribute]
  refine wpAny_bind (wpAny_holding (thn (ho.run pins s σ H _ I h) fun ov s1 ⟨x, H1, I1, r1, q1⟩ => ?_))
  obtain ⟨a, C, dx, fs, rfl, e, cl, na, le, q⟩ := q1
  cases (show ov = Value.ref a from r1)
  refine wpAny_bind (wpAny_standAt (wpAny_bind (wpAny_holding (setattr_ok I1 e cl na le r fun s' I' => ?_))))
  exact wpAny_release ⟨σ, _, I', q⟩
/-! ### what was laid, newly -/
structure Nw (H0 H : Hp) (F : List (Addr × HO)) : Prop where
  sm : Same H0 H
  f : ∀ z ∈ F, H z.1 = some z.2
  fr : ∀ z ∈ F, H0 z.1 = none
  nd : (F.map (·.1)).Nodup
section
variable {H0 H H' : Hp} {F F' : List (Addr × HO)} {p : Addr} {o : HO}
theorem Nw.same (g : Nw H0 H F) (s : Same H H') : Nw H0 H' F := ⟨g.sm.trans s, fun z hz => s _ _ (g.f z hz), g.fr, g.nd⟩
theorem Nw.none (g : Nw H0 H F) (e : H p = Option.none) : H0 p = Option.none ∧ p ∉ F.map (·.1) := by
  refine ⟨?_, fun h => ?_⟩
  · cases z : H0 p with
    | none => rfl
    | some u => rw [g.sm _ _ z] at e; exact nomatch e
  · obtain ⟨z, hz, rfl⟩ := List.mem_map.mp h
    rw [g.f z hz] at e
    exact nomatch e
theorem Nw.new (g : Nw H0 H F) (s : Same H H') (np : H p = Option.none) (e : H' p = some o) : Nw H0 H' ((p, o) :: F) := by
  obtain ⟨n2, n3⟩ := g.none np
  have g' := g.same s
  refine ⟨g'.sm, fun z hz => ?_, fun z hz => ?_, List.nodup_cons.mpr ⟨n3, g.nd⟩⟩ <;> rcases List.mem_cons.mp hz with rfl | hz
  · exact e
  · exact g'.f z hz
  · exact n2
  · exact g.fr z hz
theorem Nw.lay (g : Nw H0 H F) (np : H p = Option.none) : Nw H0 (upd H p o) ((p, o) :: F) := g.new (same_upd np) np upd_same
theorem Nw.at (g : Nw H0 H F) (i : Nat) (h : F[i]? = some (p, o)) : H p = some o := g.f _ (List.mem_of_getElem? h)
theorem Nw.set (g : Nw H0 H F) (i : Nat) {o' : HO} (h : F[i]? = some (p, o)) : Nw H0 (upd H p o') (F.set i (p, o')) := by
  have mp : (p, o) ∈ F := List.mem_of_getElem? h
  have em : (F.set i (p, o')).map (·.1) = F.map (·.1) := by
    rw [List.map_set]
    refine List.ext_getElem? fun j => ?_
    by_cases ij : i = j
    · subst ij
      rw [List.getElem?_set_self (by rw [List.length_map]; exact (List.getElem?_eq_some_iff.mp h).1), List.getElem?_map, h]
      rfl
    · rw [List.getElem?_set_ne ij]
  refine ⟨sameBut g.sm (g.fr _ mp), fun z hz => ?_, fun z hz => ?_, by rw [em]; exact g.nd⟩
  · obtain ⟨j, hj⟩ := List.getElem?_of_mem hz
    by_cases ij : i = j
    · subst ij
      rw [List.getElem?_set_self (List.getElem?_eq_some_iff.mp h).1] at hj
      obtain rfl := Option.some.inj hj
      exact upd_same
    · rw [List.getElem?_set_ne ij] at hj
      rw [upd_ne]
      · exact g.f _ (List.mem_of_getElem? hj)
      · refine nd_ne g.nd (i := j) (j := i) ?_ ?_ fun y => ij y.symm
        · rw [List.getElem?_map, hj]; rfl
        · rw [List.getElem?_map, h]; rfl
  · rcases List.mem_or_eq_of_mem_set hz with hz | rfl
    · exact g.fr z hz
    · exact g.fr (p, o) mp
theorem Nw.perm (g : Nw H0 H F) (s : F.Perm F') : Nw H0 H F' := ⟨g.sm, fun z hz => g.f z (s.mem_iff.mpr hz), fun z hz => g.fr z (s.mem_iff.mpr hz), (s.map _).nodup_iff.mp g.nd⟩
theorem Nw.drop (g : Nw H0 H F) (s : F'.Sublist F) : Nw H0 H F' := ⟨g.sm, fun z hz => g.f z (s.subset hz), fun z hz => g.fr z (s.subset hz), g.nd.sublist (s.map _)⟩
theorem Nw.app (g : Nw H0 H F) {l : List (Addr × HO)} (s : Same H H') (hl : ∀ z ∈ l, H' z.1 = some z.2) (nl : (l.map (·.1)).Nodup) (fr : ∀ b ∈ l.map (·.1), H b = Option.none) : Nw H0 H' (l ++ F) := by
  have g' := g.same s
  have fr' : ∀ z ∈ l, H0 z.1 = Option.none ∧ z.1 ∉ F.map (·.1) := fun z hz => g.none (fr z.1 (List.mem_map.mpr ⟨z, hz, rfl⟩))
  refine ⟨g'.sm, fun z hz => (List.mem_append.mp hz).elim (hl z) (g'.f z), fun z hz => (List.mem_append.mp hz).elim (fun h => (fr' z h).1) (g.fr z), ?_⟩
  rw [List.map_append]
  refine List.nodup_append.mpr ⟨nl, g.nd, fun a ha b hb e => ?_⟩
  obtain ⟨z, hz, rfl⟩ := List.mem_map.mp ha
  exact (fr' z hz).2 (e ▸ hb)
end
/-! ### how a machine stands, as a tuple -/
def StV (H : Hp) (t : Addr) (m : M) : Prop := ∃ t0 t9 t10 t13 t14 : Addr, ∃ ts : List Addr, ∃ us : List Addr, H t = some (.tup [.ref t0, .int (m.at_ : Nat), .int (m.tb : Nat), .int (m.tm : Nat), .int (m.hd : Nat), .int (m.bk : Nat), .int (m.cs : Nat), .bl m.tr, .str m.st.s, .ref t9, .ref t10, .int (m.td.length : Nat), .int (m.sn.length : Nat), .ref t13, .ref t14, .int (m.mq : Nat), .int (m.dn : Nat)]) ∧
  H t0 = some (.tup (nv m.r)) ∧ H t9 = some (.tup (nv m.ln)) ∧ H t10 = some (.tup (nv m.nt)) ∧ (H t13 = some (.tup (us.map V.ref)) ∧ us.length = m.bs.length ∧ ∀ (i : Nat) t ws, us[i]? = some t → m.bs[i]? = some ws → H t = some (.tup (nv ws))) ∧ H t14 = some (.tup (ts.map V.ref)) ∧ Tps askV H ts m.as
theorem StV.keep {H H' : Hp} {t : Addr} {m : M} (h : StV H t m) (s : TS H H') : StV H' t m := by
  obtain ⟨t0, t9, t10, t13, t14, ts, us, a, b, c, d, ⟨e1, e2, e3⟩, f, g⟩ := h
  exact ⟨t0, t9, t10, t13, t14, ts, us, s _ _ a, s _ _ b, s _ _ c, s _ _ d, ⟨s _ _ e1, e2, fun i t ws x y => s _ _ (e3 i t ws x y)⟩, s _ _ f, g.keep s⟩
theorem rng_refs {ts : List Addr} : (List.range ts.length).map (fun i => V.ref (ts.getD i 0)) = ts.map V.ref := by
  refine List.ext_getElem (by simp) fun i h1 h2 => ?_
  have hi : i < ts.length := by simpa using h1
  rw [List.getElem_map, List.getElem_map, List.getElem_range, List.getD_eq_getElem?_getD, List.getElem?_eq_getElem hi]
  rfl
/-- a sub-list of tuples, each as it is -/
theorem lcTupT {K : PySem.W.Frag} {σ : L2.St} {H : Hp} {Q : VK} {j : Nat} {vs : List Nat} {tl : TE} {a : Addr} {ts : List Addr} (hv : ∀ QQ : VK, QQ (.ref a) H → tl σ H QQ) (ha : SqT K H a (ts.map V.ref)) (hl : ts.length ≤ 10000) (ht : ∀ t ∈ ts, ∃ xs, H t = some (.tup xs)) (hw : ∀ x, wipe ((wipe σ vs).set j (some x)) vs = wipe σ vs) (hj : ∀ y : V, ((wipe σ vs).set j (some y))[j]? = some (some y))
    (q : ∀ D H', H D = none → Same H H' → H' D = some (.lst (ts.map V.ref)) → Q (.ref D) H') : tLc (iTup K tl) (gName j) tYes (tCB (fun xs H Q => ∃ p ys, xs = [V.ref p] ∧ ((SqL K H p ys ∧ ∀ (l : Addr), H l = none → Q (.ref l) (upd H l (.tup ys))) ∨ SqT K H p ys ∧ Q (.ref p) H)) (tCons (tVar j) tNil)) vs σ H Q := by
  refine hv _ ⟨a, rfl, ⟨_, ha⟩, fun D hD => lc_map (j := j) walk_tup (fun _ _ _ _ _ z => z.1) (fun i => V.ref (ts.getD i 0)) (by rw [List.length_map]; exact hl) (fun H' sm => seqT sm ha) hw (fun i y H1 H' Q' _ e sm k => ?_) (fun D' H' h1 h2 h3 => q D' H' h1 h2 (by rw [h3, List.length_map, rng_refs])) hD⟩
  obtain ⟨rfl, hy⟩ := e
  rw [List.getElem?_map] at hy
  cases et : ts[i]? with
  | none => rw [et] at hy; exact nomatch hy
  | some t =>
    rw [et] at hy
    obtain rfl := Option.some.inj hy
    obtain ⟨xs, ex⟩ := ht t (List.mem_of_getElem? et)
    refine r_cb (r_cons ⟨_, hj _, r_nil ⟨t, xs, rfl, .inr ⟨SqT.of (sm _ _ ex), ?_⟩⟩⟩)
    have := k H' (Same.refl _)
    rw [List.getD_eq_getElem?_getD, et] at this
    exact this
theorem lcTupA {K : PySem.W.Frag} {σ : L2.St} {H : Hp} {Q : VK} {j : Nat} {vs : List Nat} {tl : TE} {a : Addr} {ts : List Addr} (hv : ∀ QQ : VK, QQ (.ref a) H → tl σ H QQ) (ha : SqA K H a (ts.map V.ref)) (hl : ts.length ≤ 10000) (ht : ∀ t ∈ ts, ∃ xs, H t = some (.tup xs)) (hw : ∀ x, wipe ((wipe σ vs).set j (some x)) vs = wipe σ vs) (hj : ∀ y : V, ((wipe σ vs).set j (some y))[j]? = some (some y))
    (q : ∀ D H', H D = none → Same H H' → H' D = some (.lst (ts.map V.ref)) → Q (.ref D) H') : tLc (iSeqA K tl) (gName j) tYes (tCB (fun xs H Q => ∃ p ys, xs = [V.ref p] ∧ ((SqL K H p ys ∧ ∀ (l : Addr), H l = none → Q (.ref l) (upd H l (.tup ys))) ∨ SqT K H p ys ∧ Q (.ref p) H)) (tCons (tVar j) tNil)) vs σ H Q := by
  refine lcQ (fun i => some (V.ref (ts.getD i 0))) ha (by rw [List.length_map]; exact hl) hv (fun i x H1 Q' R' hx s1 h1 _ => ?_) fun D H' nD s e => q D H' nD s ?_
  · rw [List.getElem?_map] at hx
    cases et : ts[i]? with
    | none => rw [et] at hx; exact nomatch hx
    | some t =>
      rw [et] at hx
      obtain rfl := Option.some.inj hx
      obtain ⟨xs, ex⟩ := ht t (List.mem_of_getElem? et)
      refine ⟨hw _, r_yes (r_cb (r_cons ⟨_, hj _, r_nil ⟨t, xs, rfl, .inr ⟨SqT.of (s1 _ _ ex), ?_⟩⟩⟩))⟩
      exact h1 _ (by rw [List.getD_eq_getElem?_getD, et]; rfl) _ (Same.refl _)
  · rw [e, List.length_map, show (fun i => some (V.ref (ts.getD i 0))) = some ∘ (fun i => V.ref (ts.getD i 0)) from rfl, List.filterMap_eq_map, rng_refs]
theorem perm_C {o dk qd rg lq nq td sn bl al : Addr} {bs : List Addr} : ([sn, td, nq, lq, qd, rg, o] ++ (dk :: al :: bl :: bs)).Perm ([o, dk, qd, rg, lq, nq, td, sn, bl, al] ++ bs) := by
  refine List.perm_iff_count.mpr fun a => ?_
  simp only [List.count_append, List.count_cons, List.count_nil, List.cons_append]
  omega
/-- a core out of what was laid -/
theorem cat_of {c : Cs} {H H' : Hp} {k : Cq} {m : M} (g : Nw H H' (([(k.sn, .lst (k.ss.map V.ref)), (k.td, .lst (nv m.td)), (k.nq, .lst (nv m.nt)), (k.lq, .lst (nv m.ln)), (k.qd, .dK (QQ k)), (k.rg, .lst (nv m.r)), (k.o, .ins c.C k.dxo (CQ k m))] : List (Addr × HO)) ++ ((k.dk, .ins c.D k.dxd (DQ k m)) :: (k.al, .lst (k.ts.map V.ref)) :: (k.bl, .lst (k.bs.map V.ref)) :: rowsF k.bs m.bs)))
    (lb : k.bs.length = m.bs.length) (sv : Tps sentV H' k.ss m.sn) (av : Tps askV H' k.ts m.as) (ok : m.Ok) : CAt c H' k m ∧ ∀ b ∈ ownQ k, H b = none := by
  have ow : (([(k.sn, .lst (k.ss.map V.ref)), (k.td, .lst (nv m.td)), (k.nq, .lst (nv m.nt)), (k.lq, .lst (nv m.ln)), (k.qd, .dK (QQ k)), (k.rg, .lst (nv m.r)), (k.o, .ins c.C k.dxo (CQ k m))] : List (Addr × HO)) ++ ((k.dk, .ins c.D k.dxd (DQ k m)) :: (k.al, .lst (k.ts.map V.ref)) :: (k.bl, .lst (k.bs.map V.ref)) :: rowsF k.bs m.bs)).map (·.1) = [k.sn, k.td, k.nq, k.lq, k.qd, k.rg, k.o] ++ (k.dk :: k.al :: k.bl :: k.bs) := by
    simp only [List.map_cons, List.map_append, List.map_nil, rowsF_own lb]
  have nd := g.nd
  rw [ow] at nd
  refine ⟨⟨fun i y u e => ?_, rowsF_of lb fun z hz => g.f z (by simp [hz]), sv, av, perm_C.nodup_iff.mp nd, ok⟩, fun b hb => ?_⟩
  · have e := List.mem_of_getElem? e
    have pk : ∀ z, z ∈ factsQ c k m → H' z.1 = some z.2 := fun z hz => by
      simp only [factsQ, List.mem_cons, List.not_mem_nil, or_false] at hz
      rcases hz with rfl | rfl | rfl | rfl | rfl | rfl | rfl | rfl | rfl | rfl
      · exact g.f (k.o, .ins c.C k.dxo (CQ k m)) (by simp)
      · exact g.f (k.dk, .ins c.D k.dxd (DQ k m)) (by simp)
      · exact g.f (k.qd, .dK (QQ k)) (by simp)
      · exact g.f (k.rg, .lst (nv m.r)) (by simp)
      · exact g.f (k.lq, .lst (nv m.ln)) (by simp)
      · exact g.f (k.nq, .lst (nv m.nt)) (by simp)
      · exact g.f (k.td, .lst (nv m.td)) (by simp)
      · exact g.f (k.sn, .lst (k.ss.map V.ref)) (by simp)
      · exact g.f (k.bl, .lst (k.bs.map V.ref)) (by simp)
      · exact g.f (k.al, .lst (k.ts.map V.ref)) (by simp)
    exact pk _ e
  · have hb := perm_C.mem_iff.mpr hb
    rw [← ow] at hb
    obtain ⟨z, hz, rfl⟩ := List.mem_map.mp hb
    exact g.fr z hz
end Cm

namespace Cm
open PySem PySem.Spec PyProof.Rows L2 Bk Rm
/-! ### runs of a machine alone, as values -/
structure Arv where
  tm : Nat
  net : Bool
  wd : Nat
def M.alive (m : M) : Bool := decide (m.st = .runs ∨ m.st = .idle)
/-- what is due comes: the machine, what came, what is left -/
def arrM : M → List Arv → List Arv → M × List Arv × List Arv
  | m, lg, [] => (m, lg, [])
  | m, lg, a :: r => if a.tm ≤ m.tm ∧ m.alive = true then arrM (comesM m a.net a.wd) (lg ++ [⟨m.tm, a.net, a.wd⟩]) r else (m, lg, a :: r)
structure Run where
  m : M
  lg : List Arv
  tl : List Row
  left : List Arv
def Run.come (s : Run) : Run := { s with m := (arrM s.m s.lg s.left).1, lg := (arrM s.m s.lg s.left).2.1, left := (arrM s.m s.lg s.left).2.2 }
def Run.step (s : Run) : Run := { s with m := (Cm.step s.m).1, tl := s.tl ++ (Cm.step s.m).2.toList }
def Run.go (s : Run) (e : Nat) : Prop := s.m.tm < e ∧ s.m.st = .runs
instance (s : Run) (e : Nat) : Decidable (s.go e) := inferInstanceAs (Decidable (_ ∧ _))
def runN : Nat → Nat → Run → Run
  | 0, _, s => s
  | f + 1, e, s => if s.go e then runN f e s.step.come else s
/-- a run alone -/
def runA (rows rms : List (List Nat)) (log : List Arv) (e : Nat) : Run := runN (e + 1) e (Run.come ⟨m0 rows rms, [], [], log⟩)
theorem arrM_tm : ∀ {r : List Arv} {m : M} {lg : List Arv}, (arrM m lg r).1.tm = m.tm
  | [], _, _ => rfl
  | a :: r, m, lg => by
    unfold arrM
    split
    · rw [arrM_tm]
      unfold comesM
      split <;> rfl
    · rfl
theorem come_tm {s : Run} : s.come.m.tm = s.m.tm := arrM_tm
/-- nothing that is left is due, or the machine is over -/
def Wtg (m : M) (r : List Arv) : Prop := ∀ a r', r = a :: r' → m.tm < a.tm ∨ m.alive = false
theorem arrM_wtg : ∀ {r : List Arv} {m : M} {lg : List Arv}, Wtg (arrM m lg r).1 (arrM m lg r).2.2
  | [], _, _ => fun _ _ z => nomatch z
  | a :: r, m, lg => by
    unfold arrM
    split
    · exact arrM_wtg
    · rename_i h
      intro b r' e
      injection e with e1 e2
      subst e1
      by_cases z : a.tm ≤ m.tm
      · right
        by_cases y : m.alive = true
        · exact absurd ⟨z, y⟩ h
        · exact Bool.eq_false_iff.mpr y
      · left; show m.tm < a.tm; omega
theorem arrM_of_wtg {r : List Arv} {m : M} {lg : List Arv} (h : Wtg m r) : arrM m lg r = (m, lg, r) := by
  cases r with
  | nil => rfl
  | cons a r =>
    unfold arrM
    rw [if_neg]
    rintro ⟨h1, h2⟩
    rcases h a r rfl with z | z
    · omega
    · rw [h2] at z; exact nomatch z
theorem come_wtg {s : Run} : Wtg s.come.m s.come.left := arrM_wtg
theorem step_tm {m : M} : (m.tm < (Cm.step m).1.tm ∧ ∃ z, (Cm.step m).2 = some z) ∨ ((Cm.step m).1.tm = m.tm ∧ (Cm.step m).1.st = .idle ∧ (Cm.step m).2 = none) := by
  have ht : ∀ m : M, ∀ c, m.tm < (trapM m c).1.tm ∧ ∃ z, (trapM m c).2 = some z := fun m c => by
    unfold trapM
    split <;> exact ⟨Nat.lt_succ_self _, _, rfl⟩
  have hw : ∀ m : M, ∀ f, (m.tm < (Cm.wait m f).1.tm ∧ ∃ z, (Cm.wait m f).2 = some z) ∨ ((Cm.wait m f).1.tm = m.tm ∧ (Cm.wait m f).1.st = .idle ∧ (Cm.wait m f).2 = none) := fun m f => by
    unfold Cm.wait
    split
    · split
      · exact .inr ⟨rfl, rfl, rfl⟩
      · rename_i a l e
        exact .inl ⟨by show m.tm < max m.tm a.due + 1; omega, _, rfl⟩
    · exact .inl ⟨Nat.lt_succ_self _, _, rfl⟩
  unfold Cm.step
  have e0 : ({ serve m with st := .runs } : M).tm = m.tm := rfl
  rw [← e0]
  generalize ({ serve m with st := .runs } : M) = m1
  generalize (ready m).length = f
  unfold act
  split
  · exact .inl (ht _ _)
  · rename_i n e
    dsimp only
    split
    · exact hw _ _
    · rename_i h15
      have ex : ∀ z : M × Out, z.1.tm = m1.tm → (m1.tm < (onward m1 z).1.tm ∧ ∃ y, (onward m1 z).2 = some y) := fun z ez => by
        unfold onward
        split
        · rw [← ez]; exact ht _ _
        · exact ⟨by show m1.tm < z.1.tm + 1; omega, _, rfl⟩
        · exact ⟨by show m1.tm < z.1.tm + 1; omega, _, rfl⟩
      refine .inl (ex _ ?_)
      have sr : ∀ a v, (m1.setr a v).tm = m1.tm := fun _ _ => rfl
      have ld : ∀ a p, (load m1 a p).1.tm = m1.tm := fun a p => by unfold load; split <;> rfl
      have sv : ∀ a p, (save m1 a p).1.tm = m1.tm := fun a p => by unfold save; split <;> rfl
      generalize cel m1.rs n (m1.at_ % 8) / 256 = op
      generalize cel m1.rs n (m1.at_ % 8) / 64 % 4 = a
      generalize cel m1.rs n (m1.at_ % 8) % 64 = b
      unfold exec
      split
      · rfl
      · rfl
      · exact ld _ _
      · exact sv _ _
      · exact ld _ _
      · exact sv _ _
      · rfl
      · rfl
      · unfold part; split <;> rfl
      · unfold jump; split <;> rfl
      · rfl
      · unfold traps; split <;> rfl
      · rfl
      · unfold outM; split
        · rfl
        · rfl
        · unfold askM; split <;> rfl
      · unfold inM; split <;> rfl
/-- each turn the time goes on, or it is the last one -/
theorem turn_tm {s : Run} (h : Wtg s.m s.left) (hr : s.m.st = .runs) : s.m.tm < s.step.come.m.tm ∨ ¬ s.step.come.m.st = .runs := by
  rw [come_tm]
  rcases step_tm (m := s.m) with ⟨h1, _⟩ | ⟨h1, h2, _⟩
  · exact .inl h1
  · right
    have w : Wtg s.step.m s.step.left := fun a r' e => by
      show (Cm.step s.m).1.tm < a.tm ∨ _
      rcases h a r' e with z | z
      · left; rw [h1]; exact z
      · unfold M.alive at z
        rw [decide_eq_true (.inl hr)] at z
        exact nomatch z
    show ¬ (arrM s.step.m s.step.lg s.step.left).1.st = .runs
    rw [arrM_of_wtg w]
    show ¬ (Cm.step s.m).1.st = .runs
    rw [h2]
    exact fun z => nomatch z
end Cm

/-! a tuple times a number from 1 on -/
namespace L2
open PySem PySem.Spec PyProof.Rows
def rRepTA (K : PySem.W.Frag) : R2 := fun x y H Q => ∃ l k xs, x = .ref l ∧ y = .int k ∧ SqT K H l xs ∧ xs ≠ [] ∧ 1 ≤ k ∧ k ≤ 1000 ∧ xs.length ≤ 1000 ∧ (k = 1 → Q (.ref l) H) ∧ (2 ≤ k → ∀ p, H p = none → Q (.ref p) (upd H p (.tup (List.replicate k.toNat xs).flatten)))
section
variable {X : Cx}
end
end L2

namespace Cm
open PySem PySem.Spec PyProof.Rows L2 Bk Rm
/-! ### a plain machine: a core, a store, a log, a trail -/
structure Pk where
  o : Addr
  dx : Addr
  ll : Addr
  lt : Addr
  ls : List Addr
  tv : List V
def arvV (a : Arv) : List V := [.int (a.tm : Nat), .str (kq a.net), .int (a.wd : Nat)]
def PF (p : Pk) (k : Cq) : List (Str × V) := [("_core", .ref k.o), ("_store", .ref k.so), ("_log", .ref p.ll), ("_trail", .ref p.lt)]
def TlV (H : Hp) (vs : List V) (tl : List Row) : Prop := vs.length = tl.length ∧ ∀ (i : Nat) v z, vs[i]? = some v → tl[i]? = some z → RowV H (some z) v
theorem TlV.keep {H H' : Hp} {vs : List V} {tl : List Row} (h : TlV H vs tl) (s : TS H H') : TlV H' vs tl := ⟨h.1, fun i v z a b => (h.2 i v z a b).keep s⟩
theorem TlV.push {H : Hp} {vs : List V} {tl : List Row} {v : V} {z : Row} (h : TlV H vs tl) (r : RowV H (some z) v) : TlV H (vs ++ [v]) (tl ++ [z]) := by
  refine ⟨by rw [List.length_append, List.length_append, h.1]; rfl, fun i u y a b => ?_⟩
  by_cases hi : i < vs.length
  · rw [List.getElem?_append_left hi] at a
    rw [List.getElem?_append_left (by rw [← h.1]; exact hi)] at b
    exact h.2 i u y a b
  · rw [List.getElem?_append_right (by omega)] at a
    rw [List.getElem?_append_right (by rw [← h.1]; omega), ← h.1] at b
    have i0 : i - vs.length = 0 := by
      have := (List.getElem?_eq_some_iff.mp a).1
      rw [List.length_singleton] at this
      omega
    rw [i0] at a b
    rw [← Option.some.inj a, ← Option.some.inj b]
    exact r
structure MAt (c : Cz) (P : Addr) (H : Hp) (p : Pk) (k : Cq) (m : M) (lg : List Arv) (tl : List Row) : Prop where
  ob : H p.o = some (.ins P p.dx (PF p k))
  lo : H p.ll = some (.lst (p.ls.map V.ref))
  lv : Tps arvV H p.ls lg
  to_ : H p.lt = some (.lst p.tv)
  tv : TlV H p.tv tl
  qa : QAt c H k m
  nd : [p.o, p.ll, p.lt].Nodup
  ap : ∀ b ∈ [p.o, p.ll, p.lt], ¬ Own k b
def OwnM (p : Pk) (k : Cq) (b : Addr) : Prop := b ∈ [p.o, p.ll, p.lt] ∨ Own k b
structure MMv (c : Cz) (P : Addr) (H : Hp) (p : Pk) (k : Cq) (H' : Hp) (p' : Pk) (k' : Cq) (m' : M) (lg' : List Arv) (tl' : List Row) : Prop where
  at_ : MAt c P H' p' k' m' lg' tl'
  fr : ∀ b u, ¬ OwnM p k b → H b = some u → H' b = some u
  nw : ∀ b, OwnM p' k' b → OwnM p k b ∨ H b = none
  oo : p'.o = p.o
section
variable {c : Cz} {P : Addr} {H H' : Hp} {p p' : Pk} {k k' : Cq} {m m' : M} {lg lg' : List Arv} {tl tl' : List Row}
theorem MAt.has3 (h : MAt c P H p k m lg tl) {b : Addr} (o : b ∈ [p.o, p.ll, p.lt]) : ∃ u, H b = some u ∧ ∀ xs, u ≠ .tup xs := by
  simp only [List.mem_cons, List.not_mem_nil, or_false] at o
  rcases o with rfl | rfl | rfl
  · exact ⟨_, h.ob, fun _ z => nomatch z⟩
  · exact ⟨_, h.lo, fun _ z => nomatch z⟩
  · exact ⟨_, h.to_, fun _ z => nomatch z⟩
theorem MAt.has (h : MAt c P H p k m lg tl) {b : Addr} (o : OwnM p k b) : ∃ u, H b = some u ∧ ∀ xs, u ≠ .tup xs := o.elim h.has3 h.qa.hasQ
theorem MAt.noneM (h : MAt c P H p k m lg tl) {b : Addr} (e : H b = none) : ¬ OwnM p k b := fun o => by
  obtain ⟨u, e2, _⟩ := h.has o
  rw [e] at e2
  exact nomatch e2
theorem MAt.ntupM (h : MAt c P H p k m lg tl) {b : Addr} {xs : List V} (e : H b = some (.tup xs)) : ¬ OwnM p k b := fun o => by
  obtain ⟨u, e2, n⟩ := h.has o
  rw [e] at e2
  exact n xs (Option.some.inj e2).symm
theorem MAt.tsM (h : MAt c P H p k m lg tl) (f : ∀ b u, ¬ OwnM p k b → H b = some u → H' b = some u) : TS H H' := fun a xs e => f _ _ (h.ntupM e) e
theorem MAt.keep (h : MAt c P H p k m lg tl) (f : ∀ b u, OwnM p k b → H b = some u → H' b = some u) (t : TS H H') : MAt c P H' p k m lg tl :=
  ⟨f _ _ (.inl (by simp)) h.ob, f _ _ (.inl (by simp)) h.lo, h.lv.keep t, f _ _ (.inl (by simp)) h.to_, h.tv.keep t, h.qa.keepQ (fun b u hb => f b u (.inr hb)) t, h.nd, h.ap⟩
theorem MAt.same (h : MAt c P H p k m lg tl) (s : Same H H') : MAt c P H' p k m lg tl := h.keep (fun b u _ e => s _ _ e) (Same.ts s)
theorem MMv.same (h : MAt c P H p k m lg tl) (s : Same H H') : MMv c P H p k H' p k m lg tl := ⟨h.same s, fun b u _ e => s _ _ e, fun b z => .inl z, rfl⟩
theorem MMv.ts (mv : MMv c P H p k H' p' k' m' lg' tl') (h : MAt c P H p k m lg tl) : TS H H' := h.tsM mv.fr
theorem MMv.trans {H2 : Hp} {p2 : Pk} {k2 : Cq} {m2 : M} {lg2 : List Arv} {tl2 : List Row} (a : MMv c P H p k H' p' k' m' lg' tl') (b : MMv c P H' p' k' H2 p2 k2 m2 lg2 tl2) : MMv c P H p k H2 p2 k2 m2 lg2 tl2 := by
  refine ⟨b.at_, fun d u n e => ?_, fun d z => ?_, b.oo.trans a.oo⟩
  · refine b.fr _ _ (fun z => ?_) (a.fr _ _ n e)
    rcases a.nw d z with z | z
    · exact n z
    · rw [e] at z; exact nomatch z
  · rcases b.nw d z with z | z
    · exact a.nw d z
    · by_cases o : OwnM p k d
      · exact .inl o
      · cases hc : H d with
        | none => exact .inr rfl
        | some u =>
          rw [a.fr _ _ o hc] at z
          exact nomatch z
/-- what core and store do -/
theorem MAt.ofQ (h : MAt c P H p k m lg tl) (mv : QMv c H k m H' k' m') : MMv c P H p k H' p k' m' lg tl := by
  have t := mv.ts h.qa
  have f3 : ∀ b u, b ∈ [p.o, p.ll, p.lt] → H b = some u → H' b = some u := fun b u hb e => mv.fr _ _ (h.ap b hb) e
  have ap' : ∀ b ∈ [p.o, p.ll, p.lt], ¬ Own k' b := fun b hb z => (mv.nw b z).elim (h.ap b hb) fun y => by
    obtain ⟨u, e, _⟩ := h.has3 hb
    rw [y] at e
    exact nomatch e
  refine ⟨⟨?_, f3 _ _ (by simp) h.lo, h.lv.keep t, f3 _ _ (by simp) h.to_, h.tv.keep t, mv.at_, h.nd, ap'⟩, fun b u n e => mv.fr _ _ (fun z => n (.inr z)) e, fun b z => ?_, rfl⟩
  · have := f3 _ _ (by simp) h.ob
    unfold PF at this ⊢
    rw [mv.oo, mv.ss]
    exact this
  · rcases z with z | z
    · exact .inl (.inl z)
    · exact (mv.nw b z).imp .inr id
/-- a row more -/
theorem MAt.row (h : MAt c P H p k m lg tl) {v : V} {z : Row} (r : RowV H (some z) v) : MMv c P H p k (upd H p.lt (.lst (p.tv ++ [v]))) { p with tv := p.tv ++ [v] } k m lg (tl ++ [z]) := by
  have n1 : p.o ≠ p.lt := fun e => by have := h.nd; rw [e] at this; simp at this
  have n2 : p.ll ≠ p.lt := fun e => by have := h.nd; rw [e] at this; simp at this
  have t : TS H (upd H p.lt (.lst (p.tv ++ [v]))) := ts_upd h.to_
  refine ⟨⟨by show upd H p.lt _ p.o = _; rw [upd_ne n1]; exact h.ob, by show upd H p.lt _ p.ll = _; rw [upd_ne n2]; exact h.lo, h.lv.keep t, upd_same, (h.tv.push r).keep t, h.qa.keepQ (fun b u hb e => ?_) t, h.nd, h.ap⟩, fun b u n e => ?_, fun b z => .inl z, rfl⟩
  · rw [upd_ne fun z => h.ap p.lt (by simp) (by rw [← z]; exact hb)]; exact e
  · rw [upd_ne fun z => n (.inl (by rw [z]; simp))]; exact e
/-- an arrival more -/
theorem MAt.arv (h : MAt c P H p k m lg tl) {t : Addr} {a : Arv} (r : H t = some (.tup (arvV a))) : MMv c P H p k (upd H p.ll (.lst ((p.ls ++ [t]).map V.ref))) { p with ls := p.ls ++ [t] } k m (lg ++ [a]) tl := by
  have n1 : p.o ≠ p.ll := fun e => by have := h.nd; rw [e] at this; simp at this
  have n2 : p.lt ≠ p.ll := fun e => by have := h.nd; rw [e] at this; simp at this
  have t' : TS H (upd H p.ll (.lst ((p.ls ++ [t]).map V.ref))) := ts_upd h.lo
  refine ⟨⟨by show upd H p.ll _ p.o = _; rw [upd_ne n1]; exact h.ob, upd_same, (h.lv.push r).keep t', by show upd H p.ll _ p.lt = _; rw [upd_ne n2]; exact h.to_, h.tv.keep t', h.qa.keepQ (fun b u hb e => ?_) t', h.nd, h.ap⟩, fun b u n e => ?_, fun b z => .inl z, rfl⟩
  · rw [upd_ne fun z => h.ap p.ll (by simp) (by rw [← z]; exact hb)]; exact e
  · rw [upd_ne fun z => n (.inl (by rw [z]; simp))]; exact e
end
end Cm

namespace Cm
open PySem PySem.Spec PyProof.Rows L2 Bk Rm
/-! ### a machine that was told its arrivals by hand stands as one that runs alone by its log -/
def up (m : M) : M := if m.st = .idle then { m with st := .runs } else m
theorem up_tm {m : M} : (up m).tm = m.tm := by unfold up; split <;> rfl
theorem up_off {m : M} (h : m.st ≠ .idle) : up m = m := if_neg h
theorem up_alive {m : M} (h : m.st = .runs ∨ m.st = .idle) : (up m).alive = true := by
  unfold up M.alive
  rcases h with h | h
  · rw [if_neg (by rw [h]; exact fun z => nomatch z), decide_eq_true (.inl h)]
  · rw [if_pos h]
    rfl
theorem up_comes {m : M} {b : Bool} {x : Nat} : comesM (up m) b x = comesM m b x := by
  unfold up
  split
  · unfold comesM
    split <;> rfl
  · rfl
theorem exec_go {m : M} {op a b : Nat} (hs : m.st = .runs) : (exec m op a b).1.tm = m.tm ∧ (exec m op a b).1.st ≠ .idle := by
  have hi : m.st ≠ .idle := by rw [hs]; exact fun z => nomatch z
  have ld : ∀ a p, (load m a p).1.tm = m.tm ∧ (load m a p).1.st ≠ .idle := fun a p => by unfold load; split <;> exact ⟨rfl, hi⟩
  have sv : ∀ a p, (save m a p).1.tm = m.tm ∧ (save m a p).1.st ≠ .idle := fun a p => by unfold save; split <;> exact ⟨rfl, hi⟩
  unfold exec
  split
  · exact ⟨rfl, fun z => nomatch z⟩
  · exact ⟨rfl, hi⟩
  · exact ld _ _
  · exact sv _ _
  · exact ld _ _
  · exact sv _ _
  · exact ⟨rfl, hi⟩
  · exact ⟨rfl, hi⟩
  · unfold part; split <;> exact ⟨rfl, hi⟩
  · unfold jump; split <;> exact ⟨rfl, hi⟩
  · exact ⟨rfl, hi⟩
  · unfold traps; split <;> exact ⟨rfl, hi⟩
  · exact ⟨rfl, hi⟩
  · unfold outM; split
    · exact ⟨rfl, hi⟩
    · exact ⟨rfl, hi⟩
    · unfold askM; split <;> exact ⟨rfl, hi⟩
  · unfold inM; split <;> exact ⟨rfl, hi⟩
theorem step_way {m : M} (hr : m.st = .runs) : (m.tm < (Cm.step m).1.tm ∧ (Cm.step m).1.st ≠ .idle) ∨ ((Cm.step m).1 = { m with st := .idle } ∧ (Cm.step m).2 = none) := by
  have ht : ∀ m : M, m.st = .runs → ∀ c, m.tm < (trapM m c).1.tm ∧ (trapM m c).1.st ≠ .idle := fun m h c => by
    unfold trapM
    split
    · exact ⟨Nat.lt_succ_self _, fun z => nomatch z⟩
    · exact ⟨Nat.lt_succ_self _, by show m.st ≠ _; rw [h]; exact fun z => nomatch z⟩
  have hw : ∀ m : M, m.st = .runs → ∀ f, (m.tm < (Cm.wait m f).1.tm ∧ (Cm.wait m f).1.st ≠ .idle) ∨ (f = 0 ∧ m.as = [] ∧ (Cm.wait m f).1 = { m with st := .idle } ∧ (Cm.wait m f).2 = none) := fun m h f => by
    unfold Cm.wait
    split
    · rename_i hc
      split
      · rename_i ea
        exact .inr ⟨hc.1, ea, rfl, rfl⟩
      · rename_i a l e
        exact .inl ⟨by show m.tm < max m.tm a.due + 1; omega, by show m.st ≠ _; rw [h]; exact fun z => nomatch z⟩
    · exact .inl ⟨Nat.lt_succ_self _, by show m.st ≠ _; rw [h]; exact fun z => nomatch z⟩
  obtain ⟨m1, e1⟩ : ∃ m1 : M, m1 = { serve m with st := .runs } := ⟨_, rfl⟩
  have hs : m1.st = .runs := by rw [e1]
  have e0 : m1.tm = m.tm := by rw [e1]; rfl
  obtain ⟨f, ef⟩ : ∃ f, f = (ready m).length := ⟨_, rfl⟩
  have hstep : Cm.step m = act m1 f := by rw [e1, ef]; rfl
  rw [hstep, ← e0]
  unfold act
  split
  · exact .inl (ht _ hs _)
  · rename_i n e
    dsimp only
    split
    · rcases hw m1 hs f with h | ⟨h1, h2, h3, h4⟩
      · exact .inl h
      · right
        refine ⟨?_, h4⟩
        rw [h3]
        have ha : m.as = [] := by
          have r0 : ready m = [] := List.length_eq_zero_iff.mp (ef ▸ h1)
          have k0 : m.as.filter (fun a => decide (m.tm < a.due)) = [] := by rw [e1] at h2; exact h2
          refine List.eq_nil_iff_forall_not_mem.mpr fun a ha => ?_
          by_cases z : m.tm < a.due
          · have : a ∈ m.as.filter (fun a => decide (m.tm < a.due)) := List.mem_filter.mpr ⟨ha, decide_eq_true z⟩
            rw [k0] at this
            exact nomatch this
          · have : a ∈ ready m := List.mem_filter.mpr ⟨ha, decide_eq_true (by omega)⟩
            rw [r0] at this
            exact nomatch this
        rw [e1, (serve_idle ha).1]
    · rename_i h15
      have ex : ∀ z : M × Out, z.1.tm = m1.tm → z.1.st ≠ .idle → m1.tm < (onward m1 z).1.tm ∧ (onward m1 z).1.st ≠ .idle := fun z ez es => by
        unfold onward
        split
        · rw [← ez]
          unfold trapM
          split
          · exact ⟨Nat.lt_succ_self _, fun z => nomatch z⟩
          · exact ⟨Nat.lt_succ_self _, es⟩
        · exact ⟨by show m1.tm < z.1.tm + 1; omega, es⟩
        · exact ⟨by show m1.tm < z.1.tm + 1; omega, es⟩
      have ok : ∀ z : M, z.tm = m1.tm ∧ (z.st = .runs ∨ z.st = .ended) → z.tm = m1.tm ∧ z.st ≠ .idle := fun z h => ⟨h.1, fun y => by rcases h.2 with w | w <;> (rw [y] at w; exact nomatch w)⟩
      refine .inl (ex _ ?_ ?_)
      all_goals
        generalize cel m1.rs n (m1.at_ % 8) / 256 = op
        generalize cel m1.rs n (m1.at_ % 8) / 64 % 4 = a
        generalize cel m1.rs n (m1.at_ % 8) % 64 = b
      · exact (exec_go hs).1
      · exact (exec_go hs).2
/-- where the run by the whole log stands when it has come as far as this machine -/
def Reach (rows rms : List (List Nat)) (m : M) (lg : List Arv) (tl : List Row) : Prop :=
  ∀ (rest : List Arv) (e : Nat), (∀ a ∈ rest, m.tm ≤ a.tm) → m.tm ≤ e → ∃ f, e + 1 ≤ f + m.tm ∧ runA rows rms (lg ++ rest) e = Cm.runN f e (Run.come ⟨up m, lg, tl, rest⟩)
section
variable {rows rms : List (List Nat)} {m : M} {lg : List Arv} {tl : List Row}
theorem Reach.start : Reach rows rms (m0 rows rms) [] [] := fun rest e _ _ => ⟨e + 1, Nat.le_refl _, rfl⟩
theorem Reach.arrive (h : Reach rows rms m lg tl) (hs : m.st = .runs ∨ m.st = .idle) (b : Bool) (x : Nat) : Reach rows rms (comesM m b x) (lg ++ [⟨m.tm, b, x⟩]) tl := fun rest e hr he => by
  have et : (comesM m b x).tm = m.tm := by unfold comesM; split <;> rfl
  rw [et] at hr he ⊢
  obtain ⟨f, h1, h2⟩ := h (⟨m.tm, b, x⟩ :: rest) e (fun a ha => by
    rcases List.mem_cons.mp ha with rfl | ha
    · exact Nat.le_refl _
    · exact hr a ha) he
  refine ⟨f, h1, ?_⟩
  rw [List.append_assoc, List.singleton_append, h2]
  have ea : arrM (up m) lg (⟨m.tm, b, x⟩ :: rest) = arrM (comesM (up m) b x) (lg ++ [⟨(up m).tm, b, x⟩]) rest := if_pos ⟨by rw [up_tm]; exact Nat.le_refl _, up_alive hs⟩
  have eu : up (comesM m b x) = comesM m b x := up_off (by unfold comesM; split <;> exact fun z => nomatch z)
  unfold Run.come
  dsimp only
  rw [ea, up_comes, up_tm, eu]
theorem Reach.step (h : Reach rows rms m lg tl) (hs : m.st = .runs) : Reach rows rms (Cm.step m).1 lg (tl ++ (Cm.step m).2.toList) := fun rest e hr he => by
  have um : up m = m := up_off (by rw [hs]; exact fun z => nomatch z)
  rcases step_way hs with ⟨w1, w2⟩ | ⟨w1, w2⟩
  · obtain ⟨f, h1, h2⟩ := h rest e (fun a ha => Nat.le_of_lt (Nat.lt_of_lt_of_le w1 (hr a ha))) (by omega)
    obtain ⟨f, rfl⟩ : ∃ g, f = g + 1 := ⟨f - 1, by omega⟩
    refine ⟨f, by omega, ?_⟩
    have c0 : Run.come ⟨m, lg, tl, rest⟩ = ⟨m, lg, tl, rest⟩ := by
      unfold Run.come
      rw [arrM_of_wtg]
      intro a r' ez
      exact .inl (Nat.lt_of_lt_of_le w1 (hr a (by rw [show rest = a :: r' from ez]; exact List.mem_cons_self)))
    rw [h2, um, c0, show Cm.runN (f + 1) e ⟨m, lg, tl, rest⟩ = Cm.runN f e (Run.come (Run.step ⟨m, lg, tl, rest⟩)) from if_pos ⟨by show m.tm < e; omega, hs⟩, up_off w2]
    rfl
  · obtain ⟨f, h1, h2⟩ := h rest e (fun a ha => by have := hr a ha; rw [w1] at this; exact this) (by rw [w1] at he; exact he)
    refine ⟨f, by rw [w1]; exact h1, ?_⟩
    rw [h2, w1, w2, um, show tl ++ (none : Option Row).toList = tl from List.append_nil _]
    have : up { m with st := St.idle } = m := by
      unfold up
      rw [if_pos rfl]
      cases m
      dsimp only at hs
      subst hs
      rfl
    rw [this]
theorem Reach.done (h : Reach rows rms m lg tl) (hi : m.st ≠ .idle) : runA rows rms lg m.tm = ⟨m, lg, tl, []⟩ := by
  obtain ⟨f, h1, h2⟩ := h [] m.tm (fun _ z => nomatch z) (Nat.le_refl _)
  rw [List.append_nil, up_off hi] at h2
  rw [h2]
  have c0 : Run.come ⟨m, lg, tl, []⟩ = ⟨m, lg, tl, []⟩ := rfl
  rw [c0]
  cases f with
  | zero => rfl
  | succ f => exact if_neg (fun z => Nat.lt_irrefl _ z.1)
end
/-- turns of a run -/
def itc : Nat → Run → Run
  | 0, s => s
  | k + 1, s => (itc k s).step.come
/-- a machine that was once as m0 is now as m: what came since, and by how many turns of a run -/
def Path (m0 : M) (lg0 : List Arv) (tl0 : List Row) (m : M) (lg : List Arv) (tl : List Row) : Prop :=
  ∃ more, lg = lg0 ++ more ∧ (m0.st = .idle → (more = [] ∧ m = m0) ∨ ∃ a r, more = a :: r ∧ a.tm = m0.tm) ∧ ∃ k, tl.length = tl0.length + k ∧ ∀ rest : List Arv, (∀ a ∈ rest, m.tm ≤ a.tm) → itc k (Run.come ⟨up m0, lg0, tl0, more ++ rest⟩) = Run.come ⟨up m, lg, tl, rest⟩ ∧ ∀ i, i < k → (itc i (Run.come ⟨up m0, lg0, tl0, more ++ rest⟩)).m.st = .runs ∧ (itc i (Run.come ⟨up m0, lg0, tl0, more ++ rest⟩)).tl.length = tl0.length + i
section
variable {m0 m : M} {lg0 lg : List Arv} {tl0 tl : List Row}
theorem Path.refl : Path m lg tl m lg tl := ⟨[], (List.append_nil _).symm, fun _ => .inl ⟨rfl, rfl⟩, 0, rfl, fun rest _ => ⟨rfl, fun i h => absurd h (Nat.not_lt_zero i)⟩⟩
theorem Path.arrive (h : Path m0 lg0 tl0 m lg tl) (hs : m.st = .runs ∨ m.st = .idle) (b : Bool) (x : Nat) : Path m0 lg0 tl0 (comesM m b x) (lg ++ [⟨m.tm, b, x⟩]) tl := by
  obtain ⟨more, e1, hi, k, hk, h⟩ := h
  have et : (comesM m b x).tm = m.tm := by unfold comesM; split <;> rfl
  refine ⟨more ++ [⟨m.tm, b, x⟩], by rw [e1, List.append_assoc], fun z => .inr ?_, k, hk, fun rest hr => ?_⟩
  · rcases hi z with ⟨rfl, rfl⟩ | ⟨a, r, rfl, ha⟩
    · exact ⟨_, [], rfl, rfl⟩
    · exact ⟨a, _, rfl, ha⟩
  · rw [et] at hr
    obtain ⟨h1, h2⟩ := h (⟨m.tm, b, x⟩ :: rest) (fun a ha => by
      rcases List.mem_cons.mp ha with rfl | ha
      · exact Nat.le_refl _
      · exact hr a ha)
    rw [List.append_assoc, List.singleton_append]
    refine ⟨?_, h2⟩
    rw [h1]
    have ea : arrM (up m) lg (⟨m.tm, b, x⟩ :: rest) = arrM (comesM (up m) b x) (lg ++ [⟨(up m).tm, b, x⟩]) rest := if_pos ⟨by rw [up_tm]; exact Nat.le_refl _, up_alive hs⟩
    have eu : up (comesM m b x) = comesM m b x := up_off (by unfold comesM; split <;> exact fun z => nomatch z)
    unfold Run.come
    dsimp only
    rw [ea, up_comes, up_tm, eu]
theorem Path.step (h : Path m0 lg0 tl0 m lg tl) (hs : m.st = .runs) : Path m0 lg0 tl0 (Cm.step m).1 lg (tl ++ (Cm.step m).2.toList) := by
  obtain ⟨more, e1, hi, k, hk, h⟩ := h
  have um : up m = m := up_off (by rw [hs]; exact fun z => nomatch z)
  have hi' : m0.st = .idle → (more = [] ∧ (Cm.step m).1 = m0) ∨ ∃ a r, more = a :: r ∧ a.tm = m0.tm := fun z => (hi z).elim (fun y => by rw [y.2, z] at hs; exact nomatch hs) .inr
  have e2 : ∀ {z : Row}, (Cm.step m).2 = some z → (tl ++ (Cm.step m).2.toList).length = tl.length + 1 := fun e => by rw [e, List.length_append]; rfl
  rcases step_way hs with ⟨w1, w2⟩ | ⟨w1, w2⟩
  · have hz : ∃ z, (Cm.step m).2 = some z := by
      rcases step_tm (m := m) with ⟨_, z⟩ | ⟨z, _⟩
      · exact z
      · omega
    obtain ⟨z, hz⟩ := hz
    refine ⟨more, e1, hi', k + 1, by rw [e2 hz, hk]; omega, fun rest hr => ?_⟩
    obtain ⟨h1, h2⟩ := h rest (fun a ha => Nat.le_of_lt (Nat.lt_of_lt_of_le w1 (hr a ha)))
    have c0 : Run.come ⟨m, lg, tl, rest⟩ = ⟨m, lg, tl, rest⟩ := by
      unfold Run.come
      rw [arrM_of_wtg]
      intro a r' ez
      exact .inl (Nat.lt_of_lt_of_le w1 (hr a (by rw [show rest = a :: r' from ez]; exact List.mem_cons_self)))
    rw [um, c0] at h1
    refine ⟨?_, fun i hik => ?_⟩
    · show (itc k _).step.come = _
      rw [h1, up_off w2]
      rfl
    · rcases Nat.lt_succ_iff_lt_or_eq.mp hik with z | z
      · exact h2 i z
      · rw [z, h1]
        exact ⟨hs, hk⟩
  · refine ⟨more, e1, hi', k, by rw [w2, hk.symm]; show (tl ++ []).length = _; rw [List.append_nil], fun rest hr => ?_⟩
    obtain ⟨h1, h2⟩ := h rest (fun a ha => by have := hr a ha; rw [w1] at this; exact this)
    refine ⟨?_, h2⟩
    rw [h1, w1, w2, um, show tl ++ (none : Option Row).toList = tl from List.append_nil _]
    have : up { m with st := St.idle } = m := by
      unfold up
      rw [if_pos rfl]
      cases m
      dsimp only at hs
      subst hs
      rfl
    rw [this]
end
end Cm

namespace Bk
open PySem PySem.Spec PyProof.Rows L2
/-! ### != of own objects with an own == -/
section
variable {prog : Program} {w : World} {A : Around} {E : Value → Shared → Prop} {s : Shared} {K : PySem.W.Frag} {x C f : Addr} {ox : Obj} {od : Option Obj} {b : Value}
theorem ifBound_KB {M : Model} {name : Str} {id : String} {args : List Value} {Q : Option Value → Shared → Prop} (X : K.In s.heap) (I : PySem.W.InstAt s.heap x ox C od) (hs : PySem.W.findIn K (.ref C) name = some (some (.builtin id))) (hb : ∀ self, bindSpecial (.builtin id) self = pure (.builtin id, [self]))
    (h : wpAny M A (call (.builtin id) (.ref x :: args)) (fun v => Q (some v)) E s) : wpAny M A (callSpecialIfBound? (.ref x) name args) Q E s := by
  simp only [callSpecialIfBound?, bindSpecialIfBound?]
  refine wpAny_holding (wpAny_bind (wpAny_bind (wpAny_bind (I.type.here ((PySem.W.looks_findIn X hs).here ?_)))))
  refine wpAny_bind (wpAny_askSetting (wpAny_ite ?_))
  have fin : wpAny M A (call (.builtin id) ([.ref x] ++ args) >>= fun v => pure (some v)) Q E s := wpAny_bind (wpAny_mono h (fun v s' h' => wpAny_pure h') fun _ _ h' => h')
  simp only [hb]
  split
  · exact wpAny_bind (wpAny_pure (wpAny_pure (by exact fin)))
  · exact wpAny_tryCatch (wpAny_bind (wpAny_pure (wpAny_pure (by exact fin))))
theorem chk_ne {M : Model} {Q : Unit → Shared → Prop} (X : K.In s.heap) (I : PySem.W.InstAt s.heap x ox C od) (e : PySem.W.subIn K (.ref C) (.type "object") = some true) (hq : Q () s) : wpAny M A (checkBuiltinCall "object.__ne__" ⟨[.ref x, b], []⟩) Q E s := by
  have ha := F.cmpArgs_ne (.ref x) b
  simp only [checkBuiltinCall, F.cmpKind_ne, F.cmpSplit_ne]
  refine wpAny_bind ?_
  · refine PySem.W.Looks.here (I.type.andThen (PySem.W.looks_subIn X e)) ?_
    rw [if_neg (by decide)]
    cases hsig : Manifest.signature? "object.__ne__" with
    | none => exact wpAny_pure hq
    | some sig =>
      simp only [argsOk, hsig] at ha
      have h2 : Bind.checkArgs "object.__ne__" sig ⟨[.ref x, b], []⟩ = pure () := ha
      show wpAny M A (Bind.checkArgs "object.__ne__" sig ⟨[.ref x, b], []⟩) Q E s
      rw [h2]
      exact wpAny_pure hq
/-- own == says that they are alike: != says no -/
theorem call_ne {Q : Value → Shared → Prop} (X : K.In s.heap) (I : PySem.W.InstAt s.heap x ox C od) (hu : A.in1.units < cLine) (e : PySem.W.subIn K (.ref C) (.type "object") = some true) (hs : PySem.W.findIn K (.ref C) "__eq__" = some (some (.ref f))) (hf : PySem.W.isFn K (.ref f) = true)
    (h : wpAny (model prog w) A.in1 (call (.ref f) [.ref x, b]) (fun v s' => v = .bool true ∧ Q (.bool false) s') E s) : wpAny (model prog w) A (call (.builtin "object.__ne__") [.ref x, b]) Q E s := by
  refine wpAny_call (codeAny_call_builtin F.cmp_object.ne.plain F.cmpEntry_ne (chk_ne X I e ?_))
  unfold Builtin.«object.__ne__»
  have es : slotArgs "__ne__" 1 ⟨[.ref x, b], []⟩ = pure (.ref x, [b]) := by kernel_rfl
  rw [es]
  refine wpAny_bind (wpAny_pure ?_)
  dsimp only
  refine wpAny_bind (wpAny_cRoomFor hu ?_)
  refine wpAny_bind (PySem.W.ifBound_K X I hs hf (wpAny_mono h (fun v s' z => ?_) fun _ _ y => y))
  obtain ⟨rfl, q⟩ := z
  refine wpAny_bind (wpAny_pure ?_)
  exact wpAny_pure q
theorem cmp_neK {tb : Value} {Q : Value → Shared → Prop} (hu : A.units < cLine) (hu1 : A.in1.units < cLine) (X : K.In s.heap) (I : PySem.W.InstAt s.heap x ox C od) (hb : PySem.W.Looks (model prog w) s.heap (typeOf b) tb) (hn : PySem.W.notFirst K C tb = true)
    (hne : PySem.W.findIn K (.ref C) "__ne__" = some (some (.builtin "object.__ne__"))) (e : PySem.W.subIn K (.ref C) (.type "object") = some true) (hs : PySem.W.findIn K (.ref C) "__eq__" = some (some (.ref f))) (hf : PySem.W.isFn K (.ref f) = true)
    (h : wpAny (model prog w) A.in1 (call (.ref f) [.ref x, b]) (fun v s' => v = .bool true ∧ Q (.bool false) s') E s) : wpAny (model prog w) A (richCompare .NotEq (.ref x) b) Q E s := by
  have one : wpAny (model prog w) A (tryCompare (.ref x) (cmpInfo .NotEq).2.1 b) (fun r s' => ∃ v, r = some v ∧ Q v s') E s := by
    unfold tryCompare
    refine wpAny_bind (ifBound_KB (name := "__ne__") X I hne (fun z => F.cmp_object.ne.bind z) (call_ne (Q := fun v s' => v = .bool false ∧ Q (.bool false) s') X I hu1 e hs hf (wpAny_mono h (fun v s' z => ⟨z.1, rfl, z.2⟩) fun _ _ e => e) |> fun g => wpAny_mono g (fun v s' z => ?_) fun _ _ e => e))
    obtain ⟨rfl, q⟩ := z
    exact wpAny_pure ⟨_, rfl, q⟩
  unfold richCompare
  simp only [oneThing_ref]
  refine wpAny_holding (wpAny_bind (wpAny_cRoomFor hu ?_))
  refine wpAny_bind (I.type.here (wpAny_bind (hb.here ?_)))
  split
  · rename_i q
    have e : PySem.W.subIn K tb (.ref C) = some false := by
      rcases Bool.or_eq_true_iff.mp hn with e | e
      · rw [beq_iff_eq.mp e] at q; simp at q
      · exact beq_iff_eq.mp e
    refine wpAny_bind ((PySem.W.looks_subIn X e).here ?_)
    simp only [Bool.false_eq_true, if_false]
    refine wpAny_bind (wpAny_mono one (fun r s' z => ?_) fun _ _ e => e)
    obtain ⟨v, rfl, hq⟩ := z
    exact wpAny_pure hq
  · refine wpAny_bind (wpAny_pure ?_)
    simp only [Bool.false_eq_true, if_false]
    refine wpAny_bind (wpAny_mono one (fun r s' z => ?_) fun _ _ e => e)
    obtain ⟨v, rfl, hq⟩ := z
    exact wpAny_pure hq
end
section
variable {X : Cx} {n : Nat}
/-- != comes out False for what D says, and only makes objects -/
def RnG (X : Cx) (n : Nat) (D : Eqv) : Prop :=
  ∀ (A : Around) (pins : List (Addr × Obj)) (s : Shared) (σ : L2.St) (H : Hp) (x y : V) (u v : Value), Sub X n A → Inv X pins σ H s → RelV x u → RelV y v → D x y H →
    wpAny (model X.prog X.w) A (richCompare .NotEq u v) (fun r s' => r = .bool false ∧ ∃ H', Inv X pins σ H' s' ∧ Ext H H') X.xe s
theorem rnG_ins {CX : CXT} {C f : Addr} {fd : FuncData} {ps : List Str} {R : Addr → Addr → Hp → Prop} {E : XK} (F : FnOk X.prog X.w X.K X.mg X.base CX n f fd ps (spEq R))
    (hne : PySem.W.findIn X.K (.ref C) "__ne__" = some (some (.builtin "object.__ne__"))) (hob : PySem.W.subIn X.K (.ref C) (.type "object") = some true) (hs : PySem.W.findIn X.K (.ref C) "__eq__" = some (some (.ref f))) (hf : PySem.W.isFn X.K (.ref f) = true) (hb : Binds X.K fd ps []) (hx : Passes CX X E) : RnG X (n + 1) (DIns C R) := by
  intro A pins s σ H x y u v sb I rx ry d
  obtain ⟨a, b, dx, dy, fs, gs, rfl, rfl, ha, hb', hr⟩ := d
  cases rx
  cases ry
  obtain ⟨mA, J, _⟩ := ins_get I.hok ha
  obtain ⟨mB, J', _⟩ := ins_get I.hok hb'
  obtain ⟨od, J, _⟩ := J.look
  obtain ⟨od', J', _⟩ := J'.look
  have sb1 := sb.in1
  refine cmp_neK (tb := .ref C) sb.room.units0 sb1.room.units0 I.kIn J J'.type (by simp [PySem.W.notFirst]) hne hob hs hf ?_
  have hsp : spEq R [.ref a, .ref b] H (fun v H' => v = .bl true ∧ Ext H H') E := ⟨a, b, rfl, hr, fun H' e => ⟨rfl, e⟩⟩
  have e0 : Env0 X.prog X.w X.K X.mg X.base A.in1 X.stack s H := by
    have e := I.env0
    exact ⟨by rw [sb1.fr]; exact e.frames, e.mod, e.bs, e.bsz, e.funs, e.frf, e.hok, e.bare⟩
  have hl := F.len _ _ _ _ hsp
  have r2 : Vals [V.ref a, V.ref b] [Value.ref a, Value.ref b] := .cons rfl (.cons rfl .nil)
  refine wpAny_call (codeAny_mono (F.run A.in1 X.stack s H ⟨[.ref a, .ref b], []⟩ [.ref a, .ref b] [.ref a, .ref b] _ E sb1.room e0 (by
    have := hb s [.ref a, .ref b] I.kIn (by simpa using hl)
    simpa using this) r2 hsp) fun r s' hq => ?_)
  cases r with
  | error e => exact hx pins σ H s e s' I hq
  | ok fl =>
    cases fl with
    | ret w =>
      obtain ⟨z, H', I', rz, ez, ex⟩ := I.after hq
      subst ez
      cases rz
      exact ⟨rfl, rfl, H', I', ex⟩
    | next => exact False.elim hq
    | brk => exact False.elim hq
    | cont => exact False.elim hq
def rNeG (D : Eqv) : R2 := fun x y H Q => D x y H ∧ ∀ H', Ext H H' → Q (.bl false) H'
theorem op_neG {D : Eqv} (h : RnG X n D) (hr : Room n X.A) : OpR X (compareOp .NotEq) (rNeG D) := by
  intro pins s σ H x y v u Q I rx ry hq
  obtain ⟨d, q⟩ := hq
  show wpAny (model X.prog X.w) X.A (richCompare .NotEq v u) (EP X pins σ Q) X.xe s
  refine wpAny_mono (h X.A pins s σ H x y v u ⟨hr, rfl⟩ I rx ry d) (fun r s' z => ?_) fun _ _ x => x
  obtain ⟨hr', H', I', e⟩ := z
  subst hr'
  exact ⟨.bl false, H', I', rfl, q H' e⟩
/-- a class with its own ==, whose != is the object's -/
structure CalEq (P : Program) (w : World) (K : PySem.W.Frag) (mg : Str → Option Value) (base : Heap) (k : Nat) (C : Addr) (R : Addr → Addr → Hp → Prop) : Prop where
  ex : ∃ (f : Addr) (fd : FuncData) (ps : List Str), FnOk P w K mg base CX0 k f fd ps (spEq R) ∧ PySem.W.findIn K (.ref C) "__eq__" = some (some (.ref f)) ∧ PySem.W.isFn K (.ref f) = true ∧ Binds K fd ps []
  ne : PySem.W.findIn K (.ref C) "__ne__" = some (some (.builtin "object.__ne__"))
  ob : PySem.W.subIn K (.ref C) (.type "object") = some true
theorem op_ownEq {k j : Nat} {C : Addr} {R : Addr → Addr → Hp → Prop} (c : CalEq X.prog X.w X.K X.mg X.base k C R) (hr : Room j X.A) (hk : k ≤ j) : OpR X (compareOp .Eq) (rEqG (DIns C R)) := by
  obtain ⟨f, fd, ps, h1, h2, h3, h4⟩ := c.ex
  exact op_eqG (rcG_ins (E := E0) h1 h2 h3 h4 pass0) (hr.mono hk)
theorem op_ownNe {k j : Nat} {C : Addr} {R : Addr → Addr → Hp → Prop} (c : CalEq X.prog X.w X.K X.mg X.base k C R) (hr : Room j X.A) (hk : k + 1 ≤ j) : OpR X (compareOp .NotEq) (rNeG (DIns C R)) := by
  obtain ⟨f, fd, ps, h1, h2, h3, h4⟩ := c.ex
  exact op_neG (rnG_ins (E := E0) h1 c.ne c.ob h2 h3 h4 pass0) (hr.mono hk)
/-- a refusing def with defaults, called without values -/
theorem pe_calXD0 {k j : Nat} {sp : Sp} {x : Str} {p pos : Pos} {dvs : List V} {E : XK} (c : CalXD X.prog X.w X.K X.mg X.base k x sp dvs) (hr : Room j X.A) (hk : k ≤ j) (hg : Gl X x) (tk : Takes X (fun cls d _ H => E cls d H)) (hdb : (x == ("__debug__" : Str)) = false := by decide) :
    PE X (.Call (.Name x p) [] [] pos) (tCall sp dvs E tNil) := by
  obtain ⟨f, fd, ps, ds, h1, h2, h3, h4, h5⟩ := c.ex
  exact pe_call0 h3 (hr.mono hk) hg h1 h2 h4 h5 (passes_call tk fun _ _ _ _ h => h) hdb
end
end Bk

open PySem PySem.Spec PyProof.Rows L2 Bk
local macro_rules | `(tactic| walk_at "go1") => `(tactic| with_reducible first
  | refine Bk.Stp.h ?_
  | (apply r_var; focus (with_unfolding_all rfl))
  | (refine r_eq ?_ ?_; focus (with_unfolding_all (first | rfl | decide))) | (refine r_ne ?_ ?_; focus (with_unfolding_all (first | rfl | decide))))
local macro_rules | `(tactic| walk_at "go") => `(tactic| repeat (first | with_reducible refine Bk.Stp.h ?_ | walk_at "go1"))
namespace K15
open PySem PySem.Spec PyProof.Rows L2 Bk Rm Cm


def topS (i : Nat) : Stmt := PySem.Challenge.pw_guestsalone_k15_whole_runs_cut_in_two.main.body.getD i (.Pass ⟨0, 0, 0, 0⟩)
abbrev s_wall : Stmt := topS 0
abbrev s_GuestError_init : Stmt := inClass (topS 2) 0
abbrev s_Barred_init : Stmt := inClass (topS 3) 0
abbrev s_NoNumber_init : Stmt := inClass (topS 4) 0
abbrev s_NoWord_init : Stmt := inClass (topS 5) 0
abbrev s_Nought_init : Stmt := inClass (topS 6) 0
abbrev s_NoImage_init : Stmt := inClass (topS 7) 0
abbrev s_NoKind_init : Stmt := inClass (topS 8) 0
abbrev s_NoLog_init : Stmt := inClass (topS 9) 0
abbrev s_Ended_init : Stmt := inClass (topS 10) 0
abbrev s_is_count : Stmt := topS 13
abbrev s_is_whole : Stmt := topS 14
abbrev s_is_word : Stmt := topS 15
abbrev s_check_number : Stmt := topS 17
abbrev s_check_word : Stmt := topS 18
abbrev s_parts_of : Stmt := topS 21
abbrev s_entry_parts : Stmt := topS 22
abbrev s_sum_of : Stmt := topS 23
abbrev s_difference : Stmt := topS 24
abbrev s_divided : Stmt := topS 25
abbrev s_check_words : Stmt := topS 26
abbrev s_Disk_init : Stmt := inClass (topS 29) 0
abbrev s_Disk_ask : Stmt := inClass (topS 29) 1
abbrev s_Disk_serve : Stmt := inClass (topS 29) 2
abbrev s_Disk_do : Stmt := inClass (topS 29) 3
abbrev s_Disk_blocks : Stmt := inClass (topS 29) 4
abbrev s_Disk_asks : Stmt := inClass (topS 29) 5
abbrev s_Disk_asks_made : Stmt := inClass (topS 29) 6
abbrev s_Disk_asks_done : Stmt := inClass (topS 29) 7
abbrev s_disk_of : Stmt := topS 30
abbrev s_is_eight : Stmt := topS 34
abbrev s_is_image : Stmt := topS 35
abbrev s_image_of : Stmt := topS 36
abbrev s_is_row : Stmt := topS 37
abbrev s_is_told : Stmt := topS 38
abbrev s_is_short : Stmt := topS 39
abbrev s_filled : Stmt := topS 40
abbrev s_is_kind : Stmt := topS 51
abbrev s_may_arrive : Stmt := topS 52
abbrev s_way : Stmt := topS 53
abbrev s_loaded : Stmt := topS 54
abbrev s_saved : Stmt := topS 55
abbrev s_halt : Stmt := topS 56
abbrev s_set : Stmt := topS 57
abbrev s_load : Stmt := topS 58
abbrev s_save : Stmt := topS 59
abbrev s_from : Stmt := topS 60
abbrev s_into : Stmt := topS 61
abbrev s_add : Stmt := topS 62
abbrev s_sub : Stmt := topS 63
abbrev s_part : Stmt := topS 64
abbrev s_jump : Stmt := topS 65
abbrev s_base : Stmt := topS 66
abbrev s_trap : Stmt := topS 67
abbrev s_clock : Stmt := topS 68
abbrev s_out : Stmt := topS 69
abbrev s_in : Stmt := topS 70
abbrev s_Core_init : Stmt := inClass (topS 72) 0
abbrev s_Core_step : Stmt := inClass (topS 72) 1
abbrev s_Core_act : Stmt := inClass (topS 72) 2
abbrev s_Core_wait : Stmt := inClass (topS 72) 3
abbrev s_Core_trap_by : Stmt := inClass (topS 72) 4
abbrev s_Core_arrive : Stmt := inClass (topS 72) 5
abbrev s_Core_registers : Stmt := inClass (topS 72) 6
abbrev s_Core_counter : Stmt := inClass (topS 72) 7
abbrev s_Core_table : Stmt := inClass (topS 72) 8
abbrev s_Core_time : Stmt := inClass (topS 72) 9
abbrev s_Core_handler : Stmt := inClass (topS 72) 10
abbrev s_Core_back_to : Stmt := inClass (topS 72) 11
abbrev s_Core_cause : Stmt := inClass (topS 72) 12
abbrev s_Core_is_trapped : Stmt := inClass (topS 72) 13
abbrev s_Core_state : Stmt := inClass (topS 72) 14
abbrev s_Core_queue : Stmt := inClass (topS 72) 15
abbrev s_Core_told : Stmt := inClass (topS 72) 16
abbrev s_Core_sent : Stmt := inClass (topS 72) 17
abbrev s_Core_blocks : Stmt := inClass (topS 72) 18
abbrev s_Core_asks : Stmt := inClass (topS 72) 19
abbrev s_Core_due : Stmt := inClass (topS 72) 20
abbrev s_Core_asks_made : Stmt := inClass (topS 72) 21
abbrev s_Core_asks_done : Stmt := inClass (topS 72) 22
abbrev s_Core_stands : Stmt := inClass (topS 72) 23
abbrev s_Core_twin : Stmt := inClass (topS 72) 24
abbrev s_Core_eq : Stmt := inClass (topS 72) 25
abbrev s_core_of : Stmt := topS 73
abbrev s_PlainStore_init : Stmt := inClass (topS 77) 0
abbrev s_PlainStore_read_cell : Stmt := inClass (topS 77) 1
abbrev s_PlainStore_write_cell : Stmt := inClass (topS 77) 2
abbrev s_PlainStore_room : Stmt := inClass (topS 77) 3
abbrev s_PlainStore_rooms : Stmt := inClass (topS 77) 4
abbrev s_PlainStore_twin : Stmt := inClass (topS 77) 5
abbrev s_PlainMachine_init : Stmt := inClass (topS 78) 0
abbrev s_PlainMachine_step : Stmt := inClass (topS 78) 1
abbrev s_PlainMachine_arrive : Stmt := inClass (topS 78) 2
abbrev s_PlainMachine_core : Stmt := inClass (topS 78) 3
abbrev s_PlainMachine_store : Stmt := inClass (topS 78) 4
abbrev s_PlainMachine_time : Stmt := inClass (topS 78) 5
abbrev s_PlainMachine_state : Stmt := inClass (topS 78) 6
abbrev s_PlainMachine_log : Stmt := inClass (topS 78) 7
abbrev s_PlainMachine_trail : Stmt := inClass (topS 78) 8
abbrev s_PlainMachine_twin : Stmt := inClass (topS 78) 9
abbrev s_is_log : Stmt := topS 79
abbrev s_run_alone : Stmt := topS 80
abbrev s_machine_of : Stmt := topS 81
abbrev s_check_end : Stmt := topS 82
abbrev s_run_by : Stmt := topS 83
abbrev s_arrived : Stmt := topS 84
abbrev s_is_arrival : Stmt := topS 85
abbrev s_cell_L : Stmt := topS 87
abbrev s_box_L : Stmt := topS 88
abbrev s_take_L : Stmt := topS 89
abbrev s_order_L : Stmt := topS 90
abbrev s_image_L : Stmt := topS 91
abbrev s_goes_on_L : Stmt := topS 92
abbrev s_law : Stmt := topS 93
theorem sc_GuestError_init : FnScope ["self", "text"] ["self", "text"] (defScope s_GuestError_init) := ⟨rfl, rfl, rfl, by decide +kernel, rfl, by decide +kernel, by decide +kernel⟩
theorem sc_Barred_init : FnScope ["self", "text"] ["self", "text"] (defScope s_Barred_init) := ⟨rfl, rfl, rfl, by decide +kernel, rfl, by decide +kernel, by decide +kernel⟩
theorem sc_NoNumber_init : FnScope ["self", "found"] ["self", "found"] (defScope s_NoNumber_init) := ⟨rfl, rfl, rfl, by decide +kernel, rfl, by decide +kernel, by decide +kernel⟩
theorem sc_NoWord_init : FnScope ["self", "found"] ["self", "found"] (defScope s_NoWord_init) := ⟨rfl, rfl, rfl, by decide +kernel, rfl, by decide +kernel, by decide +kernel⟩
theorem sc_Nought_init : FnScope ["self", "found"] ["self", "found"] (defScope s_Nought_init) := ⟨rfl, rfl, rfl, by decide +kernel, rfl, by decide +kernel, by decide +kernel⟩
theorem sc_NoImage_init : FnScope ["self", "found"] ["self", "found"] (defScope s_NoImage_init) := ⟨rfl, rfl, rfl, by decide +kernel, rfl, by decide +kernel, by decide +kernel⟩
theorem sc_NoKind_init : FnScope ["self", "found"] ["self", "found"] (defScope s_NoKind_init) := ⟨rfl, rfl, rfl, by decide +kernel, rfl, by decide +kernel, by decide +kernel⟩
theorem sc_NoLog_init : FnScope ["self", "found"] ["self", "found"] (defScope s_NoLog_init) := ⟨rfl, rfl, rfl, by decide +kernel, rfl, by decide +kernel, by decide +kernel⟩
theorem sc_Ended_init : FnScope ["self", "found"] ["self", "found"] (defScope s_Ended_init) := ⟨rfl, rfl, rfl, by decide +kernel, rfl, by decide +kernel, by decide +kernel⟩
theorem sc_is_count : FnScope ["thing"] ["thing"] (defScope s_is_count) := ⟨rfl, rfl, rfl, by decide +kernel, rfl, by decide +kernel, by decide +kernel⟩
theorem sc_is_whole : FnScope ["thing", "low", "high"] ["thing", "low", "high"] (defScope s_is_whole) := ⟨rfl, rfl, rfl, by decide +kernel, rfl, by decide +kernel, by decide +kernel⟩
theorem sc_is_word : FnScope ["thing"] ["thing"] (defScope s_is_word) := ⟨rfl, rfl, rfl, by decide +kernel, rfl, by decide +kernel, by decide +kernel⟩
theorem sc_check_number : FnScope ["thing", "low", "high"] ["thing", "low", "high"] (defScope s_check_number) := ⟨rfl, rfl, rfl, by decide +kernel, rfl, by decide +kernel, by decide +kernel⟩
theorem sc_check_word : FnScope ["thing"] ["thing"] (defScope s_check_word) := ⟨rfl, rfl, rfl, by decide +kernel, rfl, by decide +kernel, by decide +kernel⟩
theorem sc_parts_of : FnScope ["word"] ["word"] (defScope s_parts_of) := ⟨rfl, rfl, rfl, by decide +kernel, rfl, by decide +kernel, by decide +kernel⟩
theorem sc_entry_parts : FnScope ["word"] ["word"] (defScope s_entry_parts) := ⟨rfl, rfl, rfl, by decide +kernel, rfl, by decide +kernel, by decide +kernel⟩
theorem sc_sum_of : FnScope ["one", "other"] ["one", "other"] (defScope s_sum_of) := ⟨rfl, rfl, rfl, by decide +kernel, rfl, by decide +kernel, by decide +kernel⟩
theorem sc_difference : FnScope ["one", "other"] ["one", "other"] (defScope s_difference) := ⟨rfl, rfl, rfl, by decide +kernel, rfl, by decide +kernel, by decide +kernel⟩
theorem sc_divided : FnScope ["one", "other"] ["one", "other"] (defScope s_divided) := ⟨rfl, rfl, rfl, by decide +kernel, rfl, by decide +kernel, by decide +kernel⟩
theorem sc_check_words : FnScope ["one", "other"] ["one", "other"] (defScope s_check_words) := ⟨rfl, rfl, rfl, by decide +kernel, rfl, by decide +kernel, by decide +kernel⟩
theorem sc_Disk_init : FnScope ["self", "blocks", "block"] ["self", "blocks"] (defScope s_Disk_init) := ⟨rfl, rfl, rfl, by decide +kernel, rfl, by decide +kernel, by decide +kernel⟩
theorem sc_Disk_ask : FnScope ["self", "kind", "block", "room", "due", "number"] ["self", "kind", "block", "room", "due"] (defScope s_Disk_ask) := ⟨rfl, rfl, rfl, by decide +kernel, rfl, by decide +kernel, by decide +kernel⟩
theorem sc_Disk_serve : FnScope ["self", "time", "store", "ask", "ready"] ["self", "time", "store"] (defScope s_Disk_serve) := ⟨rfl, rfl, rfl, by decide +kernel, rfl, by decide +kernel, by decide +kernel⟩
theorem sc_Disk_do : FnScope ["self", "kind", "block", "room", "store", "cell", "word"] ["self", "kind", "block", "room", "store"] (defScope s_Disk_do) := ⟨rfl, rfl, rfl, by decide +kernel, rfl, by decide +kernel, by decide +kernel⟩
theorem sc_Disk_blocks : FnScope ["self", "block"] ["self"] (defScope s_Disk_blocks) := ⟨rfl, rfl, rfl, by decide +kernel, rfl, by decide +kernel, by decide +kernel⟩
theorem sc_Disk_asks : FnScope ["self"] ["self"] (defScope s_Disk_asks) := ⟨rfl, rfl, rfl, by decide +kernel, rfl, by decide +kernel, by decide +kernel⟩
theorem sc_Disk_asks_made : FnScope ["self"] ["self"] (defScope s_Disk_asks_made) := ⟨rfl, rfl, rfl, by decide +kernel, rfl, by decide +kernel, by decide +kernel⟩
theorem sc_Disk_asks_done : FnScope ["self"] ["self"] (defScope s_Disk_asks_done) := ⟨rfl, rfl, rfl, by decide +kernel, rfl, by decide +kernel, by decide +kernel⟩
theorem sc_disk_of : FnScope ["blocks", "asks", "made", "done", "disk", "ask"] ["blocks", "asks", "made", "done"] (defScope s_disk_of) := ⟨rfl, rfl, rfl, by decide +kernel, rfl, by decide +kernel, by decide +kernel⟩
theorem sc_is_eight : FnScope ["thing", "row"] ["thing"] (defScope s_is_eight) := ⟨rfl, rfl, rfl, by decide +kernel, rfl, by decide +kernel, by decide +kernel⟩
theorem sc_is_image : FnScope ["thing"] ["thing"] (defScope s_is_image) := ⟨rfl, rfl, rfl, by decide +kernel, rfl, by decide +kernel, by decide +kernel⟩
theorem sc_image_of : FnScope ["rooms", "blocks", "told"] ["rooms", "blocks"] (defScope s_image_of) := ⟨rfl, rfl, rfl, by decide +kernel, rfl, by decide +kernel, by decide +kernel⟩
theorem sc_is_row : FnScope ["thing", "word"] ["thing"] (defScope s_is_row) := ⟨rfl, rfl, rfl, by decide +kernel, rfl, by decide +kernel, by decide +kernel⟩
theorem sc_is_told : FnScope ["thing", "number", "words"] ["thing"] (defScope s_is_told) := ⟨rfl, rfl, rfl, by decide +kernel, rfl, by decide +kernel, by decide +kernel⟩
theorem sc_filled : FnScope ["told", "rows", "number", "words"] ["told"] (defScope s_filled) := ⟨rfl, rfl, rfl, by decide +kernel, rfl, by decide +kernel, by decide +kernel⟩
theorem sc_is_kind : FnScope ["thing"] ["thing"] (defScope s_is_kind) := ⟨rfl, rfl, rfl, by decide +kernel, rfl, by decide +kernel, by decide +kernel⟩
theorem sc_may_arrive : FnScope ["kind", "word"] ["kind", "word"] (defScope s_may_arrive) := ⟨rfl, rfl, rfl, by decide +kernel, rfl, by decide +kernel, by decide +kernel⟩
theorem sc_way : FnScope ["core", "store", "place", "write", "leads", "room", "may_write"] ["core", "store", "place", "write"] (defScope s_way) := ⟨rfl, rfl, rfl, by decide +kernel, rfl, by decide +kernel, by decide +kernel⟩
theorem sc_loaded : FnScope ["core", "store", "which", "place", "room", "cause"] ["core", "store", "which", "place"] (defScope s_loaded) := ⟨rfl, rfl, rfl, by decide +kernel, rfl, by decide +kernel, by decide +kernel⟩
theorem sc_saved : FnScope ["core", "store", "which", "place", "room", "cause"] ["core", "store", "which", "place"] (defScope s_saved) := ⟨rfl, rfl, rfl, by decide +kernel, rfl, by decide +kernel, by decide +kernel⟩
theorem sc_halt : FnScope ["core", "store", "which", "rest"] ["core", "store", "which", "rest"] (defScope s_halt) := ⟨rfl, rfl, rfl, by decide +kernel, rfl, by decide +kernel, by decide +kernel⟩
theorem sc_set : FnScope ["core", "store", "which", "rest"] ["core", "store", "which", "rest"] (defScope s_set) := ⟨rfl, rfl, rfl, by decide +kernel, rfl, by decide +kernel, by decide +kernel⟩
theorem sc_load : FnScope ["core", "store", "which", "rest"] ["core", "store", "which", "rest"] (defScope s_load) := ⟨rfl, rfl, rfl, by decide +kernel, rfl, by decide +kernel, by decide +kernel⟩
theorem sc_save : FnScope ["core", "store", "which", "rest"] ["core", "store", "which", "rest"] (defScope s_save) := ⟨rfl, rfl, rfl, by decide +kernel, rfl, by decide +kernel, by decide +kernel⟩
theorem sc_from : FnScope ["core", "store", "which", "rest"] ["core", "store", "which", "rest"] (defScope s_from) := ⟨rfl, rfl, rfl, by decide +kernel, rfl, by decide +kernel, by decide +kernel⟩
theorem sc_into : FnScope ["core", "store", "which", "rest"] ["core", "store", "which", "rest"] (defScope s_into) := ⟨rfl, rfl, rfl, by decide +kernel, rfl, by decide +kernel, by decide +kernel⟩
theorem sc_add : FnScope ["core", "store", "which", "rest"] ["core", "store", "which", "rest"] (defScope s_add) := ⟨rfl, rfl, rfl, by decide +kernel, rfl, by decide +kernel, by decide +kernel⟩
theorem sc_sub : FnScope ["core", "store", "which", "rest"] ["core", "store", "which", "rest"] (defScope s_sub) := ⟨rfl, rfl, rfl, by decide +kernel, rfl, by decide +kernel, by decide +kernel⟩
theorem sc_part : FnScope ["core", "store", "which", "rest", "other", "quotient", "left"] ["core", "store", "which", "rest"] (defScope s_part) := ⟨rfl, rfl, rfl, by decide +kernel, rfl, by decide +kernel, by decide +kernel⟩
theorem sc_jump : FnScope ["core", "store", "which", "rest", "first", "taken"] ["core", "store", "which", "rest"] (defScope s_jump) := ⟨rfl, rfl, rfl, by decide +kernel, rfl, by decide +kernel, by decide +kernel⟩
theorem sc_base : FnScope ["core", "store", "which", "rest"] ["core", "store", "which", "rest"] (defScope s_base) := ⟨rfl, rfl, rfl, by decide +kernel, rfl, by decide +kernel, by decide +kernel⟩
theorem sc_trap : FnScope ["core", "store", "which", "rest"] ["core", "store", "which", "rest"] (defScope s_trap) := ⟨rfl, rfl, rfl, by decide +kernel, rfl, by decide +kernel, by decide +kernel⟩
theorem sc_clock : FnScope ["core", "store", "which", "rest", "time"] ["core", "store", "which", "rest"] (defScope s_clock) := ⟨rfl, rfl, rfl, by decide +kernel, rfl, by decide +kernel, by decide +kernel⟩
theorem sc_out : FnScope ["core", "store", "which", "rest", "word", "other", "way", "kind"] ["core", "store", "which", "rest"] (defScope s_out) := ⟨rfl, rfl, rfl, by decide +kernel, rfl, by decide +kernel, by decide +kernel⟩
theorem sc_in : FnScope ["core", "store", "which", "rest", "way", "queue", "word"] ["core", "store", "which", "rest"] (defScope s_in) := ⟨rfl, rfl, rfl, by decide +kernel, rfl, by decide +kernel, by decide +kernel⟩
theorem sc_Core_init : FnScope ["self", "blocks"] ["self", "blocks"] (defScope s_Core_init) := ⟨rfl, rfl, rfl, by decide +kernel, rfl, by decide +kernel, by decide +kernel⟩
theorem sc_Core_step : FnScope ["self", "store", "time", "place", "served", "kind", "thing"] ["self", "store"] (defScope s_Core_step) := ⟨rfl, rfl, rfl, by decide +kernel, rfl, by decide +kernel, by decide +kernel⟩
theorem sc_Core_act : FnScope ["self", "store", "served", "room", "cause", "op", "which", "rest", "action"] ["self", "store", "served"] (defScope s_Core_act) := ⟨rfl, rfl, rfl, by decide +kernel, rfl, by decide +kernel, by decide +kernel⟩
theorem sc_Core_wait : FnScope ["self", "served", "asks"] ["self", "served"] (defScope s_Core_wait) := ⟨rfl, rfl, rfl, by decide +kernel, rfl, by decide +kernel, by decide +kernel⟩
theorem sc_Core_trap_by : FnScope ["self", "cause"] ["self", "cause"] (defScope s_Core_trap_by) := ⟨rfl, rfl, rfl, by decide +kernel, rfl, by decide +kernel, by decide +kernel⟩
theorem sc_Core_arrive : FnScope ["self", "kind", "word"] ["self", "kind", "word"] (defScope s_Core_arrive) := ⟨rfl, rfl, rfl, by decide +kernel, rfl, by decide +kernel, by decide +kernel⟩
theorem sc_Core_counter : FnScope ["self"] ["self"] (defScope s_Core_counter) := ⟨rfl, rfl, rfl, by decide +kernel, rfl, by decide +kernel, by decide +kernel⟩
theorem sc_Core_time : FnScope ["self"] ["self"] (defScope s_Core_time) := ⟨rfl, rfl, rfl, by decide +kernel, rfl, by decide +kernel, by decide +kernel⟩
theorem sc_Core_cause : FnScope ["self"] ["self"] (defScope s_Core_cause) := ⟨rfl, rfl, rfl, by decide +kernel, rfl, by decide +kernel, by decide +kernel⟩
theorem sc_Core_state : FnScope ["self"] ["self"] (defScope s_Core_state) := ⟨rfl, rfl, rfl, by decide +kernel, rfl, by decide +kernel, by decide +kernel⟩
theorem sc_Core_queue : FnScope ["self", "kind"] ["self", "kind"] (defScope s_Core_queue) := ⟨rfl, rfl, rfl, by decide +kernel, rfl, by decide +kernel, by decide +kernel⟩
theorem sc_Core_told : FnScope ["self"] ["self"] (defScope s_Core_told) := ⟨rfl, rfl, rfl, by decide +kernel, rfl, by decide +kernel, by decide +kernel⟩
theorem sc_Core_sent : FnScope ["self"] ["self"] (defScope s_Core_sent) := ⟨rfl, rfl, rfl, by decide +kernel, rfl, by decide +kernel, by decide +kernel⟩
theorem sc_Core_blocks : FnScope ["self"] ["self"] (defScope s_Core_blocks) := ⟨rfl, rfl, rfl, by decide +kernel, rfl, by decide +kernel, by decide +kernel⟩
theorem sc_Core_asks : FnScope ["self"] ["self"] (defScope s_Core_asks) := ⟨rfl, rfl, rfl, by decide +kernel, rfl, by decide +kernel, by decide +kernel⟩
theorem sc_Core_due : FnScope ["self", "ask"] ["self"] (defScope s_Core_due) := ⟨rfl, rfl, rfl, by decide +kernel, rfl, by decide +kernel, by decide +kernel⟩
theorem sc_Core_asks_made : FnScope ["self"] ["self"] (defScope s_Core_asks_made) := ⟨rfl, rfl, rfl, by decide +kernel, rfl, by decide +kernel, by decide +kernel⟩
theorem sc_Core_asks_done : FnScope ["self"] ["self"] (defScope s_Core_asks_done) := ⟨rfl, rfl, rfl, by decide +kernel, rfl, by decide +kernel, by decide +kernel⟩
theorem sc_Core_stands : FnScope ["self", "block"] ["self"] (defScope s_Core_stands) := ⟨rfl, rfl, rfl, by decide +kernel, rfl, by decide +kernel, by decide +kernel⟩
theorem sc_Core_twin : FnScope ["self"] ["self"] (defScope s_Core_twin) := ⟨rfl, rfl, rfl, by decide +kernel, rfl, by decide +kernel, by decide +kernel⟩
theorem sc_Core_eq : FnScope ["self", "other"] ["self", "other"] (defScope s_Core_eq) := ⟨rfl, rfl, rfl, by decide +kernel, rfl, by decide +kernel, by decide +kernel⟩
theorem sc_core_of : FnScope ["stands", "told", "sent", "core", "pair"] ["stands", "told", "sent"] (defScope s_core_of) := ⟨rfl, rfl, rfl, by decide +kernel, rfl, by decide +kernel, by decide +kernel⟩
theorem sc_PlainStore_init : FnScope ["self", "rooms", "words"] ["self", "rooms"] (defScope s_PlainStore_init) := ⟨rfl, rfl, rfl, by decide +kernel, rfl, by decide +kernel, by decide +kernel⟩
theorem sc_PlainStore_read_cell : FnScope ["self", "room", "cell"] ["self", "room", "cell"] (defScope s_PlainStore_read_cell) := ⟨rfl, rfl, rfl, by decide +kernel, rfl, by decide +kernel, by decide +kernel⟩
theorem sc_PlainStore_write_cell : FnScope ["self", "room", "cell", "word"] ["self", "room", "cell", "word"] (defScope s_PlainStore_write_cell) := ⟨rfl, rfl, rfl, by decide +kernel, rfl, by decide +kernel, by decide +kernel⟩
theorem sc_PlainStore_rooms : FnScope ["self", "words"] ["self"] (defScope s_PlainStore_rooms) := ⟨rfl, rfl, rfl, by decide +kernel, rfl, by decide +kernel, by decide +kernel⟩
theorem sc_PlainStore_twin : FnScope ["self"] ["self"] (defScope s_PlainStore_twin) := ⟨rfl, rfl, rfl, by decide +kernel, rfl, by decide +kernel, by decide +kernel⟩
theorem sc_PlainMachine_init : FnScope ["self", "image", "rooms", "blocks"] ["self", "image"] (defScope s_PlainMachine_init) := ⟨rfl, rfl, rfl, by decide +kernel, rfl, by decide +kernel, by decide +kernel⟩
theorem sc_PlainMachine_step : FnScope ["self", "row"] ["self"] (defScope s_PlainMachine_step) := ⟨rfl, rfl, rfl, by decide +kernel, rfl, by decide +kernel, by decide +kernel⟩
theorem sc_PlainMachine_arrive : FnScope ["self", "kind", "word"] ["self", "kind", "word"] (defScope s_PlainMachine_arrive) := ⟨rfl, rfl, rfl, by decide +kernel, rfl, by decide +kernel, by decide +kernel⟩
theorem sc_PlainMachine_core : FnScope ["self"] ["self"] (defScope s_PlainMachine_core) := ⟨rfl, rfl, rfl, by decide +kernel, rfl, by decide +kernel, by decide +kernel⟩
theorem sc_PlainMachine_store : FnScope ["self"] ["self"] (defScope s_PlainMachine_store) := ⟨rfl, rfl, rfl, by decide +kernel, rfl, by decide +kernel, by decide +kernel⟩
theorem sc_PlainMachine_time : FnScope ["self"] ["self"] (defScope s_PlainMachine_time) := ⟨rfl, rfl, rfl, by decide +kernel, rfl, by decide +kernel, by decide +kernel⟩
theorem sc_PlainMachine_state : FnScope ["self"] ["self"] (defScope s_PlainMachine_state) := ⟨rfl, rfl, rfl, by decide +kernel, rfl, by decide +kernel, by decide +kernel⟩
theorem sc_PlainMachine_log : FnScope ["self"] ["self"] (defScope s_PlainMachine_log) := ⟨rfl, rfl, rfl, by decide +kernel, rfl, by decide +kernel, by decide +kernel⟩
theorem sc_PlainMachine_trail : FnScope ["self"] ["self"] (defScope s_PlainMachine_trail) := ⟨rfl, rfl, rfl, by decide +kernel, rfl, by decide +kernel, by decide +kernel⟩
theorem sc_PlainMachine_twin : FnScope ["self"] ["self"] (defScope s_PlainMachine_twin) := ⟨rfl, rfl, rfl, by decide +kernel, rfl, by decide +kernel, by decide +kernel⟩
theorem sc_is_log : FnScope ["thing", "times", "row"] ["thing"] (defScope s_is_log) := ⟨rfl, rfl, rfl, by decide +kernel, rfl, by decide +kernel, by decide +kernel⟩
theorem sc_run_alone : FnScope ["image", "log", "end", "machine"] ["image", "log", "end"] (defScope s_run_alone) := ⟨rfl, rfl, rfl, by decide +kernel, rfl, by decide +kernel, by decide +kernel⟩
theorem sc_machine_of : FnScope ["core", "rooms", "log", "trail", "machine"] ["core", "rooms", "log", "trail"] (defScope s_machine_of) := ⟨rfl, rfl, rfl, by decide +kernel, rfl, by decide +kernel, by decide +kernel⟩
theorem sc_check_end : FnScope ["thing"] ["thing"] (defScope s_check_end) := ⟨rfl, rfl, rfl, by decide +kernel, rfl, by decide +kernel, by decide +kernel⟩
theorem sc_run_by : FnScope ["machine", "log", "end", "come"] ["machine", "log", "end"] (defScope s_run_by) := ⟨rfl, rfl, rfl, by decide +kernel, rfl, by decide +kernel, by decide +kernel⟩
theorem sc_arrived : FnScope ["machine", "log", "come", "_", "kind", "word"] ["machine", "log", "come"] (defScope s_arrived) := ⟨rfl, rfl, rfl, by decide +kernel, rfl, by decide +kernel, by decide +kernel⟩
theorem sc_is_arrival : FnScope ["thing", "time", "kind", "word"] ["thing"] (defScope s_is_arrival) := ⟨rfl, rfl, rfl, by decide +kernel, rfl, by decide +kernel, by decide +kernel⟩
theorem sc_cell_L : FnScope ["_law_script", "_law_k"] ["_law_script", "_law_k"] (defScope s_cell_L) := ⟨rfl, rfl, rfl, by decide +kernel, rfl, by decide +kernel, by decide +kernel⟩
theorem sc_box_L : FnScope ["_law_cell_here"] ["_law_cell_here"] (defScope s_box_L) := ⟨rfl, rfl, rfl, by decide +kernel, rfl, by decide +kernel, by decide +kernel⟩
theorem sc_take_L : FnScope ["_law_box_here", "_law_many", "_law_digit", "_law_one", "_law_two"] ["_law_box_here", "_law_many"] (defScope s_take_L) := ⟨rfl, rfl, rfl, by decide +kernel, rfl, by decide +kernel, by decide +kernel⟩
theorem sc_order_L : FnScope ["_law_box_here", "_law_op", "_law_slot", "_law_rest"] ["_law_box_here"] (defScope s_order_L) := ⟨rfl, rfl, rfl, by decide +kernel, rfl, by decide +kernel, by decide +kernel⟩
theorem sc_image_L : FnScope ["_law_box_here", "_law_entries", "_law_k", "_law_any_one", "_law_program", "_law_rooms", "_law_way", "_law_row", "_law_blocks", "_law_cell_here"] ["_law_box_here"] (defScope s_image_L) := ⟨rfl, rfl, rfl, by decide +kernel, rfl, by decide +kernel, by decide +kernel⟩
theorem sc_goes_on_L : FnScope ["_law_twin", "_law_machine", "_law_log", "_law_turn"] ["_law_twin", "_law_machine"] (defScope s_goes_on_L) := ⟨rfl, rfl, rfl, by decide +kernel, rfl, by decide +kernel, by decide +kernel⟩
theorem sc_law : FnScope ["_law_script", "_law_image_here", "_law_machine", "_law_twins", "_law_k", "_law_box_here", "_law_turn", "_law_whole", "_law_other", "_law_twin"] ["_law_script"] (defScope s_law) := ⟨rfl, rfl, rfl, by decide +kernel, rfl, by decide +kernel, by decide +kernel⟩
structure Ad where
  CG : Addr
  fG : Addr
  CB : Addr
  fB : Addr
  CM : Addr
  fM : Addr
  CW : Addr
  fW : Addr
  CU : Addr
  fU : Addr
  CI : Addr
  fI : Addr
  CE : Addr
  fE : Addr
  CK : Addr
  fK : Addr
  CL : Addr
  fL : Addr
  c : Cz
  P : Addr
  aO : Addr
  aA : Addr
  aK : Addr
  act : Nat → Addr
def OPSV : List V := ["halt", "set", "load", "save", "from", "into", "add", "sub", "part", "jump", "base", "trap", "time", "out", "in", "wait"].map fun (z : String) => V.str (Str.ofString z)
structure Txt (K : PySem.W.Frag) (mg : Str → Option Value) (A : Ad) : Prop where
  m_isinstance : mg "isinstance" = none
  m_int : mg "int" = none
  m_bool : mg "bool" = none
  m_str : mg "str" = none
  m_list : mg "list" = none
  m_tuple : mg "tuple" = none
  m_len : mg "len" = none
  m_max : mg "max" = none
  m_min : mg "min" = none
  m_range : mg "range" = none
  m_all : mg "all" = none
  m_enumerate : mg "enumerate" = none
  m_repr : mg "repr" = none
  m_ValueError : mg "ValueError" = none
  m_LookupError : mg "LookupError" = none
  c_MOST : ∃ u, mg "MOST" = some u ∧ RelV (.int 4095) u
  c_EIGHT : ∃ u, mg "EIGHT" = some u ∧ RelV (.int 8) u
  c_MOST_ASKS : ∃ u, mg "MOST_ASKS" = some u ∧ RelV (.int 8) u
  c_LATENCY : ∃ u, mg "LATENCY" = some u ∧ RelV (.int 6) u
  c_PLACES : ∃ u, mg "PLACES" = some u ∧ RelV (.int 64) u
  c_WORDS : ∃ u, mg "WORDS" = some u ∧ RelV (.int 4096) u
  c_NOTHING : ∃ u, mg "NOTHING" = some u ∧ RelV (.int 4095) u
  c_LEADS_NOWHERE : ∃ u, mg "LEADS_NOWHERE" = some u ∧ RelV (.int 1) u
  c_MAY_NOT_WRITE : ∃ u, mg "MAY_NOT_WRITE" = some u ∧ RelV (.int 2) u
  c_BY_NOUGHT : ∃ u, mg "BY_NOUGHT" = some u ∧ RelV (.int 3) u
  c_CALLED : ∃ u, mg "CALLED" = some u ∧ RelV (.int 4) u
  c_OPS : ∃ u, mg "OPS" = some u ∧ RelV (.ref A.aO) u
  c_ACTIONS : ∃ u, mg "ACTIONS" = some u ∧ RelV (.ref A.aA) u
  c_KINDS : ∃ u, mg "KINDS" = some u ∧ RelV (.ref A.aK) u
  ops : ∀ H : Hp, SqT K H A.aO OPSV
  acts : ∀ H : Hp, SqT K H A.aA ((List.range 15).map fun i => V.ref (A.act i))
  g_GuestError : mg "GuestError" = some (.ref A.CG)
  rd_GuestError : PySem.W.readsIn K A.CG (.type "type") = true
  ga_GuestError : PySem.W.specialIn K (.ref A.CG) "__getattribute__" = some (some (.builtin "type.__getattribute__"))
  at_GuestError : PySem.W.findCls K (.ref A.CG) (.type "type") "__init__" = some (.val (.ref A.fG))
  g_Barred : mg "Barred" = some (.ref A.CB)
  rd_Barred : PySem.W.readsIn K A.CB (.type "type") = true
  ga_Barred : PySem.W.specialIn K (.ref A.CB) "__getattribute__" = some (some (.builtin "type.__getattribute__"))
  at_Barred : PySem.W.findCls K (.ref A.CB) (.type "type") "__init__" = some (.val (.ref A.fB))
  vV : PySem.W.findCls K (.type "ValueError") (.type "type") "__init__" = some (.val (.builtin "ValueError.__init__"))
  vL : PySem.W.findCls K (.type "LookupError") (.type "type") "__init__" = some (.val (.builtin "LookupError.__init__"))
  g_NoNumber : mg "NoNumber" = some (.ref A.CM)
  xM : ExcA K .ve "found" A.CM A.fM
  g_NoWord : mg "NoWord" = some (.ref A.CW)
  xW : ExcA K .ve "found" A.CW A.fW
  g_Nought : mg "Nought" = some (.ref A.CU)
  xU : ExcA K .ve "found" A.CU A.fU
  g_NoImage : mg "NoImage" = some (.ref A.CI)
  xI : ExcA K .ve "found" A.CI A.fI
  g_Ended : mg "Ended" = some (.ref A.CE)
  xE : ExcA K .le "found" A.CE A.fE
  g_NoKind : mg "NoKind" = some (.ref A.CK)
  xK : ExcA K .ve "found" A.CK A.fK
  g_NoLog : mg "NoLog" = some (.ref A.CL)
  xL : ExcA K .ve "found" A.CL A.fL
  g_Core : mg "Core" = some (.ref A.c.C)
  cl_Core : Cls K A.c.C
  na_Core_registers : NoAttr K A.c.C "_registers"
  na_Core_counter : NoAttr K A.c.C "_counter"
  na_Core_table : NoAttr K A.c.C "_table"
  na_Core_time : NoAttr K A.c.C "_time"
  na_Core_handler : NoAttr K A.c.C "_handler"
  na_Core_back_to : NoAttr K A.c.C "_back_to"
  na_Core_cause : NoAttr K A.c.C "_cause"
  na_Core_trapped : NoAttr K A.c.C "_trapped"
  na_Core_state : NoAttr K A.c.C "_state"
  na_Core_queues : NoAttr K A.c.C "_queues"
  na_Core_told : NoAttr K A.c.C "_told"
  na_Core_sent : NoAttr K A.c.C "_sent"
  na_Core_disk : NoAttr K A.c.C "_disk"
  g_Disk : mg "Disk" = some (.ref A.c.D)
  cl_Disk : Cls K A.c.D
  na_Disk_blocks : NoAttr K A.c.D "_blocks"
  na_Disk_asks : NoAttr K A.c.D "_asks"
  na_Disk_made : NoAttr K A.c.D "_made"
  na_Disk_done : NoAttr K A.c.D "_done"
  g_PlainStore : mg "PlainStore" = some (.ref A.c.S)
  cl_PlainStore : Cls K A.c.S
  na_PlainStore_rooms : NoAttr K A.c.S "_rooms"
  m_sorted : mg "sorted" = none
  c_LONGEST_LOG : ∃ u, mg "LONGEST_LOG" = some u ∧ RelV (.int 2400) u
  c_LAST_END : ∃ u, mg "LAST_END" = some u ∧ RelV (.int 20000) u
  g_PlainMachine : mg "PlainMachine" = some (.ref A.P)
  cl_PlainMachine : Cls K A.P
  na_PlainMachine_core : NoAttr K A.P "_core"
  na_PlainMachine_store : NoAttr K A.P "_store"
  na_PlainMachine_log : NoAttr K A.P "_log"
  na_PlainMachine_trail : NoAttr K A.P "_trail"
section
variable {K : PySem.W.Frag} {mg : Str → Option Value} {A : Ad}
theorem Txt.nf_NoNumber (T : Txt K mg A) : PySem.W.findIn K (.ref A.CM) "found" = some none := T.xM.nf
theorem Txt.ox_NoNumber (T : Txt K mg A) : OexT K .ve A.CM := T.xM.ox
theorem Txt.i_NoNumber (T : Txt K mg A) : PySem.W.findIn K (.ref A.CM) "__init__" = some (some (.ref A.fM)) := T.xM.i
theorem Txt.t_NoNumber (T : Txt K mg A) : PySem.W.typeIn K (.ref A.fM) = some (.type "function") := T.xM.t
theorem Txt.nf_NoWord (T : Txt K mg A) : PySem.W.findIn K (.ref A.CW) "found" = some none := T.xW.nf
theorem Txt.ox_NoWord (T : Txt K mg A) : OexT K .ve A.CW := T.xW.ox
theorem Txt.i_NoWord (T : Txt K mg A) : PySem.W.findIn K (.ref A.CW) "__init__" = some (some (.ref A.fW)) := T.xW.i
theorem Txt.t_NoWord (T : Txt K mg A) : PySem.W.typeIn K (.ref A.fW) = some (.type "function") := T.xW.t
theorem Txt.nf_Nought (T : Txt K mg A) : PySem.W.findIn K (.ref A.CU) "found" = some none := T.xU.nf
theorem Txt.ox_Nought (T : Txt K mg A) : OexT K .ve A.CU := T.xU.ox
theorem Txt.i_Nought (T : Txt K mg A) : PySem.W.findIn K (.ref A.CU) "__init__" = some (some (.ref A.fU)) := T.xU.i
theorem Txt.t_Nought (T : Txt K mg A) : PySem.W.typeIn K (.ref A.fU) = some (.type "function") := T.xU.t
theorem Txt.nf_NoImage (T : Txt K mg A) : PySem.W.findIn K (.ref A.CI) "found" = some none := T.xI.nf
theorem Txt.ox_NoImage (T : Txt K mg A) : OexT K .ve A.CI := T.xI.ox
theorem Txt.i_NoImage (T : Txt K mg A) : PySem.W.findIn K (.ref A.CI) "__init__" = some (some (.ref A.fI)) := T.xI.i
theorem Txt.t_NoImage (T : Txt K mg A) : PySem.W.typeIn K (.ref A.fI) = some (.type "function") := T.xI.t
theorem Txt.nf_Ended (T : Txt K mg A) : PySem.W.findIn K (.ref A.CE) "found" = some none := T.xE.nf
theorem Txt.ox_Ended (T : Txt K mg A) : OexT K .le A.CE := T.xE.ox
theorem Txt.i_Ended (T : Txt K mg A) : PySem.W.findIn K (.ref A.CE) "__init__" = some (some (.ref A.fE)) := T.xE.i
theorem Txt.t_Ended (T : Txt K mg A) : PySem.W.typeIn K (.ref A.fE) = some (.type "function") := T.xE.t
theorem Txt.nf_NoKind (T : Txt K mg A) : PySem.W.findIn K (.ref A.CK) "found" = some none := T.xK.nf
theorem Txt.ox_NoKind (T : Txt K mg A) : OexT K .ve A.CK := T.xK.ox
theorem Txt.i_NoKind (T : Txt K mg A) : PySem.W.findIn K (.ref A.CK) "__init__" = some (some (.ref A.fK)) := T.xK.i
theorem Txt.t_NoKind (T : Txt K mg A) : PySem.W.typeIn K (.ref A.fK) = some (.type "function") := T.xK.t
theorem Txt.nf_NoLog (T : Txt K mg A) : PySem.W.findIn K (.ref A.CL) "found" = some none := T.xL.nf
theorem Txt.ox_NoLog (T : Txt K mg A) : OexT K .ve A.CL := T.xL.ox
theorem Txt.i_NoLog (T : Txt K mg A) : PySem.W.findIn K (.ref A.CL) "__init__" = some (some (.ref A.fL)) := T.xL.i
theorem Txt.t_NoLog (T : Txt K mg A) : PySem.W.typeIn K (.ref A.fL) = some (.type "function") := T.xL.t
end
def spWh : Sp := fun vs H Q _ => ∃ x lo hi : Int, vs = [.int x, .int lo, .int hi] ∧ Q (.bl (decide (lo ≤ x ∧ x ≤ hi))) H
def spCkN : Sp := fun vs H Q _ => ∃ x lo hi : Int, vs = [.int x, .int lo, .int hi] ∧ lo ≤ x ∧ x ≤ hi ∧ Q .non H
def spWord : Sp := fun vs H Q _ => ∃ x : Int, vs = [.int x] ∧ Q (.bl (decide (0 ≤ x ∧ x ≤ 4095))) H
def spCkW : Sp := fun vs H Q _ => ∃ x : Int, vs = [.int x] ∧ 0 ≤ x ∧ x ≤ 4095 ∧ Q .non H
/-- at t: a row of words -/
def RowAt (H : Hp) (t : Addr) (ws : List Nat) : Prop := H t = some (.tup (nv ws))
/-- at a: rows in a tuple -/
def Eight (H : Hp) (a : Addr) (rows : List (List Nat)) : Prop := ∃ ts : List Addr, H a = some (.tup (ts.map V.ref)) ∧ ts.length = rows.length ∧ ∀ (i : Nat) t ws, ts[i]? = some t → rows[i]? = some ws → RowAt H t ws
theorem RowAt.sq {K : PySem.W.Frag} {H : Hp} {t : Addr} {ws : List Nat} (h : RowAt H t ws) : SqT K H t (nv ws) := SqT.of h
theorem RowAt.isT {K : PySem.W.Frag} {H : Hp} {t : Addr} {ws : List Nat} (h : RowAt H t ws) : IsA K H (.ref t) "tuple" true := isa_tup h
theorem RowAt.keep {H H' : Hp} {t : Addr} {ws : List Nat} (h : RowAt H t ws) (s : TS H H') : RowAt H' t ws := s _ _ h
theorem Eight.keep {H H' : Hp} {a : Addr} {rows : List (List Nat)} (h : Eight H a rows) (s : TS H H') : Eight H' a rows := by
  obtain ⟨ts, e, l, r⟩ := h
  exact ⟨ts, s _ _ e, l, fun i t ws a b => (r i t ws a b).keep s⟩
def spRowI : Sp := fun vs H Q _ => ∃ (t : Addr) (ws : List Nat), vs = [.ref t] ∧ RowAt H t ws ∧ ws.length = 8 ∧ (∀ w ∈ ws, w ≤ 4095) ∧ ∀ H', Same H H' → Q (.bl true) H'
def spEight : Sp := fun vs H Q _ => ∃ (a : Addr) (rows : List (List Nat)), vs = [.ref a] ∧ Eight H a rows ∧ Rows8 rows ∧ ∀ H', Same H H' → Q (.bl true) H'
/-! ### words of codes -/
def spParts : Sp := fun vs H Q _ => ∃ w : Nat, vs = [.int (w : Nat)] ∧ w ≤ 4095 ∧ ∀ t H', H t = none → Same H H' → H' t = some (.tup [.int (w / 256 : Nat), .int (w / 64 % 4 : Nat), .int (w % 64 : Nat)]) → Q (.ref t) H'
def spEntry : Sp := fun vs H Q _ => ∃ w : Nat, vs = [.int (w : Nat)] ∧ w ≤ 4095 ∧ (w % 2 = 0 → Q .non H) ∧ (w % 2 ≠ 0 → ∀ t H', H t = none → Same H H' → H' t = some (.tup [.int (w / 4 % 8 : Nat), .bl (decide (w / 2 % 2 = 1))]) → Q (.ref t) H')
def spCkWs : Sp := fun vs H Q _ => ∃ a b : Nat, vs = [.int (a : Nat), .int (b : Nat)] ∧ a ≤ 4095 ∧ b ≤ 4095 ∧ Q .non H
def spSum : Sp := fun vs H Q _ => ∃ a b : Nat, vs = [.int (a : Nat), .int (b : Nat)] ∧ a ≤ 4095 ∧ b ≤ 4095 ∧ Q (.int ((a + b) % 4096 : Nat)) H
def spDiff : Sp := fun vs H Q _ => ∃ a b : Nat, vs = [.int (a : Nat), .int (b : Nat)] ∧ a ≤ 4095 ∧ b ≤ 4095 ∧ Q (.int ((a + 4096 - b) % 4096 : Nat)) H
def spDivd : Sp := fun vs H Q _ => ∃ a b : Nat, vs = [.int (a : Nat), .int (b : Nat)] ∧ a ≤ 4095 ∧ b ≤ 4095 ∧ b ≠ 0 ∧ ∀ t H', H t = none → Same H H' → H' t = some (.tup [.int (a / b : Nat), .int (a % b : Nat)]) → Q (.ref t) H'
/-! ### the store, the disk, the core -/
section
variable (A : Ad)
def spRdC : Sp := fun vs H Q _ => ∃ (k : Cq) (m : M) (r c : Nat), vs = [.ref k.so, .int (r : Nat), .int (c : Nat)] ∧ QAt A.c H k m ∧ r < 8 ∧ c < 8 ∧ ∀ w s H', QMv A.c H k m H' { k with sow := w, sat := s } m → Q (.int (cel m.rs r c : Nat)) H'
def spWrC : Sp := fun vs H Q _ => ∃ (k : Cq) (m : M) (r c x : Nat), vs = [.ref k.so, .int (r : Nat), .int (c : Nat), .int (x : Nat)] ∧ QAt A.c H k m ∧ r < 8 ∧ c < 8 ∧ x ≤ 4095 ∧ ∀ w s H', QMv A.c H k m H' { k with sow := w, sat := s } (m.setc r c x) → Q .non H'
def spRooms : Sp := fun vs H Q _ => ∃ (so dxs rl : Addr) (rs : List Addr) (l : List (List Nat)), vs = [.ref so] ∧ satS A.c.S so dxs rl rs H l ∧ Rows8 l ∧ ∀ a H', Same H H' → Eight H' a l → Q (.ref a) H'
def spDAsk : Sp := fun vs H Q _ => ∃ (k : Cq) (m : M) (n : Nat) (wr : Bool) (b r : Nat), vs = [.ref k.dk, .str (kindS wr), .int (b : Nat), .int (r : Nat), .int (m.tm + 6 : Nat)] ∧ QAt A.c H k m ∧ b < 8 ∧ r < 8 ∧ ∀ k' v H', QMv A.c H k m H' k' (askM m wr b r).1 → ThV H' (if 8 ≤ m.as.length then .non else .ask m.mq wr b r) v → Q v H'
def spDo : Sp := fun vs H Q _ => ∃ (k : Cq) (m : M) (a : Ask), vs = [.ref k.dk, .str (kindS a.wr), .int (a.blk : Nat), .int (a.room : Nat), .ref k.so] ∧ QAt A.c H k m ∧ a.blk < 8 ∧ a.room < 8 ∧ ∀ k' H', QMv A.c H k m H' k' { m with bs := (doAsk (m.bs, m.rs) a).1, rs := (doAsk (m.bs, m.rs) a).2 } → k'.dk = k.dk → Q .non H'
def spServe : Sp := fun vs H Q _ => ∃ (k : Cq) (m : M), vs = [.ref k.dk, .int (m.tm : Nat), .ref k.so] ∧ QAt A.c H k m ∧ ∀ k' H', QMv A.c H k m H' k' (serve m) → Q (.bl (decide (ready m ≠ []))) H'
def spAsks : Sp := fun vs H Q _ => ∃ (k : Cq) (m : M), vs = [.ref k.dk] ∧ CAt A.c.toCs H k m ∧ ∀ p H', H p = none → Same H H' → H' p = some (.lst (k.ts.map V.ref)) → Q (.ref p) H'
def spDone : Sp := fun vs H Q _ => ∃ (k : Cq) (m : M), vs = [.ref k.dk] ∧ CAt A.c.toCs H k m ∧ Q (.int (m.dn : Nat)) H
def wayT : Way → List V
  | .no c => [.non, .int (c : Nat)]
  | .room n => [.int (n : Nat), .int 0]
def spWay : Sp := fun vs H Q _ => ∃ (k : Cq) (m : M) (p : Nat) (w : Bool), vs = [.ref k.o, .ref k.so, .int (p : Nat), .bl w] ∧ QAt A.c H k m ∧ p < 64 ∧ ∀ y s t H', QMv A.c H k m H' { k with sow := y, sat := s } m → H' t = some (.tup (wayT (lead m p w))) → Q (.ref t) H'
def spLoaded : Sp := fun vs H Q _ => ∃ (k : Cq) (m : M) (a p : Nat), vs = [.ref k.o, .ref k.so, .int (a : Nat), .int (p : Nat)] ∧ QAt A.c H k m ∧ a < 4 ∧ p < 64 ∧ ∀ k' v H', QMv A.c H k m H' k' (load m a p).1 → OutV H' (some (load m a p).2) v → Q v H'
def spSaved : Sp := fun vs H Q _ => ∃ (k : Cq) (m : M) (a p : Nat), vs = [.ref k.o, .ref k.so, .int (a : Nat), .int (p : Nat)] ∧ QAt A.c H k m ∧ a < 4 ∧ p < 64 ∧ ∀ k' v H', QMv A.c H k m H' k' (save m a p).1 → OutV H' (some (save m a p).2) v → Q v H'
/-- what one of the actions does -/
def spAct (i : Nat) : Sp := fun vs H Q _ => ∃ (k : Cq) (m : M) (n a b : Nat), vs = [.ref k.o, .ref k.so, .int (a : Nat), .int (b : Nat)] ∧ QAt A.c H k m ∧ m.Lim n ∧ n ≤ 1000000 ∧ a < 4 ∧ b < 64 ∧ ∀ k' v H', QMv A.c H k m H' k' (exec m i a b).1 → OutV H' (some (exec m i a b).2) v → Q v H'
end
end K15

namespace K15
open PySem PySem.Spec PyProof.Rows L2 Bk Rm Cm


section
variable {P : Program} {w : World} {K : PySem.W.Frag} {mg : Str → Option Value} {base : Heap} {A : Ad}
theorem ok_cell {f : Addr} {fd : FuncData} (F : Fun K "_law_cell" "_law_cell" s_cell_L f fd) (T : Txt K mg A) : FnOk P w K mg base CX0 1 f fd ["_law_script", "_law_k"] (Bk.spCell K) := by
  refine F.ok sc_cell_L (fun vs H Q E h => ?_) (fun cdv A' outer s H vs Q E hr h => ⟨_, (pss_cons (ps_if (pt_cmpR op_lt (pv 1) (pe_callB call_len_seq (by rfl) T.m_len (by decide +kernel) (pa_cons (pv 0) pa_nil)) (nomark _)) (pss_one (ps_ret (pe_ix ix_list (pv 0) (pv 1) (fun _ _ => rfl)))) pss_nil)
    (pss_one (ps_ret (pe_op op_add (pe_op op_mulW pe_int (pv 1)) pe_int)))), ?_⟩)
  · obtain ⟨a, ns, k, rfl, _⟩ := h
    rfl
  · obtain ⟨a, ns, k, rfl, hS, hk, q⟩ := h
    walk_at "go"
    refine ⟨a, _, rfl, .inl hS, ?_⟩
    walk_at "go"
    refine ite2 (fun e => ?_) (fun e => ?_)
    · walk_at "go"
      have hl : k < ns.length := by
        have z := of_decide_eq_true e
        rw [List.length_map] at z
        omega
      exact r_ixL hS (at_map hl) (q _)
    · walk_at "go"
      refine r_I (cmul (by decide) (by decide) (by omega) (by omega)) ?_
      walk_at "go"
      exact q _
theorem ok_box {f : Addr} {fd : FuncData} (F : Fun K "_law_box" "_law_box" s_box_L f fd) (T : Txt K mg A) : FnOk P w K mg base CX0 1 f fd ["_law_cell_here"] spBox := by
  refine F.ok sc_box_L (fun vs H Q E h => ?_) (fun cdv A' outer s H vs Q E hr h => ⟨_, (pss_one (ps_ret (pe_lstB (pa_cons (pe_callB (call_max2 rfl) (by rfl) T.m_max (by decide +kernel) (pa_cons pe_int (pa_cons (pe_op op_sub (pv 0) (pe_op op_pow pe_int pe_int)) pa_nil))) (pa_cons (pe_op op_mod (pv 0) pe_int) (pa_cons pe_int pa_nil)))))), ?_⟩)
  · obtain ⟨c, rfl, _⟩ := h
    rfl
  · obtain ⟨c, rfl, q⟩ := h
    walk_at "go"
    refine r_I ⟨by decide, by decide, by decide⟩ ?_
    walk_at "go"
    refine ⟨_, _, rfl, ?_⟩
    walk_at "go"
    refine r_I (by decide) ?_
    walk_at "go"
    refine newLB fun p H' np ns sm e => q p H' np sm ⟨_, _, _, e, ?_, ?_, ?_, ?_, ?_⟩ <;> first | omega | (split <;> omega)
theorem ok_take {f : Addr} {fd : FuncData} (F : Fun K "_law_take" "_law_take" s_take_L f fd) (T : Txt K mg A) : FnOk P w K mg base CX0 1 f fd ["_law_box_here", "_law_many"] spTake := by
  refine F.ok sc_take_L (fun vs H Q E h => ?_) (fun cdv A' outer s H vs Q E hr h => ⟨_, (pss_cons (ps_if (pt_cmpR op_gt (pe_ix ix_list (pv 0) pe_int (fun _ _ => rfl)) pe_int (nomark _)) (pss_cons (ps_set (i := 2) sc_take_L.nd rfl (.inl rfl) (pe_op op_mod (pe_ix ix_list (pv 0) pe_int (fun _ _ => rfl)) (pv 1)))
    (pss_cons (ps_asg (pe_op op_fdivW (pe_ix ix_list (pv 0) pe_int (fun _ _ => rfl)) (pv 1)) (pg_sub (pv 0) pe_int set_list))
    (pss_one (ps_ret (pv 2))))) pss_nil)
    (pss_cons (ps_asg (pe_op op_add (pe_ix ix_list (pv 0) pe_int (fun _ _ => rfl)) pe_int) (pg_sub (pv 0) pe_int set_list))
    (pss_cons (ps_set (i := 3) sc_take_L.nd rfl (.inl rfl) (pe_op op_mod (pe_op op_pow (pe_op op_add (pe_op op_add (pe_ix ix_list (pv 0) pe_int (fun _ _ => rfl)) (pe_op op_mulW pe_int (pe_ix ix_list (pv 0) pe_int (fun _ _ => rfl)))) pe_int) pe_int) pe_int))
    (pss_cons (ps_set (i := 4) sc_take_L.nd rfl (.inl rfl) (pe_op op_mod (pe_op op_pow (pe_op op_add (pe_op op_add (pe_op op_fdivW (pv 3) pe_int) (pe_op op_mulW pe_int (pe_ix ix_list (pv 0) pe_int (fun _ _ => rfl)))) pe_int) pe_int) pe_int))
    (pss_one (ps_ret (pe_op op_mod (pe_op op_add (pe_op op_fdivW (pv 3) pe_int) (pe_op op_mulW pe_int (pe_op op_fdivW (pv 4) pe_int))) (pv 1)))))))), ?_⟩)
  · obtain ⟨a, n, size, rfl, _⟩ := h
    rfl
  · obtain ⟨a, n, size, rfl, ⟨x, y, z, e, hx, hy, hy2, hz, hz2⟩, hn, h0, h1, q⟩ := h
    have i0 : SqL K H a [.int x, .int y, .int z] := sqL e
    walk_at "go"
    refine r_ixL i0 (v := .int x) rfl ?_
    walk_at "go"
    refine ite2 (fun hp => ?_) (fun hp => ?_)
    · walk_at "go"
      refine r_ixL i0 (v := .int x) rfl ?_
      walk_at "go"
      refine r_I h0 ?_
      walk_at "go"
      refine r_ixL i0 (v := .int x) rfl ?_
      walk_at "go"
      refine r_I (cdiv h0 h1) ?_
      walk_at "go"
      refine ⟨a, _, 0, 0, rfl, rfl, e, rfl, ?_⟩
      walk_at "go"
      exact q _ _ (Int.emod_nonneg _ (by omega)) (Int.emod_lt_of_pos _ h0) ⟨x / size, y, z, upd_same, Int.ediv_nonneg hx (by omega), hy, hy2, hz, by omega⟩ But.upd
    · walk_at "go"
      refine r_ixL i0 (v := .int z) rfl ?_
      walk_at "go"
      refine ⟨a, _, 2, 2, rfl, rfl, e, rfl, ?_⟩
      have i1 : SqL K (upd H a (.lst [.int x, .int y, .int (z + 1)])) a [.int x, .int y, .int (z + 1)] := sqL upd_same
      walk_at "go"
      refine r_ixL i1 (v := .int y) rfl ?_
      walk_at "go"
      refine r_ixL i1 (v := .int (z + 1)) rfl ?_
      refine r_I (cmul (by decide) (by decide) (by omega) (by omega)) ?_
      walk_at "go"
      have g1 : (y + 7919 * (z + 1) + 29).natAbs < 2 ^ 64 := by omega
      refine r_I ⟨by decide, by decide, g1⟩ ?_
      walk_at "go"
      refine r_I (by decide) ?_
      walk_at "go"
      generalize hone : (y + 7919 * (z + 1) + 29) ^ (Int.toNat 5) % 2147483647 = one
      have o1 : 0 ≤ one := by rw [← hone]; exact Int.emod_nonneg _ (by decide)
      have o2 : one < 2147483647 := by rw [← hone]; exact Int.emod_lt_of_pos _ (by decide)
      refine r_I (cdiv (by decide) (by decide)) ?_
      walk_at "go"
      refine r_ixL i1 (v := .int (z + 1)) rfl ?_
      refine r_I (cmul (by decide) (by decide) (by omega) (by omega)) ?_
      walk_at "go"
      have g2 : (one / 8 + 104729 * (z + 1) + 11).natAbs < 2 ^ 64 := by omega
      refine r_I ⟨by decide, by decide, g2⟩ ?_
      walk_at "go"
      refine r_I (by decide) ?_
      walk_at "go"
      generalize htwo : (one / 8 + 104729 * (z + 1) + 11) ^ (Int.toNat 3) % 2147483629 = two
      have t1 : 0 ≤ two := by rw [← htwo]; exact Int.emod_nonneg _ (by decide)
      have t2 : two < 2147483629 := by rw [← htwo]; exact Int.emod_lt_of_pos _ (by decide)
      refine r_I (cdiv (by decide) (by decide)) ?_
      walk_at "go"
      refine r_I (cdiv (by decide) (by decide)) ?_
      refine r_I (cmul (by decide) (by decide) (by omega) (by omega)) ?_
      walk_at "go"
      refine r_I h0 ?_
      exact q _ _ (Int.emod_nonneg _ (by omega)) (Int.emod_lt_of_pos _ h0) ⟨x, y, z + 1, upd_same, hx, hy, hy2, by omega, by omega⟩ But.upd

theorem ok_GE {f : Addr} {fd : FuncData} (F : Fun K "__init__" "GuestError.__init__" s_GuestError_init f fd) (T : Txt K mg A) : FnOk P w K mg base CX0 1 f fd ["self", "text"] (spGT K .ve) := by
  refine F.ok sc_GuestError_init (fun vs H Q E h => ?_) (fun cdv A' outer s H vs Q E hr h => ⟨_, (pss_one (ps_expr (pe_veI (by rfl) T.m_ValueError T.vV (pa_cons (pv 0) (pa_cons (pv 1) pa_nil))))), ?_⟩)
  · obtain ⟨a, C, x, rfl, _⟩ := h
    rfl
  · obtain ⟨a, C, x, rfl, hC, e, q⟩ := h
    exact ⟨_, rfl, _, rfl, a, C, [x], rfl, Nat.le_of_ble_eq_true rfl, hC, e, q⟩
theorem ok_BB {f : Addr} {fd : FuncData} (F : Fun K "__init__" "Barred.__init__" s_Barred_init f fd) (T : Txt K mg A) : FnOk P w K mg base CX0 1 f fd ["self", "text"] (spGT K .le) := by
  refine F.ok sc_Barred_init (fun vs H Q E h => ?_) (fun cdv A' outer s H vs Q E hr h => ⟨_, (pss_one (ps_expr (pe_leI (by rfl) T.m_LookupError T.vL (pa_cons (pv 0) (pa_cons (pv 1) pa_nil))))), ?_⟩)
  · obtain ⟨a, C, x, rfl, _⟩ := h
    rfl
  · obtain ⟨a, C, x, rfl, hC, e, q⟩ := h
    exact ⟨_, rfl, _, rfl, a, C, [x], rfl, Nat.le_of_ble_eq_true rfl, hC, e, q⟩
theorem ok_iM {f : Addr} {fd fdG : FuncData} (F : Fun K "__init__" "NoNumber.__init__" s_NoNumber_init f fd) (T : Txt K mg A) (c_GuestError_init : Own P w K mg base CX0 1 A.fG fdG ["self", "text"] (spGT K .ve)) : FnOk P w K mg base CX0 2 f fd ["self", "found"] (spInitN "found" A.CM) := by
  refine F.ok sc_NoNumber_init (fun vs H Q E h => ?_) (fun cdv A' outer s H vs Q E hr h => ⟨_, (pss_cons (ps_expr (pe_cdef c_GuestError_init.ok hr (by rfl) T.g_GuestError T.rd_GuestError T.ga_GuestError T.at_GuestError c_GuestError_init.kp c_GuestError_init.bd .nil pass0 (pa_cons (pv 0) (pa_cons pe_str pa_nil))))
    (pss_one (ps_osN (pv 0) (pv 1)))), ?_⟩)
  · obtain ⟨a, x, rfl, _⟩ := h
    rfl
  · obtain ⟨a, x, rfl, e, q⟩ := h
    walk_at "go"
    exact ⟨a, A.CM, _, rfl, T.ox_NoNumber, e, x, rfl, .ref a, rfl, .ve, a, A.CM, rfl, T.ox_NoNumber, T.nf_NoNumber, e, q⟩
theorem ok_iW {f : Addr} {fd fdG : FuncData} (F : Fun K "__init__" "NoWord.__init__" s_NoWord_init f fd) (T : Txt K mg A) (c_GuestError_init : Own P w K mg base CX0 1 A.fG fdG ["self", "text"] (spGT K .ve)) : FnOk P w K mg base CX0 2 f fd ["self", "found"] (spInitN "found" A.CW) := by
  refine F.ok sc_NoWord_init (fun vs H Q E h => ?_) (fun cdv A' outer s H vs Q E hr h => ⟨_, (pss_cons (ps_expr (pe_cdef c_GuestError_init.ok hr (by rfl) T.g_GuestError T.rd_GuestError T.ga_GuestError T.at_GuestError c_GuestError_init.kp c_GuestError_init.bd .nil pass0 (pa_cons (pv 0) (pa_cons pe_str pa_nil))))
    (pss_one (ps_osN (pv 0) (pv 1)))), ?_⟩)
  · obtain ⟨a, x, rfl, _⟩ := h
    rfl
  · obtain ⟨a, x, rfl, e, q⟩ := h
    walk_at "go"
    exact ⟨a, A.CW, _, rfl, T.ox_NoWord, e, x, rfl, .ref a, rfl, .ve, a, A.CW, rfl, T.ox_NoWord, T.nf_NoWord, e, q⟩
theorem ok_iU {f : Addr} {fd fdG : FuncData} (F : Fun K "__init__" "Nought.__init__" s_Nought_init f fd) (T : Txt K mg A) (c_GuestError_init : Own P w K mg base CX0 1 A.fG fdG ["self", "text"] (spGT K .ve)) : FnOk P w K mg base CX0 2 f fd ["self", "found"] (spInitN "found" A.CU) := by
  refine F.ok sc_Nought_init (fun vs H Q E h => ?_) (fun cdv A' outer s H vs Q E hr h => ⟨_, (pss_cons (ps_expr (pe_cdef c_GuestError_init.ok hr (by rfl) T.g_GuestError T.rd_GuestError T.ga_GuestError T.at_GuestError c_GuestError_init.kp c_GuestError_init.bd .nil pass0 (pa_cons (pv 0) (pa_cons pe_str pa_nil))))
    (pss_one (ps_osN (pv 0) (pv 1)))), ?_⟩)
  · obtain ⟨a, x, rfl, _⟩ := h
    rfl
  · obtain ⟨a, x, rfl, e, q⟩ := h
    walk_at "go"
    exact ⟨a, A.CU, _, rfl, T.ox_Nought, e, x, rfl, .ref a, rfl, .ve, a, A.CU, rfl, T.ox_Nought, T.nf_Nought, e, q⟩
theorem ok_iI {f : Addr} {fd fdG : FuncData} (F : Fun K "__init__" "NoImage.__init__" s_NoImage_init f fd) (T : Txt K mg A) (c_GuestError_init : Own P w K mg base CX0 1 A.fG fdG ["self", "text"] (spGT K .ve)) : FnOk P w K mg base CX0 2 f fd ["self", "found"] (spInitN "found" A.CI) := by
  refine F.ok sc_NoImage_init (fun vs H Q E h => ?_) (fun cdv A' outer s H vs Q E hr h => ⟨_, (pss_cons (ps_expr (pe_cdef c_GuestError_init.ok hr (by rfl) T.g_GuestError T.rd_GuestError T.ga_GuestError T.at_GuestError c_GuestError_init.kp c_GuestError_init.bd .nil pass0 (pa_cons (pv 0) (pa_cons pe_str pa_nil))))
    (pss_one (ps_osN (pv 0) (pv 1)))), ?_⟩)
  · obtain ⟨a, x, rfl, _⟩ := h
    rfl
  · obtain ⟨a, x, rfl, e, q⟩ := h
    walk_at "go"
    exact ⟨a, A.CI, _, rfl, T.ox_NoImage, e, x, rfl, .ref a, rfl, .ve, a, A.CI, rfl, T.ox_NoImage, T.nf_NoImage, e, q⟩
theorem ok_iE {f : Addr} {fd fdG : FuncData} (F : Fun K "__init__" "Ended.__init__" s_Ended_init f fd) (T : Txt K mg A) (c_Barred_init : Own P w K mg base CX0 1 A.fB fdG ["self", "text"] (spGT K .le)) : FnOk P w K mg base CX0 2 f fd ["self", "found"] (spInitN "found" A.CE) := by
  refine F.ok sc_Ended_init (fun vs H Q E h => ?_) (fun cdv A' outer s H vs Q E hr h => ⟨_, (pss_cons (ps_expr (pe_cdef c_Barred_init.ok hr (by rfl) T.g_Barred T.rd_Barred T.ga_Barred T.at_Barred c_Barred_init.kp c_Barred_init.bd .nil pass0 (pa_cons (pv 0) (pa_cons pe_str pa_nil))))
    (pss_one (ps_osN (pv 0) (pv 1)))), ?_⟩)
  · obtain ⟨a, x, rfl, _⟩ := h
    rfl
  · obtain ⟨a, x, rfl, e, q⟩ := h
    walk_at "go"
    exact ⟨a, A.CE, _, rfl, T.ox_Ended, e, x, rfl, .ref a, rfl, .le, a, A.CE, rfl, T.ox_Ended, T.nf_Ended, e, q⟩
theorem ok_iK {f : Addr} {fd fdG : FuncData} (F : Fun K "__init__" "NoKind.__init__" s_NoKind_init f fd) (T : Txt K mg A) (c_GuestError_init : Own P w K mg base CX0 1 A.fG fdG ["self", "text"] (spGT K .ve)) : FnOk P w K mg base CX0 2 f fd ["self", "found"] (spInitN "found" A.CK) := by
  refine F.ok sc_NoKind_init (fun vs H Q E h => ?_) (fun cdv A' outer s H vs Q E hr h => ⟨_, (pss_cons (ps_expr (pe_cdef c_GuestError_init.ok hr (by rfl) T.g_GuestError T.rd_GuestError T.ga_GuestError T.at_GuestError c_GuestError_init.kp c_GuestError_init.bd .nil pass0 (pa_cons (pv 0) (pa_cons pe_str pa_nil))))
    (pss_one (ps_osN (pv 0) (pv 1)))), ?_⟩)
  · obtain ⟨a, x, rfl, _⟩ := h
    rfl
  · obtain ⟨a, x, rfl, e, q⟩ := h
    walk_at "go"
    exact ⟨a, A.CK, _, rfl, T.ox_NoKind, e, x, rfl, .ref a, rfl, .ve, a, A.CK, rfl, T.ox_NoKind, T.nf_NoKind, e, q⟩
theorem ok_iL {f : Addr} {fd fdG : FuncData} (F : Fun K "__init__" "NoLog.__init__" s_NoLog_init f fd) (T : Txt K mg A) (c_GuestError_init : Own P w K mg base CX0 1 A.fG fdG ["self", "text"] (spGT K .ve)) : FnOk P w K mg base CX0 2 f fd ["self", "found"] (spInitN "found" A.CL) := by
  refine F.ok sc_NoLog_init (fun vs H Q E h => ?_) (fun cdv A' outer s H vs Q E hr h => ⟨_, (pss_cons (ps_expr (pe_cdef c_GuestError_init.ok hr (by rfl) T.g_GuestError T.rd_GuestError T.ga_GuestError T.at_GuestError c_GuestError_init.kp c_GuestError_init.bd .nil pass0 (pa_cons (pv 0) (pa_cons pe_str pa_nil))))
    (pss_one (ps_osN (pv 0) (pv 1)))), ?_⟩)
  · obtain ⟨a, x, rfl, _⟩ := h
    rfl
  · obtain ⟨a, x, rfl, e, q⟩ := h
    walk_at "go"
    exact ⟨a, A.CL, _, rfl, T.ox_NoLog, e, x, rfl, .ref a, rfl, .ve, a, A.CL, rfl, T.ox_NoLog, T.nf_NoLog, e, q⟩
theorem ok_whole {f : Addr} {fd : FuncData} (F : Fun K "is_whole" "is_whole" s_is_whole f fd) (T : Txt K mg A) : FnOk P w K mg base CX0 1 f fd ["thing", "low", "high"] spWh := by
  refine F.ok sc_is_whole (fun vs H Q E h => ?_) (fun cdv A' outer s H vs Q E hr h => ⟨_, (pss_one (ps_ret (pe_and (pe_callB call_is (by rfl) T.m_isinstance (by decide +kernel) (pa_cons (pv 0) (pa_cons (pe_bltn (v := .ty "int") (by rfl) T.m_int (by decide +kernel) rfl) pa_nil))) (pe_and (pe_not (pe_callB call_is (by rfl) T.m_isinstance (by decide +kernel) (pa_cons (pv 0) (pa_cons (pe_bltn (v := .ty "bool") (by rfl) T.m_bool (by decide +kernel) rfl) pa_nil)))) (pe_one (pe_chain op_le op_le (pv 1) (pv 0) (pv 2))))))), ?_⟩)
  · obtain ⟨x, lo, hi, rfl, _⟩ := h
    rfl
  · obtain ⟨x, lo, hi, rfl, q⟩ := h
    walk_at "go"
    refine r_is (isa_int (b := true)) ?_
    walk_at "go"
    refine r_is (isa_int (b := false)) ?_
    rw [Bool.decide_and] at q
    walk_at "go"
    refine ite2 (fun e => ?_) (fun e => ?_)
    · walk_at "go"
      rw [e, Bool.true_and] at q
      exact q
    · rw [Bool.eq_false_iff.mpr e, Bool.false_and] at q
      exact q
theorem ok_cknum {f : Addr} {fd fdM : FuncData} (F : Fun K "check_number" "check_number" s_check_number f fd) (T : Txt K mg A) (c_is_whole : CalD P w K mg base CX0 1 "is_whole" spWh [])
    (c_NoNumber_init : Own P w K mg base CX0 2 A.fM fdM ["self", "found"] (spInitN "found" A.CM)) : FnOk P w K mg base (L2.CX P w) 4 f fd ["thing", "low", "high"] spCkN := by
  refine F.okX sc_check_number (fun vs H Q E h => ?_) (fun cdv A' outer s H vs Q E hr h => ⟨_, (pss_one (ps_if (pt_not (pt_val (pe_cal c_is_whole hr (by decide) (by rfl) (pa_cons (pv 0) (pa_cons (pv 1) (pa_cons (pv 2) pa_nil)))))) (pss_one (ps_raise rfl (takes_of rfl rfl rfl rfl) (pmk_oexT T.ox_NoNumber T.i_NoNumber T.t_NoNumber c_NoNumber_init.ok (hr.mono (by decide)) c_NoNumber_init.bd .nil pass0 (by rfl) T.g_NoNumber (pa_cons (pv 0) pa_nil)))) pss_nil)), ?_⟩)
  · obtain ⟨x, lo, hi, rfl, _⟩ := h
    rfl
  · obtain ⟨x, lo, hi, rfl, h1, h2, q⟩ := h
    walk_at "go"
    refine ⟨x, lo, hi, rfl, ?_⟩
    rw [decide_eq_true ⟨h1, h2⟩]
    walk_at "go"
    exact q
theorem ok_word {f : Addr} {fd : FuncData} (F : Fun K "is_word" "is_word" s_is_word f fd) (T : Txt K mg A) (c_is_whole : CalD P w K mg base CX0 1 "is_whole" spWh []) : FnOk P w K mg base CX0 2 f fd ["thing"] spWord := by
  refine F.ok sc_is_word (fun vs H Q E h => ?_) (fun cdv A' outer s H vs Q E hr h => ⟨_, (pss_one (ps_ret (pe_cal c_is_whole hr (by decide) (by rfl) (pa_cons (pv 0) (pa_cons pe_int (pa_cons (C8.pe_gc (by rfl) T.c_MOST) pa_nil)))))), ?_⟩)
  · obtain ⟨x, rfl, _⟩ := h
    rfl
  · obtain ⟨x, rfl, q⟩ := h
    walk_at "go"
    exact ⟨x, 0, 4095, rfl, q⟩
theorem ok_ckw {f : Addr} {fd fdW : FuncData} (F : Fun K "check_word" "check_word" s_check_word f fd) (T : Txt K mg A) (c_is_word : CalD P w K mg base CX0 2 "is_word" spWord [])
    (c_NoWord_init : Own P w K mg base CX0 2 A.fW fdW ["self", "found"] (spInitN "found" A.CW)) : FnOk P w K mg base (L2.CX P w) 4 f fd ["thing"] spCkW := by
  refine F.okX sc_check_word (fun vs H Q E h => ?_) (fun cdv A' outer s H vs Q E hr h => ⟨_, (pss_one (ps_if (pt_not (pt_val (pe_cal c_is_word hr (by decide) (by rfl) (pa_cons (pv 0) pa_nil)))) (pss_one (ps_raise rfl (takes_of rfl rfl rfl rfl) (pmk_oexT T.ox_NoWord T.i_NoWord T.t_NoWord c_NoWord_init.ok (hr.mono (by decide)) c_NoWord_init.bd .nil pass0 (by rfl) T.g_NoWord (pa_cons (pv 0) pa_nil)))) pss_nil)), ?_⟩)
  · obtain ⟨x, rfl, _⟩ := h
    rfl
  · obtain ⟨x, rfl, h1, h2, q⟩ := h
    walk_at "go"
    refine ⟨x, rfl, ?_⟩
    rw [decide_eq_true ⟨h1, h2⟩]
    walk_at "go"
    exact q
theorem ok_rowI {f : Addr} {fd : FuncData} (F : Fun K "_is_row" "_is_row" s_is_row f fd) (T : Txt K mg A) (c_is_word : CalD P w K mg base CX0 2 "is_word" spWord []) : FnOk P w K mg base CX0 3 f fd ["thing"] spRowI := by
  refine F.ok sc_is_row (fun vs H Q E h => ?_) (fun cdv A' outer s H vs Q E hr h => have hu := units1 hr; ⟨_, (pss_one (ps_ret (pe_and (pe_callB call_is (by rfl) T.m_isinstance (by decide +kernel) (pa_cons (pv 0) (pa_cons (pe_bltn (v := .ty "tuple") (by rfl) T.m_tuple (by decide +kernel) rfl) pa_nil))) (pe_and (pe_cmpR op_eq (pe_callB call_len_seq (by rfl) T.m_len (by decide +kernel) (pa_cons (pv 0) pa_nil)) (C8.pe_gc (by rfl) T.c_EIGHT) (nomark _)) (pe_one (pe_callB (cr_all rfl) (by rfl) T.m_all (by decide +kernel) (pa_cons (pe_lc (own := [("word", 1)]) rfl sc_is_row.nd (pi_tup (pv 0)) (blkOk_by (N := ["thing", "word"]) (sc := defScope s_is_row) (by decide +kernel)) (fun _ _ _ _ _ => (pg_name (i := 1) sc_is_row.nd rfl (.inl rfl))) (fun _ _ _ _ _ => pts_nil) (fun _ _ _ _ _ => (pe_cal c_is_word hr (by decide) (by rfl) (pa_cons (pv 1) pa_nil)))) pa_nil))))))), ?_⟩)
  · obtain ⟨t, ws, rfl, _⟩ := h
    rfl
  · obtain ⟨t, ws, rfl, hR, l8, le, q⟩ := h
    walk_at "go"
    refine r_is (hR.isT) ?_
    walk_at "go"
    refine ⟨t, nv ws, rfl, .inr (hR.sq), ?_⟩
    rw [show (nv ws).length = 8 from by unfold nv; rw [List.length_map]; exact l8]
    walk_at "go"
    rw [show decide (V.int ((8 : Nat) : Int) = V.int 8) = true from decide_eq_true rfl, if_pos rfl]
    refine r_cb (r_cons (lcT (fun _ => .bl true) rfl (hR.sq) (by rw [nv_len]; omega) (fun _ => rfl) (fun i y H1 Q' hy s1 k => ?_) fun D H1 nD s1 e => ?_))
    · obtain ⟨w, hw, rfl⟩ := at_nv hy
      walk_at "go"
      refine ⟨_, rfl, ?_⟩
      rw [decide_eq_true ⟨by omega, by have := le w (List.mem_of_getElem? hw); omega⟩]
      exact k _ (Same.refl _)
    · refine r_nil ⟨D, List.replicate 8 true, rfl, ?_, q _ s1⟩
      rw [nv_len, l8] at e
      exact sqL e
theorem ok_eight {f : Addr} {fd : FuncData} (F : Fun K "is_eight" "is_eight" s_is_eight f fd) (T : Txt K mg A) (c_is_row : CalD P w K mg base CX0 3 "_is_row" spRowI []) : FnOk P w K mg base CX0 4 f fd ["thing"] spEight := by
  refine F.ok sc_is_eight (fun vs H Q E h => ?_) (fun cdv A' outer s H vs Q E hr h => have hu := units1 hr; ⟨_, (pss_one (ps_ret (pe_and (pe_callB call_is (by rfl) T.m_isinstance (by decide +kernel) (pa_cons (pv 0) (pa_cons (pe_bltn (v := .ty "tuple") (by rfl) T.m_tuple (by decide +kernel) rfl) pa_nil))) (pe_and (pe_cmpR op_eq (pe_callB call_len_seq (by rfl) T.m_len (by decide +kernel) (pa_cons (pv 0) pa_nil)) (C8.pe_gc (by rfl) T.c_EIGHT) (nomark _)) (pe_one (pe_callB (cr_all rfl) (by rfl) T.m_all (by decide +kernel) (pa_cons (pe_lc (own := [("row", 1)]) rfl sc_is_eight.nd (pi_tup (pv 0)) (blkOk_by (N := ["thing", "row"]) (sc := defScope s_is_eight) (by decide +kernel)) (fun _ _ _ _ _ => (pg_name (i := 1) sc_is_eight.nd rfl (.inl rfl))) (fun _ _ _ _ _ => pts_nil) (fun _ _ _ _ _ => (pe_cal c_is_row hr (by decide) (by rfl) (pa_cons (pv 1) pa_nil)))) pa_nil))))))), ?_⟩)
  · obtain ⟨t, ws, rfl, _⟩ := h
    rfl
  · obtain ⟨a, rows, rfl, ⟨ts, ea, tl, hR⟩, ok, q⟩ := h
    have l8 : ts.length = 8 := tl.trans ok.l8
    walk_at "go"
    refine r_is (isa_tup (b := true) ea) ?_
    walk_at "go"
    refine ⟨a, _, rfl, .inr (SqT.of ea), ?_⟩
    rw [show (ts.map V.ref).length = 8 from by rw [List.length_map]; exact l8]
    walk_at "go"
    rw [show decide (V.int ((8 : Nat) : Int) = V.int 8) = true from decide_eq_true rfl, if_pos rfl]
    refine r_cb (r_cons (lcT (fun _ => .bl true) rfl (SqT.of ea) (by rw [List.length_map]; omega) (fun _ => rfl) (fun i y H1 Q' hy s1 k => ?_) fun D H1 nD s1 e => ?_))
    · rw [List.getElem?_map] at hy
      cases et : ts[i]? with
      | none => rw [et] at hy; exact nomatch hy
      | some t =>
        rw [et] at hy
        obtain rfl := Option.some.inj hy
        have li : i < rows.length := by rw [← tl]; exact (List.getElem?_eq_some_iff.mp et).1
        have mr := List.getElem_mem li
        walk_at "go"
        exact ⟨t, rows[i], rfl, (hR i t _ et (List.getElem?_eq_getElem li)).keep (Same.ts s1), (ok.e8 _ mr).1, (ok.e8 _ mr).2, fun H2 s2 => k H2 s2⟩
    · refine r_nil ⟨D, List.replicate 8 true, rfl, ?_, q _ s1⟩
      rw [List.length_map, l8] at e
      exact sqL e
end
end K15

namespace K15
open PySem PySem.Spec PyProof.Rows L2 Bk Rm Cm


theorem ixn {n r : Nat} (h : r < n) : ixN n (r : Int) = some r := by
  unfold ixN
  rw [if_pos (by omega), if_pos (by omega)]
  rfl
theorem none_of {H H' : Hp} {b : Addr} (s : Same H H') (e : H' b = none) : H b = none := by
  cases z : H b with
  | none => rfl
  | some u => rw [s _ _ z] at e; exact nomatch e
section
variable {K : PySem.W.Frag} {mg : Str → Option Value} {A : Ad} {σ : L2.St} {H : Hp} {Q : VK} {k : Cq} {m : M}
theorem rc_co (hP : CAt A.c.toCs H k m) (T : Txt K mg A) {f : Str} {v : V} {i : Nat} (na : NoAttr K A.c.C f) (hl : (CQ k m).lookup f = some v) (h0 : σ[i]? = some (some (.ref k.o))) (q : Q v H) : tFld K (tVar i) f σ H Q :=
  ⟨_, h0, k.o, A.c.C, k.dxo, CQ k m, _, rfl, hP.nm 0 _ _ rfl, T.cl_Core, na, hl, q⟩
theorem rc_di (hP : CAt A.c.toCs H k m) (T : Txt K mg A) {f : Str} {v : V} {i : Nat} (na : NoAttr K A.c.D f) (hl : (DQ k m).lookup f = some v) (h0 : σ[i]? = some (some (.ref k.dk))) (q : Q v H) : tFld K (tVar i) f σ H Q :=
  ⟨_, h0, k.dk, A.c.D, k.dxd, DQ k m, _, rfl, hP.nm 1 _ _ rfl, T.cl_Disk, na, hl, q⟩
theorem sc_co (hP : CAt A.c.toCs H k m) (T : Txt K mg A) {f : Str} {v : V} {i : Nat} {tv : TE} {D : Ends} (na : NoAttr K A.c.C f) (h0 : σ[i]? = some (some (.ref k.o))) (hv : ∀ Q : VK, Q v H → tv σ H Q) (q : D.nx σ (upd H k.o (.ins A.c.C k.dxo (putF f v (CQ k m))))) : sFld K (tVar i) tv f D σ H :=
  hv _ ⟨_, h0, k.o, A.c.C, k.dxo, CQ k m, rfl, hP.nm 0 _ _ rfl, T.cl_Core, na, by show 13 < 1000; decide, q⟩
theorem r_co (hP : QAt A.c H k m) (T : Txt K mg A) {f : Str} {v : V} {i : Nat} (na : NoAttr K A.c.C f) (hl : (CQ k m).lookup f = some v) (h0 : σ[i]? = some (some (.ref k.o))) (q : Q v H) : tFld K (tVar i) f σ H Q :=
  rc_co hP.toCAt T na hl h0 q
theorem r_di (hP : QAt A.c H k m) (T : Txt K mg A) {f : Str} {v : V} {i : Nat} (na : NoAttr K A.c.D f) (hl : (DQ k m).lookup f = some v) (h0 : σ[i]? = some (some (.ref k.dk))) (q : Q v H) : tFld K (tVar i) f σ H Q :=
  rc_di hP.toCAt T na hl h0 q
theorem s_co (hP : QAt A.c H k m) (T : Txt K mg A) {f : Str} {v : V} {i : Nat} {tv : TE} {D : Ends} (na : NoAttr K A.c.C f) (h0 : σ[i]? = some (some (.ref k.o))) (hv : ∀ Q : VK, Q v H → tv σ H Q) (q : D.nx σ (upd H k.o (.ins A.c.C k.dxo (putF f v (CQ k m))))) : sFld K (tVar i) tv f D σ H :=
  sc_co hP.toCAt T na h0 hv q
end
section
variable {P : Program} {w : World} {K : PySem.W.Frag} {mg : Str → Option Value} {base : Heap} {A : Ad}
theorem ok_parts {f : Addr} {fd : FuncData} (F : Fun K "parts_of" "parts_of" s_parts_of f fd) (T : Txt K mg A) (c_check_word : CalX P w K mg base 4 "check_word" spCkW) : FnOk P w K mg base (L2.CX P w) 5 f fd ["word"] spParts := by
  refine F.okX sc_parts_of (fun vs H Q E h => ?_) (fun cdv A' outer s H vs Q E hr h => ⟨_, (pss_cons (ps_expr (pe_calX c_check_word hr (by decide) (by rfl) (takes_of rfl rfl rfl rfl) (pa_cons (pv 0) pa_nil)))
    (pss_one (ps_ret (pe_tup (pa_cons (pe_op op_fdivW (pv 0) pe_int) (pa_cons (pe_op op_mod (pe_op op_fdivW (pv 0) pe_int) pe_int) (pa_cons (pe_op op_mod (pv 0) pe_int) pa_nil))))))), ?_⟩)
  · obtain ⟨w, rfl, _⟩ := h
    rfl
  · obtain ⟨w, rfl, hw, q⟩ := h
    walk_at "go"
    refine ⟨w, rfl, by omega, by omega, ?_⟩
    walk_at "go"
    refine rn_div 256 (by decide) ?_
    walk_at "go"
    refine rn_div 64 (by decide) ?_
    walk_at "go"
    refine rn_mod 4 (by decide) ?_
    walk_at "go"
    refine rn_mod 64 (by decide) ?_
    walk_at "go"
    exact newT fun t H1 n1 s1 e1 => q t H1 n1 s1 e1
theorem ok_entry {f : Addr} {fd : FuncData} (F : Fun K "entry_parts" "entry_parts" s_entry_parts f fd) (T : Txt K mg A) (c_check_word : CalX P w K mg base 4 "check_word" spCkW) : FnOk P w K mg base (L2.CX P w) 5 f fd ["word"] spEntry := by
  refine F.okX sc_entry_parts (fun vs H Q E h => ?_) (fun cdv A' outer s H vs Q E hr h => ⟨_, (pss_cons (ps_expr (pe_calX c_check_word hr (by decide) (by rfl) (takes_of rfl rfl rfl rfl) (pa_cons (pv 0) pa_nil)))
    (pss_cons (ps_if (pt_cmpR op_eq (pe_op op_mod (pv 0) pe_int) pe_int (nomark _)) (pss_one (ps_ret pe_non)) pss_nil)
    (pss_one (ps_ret (pe_tup (pa_cons (pe_op op_mod (pe_op op_fdivW (pv 0) pe_int) pe_int) (pa_cons (pe_cmpR op_eq (pe_op op_mod (pe_op op_fdivW (pv 0) pe_int) pe_int) pe_int (nomark _)) pa_nil))))))), ?_⟩)
  · obtain ⟨w, rfl, _⟩ := h
    rfl
  · obtain ⟨w, rfl, hw, q0, q1⟩ := h
    walk_at "go"
    refine ⟨w, rfl, by omega, by omega, ?_⟩
    walk_at "go"
    refine rn_mod 2 (by decide) ?_
    walk_at "go"
    rw [show decide (V.int ((w % 2 : Nat) : Int) = V.int 0) = decide (w % 2 = 0) from decide_eq_decide.mpr ⟨fun z => by injection z with z; omega, fun z => by rw [z]; rfl⟩]
    refine ite2 (fun e => ?_) (fun e => ?_)
    · walk_at "go"
      exact q0 (of_decide_eq_true e)
    · have e := of_decide_eq_false (Bool.not_eq_true _ ▸ e)
      walk_at "go"
      refine rn_div 4 (by decide) ?_
      walk_at "go"
      refine rn_mod 8 (by decide) ?_
      walk_at "go"
      refine rn_div 2 (by decide) ?_
      walk_at "go"
      refine rn_mod 2 (by decide) ?_
      walk_at "go"
      refine newT fun t H1 n1 s1 e1 => q1 e t H1 n1 s1 ?_
      rw [e1, show decide (V.int ((w / 2 % 2 : Nat) : Int) = V.int 1) = decide (w / 2 % 2 = 1) from decide_eq_decide.mpr ⟨fun z => by injection z with z; omega, fun z => by rw [z]; rfl⟩]
theorem ok_ckws {f : Addr} {fd : FuncData} (F : Fun K "_check_words" "_check_words" s_check_words f fd) (T : Txt K mg A) (c_check_word : CalX P w K mg base 4 "check_word" spCkW) : FnOk P w K mg base (L2.CX P w) 5 f fd ["one", "other"] spCkWs := by
  refine F.okX sc_check_words (fun vs H Q E h => ?_) (fun cdv A' outer s H vs Q E hr h => ⟨_, (pss_cons (ps_expr (pe_calX c_check_word hr (by decide) (by rfl) (takes_of rfl rfl rfl rfl) (pa_cons (pv 0) pa_nil)))
    (pss_one (ps_expr (pe_calX c_check_word hr (by decide) (by rfl) (takes_of rfl rfl rfl rfl) (pa_cons (pv 1) pa_nil))))), ?_⟩)
  · obtain ⟨a, b, rfl, _⟩ := h
    rfl
  · obtain ⟨a, b, rfl, ha, hb, q⟩ := h
    walk_at "go"
    refine ⟨a, rfl, by omega, by omega, ?_⟩
    walk_at "go"
    refine ⟨b, rfl, by omega, by omega, ?_⟩
    walk_at "go"
    exact q
theorem ok_sum {f : Addr} {fd : FuncData} (F : Fun K "sum_of" "sum_of" s_sum_of f fd) (T : Txt K mg A) (c_check_words : CalX P w K mg base 5 "_check_words" spCkWs) : FnOk P w K mg base (L2.CX P w) 6 f fd ["one", "other"] spSum := by
  refine F.okX sc_sum_of (fun vs H Q E h => ?_) (fun cdv A' outer s H vs Q E hr h => ⟨_, (pss_cons (ps_expr (pe_calX c_check_words hr (by decide) (by rfl) (takes_of rfl rfl rfl rfl) (pa_cons (pv 0) (pa_cons (pv 1) pa_nil))))
    (pss_one (ps_ret (pe_op op_mod (pe_op op_add (pv 0) (pv 1)) (pe_op op_add (C8.pe_gc (by rfl) T.c_MOST) pe_int))))), ?_⟩)
  · obtain ⟨a, b, rfl, _⟩ := h
    rfl
  · obtain ⟨a, b, rfl, ha, hb, q⟩ := h
    walk_at "go"
    refine ⟨a, b, rfl, ha, hb, ?_⟩
    walk_at "go"
    refine r_I (by decide) ?_
    rw [show ((a : Int) + (b : Int)) % (4095 + 1) = ((a + b) % 4096 : Nat) by omega]
    exact q
theorem ok_diff {f : Addr} {fd : FuncData} (F : Fun K "difference" "difference" s_difference f fd) (T : Txt K mg A) (c_check_words : CalX P w K mg base 5 "_check_words" spCkWs) : FnOk P w K mg base (L2.CX P w) 6 f fd ["one", "other"] spDiff := by
  refine F.okX sc_difference (fun vs H Q E h => ?_) (fun cdv A' outer s H vs Q E hr h => ⟨_, (pss_cons (ps_expr (pe_calX c_check_words hr (by decide) (by rfl) (takes_of rfl rfl rfl rfl) (pa_cons (pv 0) (pa_cons (pv 1) pa_nil))))
    (pss_one (ps_ret (pe_op op_mod (pe_op op_sub (pv 0) (pv 1)) (pe_op op_add (C8.pe_gc (by rfl) T.c_MOST) pe_int))))), ?_⟩)
  · obtain ⟨a, b, rfl, _⟩ := h
    rfl
  · obtain ⟨a, b, rfl, ha, hb, q⟩ := h
    walk_at "go"
    refine ⟨a, b, rfl, ha, hb, ?_⟩
    walk_at "go"
    refine r_I (by decide) ?_
    rw [show ((a : Int) - (b : Int)) % (4095 + 1) = ((a + 4096 - b) % 4096 : Nat) by omega]
    exact q
theorem ok_divd {f : Addr} {fd fdU : FuncData} (F : Fun K "divided" "divided" s_divided f fd) (T : Txt K mg A) (c_check_words : CalX P w K mg base 5 "_check_words" spCkWs) (c_Nought_init : Own P w K mg base CX0 2 A.fU fdU ["self", "found"] (spInitN "found" A.CU)) : FnOk P w K mg base (L2.CX P w) 6 f fd ["one", "other"] spDivd := by
  refine F.okX sc_divided (fun vs H Q E h => ?_) (fun cdv A' outer s H vs Q E hr h => ⟨_, (pss_cons (ps_expr (pe_calX c_check_words hr (by decide) (by rfl) (takes_of rfl rfl rfl rfl) (pa_cons (pv 0) (pa_cons (pv 1) pa_nil))))
    (pss_cons (ps_if (pt_cmpR op_eq (pv 1) pe_int (nomark _)) (pss_one (ps_raise rfl (takes_of rfl rfl rfl rfl) (pmk_oexT T.ox_Nought T.i_Nought T.t_Nought c_Nought_init.ok (hr.mono (by decide)) c_Nought_init.bd .nil pass0 (by rfl) T.g_Nought (pa_cons (pv 0) pa_nil)))) pss_nil)
    (pss_one (ps_ret (pe_tup (pa_cons (pe_op op_fdivW (pv 0) (pv 1)) (pa_cons (pe_op op_mod (pv 0) (pv 1)) pa_nil))))))), ?_⟩)
  · obtain ⟨a, b, rfl, _⟩ := h
    rfl
  · obtain ⟨a, b, rfl, ha, hb, b0, q⟩ := h
    walk_at "go"
    refine ⟨a, b, rfl, ha, hb, ?_⟩
    walk_at "go"
    rw [show decide (V.int ((b : Nat) : Int) = V.int 0) = false from decide_eq_false fun z => by injection z with z; omega]
    rw [if_neg Bool.false_ne_true]
    walk_at "go"
    refine rn_div b (by omega) ?_
    walk_at "go"
    refine rn_mod b (by omega) ?_
    walk_at "go"
    exact newT fun t H1 n1 s1 e1 => q t H1 n1 s1 e1
end
end K15

namespace K15
open PySem PySem.Spec PyProof.Rows L2 Bk Rm Cm


section
variable {P : Program} {w : World} {K : PySem.W.Frag} {mg : Str → Option Value} {base : Heap} {A : Ad}
theorem ok_wayC {f : Addr} {fd : FuncData} (F : Fun K "_way" "_way" s_way f fd) (T : Txt K mg A) (c_entry_parts : CalX P w K mg base 5 "entry_parts" spEntry) (c_PlainStore_read_cell : CalM P w K mg base (L2.CX P w) 5 A.c.S "read_cell" (spRdC A)) : FnOk P w K mg base (L2.CX P w) 6 f fd ["core", "store", "place", "write"] (spWay A) := by
  refine F.okX sc_way (fun vs H Q E h => ?_) (fun cdv A' outer s H vs Q E hr h => ⟨_, (pss_cons (ps_set (i := 4) sc_way.nd rfl (.inl rfl) (pe_calX c_entry_parts hr (by decide) (by rfl) (takes_of rfl rfl rfl rfl) (pa_cons (pe_mth (pv 1) T.cl_PlainStore c_PlainStore_read_cell hr (by decide) (psX (takes_of rfl rfl rfl rfl)) (pa_cons (pe_fld (pv 0) rfl) (pa_cons (pe_op op_fdivW (pv 2) pe_int) pa_nil))) pa_nil)))
    (pss_cons (ps_if (pt_cmpR op_isN (pv 4) pe_non (nomark _)) (pss_one (ps_ret (pe_tup (pa_cons pe_non (pa_cons (C8.pe_gc (by rfl) T.c_LEADS_NOWHERE) pa_nil))))) pss_nil)
    (pss_cons (ps_asg (pv 4) (pg_tup rfl (pgs_cons (pg_name (i := 5) sc_way.nd rfl (.inl rfl)) (pgs_cons (pg_name (i := 6) sc_way.nd rfl (.inl rfl)) pgs_nil))))
    (pss_cons (ps_if (PW.pt (pw_and (pt_val (pv 3)) (pw_and1 (pt_not (pt_val (pv 6)))))) (pss_one (ps_ret (pe_tup (pa_cons pe_non (pa_cons (C8.pe_gc (by rfl) T.c_MAY_NOT_WRITE) pa_nil))))) pss_nil)
    (pss_one (ps_ret (pe_tup (pa_cons (pv 5) (pa_cons pe_int pa_nil))))))))), ?_⟩)
  · obtain ⟨k, m, p, w, rfl, _⟩ := h
    rfl
  · obtain ⟨k, m, p, w, rfl, hP, hp, q⟩ := h
    walk_at "go"
    obtain ⟨sdx, sfs, se, sl1, sl2⟩ := hP.obS
    refine ⟨k.so, sdx, sfs, rfl, se, sl1, ?_⟩
    refine r_cons (r_co hP T T.na_Core_table (v := .int (m.tb : Nat)) rfl rfl ?_)
    walk_at "go"
    refine rn_div 8 (by decide) ?_
    walk_at "go"
    refine ⟨k, m, m.tb, p / 8, rfl, hP, hP.ok.t8, by omega, fun y s H0 mv => ?_⟩
    have le := hP.ok.ro.cel_le m.tb (p / 8)
    unfold lead at q
    generalize cel m.rs m.tb (p / 8) = e at le q ⊢
    refine ⟨e, rfl, le, fun e0 => ?_, fun e0 t H1 n1 s1 e1 => ?_⟩
    · rw [if_pos e0] at q
      walk_at "go"
      refine ⟨rfl, _, rfl, ?_⟩
      rw [decide_eq_true rfl]
      walk_at "go"
      exact newT fun t H1 n1 s1 e1 => q y s t H1 (mv.then s1) e1
    · rw [if_neg e0] at q
      walk_at "go"
      refine ⟨rfl, _, rfl, ?_⟩
      rw [decide_eq_false (fun z => nomatch z : V.ref t ≠ V.non)]
      walk_at "go"
      refine ⟨t, _, rfl, sqT e1, rfl, ?_⟩
      refine ⟨_, _, rfl, _, _, rfl, rfl, ?_⟩
      cases w with
      | false =>
        rw [if_neg (fun z => nomatch z.1 : ¬ (false = true ∧ e / 2 % 2 = 0))] at q
        walk_at "go"
        exact newT fun t2 H2 n2 s2 e2 => q y s t2 H2 (mv.then (s1.trans s2)) e2
      | true =>
        by_cases z : e / 2 % 2 = 0
        · rw [if_pos ⟨rfl, z⟩] at q
          rw [decide_eq_false (by omega : ¬ e / 2 % 2 = 1)]
          walk_at "go"
          exact newT fun t2 H2 n2 s2 e2 => q y s t2 H2 (mv.then (s1.trans s2)) e2
        · rw [if_neg (fun y => z y.2)] at q
          rw [decide_eq_true (by omega : e / 2 % 2 = 1)]
          walk_at "go"
          exact newT fun t2 H2 n2 s2 e2 => q y s t2 H2 (mv.then (s1.trans s2)) e2
theorem ok_loaded {f : Addr} {fd : FuncData} (F : Fun K "_loaded" "_loaded" s_loaded f fd) (T : Txt K mg A) (c_way : CalX P w K mg base 6 "_way" (spWay A)) (c_PlainStore_read_cell : CalM P w K mg base (L2.CX P w) 5 A.c.S "read_cell" (spRdC A)) : FnOk P w K mg base (L2.CX P w) 7 f fd ["core", "store", "which", "place"] (spLoaded A) := by
  refine F.okX sc_loaded (fun vs H Q E h => ?_) (fun cdv A' outer s H vs Q E hr h => ⟨_, (pss_cons (ps_asg (pe_calX c_way hr (by decide) (by rfl) (takes_of rfl rfl rfl rfl) (pa_cons (pv 0) (pa_cons (pv 1) (pa_cons (pv 3) (pa_cons pe_bl pa_nil))))) (pg_tup rfl (pgs_cons (pg_name (i := 4) sc_loaded.nd rfl (.inl rfl)) (pgs_cons (pg_name (i := 5) sc_loaded.nd rfl (.inl rfl)) pgs_nil))))
    (pss_cons (ps_if (pt_cmpR op_gt (pv 5) pe_int (nomark _)) (pss_one (ps_ret (pe_tup (pa_cons pe_str (pa_cons (pv 5) pa_nil))))) pss_nil)
    (pss_cons (ps_asg (pe_mth (pv 1) T.cl_PlainStore c_PlainStore_read_cell hr (by decide) (psX (takes_of rfl rfl rfl rfl)) (pa_cons (pv 4) (pa_cons (pe_op op_mod (pv 3) pe_int) pa_nil))) (pg_sub (pe_fld (pv 0) rfl) (pv 2) set_list))
    (pss_one (ps_ret (pe_tup (pa_cons pe_str (pa_cons pe_non pa_nil)))))))), ?_⟩)
  · obtain ⟨k, m, a, p, rfl, _⟩ := h
    rfl
  · obtain ⟨k, m, a, p, rfl, hP, ha, hp, q⟩ := h
    walk_at "go"
    refine ⟨k, m, p, false, rfl, hP, hp, fun y s t H1 mv1 e1 => ?_⟩
    have P1 := mv1.at_
    walk_at "go"
    refine ⟨t, _, rfl, sqT e1, by cases lead m p false <;> rfl, ?_⟩
    unfold Cm.load at q
    rcases lead_ok (m := m) (p := p) (w := false) with ⟨c, e, h1, h2⟩ | ⟨n, e, hn⟩
    · rw [e] at q e1 ⊢
      refine ⟨_, _, rfl, _, _, rfl, rfl, ?_⟩
      walk_at "go"
      rw [decide_eq_true (by omega : (0 : Int) < (c : Nat))]
      walk_at "go"
      exact newT fun t2 H2 n2 s2 e2 => q _ _ H2 (mv1.then s2) ⟨t2, _, rfl, e2, rfl⟩
    · rw [e] at q e1 ⊢
      refine ⟨_, _, rfl, _, _, rfl, rfl, ?_⟩
      walk_at "go"
      rw [show decide ((0 : Int) < 0) = false from rfl]
      walk_at "go"
      obtain ⟨sdx, sfs, se, sl1, sl2⟩ := P1.obS
      refine ⟨k.so, sdx, sfs, rfl, se, sl1, ?_⟩
      walk_at "go"
      refine rn_mod 8 (by decide) ?_
      walk_at "go"
      refine ⟨{ k with sow := y, sat := s }, m, n, p % 8, rfl, P1, hn, by omega, fun y2 s2 H1b mv2 => ?_⟩
      have mv1 := mv1.trans mv2
      have P1 := mv2.at_
      walk_at "go"
      refine r_co P1 T T.na_Core_registers (v := .ref k.rg) rfl rfl ?_
      walk_at "go"
      refine ⟨k.rg, nv m.r, _, a, rfl, rfl, P1.nm 3 _ _ rfl, ixn (by rw [nv_len, hP.ok.r4]; exact ha), ?_⟩
      rw [nv_set]
      have pr := mv1.trans (P1.reg (i := a) (P1.ok.ro.cel_le n (p % 8)))
      generalize upd H1b k.rg (.lst (nv (m.r.set a (cel m.rs n (p % 8))))) = H2 at pr ⊢
      walk_at "go"
      exact newT fun t3 H3 n3 s3 e3 => q _ _ H3 (pr.then s3) ⟨t3, _, rfl, e3, rfl⟩
theorem ok_saved {f : Addr} {fd : FuncData} (F : Fun K "_saved" "_saved" s_saved f fd) (T : Txt K mg A) (c_way : CalX P w K mg base 6 "_way" (spWay A)) (c_PlainStore_write_cell : CalM P w K mg base (L2.CX P w) 5 A.c.S "write_cell" (spWrC A)) : FnOk P w K mg base (L2.CX P w) 7 f fd ["core", "store", "which", "place"] (spSaved A) := by
  refine F.okX sc_saved (fun vs H Q E h => ?_) (fun cdv A' outer s H vs Q E hr h => ⟨_, (pss_cons (ps_asg (pe_calX c_way hr (by decide) (by rfl) (takes_of rfl rfl rfl rfl) (pa_cons (pv 0) (pa_cons (pv 1) (pa_cons (pv 3) (pa_cons pe_bl pa_nil))))) (pg_tup rfl (pgs_cons (pg_name (i := 4) sc_saved.nd rfl (.inl rfl)) (pgs_cons (pg_name (i := 5) sc_saved.nd rfl (.inl rfl)) pgs_nil))))
    (pss_cons (ps_if (pt_cmpR op_gt (pv 5) pe_int (nomark _)) (pss_one (ps_ret (pe_tup (pa_cons pe_str (pa_cons (pv 5) pa_nil))))) pss_nil)
    (pss_cons (ps_expr (pe_mth (pv 1) T.cl_PlainStore c_PlainStore_write_cell hr (by decide) (psX (takes_of rfl rfl rfl rfl)) (pa_cons (pv 4) (pa_cons (pe_op op_mod (pv 3) pe_int) (pa_cons (pe_ix ix_list (pe_fld (pv 0) rfl) (pv 2) (fun _ _ => rfl)) pa_nil)))))
    (pss_one (ps_ret (pe_tup (pa_cons pe_str (pa_cons pe_non pa_nil)))))))), ?_⟩)
  · obtain ⟨k, m, a, p, rfl, _⟩ := h
    rfl
  · obtain ⟨k, m, a, p, rfl, hP, ha, hp, q⟩ := h
    walk_at "go"
    refine ⟨k, m, p, true, rfl, hP, hp, fun y s t H1 mv1 e1 => ?_⟩
    have P1 := mv1.at_
    walk_at "go"
    refine ⟨t, _, rfl, sqT e1, by cases lead m p true <;> rfl, ?_⟩
    unfold save at q
    rcases lead_ok (m := m) (p := p) (w := true) with ⟨c, e, h1, h2⟩ | ⟨n, e, hn⟩
    · rw [e] at q e1 ⊢
      refine ⟨_, _, rfl, _, _, rfl, rfl, ?_⟩
      walk_at "go"
      rw [decide_eq_true (by omega : (0 : Int) < (c : Nat))]
      walk_at "go"
      exact newT fun t2 H2 n2 s2 e2 => q _ _ H2 (mv1.then s2) ⟨t2, _, rfl, e2, rfl⟩
    · rw [e] at q e1 ⊢
      refine ⟨_, _, rfl, _, _, rfl, rfl, ?_⟩
      walk_at "go"
      rw [show decide ((0 : Int) < 0) = false from rfl]
      walk_at "go"
      obtain ⟨sdx, sfs, se, sl1, sl2⟩ := P1.obS
      refine ⟨k.so, sdx, sfs, rfl, se, sl2, ?_⟩
      walk_at "go"
      refine rn_mod 8 (by decide) ?_
      walk_at "go"
      refine r_co P1 T T.na_Core_registers (v := .ref k.rg) rfl rfl ?_
      walk_at "go"
      refine r_ixL (sqL (P1.nm 3 _ _ rfl)) (v := .int (rg m a : Nat)) (atI_nat (nv_at (rg_at P1.ok ha))) ?_
      walk_at "go"
      refine ⟨{ k with sow := y, sat := s }, m, n, p % 8, rg m a, rfl, P1, hn, by omega, rg_le P1.ok a, fun y2 s2 H2 mv => ?_⟩
      walk_at "go"
      exact newT fun t3 H3 n3 s3 e3 => q _ _ H3 ((mv1.trans mv).then s3) ⟨t3, _, rfl, e3, rfl⟩
theorem ok_halt {f : Addr} {fd : FuncData} (F : Fun K "_halt" "_halt" s_halt f fd) (T : Txt K mg A) : FnOk P w K mg base (L2.CX P w) 9 f fd ["core", "store", "which", "rest"] (spAct A 0) := by
  refine F.okX sc_halt (fun vs H Q E h => ?_) (fun cdv A' outer s H vs Q E hr h => ⟨_, (pss_cons (ps_fld (pv 0) pe_str rfl)
    (pss_one (ps_ret (pe_tup (pa_cons pe_str (pa_cons pe_non pa_nil)))))), ?_⟩)
  · obtain ⟨k, m, n, a, b, rfl, _⟩ := h
    rfl
  · obtain ⟨k, m, n, a, b, rfl, hP, hl, hn, ha, hb, q⟩ := h
    walk_at "go"
    refine s_co hP T T.na_Core_state (v := .str St.ended.s) rfl (fun Q q => r_c q) ?_
    rw [pq_st]
    have pr := hP.core (a := m.at_) (t := m.tb) (tm := m.tm) (hd := m.hd) (bk := m.bk) (cs := m.cs) (tr := m.tr) (st := .ended) { hP.ok with }
    walk_at "go"
    exact newT fun t3 H3 n3 s3 e3 => q k _ H3 (pr.then s3) ⟨t3, _, rfl, e3, rfl⟩
theorem ok_set {f : Addr} {fd : FuncData} (F : Fun K "_set" "_set" s_set f fd) (T : Txt K mg A) : FnOk P w K mg base (L2.CX P w) 9 f fd ["core", "store", "which", "rest"] (spAct A 1) := by
  refine F.okX sc_set (fun vs H Q E h => ?_) (fun cdv A' outer s H vs Q E hr h => ⟨_, (pss_cons (ps_asg (pv 3) (pg_sub (pe_fld (pv 0) rfl) (pv 2) set_list))
    (pss_one (ps_ret (pe_tup (pa_cons pe_str (pa_cons pe_non pa_nil)))))), ?_⟩)
  · obtain ⟨k, m, n, a, b, rfl, _⟩ := h
    rfl
  · obtain ⟨k, m, n, a, b, rfl, hP, hl, hn, ha, hb, q⟩ := h
    walk_at "go"
    refine r_co hP T T.na_Core_registers (v := .ref k.rg) rfl rfl ?_
    walk_at "go"
    refine ⟨k.rg, nv m.r, _, a, rfl, rfl, hP.nm 3 _ _ rfl, ixn (by rw [nv_len, hP.ok.r4]; exact ha), ?_⟩
    rw [nv_set]
    have pr := hP.reg (i := a) (v := b) (by omega)
    generalize upd H k.rg (.lst (nv (m.r.set a b))) = H2 at pr ⊢
    walk_at "go"
    exact newT fun t3 H3 n3 s3 e3 => q k _ H3 (pr.then s3) ⟨t3, _, rfl, e3, rfl⟩
theorem ok_load {f : Addr} {fd : FuncData} (F : Fun K "_load" "_load" s_load f fd) (T : Txt K mg A) (c_loaded : CalX P w K mg base 7 "_loaded" (spLoaded A)) : FnOk P w K mg base (L2.CX P w) 9 f fd ["core", "store", "which", "rest"] (spAct A 2) := by
  refine F.okX sc_load (fun vs H Q E h => ?_) (fun cdv A' outer s H vs Q E hr h => ⟨_, (pss_one (ps_ret (pe_calX c_loaded hr (by decide) (by rfl) (takes_of rfl rfl rfl rfl) (pa_cons (pv 0) (pa_cons (pv 1) (pa_cons (pv 2) (pa_cons (pv 3) pa_nil))))))), ?_⟩)
  · obtain ⟨k, m, n, a, b, rfl, _⟩ := h
    rfl
  · obtain ⟨k, m, n, a, b, rfl, hP, hl, hn, ha, hb, q⟩ := h
    walk_at "go"
    exact ⟨k, m, a, b, rfl, hP, ha, hb, fun k' v H1 mv o => q k' v H1 mv o⟩
theorem ok_save {f : Addr} {fd : FuncData} (F : Fun K "_save" "_save" s_save f fd) (T : Txt K mg A) (c_saved : CalX P w K mg base 7 "_saved" (spSaved A)) : FnOk P w K mg base (L2.CX P w) 9 f fd ["core", "store", "which", "rest"] (spAct A 3) := by
  refine F.okX sc_save (fun vs H Q E h => ?_) (fun cdv A' outer s H vs Q E hr h => ⟨_, (pss_one (ps_ret (pe_calX c_saved hr (by decide) (by rfl) (takes_of rfl rfl rfl rfl) (pa_cons (pv 0) (pa_cons (pv 1) (pa_cons (pv 2) (pa_cons (pv 3) pa_nil))))))), ?_⟩)
  · obtain ⟨k, m, n, a, b, rfl, _⟩ := h
    rfl
  · obtain ⟨k, m, n, a, b, rfl, hP, hl, hn, ha, hb, q⟩ := h
    walk_at "go"
    exact ⟨k, m, a, b, rfl, hP, ha, hb, fun k' v H1 mv o => q k' v H1 mv o⟩
theorem ok_from {f : Addr} {fd : FuncData} (F : Fun K "_from" "_from" s_from f fd) (T : Txt K mg A) (c_loaded : CalX P w K mg base 7 "_loaded" (spLoaded A)) : FnOk P w K mg base (L2.CX P w) 9 f fd ["core", "store", "which", "rest"] (spAct A 4) := by
  refine F.okX sc_from (fun vs H Q E h => ?_) (fun cdv A' outer s H vs Q E hr h => ⟨_, (pss_one (ps_ret (pe_calX c_loaded hr (by decide) (by rfl) (takes_of rfl rfl rfl rfl) (pa_cons (pv 0) (pa_cons (pv 1) (pa_cons (pv 2) (pa_cons (pe_op op_mod (pe_ix ix_list (pe_fld (pv 0) rfl) (pe_op op_mod (pv 3) pe_int) (fun _ _ => rfl)) (C8.pe_gc (by rfl) T.c_PLACES)) pa_nil))))))), ?_⟩)
  · obtain ⟨k, m, n, a, b, rfl, _⟩ := h
    rfl
  · obtain ⟨k, m, n, a, b, rfl, hP, hl, hn, ha, hb, q⟩ := h
    walk_at "go"
    refine r_co hP T T.na_Core_registers (v := .ref k.rg) rfl rfl ?_
    walk_at "go"
    refine rn_mod 4 (by decide) ?_
    refine r_ixL (sqL (hP.nm 3 _ _ rfl)) (v := .int (rg m (b % 4) : Nat)) (atI_nat (nv_at (rg_at hP.ok (by omega)))) ?_
    walk_at "go"
    refine rn_mod 64 (by decide) ?_
    walk_at "go"
    exact ⟨k, m, a, rg m (b % 4) % 64, rfl, hP, ha, by omega, fun k' v H1 mv o => q k' v H1 mv o⟩
theorem ok_into {f : Addr} {fd : FuncData} (F : Fun K "_into" "_into" s_into f fd) (T : Txt K mg A) (c_saved : CalX P w K mg base 7 "_saved" (spSaved A)) : FnOk P w K mg base (L2.CX P w) 9 f fd ["core", "store", "which", "rest"] (spAct A 5) := by
  refine F.okX sc_into (fun vs H Q E h => ?_) (fun cdv A' outer s H vs Q E hr h => ⟨_, (pss_one (ps_ret (pe_calX c_saved hr (by decide) (by rfl) (takes_of rfl rfl rfl rfl) (pa_cons (pv 0) (pa_cons (pv 1) (pa_cons (pv 2) (pa_cons (pe_op op_mod (pe_ix ix_list (pe_fld (pv 0) rfl) (pe_op op_mod (pv 3) pe_int) (fun _ _ => rfl)) (C8.pe_gc (by rfl) T.c_PLACES)) pa_nil))))))), ?_⟩)
  · obtain ⟨k, m, n, a, b, rfl, _⟩ := h
    rfl
  · obtain ⟨k, m, n, a, b, rfl, hP, hl, hn, ha, hb, q⟩ := h
    walk_at "go"
    refine r_co hP T T.na_Core_registers (v := .ref k.rg) rfl rfl ?_
    walk_at "go"
    refine rn_mod 4 (by decide) ?_
    refine r_ixL (sqL (hP.nm 3 _ _ rfl)) (v := .int (rg m (b % 4) : Nat)) (atI_nat (nv_at (rg_at hP.ok (by omega)))) ?_
    walk_at "go"
    refine rn_mod 64 (by decide) ?_
    walk_at "go"
    exact ⟨k, m, a, rg m (b % 4) % 64, rfl, hP, ha, by omega, fun k' v H1 mv o => q k' v H1 mv o⟩
end
end K15

namespace K15
open PySem PySem.Spec PyProof.Rows L2 Bk Rm Cm


theorem nv_app {l : List Nat} {x : Nat} : nv l ++ [.int (x : Nat)] = nv (l ++ [x]) := by unfold nv; rw [List.map_append]; rfl
theorem di0 {x : Nat} : decide (V.int ((x : Nat) : Int) = V.int 0) = decide (x = 0) := decide_eq_decide.mpr ⟨fun z => by injection z with z; omega, fun z => by rw [z]; rfl⟩
section
variable {P : Program} {w : World} {K : PySem.W.Frag} {mg : Str → Option Value} {base : Heap} {A : Ad}
theorem r_reg {H : Hp} {Q : VK} {k : Cq} {m : M} (hP : QAt A.c H k m) {i : Nat} (hi : i < 4) (q : Q (.int (rg m i : Nat)) H) : rIxL K (.ref k.rg) (.int (i : Nat)) H Q :=
  r_ixL (sqL (hP.nm 3 _ _ rfl)) (atI_nat (nv_at (rg_at hP.ok hi))) q
theorem ok_add {f : Addr} {fd : FuncData} (F : Fun K "_add" "_add" s_add f fd) (T : Txt K mg A) (c_sum_of : CalX P w K mg base 6 "sum_of" spSum) : FnOk P w K mg base (L2.CX P w) 9 f fd ["core", "store", "which", "rest"] (spAct A 6) := by
  refine F.okX sc_add (fun vs H Q E h => ?_) (fun cdv A' outer s H vs Q E hr h => ⟨_, (pss_cons (ps_asg (pe_calX c_sum_of hr (by decide) (by rfl) (takes_of rfl rfl rfl rfl) (pa_cons (pe_ix ix_list (pe_fld (pv 0) rfl) (pv 2) (fun _ _ => rfl)) (pa_cons (pe_ix ix_list (pe_fld (pv 0) rfl) (pe_op op_mod (pv 3) pe_int) (fun _ _ => rfl)) pa_nil))) (pg_sub (pe_fld (pv 0) rfl) (pv 2) set_list))
    (pss_one (ps_ret (pe_tup (pa_cons pe_str (pa_cons pe_non pa_nil)))))), ?_⟩)
  · obtain ⟨k, m, n, a, b, rfl, _⟩ := h
    rfl
  · obtain ⟨k, m, n, a, b, rfl, hP, hl, hn, ha, hb, q⟩ := h
    walk_at "go"
    refine r_co hP T T.na_Core_registers (v := .ref k.rg) rfl rfl ?_
    walk_at "go"
    refine r_reg hP ha ?_
    refine r_cons (r_op ?_)
    refine r_co hP T T.na_Core_registers (v := .ref k.rg) rfl rfl ?_
    walk_at "go"
    refine rn_mod 4 (by decide) ?_
    refine r_reg hP (by omega) ?_
    walk_at "go"
    refine ⟨rg m a, rg m (b % 4), rfl, rg_le hP.ok a, rg_le hP.ok _, ?_⟩
    walk_at "go"
    refine r_co hP T T.na_Core_registers (v := .ref k.rg) rfl rfl ?_
    walk_at "go"
    refine ⟨k.rg, nv m.r, _, a, rfl, rfl, hP.nm 3 _ _ rfl, ixn (by rw [nv_len, hP.ok.r4]; exact ha), ?_⟩
    rw [nv_set]
    have pr := hP.reg (i := a) (v := (rg m a + rg m (b % 4)) % 4096) (by omega)
    generalize upd H k.rg (.lst (nv (m.r.set a ((rg m a + rg m (b % 4)) % 4096)))) = H2 at pr ⊢
    walk_at "go"
    exact newT fun t3 H3 n3 s3 e3 => q k _ H3 (pr.then s3) ⟨t3, _, rfl, e3, rfl⟩
theorem ok_sub {f : Addr} {fd : FuncData} (F : Fun K "_sub" "_sub" s_sub f fd) (T : Txt K mg A) (c_difference : CalX P w K mg base 6 "difference" spDiff) : FnOk P w K mg base (L2.CX P w) 9 f fd ["core", "store", "which", "rest"] (spAct A 7) := by
  refine F.okX sc_sub (fun vs H Q E h => ?_) (fun cdv A' outer s H vs Q E hr h => ⟨_, (pss_cons (ps_asg (pe_calX c_difference hr (by decide) (by rfl) (takes_of rfl rfl rfl rfl) (pa_cons (pe_ix ix_list (pe_fld (pv 0) rfl) (pv 2) (fun _ _ => rfl)) (pa_cons (pe_ix ix_list (pe_fld (pv 0) rfl) (pe_op op_mod (pv 3) pe_int) (fun _ _ => rfl)) pa_nil))) (pg_sub (pe_fld (pv 0) rfl) (pv 2) set_list))
    (pss_one (ps_ret (pe_tup (pa_cons pe_str (pa_cons pe_non pa_nil)))))), ?_⟩)
  · obtain ⟨k, m, n, a, b, rfl, _⟩ := h
    rfl
  · obtain ⟨k, m, n, a, b, rfl, hP, hl, hn, ha, hb, q⟩ := h
    walk_at "go"
    refine r_co hP T T.na_Core_registers (v := .ref k.rg) rfl rfl ?_
    walk_at "go"
    refine r_reg hP ha ?_
    refine r_cons (r_op ?_)
    refine r_co hP T T.na_Core_registers (v := .ref k.rg) rfl rfl ?_
    walk_at "go"
    refine rn_mod 4 (by decide) ?_
    refine r_reg hP (by omega) ?_
    walk_at "go"
    refine ⟨rg m a, rg m (b % 4), rfl, rg_le hP.ok a, rg_le hP.ok _, ?_⟩
    walk_at "go"
    refine r_co hP T T.na_Core_registers (v := .ref k.rg) rfl rfl ?_
    walk_at "go"
    refine ⟨k.rg, nv m.r, _, a, rfl, rfl, hP.nm 3 _ _ rfl, ixn (by rw [nv_len, hP.ok.r4]; exact ha), ?_⟩
    rw [nv_set]
    have pr := hP.reg (i := a) (v := (rg m a + 4096 - rg m (b % 4)) % 4096) (by omega)
    generalize upd H k.rg (.lst (nv (m.r.set a ((rg m a + 4096 - rg m (b % 4)) % 4096)))) = H2 at pr ⊢
    walk_at "go"
    exact newT fun t3 H3 n3 s3 e3 => q k _ H3 (pr.then s3) ⟨t3, _, rfl, e3, rfl⟩
theorem ok_part {f : Addr} {fd : FuncData} (F : Fun K "_part" "_part" s_part f fd) (T : Txt K mg A) (c_divided : CalX P w K mg base 6 "divided" spDivd) : FnOk P w K mg base (L2.CX P w) 9 f fd ["core", "store", "which", "rest"] (spAct A 8) := by
  refine F.okX sc_part (fun vs H Q E h => ?_) (fun cdv A' outer s H vs Q E hr h => ⟨_, (pss_cons (ps_set (i := 4) sc_part.nd rfl (.inl rfl) (pe_ix ix_list (pe_fld (pv 0) rfl) (pe_op op_mod (pv 3) pe_int) (fun _ _ => rfl)))
    (pss_cons (ps_if (pt_cmpR op_eq (pv 4) pe_int (nomark _)) (pss_one (ps_ret (pe_tup (pa_cons pe_str (pa_cons (C8.pe_gc (by rfl) T.c_BY_NOUGHT) pa_nil))))) pss_nil)
    (pss_cons (ps_asg (pe_calX c_divided hr (by decide) (by rfl) (takes_of rfl rfl rfl rfl) (pa_cons (pe_ix ix_list (pe_fld (pv 0) rfl) (pv 2) (fun _ _ => rfl)) (pa_cons (pv 4) pa_nil))) (pg_tup rfl (pgs_cons (pg_name (i := 5) sc_part.nd rfl (.inl rfl)) (pgs_cons (pg_name (i := 6) sc_part.nd rfl (.inl rfl)) pgs_nil))))
    (pss_cons (ps_asg (pv 5) (pg_sub (pe_fld (pv 0) rfl) (pv 2) set_list))
    (pss_cons (ps_asg (pv 6) (pg_sub (pe_fld (pv 0) rfl) (pe_op op_mod (pv 3) pe_int) set_list))
    (pss_one (ps_ret (pe_tup (pa_cons pe_str (pa_cons pe_non pa_nil)))))))))), ?_⟩)
  · obtain ⟨k, m, n, a, b, rfl, _⟩ := h
    rfl
  · obtain ⟨k, m, n, a, b, rfl, hP, hl, hn, ha, hb, q⟩ := h
    have b4 : b % 4 < 4 := by omega
    walk_at "go"
    refine r_co hP T T.na_Core_registers (v := .ref k.rg) rfl rfl ?_
    walk_at "go"
    refine rn_mod 4 (by decide) ?_
    refine r_reg hP b4 ?_
    have ex : exec m 8 a b = Cm.part m a (b % 4) := rfl
    rw [ex] at q
    unfold Cm.part at q
    walk_at "go"
    rw [show decide (V.int ((rg m (b % 4) : Nat) : Int) = V.int 0) = decide (rg m (b % 4) = 0) from decide_eq_decide.mpr ⟨fun z => by injection z with z; omega, fun z => by rw [z]; rfl⟩]
    refine ite2 (fun e => ?_) (fun e => ?_)
    · rw [if_pos (of_decide_eq_true e)] at q
      walk_at "go"
      exact newT fun t3 H3 n3 s3 e3 => q k _ H3 (QMv.same hP s3) ⟨t3, _, rfl, e3, rfl⟩
    · have e := of_decide_eq_false (Bool.not_eq_true _ ▸ e)
      rw [if_neg e] at q
      walk_at "go"
      refine r_co hP T T.na_Core_registers (v := .ref k.rg) rfl rfl ?_
      walk_at "go"
      refine r_reg hP ha ?_
      walk_at "go"
      refine ⟨rg m a, rg m (b % 4), rfl, rg_le hP.ok a, rg_le hP.ok _, e, fun t H1 n1 s1 e1 => ?_⟩
      have P1 := hP.same s1
      walk_at "go"
      refine ⟨t, _, rfl, sqT e1, rfl, ?_⟩
      refine ⟨_, _, rfl, _, _, rfl, rfl, ?_⟩
      walk_at "go"
      refine r_co P1 T T.na_Core_registers (v := .ref k.rg) rfl rfl ?_
      walk_at "go"
      refine ⟨k.rg, nv m.r, _, a, rfl, rfl, P1.nm 3 _ _ rfl, ixn (by rw [nv_len, hP.ok.r4]; exact ha), ?_⟩
      rw [nv_set]
      have pr := (QMv.same hP s1).trans (P1.reg (i := a) (v := rg m a / rg m (b % 4)) (Nat.le_trans (Nat.div_le_self _ _) (rg_le hP.ok a)))
      generalize upd H1 k.rg (.lst (nv (m.r.set a (rg m a / rg m (b % 4))))) = H2 at pr ⊢
      have P2 := pr.at_
      walk_at "go"
      refine r_co P2 T T.na_Core_registers (v := .ref k.rg) rfl rfl ?_
      walk_at "go"
      refine rn_mod 4 (by decide) ?_
      refine ⟨k.rg, nv (m.setr a (rg m a / rg m (b % 4))).r, _, b % 4, rfl, rfl, P2.nm 3 _ _ rfl, ixn (by rw [nv_len, P2.ok.r4]; exact b4), ?_⟩
      rw [nv_set]
      have pr2 := pr.trans (P2.reg (i := b % 4) (v := rg m a % rg m (b % 4)) (Nat.le_trans (Nat.mod_le _ _) (rg_le hP.ok a)))
      generalize upd H2 k.rg (.lst (nv ((m.setr a (rg m a / rg m (b % 4))).r.set (b % 4) (rg m a % rg m (b % 4))))) = H4 at pr2 ⊢
      walk_at "go"
      exact newT fun t3 H3 n3 s3 e3 => q k _ H3 (pr2.then s3) ⟨t3, _, rfl, e3, rfl⟩
theorem ok_jump {f : Addr} {fd : FuncData} (F : Fun K "_jump" "_jump" s_jump f fd) (T : Txt K mg A) : FnOk P w K mg base (L2.CX P w) 9 f fd ["core", "store", "which", "rest"] (spAct A 9) := by
  refine F.okX sc_jump (fun vs H Q E h => ?_) (fun cdv A' outer s H vs Q E hr h => ⟨_, (pss_cons (ps_set (i := 4) sc_jump.nd rfl (.inl rfl) (pe_ix ix_list (pe_fld (pv 0) rfl) pe_int (fun _ _ => rfl)))
    (pss_cons (ps_set (i := 5) sc_jump.nd rfl (.inl rfl) (pe_lstB (pa_cons pe_bl (pa_cons (pe_cmpR op_eq (pv 4) pe_int (nomark _)) (pa_cons (pe_cmpR op_ne (pv 4) pe_int (nomark _)) (pa_cons (pe_cmpR op_lt (pv 4) (pe_ix ix_list (pe_fld (pv 0) rfl) pe_int (fun _ _ => rfl)) (nomark _)) pa_nil))))))
    (pss_one (ps_ret (pe_ifExp (pt_val (pe_ix ix_list (pv 5) (pv 2) (fun _ _ => rfl))) (pe_tup (pa_cons pe_str (pa_cons (pv 3) pa_nil))) (pe_tup (pa_cons pe_str (pa_cons pe_non pa_nil)))))))), ?_⟩)
  · obtain ⟨k, m, n, a, b, rfl, _⟩ := h
    rfl
  · obtain ⟨k, m, n, a, b, rfl, hP, hl, hn, ha, hb, q⟩ := h
    have ex : exec m 9 a b = Cm.jump m a b := rfl
    rw [ex] at q
    unfold Cm.jump at q
    walk_at "go"
    refine r_co hP T T.na_Core_registers (v := .ref k.rg) rfl rfl ?_
    walk_at "go"
    refine r_reg hP (i := 0) (by decide) ?_
    walk_at "go"
    refine r_co hP T T.na_Core_registers (v := .ref k.rg) rfl rfl ?_
    walk_at "go"
    refine r_reg hP (i := 1) (by decide) ?_
    walk_at "go"
    refine newLB fun la H1 n1 g1 s1 e1 => ?_
    walk_at "go"
    have eb : [V.bl true, V.bl (decide (V.int ((rg m 0 : Nat) : Int) = V.int 0)), V.bl !decide (V.int ((rg m 0 : Nat) : Int) = V.int 0), V.bl (decide (((rg m 0 : Nat) : Int) < ((rg m 1 : Nat) : Int)))][a]? = some (.bl ([true, decide (rg m 0 = 0), !decide (rg m 0 = 0), decide (rg m 0 < rg m 1)].getD a false)) := by
      rw [di0, show decide (((rg m 0 : Nat) : Int) < ((rg m 1 : Nat) : Int)) = decide (rg m 0 < rg m 1) from decide_eq_decide.mpr Int.ofNat_lt]
      obtain rfl | rfl | rfl | rfl : a = 0 ∨ a = 1 ∨ a = 2 ∨ a = 3 := by omega
      · rfl
      · rfl
      · rfl
      · rfl
    generalize [true, decide (rg m 0 = 0), !decide (rg m 0 = 0), decide (rg m 0 < rg m 1)].getD a false = bv at eb q
    refine r_ixL (sqL e1) (v := .bl bv) (atI_nat eb) ?_
    cases bv with
    | true =>
      rw [if_pos rfl] at q
      walk_at "go"
      exact newT fun t3 H3 n3 s3 e3 => q k _ H3 (QMv.same hP (s1.trans s3)) ⟨t3, _, rfl, e3, rfl⟩
    | false =>
      rw [if_neg Bool.false_ne_true] at q
      walk_at "go"
      exact newT fun t3 H3 n3 s3 e3 => q k _ H3 (QMv.same hP (s1.trans s3)) ⟨t3, _, rfl, e3, rfl⟩
theorem ok_base {f : Addr} {fd : FuncData} (F : Fun K "_base" "_base" s_base f fd) (T : Txt K mg A) : FnOk P w K mg base (L2.CX P w) 9 f fd ["core", "store", "which", "rest"] (spAct A 10) := by
  refine F.okX sc_base (fun vs H Q E h => ?_) (fun cdv A' outer s H vs Q E hr h => ⟨_, (pss_cons (ps_fld (pv 0) (pe_op op_mod (pe_ix ix_list (pe_fld (pv 0) rfl) (pv 2) (fun _ _ => rfl)) pe_int) rfl)
    (pss_one (ps_ret (pe_tup (pa_cons pe_str (pa_cons pe_non pa_nil)))))), ?_⟩)
  · obtain ⟨k, m, n, a, b, rfl, _⟩ := h
    rfl
  · obtain ⟨k, m, n, a, b, rfl, hP, hl, hn, ha, hb, q⟩ := h
    walk_at "go"
    refine s_co hP T T.na_Core_table (v := .int (rg m a % 8 : Nat)) rfl (fun Q q => ?_) ?_
    · refine r_op (r_op ?_)
      refine r_co hP T T.na_Core_registers (v := .ref k.rg) rfl rfl ?_
      walk_at "go"
      refine r_reg hP ha ?_
      walk_at "go"
      exact rn_mod 8 (by decide) q
    rw [pq_tb]
    have pr := hP.core (a := m.at_) (t := rg m a % 8) (tm := m.tm) (hd := m.hd) (bk := m.bk) (cs := m.cs) (tr := m.tr) (st := m.st) { hP.ok with t8 := Nat.mod_lt _ (by decide) }
    walk_at "go"
    exact newT fun t3 H3 n3 s3 e3 => q k _ H3 (pr.then s3) ⟨t3, _, rfl, e3, rfl⟩
theorem ok_trap {f : Addr} {fd : FuncData} (F : Fun K "_trap" "_trap" s_trap f fd) (T : Txt K mg A) : FnOk P w K mg base (L2.CX P w) 9 f fd ["core", "store", "which", "rest"] (spAct A 11) := by
  refine F.okX sc_trap (fun vs H Q E h => ?_) (fun cdv A' outer s H vs Q E hr h => ⟨_, (pss_cons (ps_if (pt_cmpR op_eq (pv 2) pe_int (nomark _)) (pss_one (ps_ret (pe_tup (pa_cons pe_str (pa_cons (C8.pe_gc (by rfl) T.c_CALLED) pa_nil))))) pss_nil)
    (pss_cons (ps_if (pt_cmpR op_eq (pv 2) pe_int (nomark _)) (pss_cons (ps_fld (pv 0) pe_bl rfl)
    (pss_one (ps_ret (pe_tup (pa_cons pe_str (pa_cons (pe_fld (pv 0) rfl) pa_nil)))))) pss_nil)
    (pss_cons (ps_if (pt_cmpR op_eq (pv 2) pe_int (nomark _)) (pss_one (ps_fld (pv 0) (pv 3) rfl)) (pss_one (ps_asg (pe_fld (pv 0) rfl) (pg_sub (pe_fld (pv 0) rfl) (pe_op op_mod (pv 3) pe_int) set_list))))
    (pss_one (ps_ret (pe_tup (pa_cons pe_str (pa_cons pe_non pa_nil)))))))), ?_⟩)
  · obtain ⟨k, m, n, a, b, rfl, _⟩ := h
    rfl
  · obtain ⟨k, m, n, a, b, rfl, hP, hl, hn, ha, hb, q⟩ := h
    have ex : exec m 11 a b = traps m a b := rfl
    rw [ex] at q
    obtain rfl | rfl | rfl | rfl : a = 0 ∨ a = 1 ∨ a = 2 ∨ a = 3 := by omega
    · walk_at "go"
      rw [show decide (V.int ((0 : Nat) : Int) = V.int 3) = false from rfl]
      walk_at "go"
      rw [show decide (V.int ((0 : Nat) : Int) = V.int 1) = false from rfl]
      walk_at "go"
      rw [show decide (V.int ((0 : Nat) : Int) = V.int 0) = true from rfl]
      walk_at "go"
      refine s_co hP T T.na_Core_handler (v := .int (b : Nat)) rfl (fun Q q => r_var rfl q) ?_
      rw [pq_hd]
      have pr := hP.core (a := m.at_) (t := m.tb) (tm := m.tm) (hd := b) (bk := m.bk) (cs := m.cs) (tr := m.tr) (st := m.st) { hP.ok with h64 := hb }
      walk_at "go"
      exact newT fun t3 H3 n3 s3 e3 => q k _ H3 (pr.then s3) ⟨t3, _, rfl, e3, rfl⟩
    · walk_at "go"
      rw [show decide (V.int ((1 : Nat) : Int) = V.int 3) = false from rfl]
      walk_at "go"
      rw [show decide (V.int ((1 : Nat) : Int) = V.int 1) = true from rfl]
      walk_at "go"
      refine s_co hP T T.na_Core_trapped (v := .bl false) rfl (fun Q q => r_c q) ?_
      rw [pq_tr]
      have pr := hP.core (a := m.at_) (t := m.tb) (tm := m.tm) (hd := m.hd) (bk := m.bk) (cs := m.cs) (tr := false) (st := m.st) { hP.ok with }
      have P2 := pr.at_
      walk_at "go"
      refine r_co P2 T T.na_Core_back_to (v := .int (m.bk : Nat)) rfl rfl ?_
      walk_at "go"
      exact newT fun t3 H3 n3 s3 e3 => q k _ H3 (pr.then s3) ⟨t3, _, rfl, e3, rfl⟩
    · walk_at "go"
      rw [show decide (V.int ((2 : Nat) : Int) = V.int 3) = false from rfl]
      walk_at "go"
      rw [show decide (V.int ((2 : Nat) : Int) = V.int 1) = false from rfl]
      walk_at "go"
      rw [show decide (V.int ((2 : Nat) : Int) = V.int 0) = false from rfl]
      walk_at "go"
      refine r_co hP T T.na_Core_cause (v := .int (m.cs : Nat)) rfl rfl ?_
      walk_at "go"
      refine r_co hP T T.na_Core_registers (v := .ref k.rg) rfl rfl ?_
      walk_at "go"
      refine rn_mod 4 (by decide) ?_
      refine ⟨k.rg, nv m.r, _, b % 4, rfl, rfl, hP.nm 3 _ _ rfl, ixn (by rw [nv_len, hP.ok.r4]; omega), ?_⟩
      rw [nv_set]
      have pr := hP.reg (i := b % 4) (v := m.cs) (by have := hP.ok.c4; omega)
      generalize upd H k.rg (.lst (nv (m.r.set (b % 4) m.cs))) = H2 at pr ⊢
      walk_at "go"
      exact newT fun t3 H3 n3 s3 e3 => q k _ H3 (pr.then s3) ⟨t3, _, rfl, e3, rfl⟩
    · walk_at "go"
      rw [show decide (V.int ((3 : Nat) : Int) = V.int 3) = true from rfl]
      walk_at "go"
      exact newT fun t3 H3 n3 s3 e3 => q k _ H3 (QMv.same hP s3) ⟨t3, _, rfl, e3, rfl⟩
theorem ok_clock {f : Addr} {fd : FuncData} (F : Fun K "_clock" "_clock" s_clock f fd) (T : Txt K mg A) : FnOk P w K mg base (L2.CX P w) 9 f fd ["core", "store", "which", "rest"] (spAct A 12) := by
  refine F.okX sc_clock (fun vs H Q E h => ?_) (fun cdv A' outer s H vs Q E hr h => ⟨_, (pss_cons (ps_set (i := 4) sc_clock.nd rfl (.inl rfl) (pe_ifExp (pt_cmpR op_eq (pe_op op_mod (pv 3) pe_int) pe_int (nomark _)) (pe_fld (pv 0) rfl) (pe_op op_fdivW (pe_fld (pv 0) rfl) (C8.pe_gc (by rfl) T.c_WORDS))))
    (pss_cons (ps_asg (pe_op op_mod (pv 4) (C8.pe_gc (by rfl) T.c_WORDS)) (pg_sub (pe_fld (pv 0) rfl) (pv 2) set_list))
    (pss_one (ps_ret (pe_tup (pa_cons pe_str (pa_cons (pe_op op_mod (pv 4) (C8.pe_gc (by rfl) T.c_WORDS)) pa_nil))))))), ?_⟩)
  · obtain ⟨k, m, n, a, b, rfl, _⟩ := h
    rfl
  · obtain ⟨k, m, n, a, b, rfl, hP, hl, hn, ha, hb, q⟩ := h
    walk_at "go"
    refine rn_mod 2 (by decide) ?_
    walk_at "go"
    have ex : exec m 12 a b = Cm.clock m a b := rfl
    rw [ex] at q
    unfold Cm.clock at q
    rw [di0]
    by_cases z : b % 2 = 0
    · rw [decide_eq_true z, if_pos rfl]
      rw [if_pos z] at q
      refine r_co hP T T.na_Core_time (v := .int (m.tm : Nat)) rfl rfl ?_
      walk_at "go"
      refine rn_mod 4096 (by decide) ?_
      walk_at "go"
      refine r_co hP T T.na_Core_registers (v := .ref k.rg) rfl rfl ?_
      walk_at "go"
      refine ⟨k.rg, nv m.r, _, a, rfl, rfl, hP.nm 3 _ _ rfl, ixn (by rw [nv_len, hP.ok.r4]; exact ha), ?_⟩
      rw [nv_set]
      have pr := hP.reg (i := a) (v := m.tm % 4096) (by omega)
      generalize upd H k.rg (.lst (nv (m.r.set a (m.tm % 4096)))) = H2 at pr ⊢
      walk_at "go"
      refine rn_mod 4096 (by decide) ?_
      walk_at "go"
      exact newT fun t3 H3 n3 s3 e3 => q k _ H3 (pr.then s3) ⟨t3, _, rfl, e3, rfl⟩
    · rw [decide_eq_false z, if_neg Bool.false_ne_true]
      rw [if_neg z] at q
      walk_at "go"
      refine r_co hP T T.na_Core_time (v := .int (m.tm : Nat)) rfl rfl ?_
      walk_at "go"
      refine rn_div 4096 (by decide) ?_
      walk_at "go"
      refine rn_mod 4096 (by decide) ?_
      walk_at "go"
      refine r_co hP T T.na_Core_registers (v := .ref k.rg) rfl rfl ?_
      walk_at "go"
      refine ⟨k.rg, nv m.r, _, a, rfl, rfl, hP.nm 3 _ _ rfl, ixn (by rw [nv_len, hP.ok.r4]; exact ha), ?_⟩
      rw [nv_set]
      have pr := hP.reg (i := a) (v := m.tm / 4096 % 4096) (by omega)
      generalize upd H k.rg (.lst (nv (m.r.set a (m.tm / 4096 % 4096)))) = H2 at pr ⊢
      walk_at "go"
      refine rn_mod 4096 (by decide) ?_
      walk_at "go"
      exact newT fun t3 H3 n3 s3 e3 => q k _ H3 (pr.then s3) ⟨t3, _, rfl, e3, rfl⟩
end
end K15

namespace K15
open PySem PySem.Spec PyProof.Rows L2 Bk Rm Cm


section
variable {P : Program} {w : World} {K : PySem.W.Frag} {mg : Str → Option Value} {base : Heap} {A : Ad}
theorem ok_dask {f : Addr} {fd : FuncData} (F : Fun K "ask" "Disk.ask" s_Disk_ask f fd) (T : Txt K mg A) : FnOk P w K mg base CX0 5 f fd ["self", "kind", "block", "room", "due"] (spDAsk A) := by
  refine F.ok sc_Disk_ask (fun vs H Q E h => ?_) (fun cdv A' outer s H vs Q E hr h => have hu := units1 hr; ⟨_, (pss_cons (ps_if (pt_cmpR op_eq (pe_callB call_len_seq (by rfl) T.m_len (by decide +kernel) (pa_cons (pe_fld (pv 0) rfl) pa_nil)) (C8.pe_gc (by rfl) T.c_MOST_ASKS) (nomark _)) (pss_one (ps_ret pe_non)) pss_nil)
    (pss_cons (ps_set (i := 5) sc_Disk_ask.nd rfl (.inl rfl) (pe_fld (pv 0) rfl))
    (pss_cons (ps_expr (pe_bm PySem.F.plainAttrs_list PySem.F.slot_list_append PySem.F.type_list_append mt_append (pe_fld (pv 0) rfl) (pa_cons (pe_tup (pa_cons (pv 5) (pa_cons (pv 1) (pa_cons (pv 2) (pa_cons (pv 3) (pa_cons (pv 4) pa_nil)))))) pa_nil)))
    (pss_cons (ps_fldaug (pv 0) pe_int in_add)
    (pss_one (ps_ret (pe_tup (pa_cons (pv 5) (pa_cons (pv 1) (pa_cons (pv 2) (pa_cons (pv 3) pa_nil))))))))))), ?_⟩)
  · obtain ⟨k, m, n, wr, b, r, rfl, _⟩ := h
    rfl
  · obtain ⟨k, m, n, wr, b, r, rfl, hP, hb, hr, q⟩ := h
    have le8 := hP.ok.a8
    have tl : (k.ts.map V.ref).length = m.as.length := (List.length_map _).trans hP.av.1
    walk_at "go"
    refine r_di hP T T.na_Disk_asks (v := .ref k.al) rfl rfl ?_
    walk_at "go"
    refine ⟨k.al, _, rfl, .inl (sqL (hP.nm 9 _ _ rfl)), ?_⟩
    rw [tl]
    walk_at "go"
    unfold askM at q
    by_cases z : m.as.length = 8
    · rw [if_pos (by omega), if_pos (by omega)] at q
      rw [z, show decide (V.int ((8 : Nat) : Int) = V.int 8) = true from decide_eq_true rfl]
      walk_at "go"
      exact q k _ H (QMv.refl hP) rfl
    · rw [if_neg (by omega), if_neg (by omega)] at q
      rw [decide_eq_false (fun y => z (by injection y with y; omega) : ¬ V.int ((m.as.length : Nat) : Int) = V.int 8)]
      walk_at "go"
      refine r_di hP T T.na_Disk_made (v := .int (m.mq : Nat)) rfl rfl ?_
      walk_at "go"
      refine r_di hP T T.na_Disk_asks (v := .ref k.al) rfl rfl ?_
      walk_at "go"
      refine ⟨.inl ⟨rfl, _, sqL (hP.nm 9 _ _ rfl)⟩, ?_⟩
      walk_at "go"
      refine newT fun t H1 n1 s1 e1 => ?_
      have P1 := hP.same s1
      walk_at "go"
      refine ⟨k.al, _, _, rfl, rfl, P1.nm 9 _ _ rfl, by rw [tl]; exact Nat.lt_of_le_of_lt le8 (by rw [sizeLine_eq]; decide), ?_⟩
      have ok' : M.Ok { m with as := m.as ++ [⟨m.mq, wr, b, r, m.tm + 6⟩] } := { hP.ok with
        a8 := by
          show (m.as ++ _).length ≤ 8
          rw [List.length_append, List.length_singleton]
          omega
        ao := fun x hx => by
          rcases List.mem_append.mp hx with z | z
          · exact hP.ok.ao x z
          · rw [List.mem_singleton.mp z]
            exact ⟨hb, hr, Nat.le_refl _⟩ }
      have pr := (QMv.same hP s1).trans (P1.upd1 9 (k' := { k with ts := k.ts ++ [t] }) (m' := { m with as := m.as ++ [⟨m.mq, wr, b, r, m.tm + 6⟩] }) (u := .lst (k.ts.map V.ref)) (v := .lst (k.ts.map V.ref ++ [.ref t])) rfl ok' (by unfold factsQ; simp only [List.map_append, List.map_cons, List.map_nil]; rfl) rfl ⟨rfl, rfl⟩ P1.sv (P1.av.push e1) rfl ⟨rfl, rfl, rfl⟩ rfl)
      generalize upd H1 k.al (.lst (k.ts.map V.ref ++ [.ref t])) = H2 at pr ⊢
      have P2 := pr.at_
      walk_at "go"
      refine ⟨_, rfl, k.dk, A.c.D, k.dxd, DQ { k with ts := k.ts ++ [t] } m, .int (m.mq : Nat), rfl, P2.nm 1 _ _ rfl, T.cl_Disk, T.na_Disk_made, rfl, ?_⟩
      walk_at "go"
      refine ⟨_, _, rfl, rfl, ?_⟩
      refine ⟨k.dxd, DQ { k with ts := k.ts ++ [t] } m, P2.nm 1 _ _ rfl, by show 4 < 1000; decide, ?_⟩
      rw [show V.int ((m.mq : Nat) + 1 : Int) = V.int ((m.mq + 1 : Nat) : Int) from rfl, pq_mq]
      have pr2 := pr.trans (P2.upd1 1 (k' := { k with ts := k.ts ++ [t] }) (m' := { m with as := m.as ++ [⟨m.mq, wr, b, r, m.tm + 6⟩], mq := m.mq + 1 }) (v := .ins A.c.D k.dxd (DQ { k with ts := k.ts ++ [t] } { m with mq := m.mq + 1 })) rfl { ok' with } rfl rfl ⟨rfl, rfl⟩ P2.sv P2.av rfl ⟨rfl, rfl, rfl⟩ rfl)
      generalize upd H2 k.dk _ = H3 at pr2 ⊢
      walk_at "go"
      exact newT fun t2 H4 n2 s2 e2 => q _ _ H4 (pr2.then s2) ⟨t2, rfl, e2⟩
theorem ok_dasks {f : Addr} {fd : FuncData} (F : Fun K "asks" "Disk.asks" s_Disk_asks f fd) (T : Txt K mg A) : FnOk P w K mg base CX0 5 f fd ["self"] (spAsks A) := by
  refine F.ok sc_Disk_asks (fun vs H Q E h => ?_) (fun cdv A' outer s H vs Q E hr h => have hu := units1 hr; ⟨_, (pss_one (ps_ret (pe_callTy call_list_of (by rfl) T.m_list (by decide +kernel) (pa_cons (pe_fld (pv 0) rfl) pa_nil)))), ?_⟩)
  · obtain ⟨k, m, rfl, _⟩ := h
    rfl
  · obtain ⟨k, m, rfl, hP, q⟩ := h
    walk_at "go"
    refine rc_di hP T T.na_Disk_asks (v := .ref k.al) rfl rfl ?_
    walk_at "go"
    exact ⟨k.al, _, rfl, .inl (sqL (hP.nm 9 _ _ rfl)), fun l hl => q l _ hl (same_upd hl) upd_same⟩
theorem ok_ddone {f : Addr} {fd : FuncData} (F : Fun K "asks_done" "Disk.asks_done" s_Disk_asks_done f fd) (T : Txt K mg A) : FnOk P w K mg base CX0 5 f fd ["self"] (spDone A) := by
  refine F.ok sc_Disk_asks_done (fun vs H Q E h => ?_) (fun cdv A' outer s H vs Q E hr h => have hu := units1 hr; ⟨_, (pss_one (ps_ret (pe_fld (pv 0) rfl))), ?_⟩)
  · obtain ⟨k, m, rfl, _⟩ := h
    rfl
  · obtain ⟨k, m, rfl, hP, q⟩ := h
    walk_at "go"
    exact rc_di hP T T.na_Disk_done (v := .int (m.dn : Nat)) rfl rfl q
theorem ok_out {f : Addr} {fd : FuncData} (F : Fun K "_out" "_out" s_out f fd) (T : Txt K mg A) (c_Disk_ask : CalM P w K mg base CX0 5 A.c.D "ask" (spDAsk A)) : FnOk P w K mg base (L2.CX P w) 9 f fd ["core", "store", "which", "rest"] (spAct A 13) := by
  refine F.okX sc_out (fun vs H Q E h => ?_) (fun cdv A' outer s H vs Q E hr h => have hu := units1 hr; ⟨_, (pss_cons (ps_set (i := 4) sc_out.nd rfl (.inl rfl) (pe_ix ix_list (pe_fld (pv 0) rfl) (pv 2) (fun _ _ => rfl)))
    (pss_cons (ps_set (i := 5) sc_out.nd rfl (.inl rfl) (pe_op op_mod (pe_ix ix_list (pe_fld (pv 0) rfl) (pe_op op_mod (pe_op op_add (pv 2) pe_int) pe_int) (fun _ _ => rfl)) pe_int))
    (pss_cons (ps_set (i := 6) sc_out.nd rfl (.inl rfl) (pe_op op_mod (pv 3) pe_int))
    (pss_cons (ps_if (pt_cmpR op_eq (pv 6) pe_int (nomark _)) (pss_cons (ps_expr (pe_bm PySem.F.plainAttrs_list PySem.F.slot_list_append PySem.F.type_list_append mt_append (pe_fld (pv 0) rfl) (pa_cons (pe_op op_mod (pv 4) pe_int) pa_nil)))
    (pss_one (ps_ret (pe_tup (pa_cons pe_str (pa_cons (pe_op op_mod (pv 4) pe_int) pa_nil)))))) pss_nil)
    (pss_cons (ps_if (pt_cmpR op_eq (pv 6) pe_int (nomark _)) (pss_cons (ps_expr (pe_bm PySem.F.plainAttrs_list PySem.F.slot_list_append PySem.F.type_list_append mt_append (pe_fld (pv 0) rfl) (pa_cons (pe_tup (pa_cons (pv 5) (pa_cons (pv 4) pa_nil))) pa_nil)))
    (pss_one (ps_ret (pe_tup (pa_cons pe_str (pa_cons (pe_tup (pa_cons (pv 5) (pa_cons (pv 4) pa_nil))) pa_nil)))))) pss_nil)
    (pss_cons (ps_set (i := 7) sc_out.nd rfl (.inl rfl) (pe_ifExp (pt_cmpR op_eq (pv 6) pe_int (nomark _)) pe_str pe_str))
    (pss_one (ps_ret (pe_tup (pa_cons pe_str (pa_cons (pe_mth (pe_fld (pv 0) rfl) T.cl_Disk c_Disk_ask hr (by decide) ps0 (pa_cons (pv 7) (pa_cons (pe_op op_mod (pv 4) pe_int) (pa_cons (pv 5) (pa_cons (pe_op op_add (pe_fld (pv 0) rfl) (C8.pe_gc (by rfl) T.c_LATENCY)) pa_nil))))) pa_nil))))))))))), ?_⟩)
  · obtain ⟨k, m, n, a, b, rfl, _⟩ := h
    rfl
  · obtain ⟨k, m, n, a, b, rfl, hP, hl, hn, ha, hb, q⟩ := h
    walk_at "go"
    refine r_co hP T T.na_Core_registers (v := .ref k.rg) rfl rfl ?_
    walk_at "go"
    refine r_reg hP ha ?_
    walk_at "go"
    refine r_co hP T T.na_Core_registers (v := .ref k.rg) rfl rfl ?_
    walk_at "go"
    rw [show ((a : Nat) : Int) + 1 = ((a + 1 : Nat) : Int) from rfl]
    refine rn_mod 4 (by decide) ?_
    refine r_reg hP (i := (a + 1) % 4) (by omega) ?_
    walk_at "go"
    refine rn_mod 8 (by decide) ?_
    walk_at "go"
    refine rn_mod 4 (by decide) ?_
    walk_at "go"
    have ex : exec m 13 a b = outM m a (b % 4) := rfl
    rw [ex] at q
    have b4 : b % 4 < 4 := Nat.mod_lt _ (by decide)
    generalize b % 4 = c at b4 q ⊢
    obtain rfl | rfl | rfl | rfl : c = 0 ∨ c = 1 ∨ c = 2 ∨ c = 3 := by omega
    · rw [show decide (V.int ((0 : Nat) : Int) = V.int 0) = true from rfl]
      walk_at "go"
      refine r_co hP T T.na_Core_told (v := .ref k.td) rfl rfl ?_
      refine ⟨.inl ⟨rfl, _, sqL (hP.nm 6 _ _ rfl)⟩, ?_⟩
      walk_at "go"
      refine rn_mod 128 (by decide) ?_
      walk_at "go"
      refine ⟨k.td, _, _, rfl, rfl, hP.nm 6 _ _ rfl, by rw [nv_len]; exact Nat.lt_of_le_of_lt (Nat.le_trans hl.td hn) (by rw [sizeLine_eq]; decide), ?_⟩
      rw [nv_app]
      have pr := hP.upd1 6 (k' := k) (m' := { m with td := m.td ++ [rg m a % 128] }) (u := .lst (nv m.td)) (v := .lst (nv (m.td ++ [rg m a % 128]))) rfl { hP.ok with
        to_ := fun w hw => by
          rcases List.mem_append.mp hw with z | z
          · exact hP.ok.to_ w z
          · rw [List.mem_singleton.mp z]; omega } rfl rfl ⟨rfl, rfl⟩ hP.sv hP.av rfl ⟨rfl, rfl, rfl⟩ rfl
      generalize upd H k.td (.lst (nv (m.td ++ [rg m a % 128]))) = H2 at pr ⊢
      walk_at "go"
      refine rn_mod 128 (by decide) ?_
      walk_at "go"
      exact newT fun t3 H3 n3 s3 e3 => q k _ H3 (pr.then s3) ⟨t3, _, rfl, e3, rfl⟩
    · rw [show decide (V.int ((1 : Nat) : Int) = V.int 0) = false from rfl]
      walk_at "go"
      rw [show decide (V.int ((1 : Nat) : Int) = V.int 1) = true from rfl]
      walk_at "go"
      refine r_co hP T T.na_Core_sent (v := .ref k.sn) rfl rfl ?_
      refine ⟨.inl ⟨rfl, _, sqL (hP.nm 7 _ _ rfl)⟩, ?_⟩
      walk_at "go"
      refine newT fun t H1 n1 s1 e1 => ?_
      have P1 := hP.same s1
      walk_at "go"
      refine ⟨k.sn, _, _, rfl, rfl, P1.nm 7 _ _ rfl, by rw [List.length_map, hP.sv.1]; exact Nat.lt_of_le_of_lt (Nat.le_trans hl.sn hn) (by rw [sizeLine_eq]; decide), ?_⟩
      have pr := (QMv.same hP s1).trans (P1.upd1 7 (k' := { k with ss := k.ss ++ [t] }) (m' := { m with sn := m.sn ++ [(rg m ((a + 1) % 4) % 8, rg m a)] }) (u := .lst (k.ss.map V.ref)) (v := .lst (k.ss.map V.ref ++ [.ref t])) rfl { hP.ok with
        so := fun w hw => by
          rcases List.mem_append.mp hw with z | z
          · exact hP.ok.so w z
          · rw [List.mem_singleton.mp z]
            exact ⟨by show _ % 8 ≤ 4095; omega, rg_le hP.ok a⟩ } (by unfold factsQ; simp only [List.map_append, List.map_cons, List.map_nil]; rfl) rfl ⟨rfl, rfl⟩ (P1.sv.push e1) P1.av rfl ⟨rfl, rfl, rfl⟩ rfl)
      generalize upd H1 k.sn (.lst (k.ss.map V.ref ++ [.ref t])) = H2 at pr ⊢
      walk_at "go"
      refine newT fun t2 H4 n2 s2 e2 => ?_
      walk_at "go"
      exact newT fun t3 H3 n3 s3 e3 => q _ _ H3 ((pr.then s2).then s3) ⟨t3, _, rfl, e3, t2, rfl, s3 _ _ e2⟩
    · rw [show decide (V.int ((2 : Nat) : Int) = V.int 0) = false from rfl]
      walk_at "go"
      rw [show decide (V.int ((2 : Nat) : Int) = V.int 1) = false from rfl]
      walk_at "go"
      rw [show decide (V.int ((2 : Nat) : Int) = V.int 2) = true from rfl]
      walk_at "go"
      refine r_co hP T T.na_Core_disk (v := .ref k.dk) rfl rfl ?_
      walk_at "go"
      refine ⟨k.dk, k.dxd, DQ k m, rfl, hP.nm 1 _ _ rfl, rfl, ?_⟩
      walk_at "go"
      refine rn_mod 8 (by decide) ?_
      walk_at "go"
      refine r_co hP T T.na_Core_time (v := .int (m.tm : Nat)) rfl rfl ?_
      walk_at "go"
      refine ⟨k, m, 0, false, rg m a % 8, rg m ((a + 1) % 4) % 8, rfl, hP, by omega, by omega, fun k' v H1 mv th => ?_⟩
      walk_at "go"
      have em : outM m a 2 = askM m false (rg m a % 8) (rg m ((a + 1) % 4) % 8) := rfl
      rw [em] at q
      refine newT fun t3 H3 n3 s3 e3 => q k' _ H3 (mv.then s3) ?_
      unfold askM
      by_cases z : 8 ≤ m.as.length
      · rw [if_pos z] at th ⊢
        exact ⟨t3, _, rfl, e3, th⟩
      · rw [if_neg z] at th ⊢
        exact ⟨t3, _, rfl, e3, th.keep (Same.ts s3)⟩
    · rw [show decide (V.int ((3 : Nat) : Int) = V.int 0) = false from rfl]
      walk_at "go"
      rw [show decide (V.int ((3 : Nat) : Int) = V.int 1) = false from rfl]
      walk_at "go"
      rw [show decide (V.int ((3 : Nat) : Int) = V.int 2) = false from rfl]
      walk_at "go"
      refine r_co hP T T.na_Core_disk (v := .ref k.dk) rfl rfl ?_
      walk_at "go"
      refine ⟨k.dk, k.dxd, DQ k m, rfl, hP.nm 1 _ _ rfl, rfl, ?_⟩
      walk_at "go"
      refine rn_mod 8 (by decide) ?_
      walk_at "go"
      refine r_co hP T T.na_Core_time (v := .int (m.tm : Nat)) rfl rfl ?_
      walk_at "go"
      refine ⟨k, m, 0, true, rg m a % 8, rg m ((a + 1) % 4) % 8, rfl, hP, by omega, by omega, fun k' v H1 mv th => ?_⟩
      walk_at "go"
      have em : outM m a 3 = askM m true (rg m a % 8) (rg m ((a + 1) % 4) % 8) := rfl
      rw [em] at q
      refine newT fun t3 H3 n3 s3 e3 => q k' _ H3 (mv.then s3) ?_
      unfold askM
      by_cases z : 8 ≤ m.as.length
      · rw [if_pos z] at th ⊢
        exact ⟨t3, _, rfl, e3, th⟩
      · rw [if_neg z] at th ⊢
        exact ⟨t3, _, rfl, e3, th.keep (Same.ts s3)⟩
theorem ok_in {f : Addr} {fd : FuncData} (F : Fun K "_in" "_in" s_in f fd) (T : Txt K mg A) (c_Disk_asks : CalM P w K mg base CX0 5 A.c.D "asks" (spAsks A)) (c_Disk_asks_done : CalM P w K mg base CX0 5 A.c.D "asks_done" (spDone A)) : FnOk P w K mg base (L2.CX P w) 9 f fd ["core", "store", "which", "rest"] (spAct A 14) := by
  refine F.okX sc_in (fun vs H Q E h => ?_) (fun cdv A' outer s H vs Q E hr h => have hu := units1 hr; ⟨_, (pss_cons (ps_set (i := 4) sc_in.nd rfl (.inl rfl) (pe_op op_mod (pv 3) pe_int))
    (pss_cons (ps_if (pt_cmpR op_lt (pv 4) pe_int (nomark _)) (pss_cons (ps_set (i := 5) sc_in.nd rfl (.inl rfl) (pe_dget hu (pe_fld (pv 0) rfl) (pe_ifExp (pt_cmpR op_eq (pv 4) pe_int (nomark _)) pe_str pe_str) (fun _ _ => rfl)))
    (pss_one (ps_set (i := 6) sc_in.nd rfl (.inl rfl) (pe_ifExp (pt_truth (pv 5) (fun _ => rfl)) (pe_bm PySem.F.plainAttrs_list PySem.F.slot_list_pop PySem.F.type_list_pop mt_popAt (pv 5) (pa_cons pe_int pa_nil)) (C8.pe_gc (by rfl) T.c_NOTHING))))) (pss_one (ps_if (pt_cmpR op_eq (pv 4) pe_int (nomark _)) (pss_one (ps_set (i := 6) sc_in.nd rfl (.inl rfl) (pe_op op_mod (pe_mth0 (pe_fld (pv 0) rfl) T.cl_Disk c_Disk_asks_done hr (by decide) ps0) (C8.pe_gc (by rfl) T.c_WORDS)))) (pss_one (ps_set (i := 6) sc_in.nd rfl (.inl rfl) (pe_callB call_len_seq (by rfl) T.m_len (by decide +kernel) (pa_cons (pe_mth0 (pe_fld (pv 0) rfl) T.cl_Disk c_Disk_asks hr (by decide) ps0) pa_nil)))))))
    (pss_cons (ps_asg (pv 6) (pg_sub (pe_fld (pv 0) rfl) (pv 2) set_list))
    (pss_one (ps_ret (pe_tup (pa_cons pe_str (pa_cons (pv 6) pa_nil)))))))), ?_⟩)
  · obtain ⟨k, m, n, a, b, rfl, _⟩ := h
    rfl
  · obtain ⟨k, m, n, a, b, rfl, hP, hl, hn, ha, hb, q⟩ := h
    walk_at "go"
    refine rn_mod 4 (by decide) ?_
    walk_at "go"
    have ex : exec m 14 a b = inM m a (b % 4) := rfl
    rw [ex] at q
    have b4 : b % 4 < 4 := Nat.mod_lt _ (by decide)
    generalize b % 4 = c at b4 q ⊢
    obtain rfl | rfl | rfl | rfl : c = 0 ∨ c = 1 ∨ c = 2 ∨ c = 3 := by omega
    · rw [show decide (((0 : Nat) : Int) < 2) = true from rfl]
      walk_at "go"
      refine r_co hP T T.na_Core_queues (v := .ref k.qd) rfl rfl ?_
      walk_at "go"
      rw [show decide (V.int ((0 : Nat) : Int) = V.int 0) = true from rfl]
      walk_at "go"
      refine ⟨k.qd, .ref k.lq, rfl, .inl ⟨_, .inr (Str.ofString "line"), .inl (hP.nm 2 _ _ rfl), rfl, rfl⟩, ?_⟩
      walk_at "go"
      have eq := hP.nm 4 _ _ rfl
      refine ⟨!(nv m.ln).isEmpty, .inl ⟨_, sqL eq, rfl⟩, ?_⟩
      cases ec : m.ln with
      | nil =>
        rw [show (!(nv []).isEmpty) = false from rfl]
        walk_at "go"
        refine r_co hP T T.na_Core_registers (v := .ref k.rg) rfl rfl ?_
        walk_at "go"
        refine ⟨k.rg, nv m.r, _, a, rfl, rfl, hP.nm 3 _ _ rfl, ixn (by rw [nv_len, hP.ok.r4]; exact ha), ?_⟩
        rw [show V.int 4095 = V.int ((4095 : Nat) : Int) from rfl, nv_set]
        have pr := hP.reg (i := a) (v := 4095) (by omega)
        generalize upd H k.rg (.lst (nv (m.r.set a 4095))) = H2 at pr ⊢
        walk_at "go"
        have q := q k
        have em : ({ m with ln := m.ln.tail } : M) = m := by rw [ec]; show ({ m with ln := [] } : M) = m; rw [← ec]
        unfold inM at q
        rw [em, ec] at q
        exact newT fun t3 H3 n3 s3 e3 => q _ H3 (pr.then s3) ⟨t3, _, rfl, e3, rfl⟩
      | cons x l =>
        rw [show (!(nv (x :: l)).isEmpty) = true from rfl]
        rw [ec] at eq
        have hx : x ≤ 4095 := hP.ok.lo x (by rw [ec]; exact List.mem_cons_self)
        walk_at "go"
        refine ⟨.inl ⟨rfl, _, sqL eq⟩, ?_⟩
        walk_at "go"
        refine ⟨k.lq, nv (x :: l), 0, 0, .int (x : Nat), rfl, rfl, eq, by decide, by decide, by simp [seqIndex?, nv], rfl, ?_⟩
        rw [show (nv (x :: l)).eraseIdx 0 = nv l from rfl]
        have pr := hP.upd1 4 (k' := k) (m' := { m with ln := l }) (u := .lst (nv m.ln)) (v := .lst (nv l)) rfl { hP.ok with lo := fun w hw => hP.ok.lo w (by rw [ec]; exact List.mem_cons_of_mem _ hw) } rfl rfl ⟨rfl, rfl⟩ hP.sv hP.av rfl ⟨rfl, rfl, rfl⟩ rfl
        generalize upd H k.lq (.lst (nv l)) = H1 at pr ⊢
        have P1 := pr.at_
        walk_at "go"
        refine r_co P1 T T.na_Core_registers (v := .ref k.rg) rfl rfl ?_
        walk_at "go"
        refine ⟨k.rg, nv m.r, _, a, rfl, rfl, P1.nm 3 _ _ rfl, ixn (by rw [nv_len, hP.ok.r4]; exact ha), ?_⟩
        rw [nv_set]
        have pr2 := pr.trans (P1.reg (i := a) (v := x) hx)
        generalize upd H1 k.rg (.lst (nv (m.r.set a x))) = H2 at pr2 ⊢
        walk_at "go"
        have q := q k
        unfold inM at q
        rw [ec] at q
        exact newT fun t3 H3 n3 s3 e3 => q _ H3 (pr2.then s3) ⟨t3, _, rfl, e3, rfl⟩
    · rw [show decide (((1 : Nat) : Int) < 2) = true from rfl]
      walk_at "go"
      refine r_co hP T T.na_Core_queues (v := .ref k.qd) rfl rfl ?_
      walk_at "go"
      rw [show decide (V.int ((1 : Nat) : Int) = V.int 0) = false from rfl]
      walk_at "go"
      refine ⟨k.qd, .ref k.nq, rfl, .inl ⟨_, .inr (Str.ofString "net"), .inl (hP.nm 2 _ _ rfl), rfl, rfl⟩, ?_⟩
      walk_at "go"
      have eq := hP.nm 5 _ _ rfl
      refine ⟨!(nv m.nt).isEmpty, .inl ⟨_, sqL eq, rfl⟩, ?_⟩
      cases ec : m.nt with
      | nil =>
        rw [show (!(nv []).isEmpty) = false from rfl]
        walk_at "go"
        refine r_co hP T T.na_Core_registers (v := .ref k.rg) rfl rfl ?_
        walk_at "go"
        refine ⟨k.rg, nv m.r, _, a, rfl, rfl, hP.nm 3 _ _ rfl, ixn (by rw [nv_len, hP.ok.r4]; exact ha), ?_⟩
        rw [show V.int 4095 = V.int ((4095 : Nat) : Int) from rfl, nv_set]
        have pr := hP.reg (i := a) (v := 4095) (by omega)
        generalize upd H k.rg (.lst (nv (m.r.set a 4095))) = H2 at pr ⊢
        walk_at "go"
        have q := q k
        have em : ({ m with nt := m.nt.tail } : M) = m := by rw [ec]; show ({ m with nt := [] } : M) = m; rw [← ec]
        unfold inM at q
        rw [em, ec] at q
        exact newT fun t3 H3 n3 s3 e3 => q _ H3 (pr.then s3) ⟨t3, _, rfl, e3, rfl⟩
      | cons x l =>
        rw [show (!(nv (x :: l)).isEmpty) = true from rfl]
        rw [ec] at eq
        have hx : x ≤ 4095 := hP.ok.no x (by rw [ec]; exact List.mem_cons_self)
        walk_at "go"
        refine ⟨.inl ⟨rfl, _, sqL eq⟩, ?_⟩
        walk_at "go"
        refine ⟨k.nq, nv (x :: l), 0, 0, .int (x : Nat), rfl, rfl, eq, by decide, by decide, by simp [seqIndex?, nv], rfl, ?_⟩
        rw [show (nv (x :: l)).eraseIdx 0 = nv l from rfl]
        have pr := hP.upd1 5 (k' := k) (m' := { m with nt := l }) (u := .lst (nv m.nt)) (v := .lst (nv l)) rfl { hP.ok with no := fun w hw => hP.ok.no w (by rw [ec]; exact List.mem_cons_of_mem _ hw) } rfl rfl ⟨rfl, rfl⟩ hP.sv hP.av rfl ⟨rfl, rfl, rfl⟩ rfl
        generalize upd H k.nq (.lst (nv l)) = H1 at pr ⊢
        have P1 := pr.at_
        walk_at "go"
        refine r_co P1 T T.na_Core_registers (v := .ref k.rg) rfl rfl ?_
        walk_at "go"
        refine ⟨k.rg, nv m.r, _, a, rfl, rfl, P1.nm 3 _ _ rfl, ixn (by rw [nv_len, hP.ok.r4]; exact ha), ?_⟩
        rw [nv_set]
        have pr2 := pr.trans (P1.reg (i := a) (v := x) hx)
        generalize upd H1 k.rg (.lst (nv (m.r.set a x))) = H2 at pr2 ⊢
        walk_at "go"
        have q := q k
        unfold inM at q
        rw [ec] at q
        exact newT fun t3 H3 n3 s3 e3 => q _ H3 (pr2.then s3) ⟨t3, _, rfl, e3, rfl⟩
    · rw [show decide (((2 : Nat) : Int) < 2) = false from rfl]
      walk_at "go"
      rw [show decide (V.int ((2 : Nat) : Int) = V.int 2) = true from rfl]
      walk_at "go"
      refine r_co hP T T.na_Core_disk (v := .ref k.dk) rfl rfl ?_
      walk_at "go"
      refine ⟨k.dk, k.dxd, DQ k m, rfl, hP.nm 1 _ _ rfl, rfl, ?_⟩
      walk_at "go"
      refine ⟨k, m, rfl, hP.toCAt, ?_⟩
      walk_at "go"
      refine rn_mod 4096 (by decide) ?_
      walk_at "go"
      refine r_co hP T T.na_Core_registers (v := .ref k.rg) rfl rfl ?_
      walk_at "go"
      refine ⟨k.rg, nv m.r, _, a, rfl, rfl, hP.nm 3 _ _ rfl, ixn (by rw [nv_len, hP.ok.r4]; exact ha), ?_⟩
      rw [nv_set]
      have pr := hP.reg (i := a) (v := m.dn % 4096) (by omega)
      generalize upd H k.rg (.lst (nv (m.r.set a (m.dn % 4096)))) = H2 at pr ⊢
      walk_at "go"
      exact newT fun t3 H3 n3 s3 e3 => q k _ H3 (pr.then s3) ⟨t3, _, rfl, e3, rfl⟩
    · rw [show decide (((3 : Nat) : Int) < 2) = false from rfl]
      walk_at "go"
      rw [show decide (V.int ((3 : Nat) : Int) = V.int 2) = false from rfl]
      walk_at "go"
      refine r_co hP T T.na_Core_disk (v := .ref k.dk) rfl rfl ?_
      walk_at "go"
      refine ⟨k.dk, k.dxd, DQ k m, rfl, hP.nm 1 _ _ rfl, rfl, ?_⟩
      walk_at "go"
      refine ⟨k, m, rfl, hP.toCAt, fun p H1 n1 s1 e1 => ?_⟩
      have P1 := hP.same s1
      walk_at "go"
      refine ⟨p, _, rfl, .inl (sqL e1), ?_⟩
      rw [List.length_map, hP.av.1]
      walk_at "go"
      refine r_co P1 T T.na_Core_registers (v := .ref k.rg) rfl rfl ?_
      walk_at "go"
      refine ⟨k.rg, nv m.r, _, a, rfl, rfl, P1.nm 3 _ _ rfl, ixn (by rw [nv_len, hP.ok.r4]; exact ha), ?_⟩
      rw [nv_set]
      have pr := (QMv.same hP s1).trans (P1.reg (i := a) (v := m.as.length) (by have := hP.ok.a8; omega))
      generalize upd H1 k.rg (.lst (nv (m.r.set a m.as.length))) = H2 at pr ⊢
      walk_at "go"
      exact newT fun t3 H3 n3 s3 e3 => q k _ H3 (pr.then s3) ⟨t3, _, rfl, e3, rfl⟩
end
end K15

namespace K15
open PySem PySem.Spec PyProof.Rows L2 Bk Rm Cm


theorem mix_set {a b : List Nat} {i : Nat} (hi : i < a.length) (hb : i < b.length) : (a.take i ++ b.drop i).set i a[i] = a.take (i + 1) ++ b.drop (i + 1) := by
  rw [List.set_append_right _ _ (by rw [List.length_take]; omega), List.length_take, show i - min i a.length = 0 by omega, List.drop_eq_getElem_cons hb, List.set_cons_zero, List.append_cons, List.take_append_getElem hi]
theorem row_all {l : List (List Nat)} (h : Rows8 l) {i : Nat} (hi : i < 8) : (List.range 8).map (fun j => V.int (cel l i j : Nat)) = nv (l.getD i []) := by
  have e := (h.row hi).2.1
  have := rng_get 0 (l.getD i [])
  rw [e] at this
  unfold nv
  conv => rhs; rw [← this]
  rw [List.map_map]
  rfl
theorem set_id {l : List (List Nat)} {i : Nat} (hi : i < l.length) : l.set i (l.getD i []) = l := by
  rw [List.getD_eq_getElem?_getD, List.getElem?_eq_getElem hi]
  exact List.set_getElem_self hi
theorem with_rs {m : M} {l : List (List Nat)} (e : l = m.rs) : ({ m with rs := l } : M) = m := by rw [e]
theorem tps_zip {α : Type} {f : α → List V} {H : Hp} {ts : List Addr} {l : List α} (h : Tps f H ts l) : ∀ z ∈ ts.zip l, H z.1 = some (.tup (f z.2)) := fun z hz => by
  obtain ⟨i, hi, e⟩ := List.getElem_of_mem hz
  have h1 : i < ts.length := by rw [List.length_zip] at hi; omega
  have h2 : i < l.length := by rw [List.length_zip] at hi; omega
  rw [List.getElem_zip] at e
  rw [← e]
  exact h.2 i _ _ (List.getElem?_eq_getElem h1) (List.getElem?_eq_getElem h2)
theorem tps_of {α : Type} {f : α → List V} {H : Hp} {zs : List (Addr × α)} (h : ∀ z ∈ zs, H z.1 = some (.tup (f z.2))) : Tps f H (zs.map (·.1)) (zs.map (·.2)) := by
  refine ⟨by rw [List.length_map, List.length_map], fun i t z e1 e2 => ?_⟩
  rw [List.getElem?_map] at e1 e2
  cases c : zs[i]? with
  | none => rw [c] at e1; exact nomatch e1
  | some y =>
    rw [c] at e1 e2
    rw [← Option.some.inj e1, ← Option.some.inj e2]
    exact h y (List.mem_of_getElem? c)
theorem zip_flt {α : Type} {ts : List Addr} {l : List α} (e : ts.length = l.length) (c : α → Bool) : ((ts.zip l).filter fun z => c z.2).map (·.2) = l.filter c := by
  conv => rhs; rw [← List.map_snd_zip (l₁ := ts) (l₂ := l) (by omega)]
  rw [List.filter_map]
  rfl
theorem fm_flt {α : Type} {zs : List (Addr × α)} (c : α → Bool) : zs.filterMap (fun z => if c z.2 = true then some (V.ref z.1) else none) = ((zs.filter fun z => c z.2).map (·.1)).map V.ref := by
  induction zs with
  | nil => rfl
  | cons z zs ih =>
    rw [List.filterMap_cons, List.filter_cons]
    cases c z.2 with
    | true => rw [if_pos rfl, if_pos rfl, ih]; rfl
    | false => rw [if_neg Bool.false_ne_true, if_neg Bool.false_ne_true, ih]
theorem zip_at {α : Type} {ts : List Addr} {l : List α} {i : Nat} {t : Addr} (d : Addr × α) (e : ts.length = l.length) (h : ts[i]? = some t) : ∃ a, l[i]? = some a ∧ (ts.zip l).getD i d = (t, a) := by
  obtain ⟨hi, rfl⟩ := List.getElem?_eq_some_iff.mp h
  have h2 : i < l.length := by omega
  refine ⟨_, List.getElem?_eq_getElem h2, ?_⟩
  rw [List.getD_eq_getElem?_getD, List.getElem?_eq_getElem (by rw [List.length_zip]; omega), List.getElem_zip]
  rfl
def a0 : Addr × Ask := (0, ⟨0, false, 0, 0, 0⟩)
theorem sel_ref {ts : List Addr} {as : List Ask} (c : Ask → Bool) : (List.range (ts.zip as).length).filterMap (fun i => (fun z : Addr × Ask => if c z.2 = true then some (V.ref z.1) else none) ((ts.zip as).getD i a0)) = ((((ts.zip as).filter fun z => c z.2)).map (·.1)).map V.ref := (rng_fm a0 _ _).trans (fm_flt c)
section
variable {P : Program} {w : World} {K : PySem.W.Frag} {mg : Str → Option Value} {base : Heap} {A : Ad}
theorem ok_ddo {f : Addr} {fd : FuncData} (F : Fun K "_do" "Disk._do" s_Disk_do f fd) (T : Txt K mg A) (c_PlainStore_read_cell : CalM P w K mg base (L2.CX P w) 5 A.c.S "read_cell" (spRdC A)) (c_PlainStore_write_cell : CalM P w K mg base (L2.CX P w) 5 A.c.S "write_cell" (spWrC A)) : FnOk P w K mg base (L2.CX P w) 6 f fd ["self", "kind", "block", "room", "store"] (spDo A) := by
  refine F.okX sc_Disk_do (fun vs H Q E h => ?_) (fun cdv A' outer s H vs Q E hr h => have hu65 := units65 hr; have hu64 := hr.units; have hu := units1 hr; ⟨_, (pss_cons (ps_if (pt_cmpR op_eq (pv 1) pe_str (nomark _)) (pss_cons (ps_asg (pe_lc (own := [("cell", 5)]) rfl sc_Disk_do.nd (pi_range1 (by rfl) T.m_range (pa_cons pe_int pa_nil)) (blkOk_by (N := ["self", "kind", "block", "room", "store", "cell", "word"]) (sc := defScope s_Disk_do) (by decide +kernel)) (fun _ _ _ _ _ => (pg_name (i := 5) sc_Disk_do.nd rfl (.inl rfl))) (fun _ _ _ _ _ => pts_nil) (fun _ _ _ _ _ => (pe_mth (pv 4) T.cl_PlainStore c_PlainStore_read_cell hr (by decide) psY (pa_cons (pv 3) (pa_cons (pv 5) pa_nil))))) (pg_sub (pe_fld (pv 0) rfl) (pv 2) set_list))
    (pss_one ps_retN)) pss_nil)
    (pss_one (ps_for (passes_of rfl) rfl (pi_enum (by rfl) T.m_enumerate (pa_cons (pe_ix ix_list (pe_fld (pv 0) rfl) (pv 2) (fun _ _ => rfl)) pa_nil)) (pg_tup rfl (pgs_cons (pg_name (i := 5) sc_Disk_do.nd rfl (.inl rfl)) (pgs_cons (pg_name (i := 6) sc_Disk_do.nd rfl (.inl rfl)) pgs_nil)))
      (pss_one (ps_expr (pe_mth (pv 4) T.cl_PlainStore c_PlainStore_write_cell hr (by decide) (psX (takes_of rfl rfl rfl rfl)) (pa_cons (pv 3) (pa_cons (pv 5) (pa_cons (pv 6) pa_nil))))))))), ?_⟩)
  · obtain ⟨k, m, a, rfl, _⟩ := h
    rfl
  · obtain ⟨k, m, ⟨no, wr, blk, room, due⟩, rfl, hP, hb, hr, q⟩ := h
    dsimp only at hb hr q ⊢
    have lb : blk < k.bs.length := by rw [hP.bw.1, hP.ok.bo.l8]; exact hb
    walk_at "go"
    cases wr with
    | true =>
      rw [show decide (V.str (kindS true) = V.str (Str.ofString "write")) = true from decide_eq_true rfl]
      walk_at "go"
      refine lcQs (n := 8) (fun j => .int (cel m.rs room j : Nat)) hP (by decide) (fun R r => r_cons (r_c (r_nil r))) (fun _ => rfl) (fun i H1 Q' w s hi mv r => ?_) fun D H1 w s nD mv nO e1 => ?_
      · rw [Int.zero_add]
        walk_at "go"
        obtain ⟨sdx, sfs, se, sl1, sl2⟩ := mv.at_.obS
        refine ⟨k.so, sdx, sfs, rfl, se, sl1, ?_⟩
        walk_at "go"
        exact ⟨{ k with sow := w, sat := s }, m, room, i, rfl, mv.at_, hr, hi, fun w' s' G' mv' => r w' s' G' mv'⟩
      · rw [row_all hP.ok.ro hr] at e1
        walk_at "go"
        refine r_di mv.at_ T T.na_Disk_blocks (v := .ref k.bl) rfl rfl ?_
        walk_at "go"
        refine ⟨k.bl, k.bs.map V.ref, _, blk, rfl, rfl, mv.at_.nm 8 _ _ rfl, ixn (by rw [List.length_map]; exact lb), ?_⟩
        rw [← List.map_set]
        have pr := mv.newBlock nD nO hb e1 { hP.ok with bo := hP.ok.bo.set (hP.ok.ro.row hr).2.1 (hP.ok.ro.row hr).2.2 }
        walk_at "go"
        exact q _ _ pr rfl
    | false =>
      rw [show decide (V.str (kindS false) = V.str (Str.ofString "write")) = false from by decide +kernel]
      walk_at "go"
      unfold iEnum
      walk_at "go"
      refine r_di hP T T.na_Disk_blocks (v := .ref k.bl) rfl rfl ?_
      walk_at "go"
      refine r_ixL (sqL (hP.nm 8 _ _ rfl)) (v := .ref k.bs[blk]) (atI_nat (by rw [List.getElem?_map, List.getElem?_eq_getElem lb]; rfl)) ?_
      walk_at "go"
      have rb := hP.ok.bo.row hb
      have rr := hP.ok.ro.row hr
      have q : ∀ k' H', QMv A.c H k m H' k' { m with rs := m.rs.set room (m.bs.getD blk []) } → k'.dk = k.dk → Q .non H' := q
      have lr : room < m.rs.length := by rw [hP.ok.ro.l8]; exact hr
      generalize eb : m.bs.getD blk [] = B at rb q
      generalize er : m.rs.getD room [] = R at rr
      have hsq : ∀ {G : Hp} {i : Nat} {w : Addr → Prop} {s : Hp → List (List Nat) → Prop}, QMv A.c H k m G { k with sow := w, sat := s } { m with rs := m.rs.set room (B.take i ++ R.drop i) } → SqL K G k.bs[blk] (nv B) := fun {G i w s} mv => sqL (by rw [← eb]; exact mv.at_.bw.2 blk _ (List.getElem?_eq_getElem lb))
      have e0 : ({ m with rs := m.rs.set room (B.take 0 ++ R.drop 0) } : M) = m := with_rs (by rw [← er]; exact set_id lr)
      have m0 : QMv A.c H k m H k { m with rs := m.rs.set room (B.take 0 ++ R.drop 0) } := by rw [e0]; exact QMv.refl hP
      refine ⟨k.bs[blk], _, rfl, hsq (w := k.sow) (s := k.sat) m0, ?_⟩
      refine for_it walk_enum (fun i σ G => (∃ x5 x6, σ = [some (.ref k.dk), some (.str (kindS false)), some (.int (blk : Nat)), some (.int (room : Nat)), some (.ref k.so), x5, x6]) ∧ ∃ w s, QMv A.c H k m G { k with sow := w, sat := s } { m with rs := m.rs.set room (B.take i ++ R.drop i) }) ⟨⟨_, _, rfl⟩, k.sow, k.sat, m0⟩ (fun i σ G _ h => by obtain ⟨_, w, s, mv⟩ := h; exact hsq mv) ?_ ?_
      · rintro i y σ G G2 hi ⟨⟨x5, x6, rfl⟩, w, s, mv⟩ ⟨Tn, u, v, rfl, nT, rfl, hu, hv⟩
        injection hu with hu
        subst hu
        have sT := same_upd (o := .tup [.int (i : Nat), v]) nT
        rw [nv_len] at hi
        obtain ⟨x, hx, rfl⟩ := at_nv hv
        have i8 : i < 8 := by omega
        have hw : x ≤ 4095 := rb.2.2 x (List.mem_of_getElem? hx)
        refine ⟨Tn, _, rfl, sqT upd_same, rfl, .int (i : Nat), _, rfl, .int (x : Nat), _, rfl, rfl, ?_⟩
        generalize upd G Tn (.tup [.int (i : Nat), .int (x : Nat)]) = G3 at sT ⊢
        have mv3 := mv.then sT
        walk_at "go"
        obtain ⟨sdx, sfs, se, sl1, sl2⟩ := mv3.at_.obS
        refine ⟨k.so, sdx, sfs, rfl, se, sl2, ?_⟩
        walk_at "go"
        refine ⟨{ k with sow := w, sat := s }, _, room, i, x, rfl, mv3.at_, hr, i8, hw, fun w' s' G4 mv4 => ?_⟩
        walk_at "go"
        refine ⟨⟨_, _, rfl⟩, w', s', ?_⟩
        have em : M.setc { m with rs := m.rs.set room (B.take i ++ R.drop i) } room i x = { m with rs := m.rs.set room (B.take (i + 1) ++ R.drop (i + 1)) } := by
          show ({ m with rs := (m.rs.set room (B.take i ++ R.drop i)).set room (((m.rs.set room (B.take i ++ R.drop i)).getD room []).set i x) } : M) = _
          rw [getD_set lr, if_pos rfl, List.set_set]
          obtain ⟨h1, h2⟩ := List.getElem?_eq_some_iff.mp hx
          rw [← h2, mix_set h1 (by omega)]
        rw [em] at mv4
        exact mv3.trans mv4
      · rintro σ G ⟨⟨x5, x6, rfl⟩, w, s, mv⟩
        rw [nv_len, rb.2.1] at mv
        have l1 := rb.2.1
        have l2 := rr.2.1
        rw [List.take_of_length_le (by omega), List.drop_eq_nil_of_le (by omega), List.append_nil] at mv
        exact q _ G mv rfl
theorem serve_none {m : M} (h : ready m = []) : serve m = m := by
  have e : m.as.filter (fun a => decide (m.tm < a.due)) = m.as := List.filter_eq_self.mpr fun a ha => decide_eq_true (Nat.lt_of_not_le fun z => by
    have := (List.mem_filter (p := fun a => decide (a.due ≤ m.tm))).mpr ⟨ha, decide_eq_true z⟩
    have h : m.as.filter (fun a => decide (a.due ≤ m.tm)) = [] := h
    rw [h] at this
    exact nomatch this)
  unfold serve
  rw [h, e]
  rfl
theorem ok_serve {f : Addr} {fd : FuncData} (F : Fun K "serve" "Disk.serve" s_Disk_serve f fd) (T : Txt K mg A) (c_Disk_do : CalM P w K mg base (L2.CX P w) 6 A.c.D "_do" (spDo A)) : FnOk P w K mg base (L2.CX P w) 7 f fd ["self", "time", "store"] (spServe A) := by
  refine F.okX sc_Disk_serve (fun vs H Q E h => ?_) (fun cdv A' outer s H vs Q E hr h => have hu65 := units65 hr; have hu64 := hr.units; have hu := units1 hr; ⟨_, (pss_cons (ps_setLc (i := 4) (own := [("ask", 3)]) rfl sc_Disk_serve.nd rfl rfl (sw_true rfl rfl rfl (by decide +kernel)) (pi_list (pe_fld (pv 0) rfl)) (blkOk_by (N := ["self", "time", "store", "ask", "ready"]) (sc := defScope s_Disk_serve) (by decide +kernel)) (fun _ _ _ _ _ => (pg_name (i := 3) sc_Disk_serve.nd rfl (.inl rfl))) (fun _ _ _ _ _ => pts_one (pt_cmpR op_le (pe_ix (ix_tupK (K := K) rfl) (pv 3) pe_int (fun _ _ => rfl)) (pv 1) (nomark _))) (fun _ _ _ _ _ => (pv 3)))
    (pss_cons (ps_if (pt_not (pt_truth (pv 4) (fun _ => rfl))) (pss_one (ps_ret pe_bl)) pss_nil)
    (pss_cons (ps_fld (pv 0) (pe_lc (own := [("ask", 3)]) rfl sc_Disk_serve.nd (pi_list (pe_fld (pv 0) rfl)) (blkOk_by (N := ["self", "time", "store", "ask", "ready"]) (sc := defScope s_Disk_serve) (by decide +kernel)) (fun _ _ _ _ _ => (pg_name (i := 3) sc_Disk_serve.nd rfl (.inl rfl))) (fun _ _ _ _ _ => pts_one (pt_cmpR op_gt (pe_ix (ix_tupK (K := K) rfl) (pv 3) pe_int (fun _ _ => rfl)) (pv 1) (nomark _))) (fun _ _ _ _ _ => (pv 3))) rfl)
    (pss_cons (ps_for (passes_of rfl) rfl (pi_list (pv 4)) (pg_name (i := 3) sc_Disk_serve.nd rfl (.inl rfl))
      (pss_one (ps_expr (pe_mth (pv 0) T.cl_Disk c_Disk_do hr (by decide) (psX (takes_of rfl rfl rfl rfl)) (pa_cons (pe_ix ix_tup (pv 3) pe_int (fun _ _ => rfl)) (pa_cons (pe_ix ix_tup (pv 3) pe_int (fun _ _ => rfl)) (pa_cons (pe_ix ix_tup (pv 3) pe_int (fun _ _ => rfl)) (pa_cons (pv 2) pa_nil))))))))
    (pss_cons (ps_fldaug (pv 0) (pe_callB call_len_seq (by rfl) T.m_len (by decide +kernel) (pa_cons (pv 4) pa_nil)) in_add)
    (pss_one (ps_ret pe_bl))))))), ?_⟩)
  · obtain ⟨k, m, rfl, _⟩ := h
    rfl
  · obtain ⟨k, m, rfl, hP, q⟩ := h
    have lz := hP.av.1
    have le8 := hP.ok.a8
    have hz := tps_zip hP.av
    have ll : (k.ts.zip m.as).length = (k.ts.map V.ref).length := by rw [List.length_zip, List.length_map]; omega
    have ho := hP.ok.ao
    have hzm : ∀ z ∈ k.ts.zip m.as, z.2 ∈ m.as := fun z hz => (List.of_mem_zip hz).2
    walk_at "go"
    refine lcLF (xs := k.ts.map V.ref) (fun i => (fun z : Addr × Ask => if decide (z.2.due ≤ m.tm) = true then some (V.ref z.1) else none) ((k.ts.zip m.as).getD i a0)) (fun QQ z => r_di hP T T.na_Disk_asks (v := .ref k.al) rfl rfl z) (sqL (hP.nm 9 _ _ rfl)) (by rw [List.length_map]; omega) (fun _ => rfl) (fun i y H1 Q' R' hy s1 h1 h2 => ?_) fun p H1 np s1 e1 => ?_
    · rw [List.getElem?_map] at hy
      cases et : k.ts[i]? with
      | none => rw [et] at hy; exact nomatch hy
      | some t =>
        rw [et] at hy
        obtain rfl := Option.some.inj hy
        obtain ⟨a, ea, ez⟩ := zip_at a0 lz et
        have ta := (Same.ts s1) _ _ (hP.av.2 i t a et ea)
        rw [ez] at h1 h2
        dsimp only at h1 h2
        walk_at "go"
        refine r_ixT (SqT.of ta) (v := .int (a.due : Nat)) rfl ?_
        walk_at "go"
        by_cases z : a.due ≤ m.tm
        · rw [decide_eq_true (Int.ofNat_le.mpr z), if_pos rfl]
          exact r_var rfl (h1 _ (if_pos (decide_eq_true z)) _ (Same.refl _))
        · rw [decide_eq_false (fun y => z (Int.ofNat_le.mp y)), if_neg Bool.false_ne_true]
          exact h2 (if_neg (fun y => z (of_decide_eq_true y))) _ (Same.refl _)
    rw [← ll] at e1
    have e1 := e1.trans (congrArg (fun l => some (HO.lst l)) (sel_ref fun a => decide (a.due ≤ m.tm)))
    have er : _ = ready m := zip_flt lz fun a => decide (a.due ≤ m.tm)
    have hrd : ∀ z ∈ (k.ts.zip m.as).filter (fun z => decide (z.2.due ≤ m.tm)), H z.1 = some (.tup (askV z.2)) ∧ z.2 ∈ m.as := fun z y => ⟨hz z (List.mem_filter.mp y).1, hzm z (List.mem_filter.mp y).1⟩
    generalize (k.ts.zip m.as).filter (fun z => decide (z.2.due ≤ m.tm)) = rd at e1 er hrd
    walk_at "go"
    refine ⟨!((rd.map (·.1)).map V.ref).isEmpty, .inl ⟨_, sqL e1, rfl⟩, ?_⟩
    cases rd with
    | nil =>
      have er : [] = ready m := er
      rw [serve_none er.symm, ← er] at q
      walk_at "go"
      exact q k H1 (QMv.same hP s1)
    | cons z0 rest =>
      rw [show (!((List.map (·.1) (z0 :: rest)).map V.ref).isEmpty) = true from rfl]
      have hq : decide (ready m ≠ []) = true := decide_eq_true (by rw [← er]; exact fun z => nomatch z)
      rw [hq] at q
      generalize z0 :: rest = rd at e1 er hrd
      walk_at "go"
      have P1 := hP.same s1
      unfold sFld
      refine lcLF (xs := k.ts.map V.ref) (fun i => (fun z : Addr × Ask => if decide (m.tm < z.2.due) = true then some (V.ref z.1) else none) ((k.ts.zip m.as).getD i a0)) (fun QQ z => r_di P1 T T.na_Disk_asks (v := .ref k.al) rfl rfl z) (sqL (P1.nm 9 _ _ rfl)) (by rw [List.length_map]; omega) (fun _ => rfl) (fun i y H2 Q' R' hy s2 h1 h2 => ?_) fun D H2 nD s2 e2 => ?_
      · rw [List.getElem?_map] at hy
        cases et : k.ts[i]? with
        | none => rw [et] at hy; exact nomatch hy
        | some t =>
          rw [et] at hy
          obtain rfl := Option.some.inj hy
          obtain ⟨a, ea, ez⟩ := zip_at a0 lz et
          have ta := (Same.ts (s1.trans s2)) _ _ (hP.av.2 i t a et ea)
          rw [ez] at h1 h2
          dsimp only at h1 h2
          walk_at "go"
          refine r_ixT (SqT.of ta) (v := .int (a.due : Nat)) rfl ?_
          walk_at "go"
          by_cases z : m.tm < a.due
          · rw [decide_eq_true (Int.ofNat_lt.mpr z), if_pos rfl]
            exact r_var rfl (h1 _ (if_pos (decide_eq_true z)) _ (Same.refl _))
          · rw [decide_eq_false (fun y => z (Int.ofNat_lt.mp y)), if_neg Bool.false_ne_true]
            exact h2 (if_neg (fun y => z (of_decide_eq_true y))) _ (Same.refl _)
      rw [← ll] at e2
      have e2 := e2.trans (congrArg (fun l => some (HO.lst l)) (sel_ref fun a => decide (m.tm < a.due)))
      have el : _ = m.as.filter (fun a => decide (m.tm < a.due)) := zip_flt lz fun a => decide (m.tm < a.due)
      have tp : Tps askV H2 (((k.ts.zip m.as).filter fun z => decide (m.tm < z.2.due)).map (·.1)) (m.as.filter (fun a => decide (m.tm < a.due))) := by
        rw [← el]
        exact tps_of fun z y => (Same.ts (s1.trans s2)) _ _ (hz z (List.mem_filter.mp y).1)
      generalize ((k.ts.zip m.as).filter fun z => decide (m.tm < z.2.due)).map (·.1) = T2 at e2 tp
      have ok1 : M.Ok { m with as := m.as.filter (fun a => decide (m.tm < a.due)) } := { hP.ok with
        a8 := Nat.le_trans (List.length_filter_le _ _) le8
        ao := fun x hx => ho x (List.mem_filter.mp hx).1 }
      have pr := P1.newAsks s2 nD e2 tp ok1
      refine ⟨_, rfl, k.dk, A.c.D, k.dxd, DQ k m, rfl, (P1.same s2).nm 1 _ _ rfl, T.cl_Disk, T.na_Disk_asks, by show 4 < 1000; decide, ?_⟩
      rw [pq_al]
      generalize upd H2 k.dk (.ins A.c.D k.dxd (DQ { k with al := D } m)) = H3 at pr ⊢
      have np' : ¬ Own k p := hP.noneQ np
      have q : ∀ k' H', QMv A.c H k m H' k' { m with bs := ((ready m).foldl doAsk (m.bs, m.rs)).1, rs := ((ready m).foldl doAsk (m.bs, m.rs)).2, as := m.as.filter (fun a => decide (m.tm < a.due)), dn := m.dn + (ready m).length } → Q (.bl true) H' := q
      generalize m.as.filter (fun a => decide (m.tm < a.due)) = later at pr ok1 q
      rw [← er] at q
      walk_at "go"
      have ep : H3 p = some (.lst ((rd.map (·.1)).map V.ref)) := pr.fr _ _ np' e1
      refine ⟨p, rfl, ⟨_, sqL ep⟩, ?_⟩
      refine for_it walk_list (fun i σ G => (∃ x3, σ = [some (.ref k.dk), some (.int (m.tm : Nat)), some (.ref k.so), x3, some (.ref p)]) ∧ ∃ k', QMv A.c H1 k m G k' { m with bs := (((rd.map (·.2)).take i).foldl doAsk (m.bs, m.rs)).1, rs := (((rd.map (·.2)).take i).foldl doAsk (m.bs, m.rs)).2, as := later } ∧ k'.dk = k.dk)
        ⟨⟨_, rfl⟩, _, pr, rfl⟩ (fun i σ G _ h => by
          obtain ⟨_, k', mv, _⟩ := h
          exact sqL (mv.fr _ _ np' e1)) ?_ ?_
      · rintro i y σ G G2 hi ⟨⟨x3, rfl⟩, k', mv, dd⟩ ⟨rfl, hy⟩
        rw [List.length_map, List.length_map] at hi
        rw [List.getElem?_map, List.getElem?_map, List.getElem?_eq_getElem hi] at hy
        obtain rfl := Option.some.inj hy
        obtain ⟨tz, am⟩ := hrd rd[i] (List.getElem_mem hi)
        have tG := SqT.of (K := K) (mv.ts P1 _ _ ((Same.ts s1) _ _ tz))
        have et : (rd.map (·.2)).take (i + 1) = (rd.map (·.2)).take i ++ [rd[i].2] := by
          rw [← List.take_append_getElem (by rw [List.length_map]; exact hi), List.getElem_map]
        obtain ⟨hb, hr, _⟩ := ho _ am
        rw [et, List.foldl_append]
        generalize ((rd.map (·.2)).take i).foldl doAsk (m.bs, m.rs) = Z at mv
        generalize rd[i].2 = a at hb hr tG
        walk_at "go"
        refine ⟨k.dk, k'.dxd, DQ k' _, rfl, by rw [← dd]; exact mv.at_.nm 1 _ _ rfl, rfl, ?_⟩
        walk_at "go"
        refine r_ixT tG (v := .str (kindS a.wr)) rfl ?_
        walk_at "go"
        refine r_ixT tG (v := .int (a.blk : Nat)) rfl ?_
        walk_at "go"
        refine r_ixT tG (v := .int (a.room : Nat)) rfl ?_
        walk_at "go"
        refine ⟨k', _, a, by rw [dd, mv.ss], mv.at_, hb, hr, fun k2 G4 mv2 dd2 => ?_⟩
        walk_at "go"
        exact ⟨⟨_, rfl⟩, k2, mv.trans mv2, dd2.trans dd⟩
      · rintro σ G ⟨⟨x3, rfl⟩, k', mv, dd⟩
        rw [List.length_map, List.length_map, List.take_of_length_le (by rw [List.length_map]; exact Nat.le_refl _)] at mv
        have eg := mv.fr _ _ np' e1
        walk_at "go"
        refine ⟨_, rfl, k.dk, A.c.D, k'.dxd, DQ k' _, .int (m.dn : Nat), rfl, by rw [← dd]; exact mv.at_.nm 1 _ _ rfl, T.cl_Disk, T.na_Disk_done, rfl, ?_⟩
        walk_at "go"
        refine ⟨p, _, rfl, .inl (sqL eg), ?_⟩
        walk_at "go"
        refine ⟨_, _, rfl, rfl, ?_⟩
        refine ⟨k'.dxd, DQ k' _, by rw [← dd]; exact mv.at_.nm 1 _ _ rfl, by show 4 < 1000; decide, ?_⟩
        rw [List.length_map] at q
        rw [List.length_map, List.length_map, show V.int ((m.dn : Nat) + (rd.length : Nat) : Int) = V.int ((m.dn + rd.length : Nat) : Int) from rfl, pq_dn]
        generalize (rd.map (·.2)).foldl doAsk (m.bs, m.rs) = Z at mv q ⊢
        have pr2 := (QMv.same hP s1).trans (mv.trans (mv.at_.upd1 1 (k' := k') (m' := { m with bs := Z.1, rs := Z.2, as := later, dn := m.dn + rd.length }) (v := .ins A.c.D k'.dxd (DQ k' { m with dn := m.dn + rd.length })) rfl { mv.at_.ok with } rfl rfl ⟨rfl, rfl⟩ mv.at_.sv mv.at_.av rfl ⟨rfl, rfl, rfl⟩ rfl))
        rw [dd] at pr2
        exact q k' _ pr2
end
end K15

namespace K15
open PySem PySem.Spec PyProof.Rows L2 Bk Rm Cm


/-- {a: [], b: []} -/
theorem r_dispLL {σ : L2.St} {H : Hp} {Q : VK} {a b : Str} (hab : a ≠ b) (q : ∀ p d1 d2 H', H p = none → H d1 = none → H d2 = none → p ≠ d1 → p ≠ d2 → d1 ≠ d2 → Same H H' → H' p = some (.dK [(.inr a, .ref d1), (.inr b, .ref d2)]) → H' d1 = some (.lst []) → H' d2 = some (.lst []) → Q (.ref p) H') :
    tDisp [(tC (.str a), tLstB tNil), (tC (.str b), tLstB tNil)] σ H Q := by
  intro p np
  refine ⟨Nat.zero_le _, fun d1 n1 _ => ?_⟩
  refine ⟨Nat.zero_le _, fun d2 n2 _ => ?_⟩
  have p1 : p ≠ d1 := fun z => by rw [← z, upd_same] at n1; exact nomatch n1
  have h1 : H d1 = none := by rw [upd_ne p1.symm] at n1; exact n1
  have p12 : d1 ≠ d2 := fun z => by rw [← z, upd_same] at n2; exact nomatch n2
  have n2' : upd H p (.dK []) d2 = none := by rw [upd_ne p12.symm] at n2; exact n2
  have p2 : p ≠ d2 := fun z => by rw [← z, upd_same] at n2'; exact nomatch n2'
  have h2 : H d2 = none := by rw [upd_ne p2.symm] at n2'; exact n2'
  refine ⟨by rw [upd_ne p2, upd_ne p1]; exact upd_same, [(.inr a, .ref d1), (.inr b, .ref d2)], rfl, (by show 2 ≤ 15; decide), ?_⟩
  have e : mergeK [] [((.inr a : Key), V.ref d1), (.inr b, V.ref d2)] = [(.inr a, .ref d1), (.inr b, .ref d2)] := by
    have nd : ([a, b] : List Str).Nodup := by simp [hab]
    have w := dicF_new (f := fun x => if x = a then V.ref d1 else V.ref d2) nd
    have e2 : dicF [a, b] (fun x => if x = a then V.ref d1 else V.ref d2) = [((.inr a : Key), V.ref d1), (.inr b, V.ref d2)] := by
      unfold dicF
      simp only [List.map_cons, List.map_nil, if_true, if_neg (Ne.symm hab)]
    rw [e2] at w
    exact w
  rw [e]
  refine q p d1 d2 _ np h1 h2 p1 p2 p12 (fun x o z => ?_) upd_same ?_ ?_
  · rw [upd_ne (ne_of_none z np), upd_ne (ne_of_none z h2), upd_ne (ne_of_none z h1), upd_ne (ne_of_none z np)]
    exact z
  · rw [upd_ne p1.symm, upd_ne p12]; exact upd_same
  · rw [upd_ne p2.symm]; exact upd_same
section
variable (A : Ad)
def spDI : Sp := fun vs H Q _ => ∃ (x dx a : Addr) (rows : List (List Nat)), vs = [.ref x, .ref a] ∧ Eight H a rows ∧ Rows8 rows ∧ H x = some (.ins A.c.D dx []) ∧ ∀ (bl al : Addr) (bs : List Addr) H', bs.length = rows.length → Bn H x H' (.ins A.c.D dx [("_blocks", .ref bl), ("_asks", .ref al), ("_made", .int 0), ("_done", .int 0)]) ([(bl, .lst (bs.map V.ref))] ++ rowsF bs rows ++ [(al, .lst [])]) → Q .non H'
def spCI : Sp := fun vs H Q _ => ∃ (x dx a : Addr) (rows : List (List Nat)), vs = [.ref x, .ref a] ∧ Eight H a rows ∧ Rows8 rows ∧ H x = some (.ins A.c.C dx []) ∧ ∀ (k : Cq) H', k.o = x → k.dxo = dx → k.bs.length = rows.length → k.ss = [] → k.ts = [] → Bn H x H' (.ins A.c.C dx (CQ k (m0 rows []))) ([(k.rg, .lst (nv [0, 0, 0, 0])), (k.lq, .lst []), (k.nq, .lst []), (k.qd, .dK (QQ k)), (k.td, .lst []), (k.sn, .lst []), (k.dk, .ins A.c.D k.dxd (DQ k (m0 rows []))), (k.bl, .lst (k.bs.map V.ref))] ++ rowsF k.bs rows ++ [(k.al, .lst [])]) → Q .non H'
end
section
variable {P : Program} {w : World} {K : PySem.W.Frag} {mg : Str → Option Value} {base : Heap} {A : Ad}
theorem s_end {H0 H1 : Hp} {x C dx : Addr} {fs : List (Str × V)} {l : List (Addr × HO)} {σ : L2.St} {i : Nat} {v : V} {f : Str} {D : Ends} (b : Bn H0 x H1 (.ins C dx fs) l) (h0 : σ[i]? = some (some (.ref x))) (cl : Cls K C) (na : NoAttr K C f) (hl : fs.length < 1000)
    (q : ∀ H', Bn H0 x H' (.ins C dx (putF f v fs)) l → D.nx σ H') : tVar i σ H1 fun y H2 => ∃ a C dx fs, y = .ref a ∧ H2 a = some (.ins C dx fs) ∧ Cls K C ∧ NoAttr K C f ∧ fs.length < 1000 ∧ D.nx σ (upd H2 a (.ins C dx (putF f v fs))) :=
  ⟨_, h0, x, C, dx, fs, rfl, b.ox, cl, na, hl, q _ b.put⟩
theorem rows_new {H0 H H' : Hp} {x : Addr} {o : HO} {l : List (Addr × HO)} (b : Bn H0 x H o l) {D : Addr} {bs : List Addr} {rows : List (List Nat)} (s : Same H H') (nD : H D = none) (eD : H' D = some (.lst (bs.map V.ref))) (tl : bs.length = rows.length) (et : ∀ (i : Nat) t, bs[i]? = some t → H' t = some (.lst (nv (rows.getD i [])))) (nd : (D :: bs).Nodup) (fr : ∀ t ∈ bs, H t = none) : Bn H0 x H' o (l ++ ([(D, .lst (bs.map V.ref))] ++ rowsF bs rows)) := by
  have ow : ([(D, HO.lst (bs.map V.ref))] ++ rowsF bs rows).map (·.1) = D :: bs := by rw [List.map_append, rowsF_own tl]; rfl
  refine b.add s (fun z hz => ?_) (by rw [ow]; exact nd) (fun y hy => ?_)
  · rcases List.mem_append.mp hz with h | h
    · rw [List.mem_singleton.mp h]; exact eD
    · exact rowsF_mk tl et z h
  · rw [ow] at hy
    rcases List.mem_cons.mp hy with rfl | h
    · exact nD
    · exact fr y h
theorem ok_dinit {f : Addr} {fd : FuncData} (F : Fun K "__init__" "Disk.__init__" s_Disk_init f fd) (T : Txt K mg A) : FnOk P w K mg base CX0 5 f fd ["self", "blocks"] (spDI A) := by
  refine F.ok sc_Disk_init (fun vs H Q E h => ?_) (fun cdv A' outer s H vs Q E hr h => have hu65 := units65 hr; have hu64 := hr.units; have hu := units1 hr; ⟨_, (pss_cons (ps_fld (pv 0) (pe_lc (own := [("block", 2)]) rfl sc_Disk_init.nd (pi_tup (pv 1)) (blkOk_by (N := ["self", "blocks", "block"]) (sc := defScope s_Disk_init) (by decide +kernel)) (fun _ _ _ _ _ => (pg_name (i := 2) sc_Disk_init.nd rfl (.inl rfl))) (fun _ _ _ _ _ => pts_nil) (fun _ _ _ _ _ => (pe_callTy (call_list_ofK (K := K) rfl) (by rfl) T.m_list (by decide +kernel) (pa_cons (pv 2) pa_nil)))) rfl)
    (pss_cons (ps_fld (pv 0) (pe_lstB pa_nil) rfl)
    (pss_cons (ps_fld (pv 0) pe_int rfl)
    (pss_one (ps_fld (pv 0) pe_int rfl))))), ?_⟩)
  · obtain ⟨x, dx, a, rows, rfl, _⟩ := h
    rfl
  · obtain ⟨x, dx, a, rows, rfl, ⟨ts, ea, tl, hR⟩, ok, ex, q⟩ := h
    have l8 := ok.l8
    walk_at "go"
    refine lcNewTup (xs := ts.map V.ref) (fun i => .lst (nv (rows.getD i []))) (fun QQ z => r_var rfl z) (SqT.of ea) (by rw [List.length_map]; omega) (fun _ => rfl) (fun i y H1 Q' hy s1 kk => ?_) fun D H1 bs nD s1 eD tlb et nd fr => ?_
    · rw [List.getElem?_map] at hy
      cases ett : ts[i]? with
      | none => rw [ett] at hy; exact nomatch hy
      | some t =>
        rw [ett] at hy
        obtain rfl := Option.some.inj hy
        have li : i < rows.length := by rw [← tl]; exact (List.getElem?_eq_some_iff.mp ett).1
        rw [List.getD_eq_getElem?_getD, List.getElem?_eq_getElem li] at kk
        walk_at "go"
        exact ⟨t, _, rfl, .inr ((hR i t _ ett (List.getElem?_eq_getElem li)).keep (Same.ts s1)).sq, fun l nl => kk l _ nl (same_upd nl) upd_same⟩
    have tlb : bs.length = rows.length := by rw [tlb, List.length_map]; exact tl
    have b0 := rows_new (Bn.start ex) s1 nD eD tlb et nd fr
    refine s_end b0 rfl T.cl_Disk T.na_Disk_blocks (by decide) fun H2 b1 => ?_
    walk_at "go"
    refine r_lstB (r_nil (newLB fun al H3 n3 g3 s3 e3 => ?_))
    refine s_end (b1.new s3 n3 e3) rfl T.cl_Disk T.na_Disk_asks (Nat.le_of_ble_eq_true rfl) fun H4 b2 => ?_
    walk_at "go"
    refine r_c (s_end b2 rfl T.cl_Disk T.na_Disk_made (Nat.le_of_ble_eq_true rfl) fun H5 b3 => ?_)
    walk_at "go"
    dsimp only
    refine r_c (s_end b3 rfl T.cl_Disk T.na_Disk_done (Nat.le_of_ble_eq_true rfl) fun H6 b4 => ?_)
    exact q D al bs H6 tlb b4
theorem ok_cinit {f : Addr} {fd fdI : FuncData} (F : Fun K "__init__" "Core.__init__" s_Core_init f fd) (T : Txt K mg A) (c_is_eight : CalD P w K mg base CX0 4 "is_eight" spEight []) (c_Disk_init : CalC P w K mg base CX0 5 A.c.D "Disk" (spDI A)) (c_NoImage_init : Own P w K mg base CX0 2 A.fI fdI ["self", "found"] (spInitN "found" A.CI)) : FnOk P w K mg base (L2.CX P w) 7 f fd ["self", "blocks"] (spCI A) := by
  refine F.okX sc_Core_init (fun vs H Q E h => ?_) (fun cdv A' outer s H vs Q E hr h => have hu65 := units65 hr; have hu64 := hr.units; have hu := units1 hr; ⟨_, (pss_cons (ps_if (pt_not (pt_val (pe_cal c_is_eight hr (by decide) (by rfl) (pa_cons (pv 1) pa_nil)))) (pss_one (ps_raise rfl (takes_of rfl rfl rfl rfl) (pmk_oexT T.ox_NoImage T.i_NoImage T.t_NoImage c_NoImage_init.ok (hr.mono (by decide)) c_NoImage_init.bd .nil pass0 (by rfl) T.g_NoImage (pa_cons (pv 1) pa_nil)))) pss_nil)
    (pss_cons (ps_fld (pv 0) (pe_lstB (pa_cons pe_int (pa_cons pe_int (pa_cons pe_int (pa_cons pe_int pa_nil))))) rfl)
    (pss_cons (ps_fld (pv 0) pe_int rfl)
    (pss_cons (ps_fld (pv 0) pe_int rfl)
    (pss_cons (ps_fld (pv 0) pe_int rfl)
    (pss_cons (ps_fld (pv 0) pe_int rfl)
    (pss_cons (ps_fld (pv 0) pe_int rfl)
    (pss_cons (ps_fld (pv 0) pe_int rfl)
    (pss_cons (ps_fld (pv 0) pe_bl rfl)
    (pss_cons (ps_fld (pv 0) pe_str rfl)
    (pss_cons (ps_fld (pv 0) (pe_disp (pps_cons pe_str (pe_lstB pa_nil) (pps_cons pe_str (pe_lstB pa_nil) pps_nil)) rfl rfl (by simp) (by decide)) rfl)
    (pss_cons (ps_fld (pv 0) (pe_lstB pa_nil) rfl)
    (pss_cons (ps_fld (pv 0) (pe_lstB pa_nil) rfl)
    (pss_one (ps_fld (pv 0) (pe_mk c_Disk_init hr (by decide) (by rfl) ps0 (pa_cons (pv 1) pa_nil)) rfl))))))))))))))), ?_⟩)
  · obtain ⟨x, dx, a, rows, rfl, _⟩ := h
    rfl
  · obtain ⟨x, dx, a, rows, rfl, hE, ok, ex, q⟩ := h
    walk_at "go"
    refine ⟨a, rows, rfl, hE, ok, fun H0 s0 => ?_⟩
    have hE00 := hE
    have b00 := (Bn.start ex).same s0
    walk_at "go"
    refine r_lstB (r_cons (r_c (r_cons (r_c (r_cons (r_c (r_cons (r_c (r_nil (newLB fun rg H1 n1 g1 s1 e1 => ?_))))))))))
    refine s_end (b00.new s1 n1 e1) rfl T.cl_Core T.na_Core_registers (Nat.le_of_ble_eq_true rfl) fun H2 b1 => ?_
    walk_at "go"
    refine r_c (s_end b1 rfl T.cl_Core T.na_Core_counter (Nat.le_of_ble_eq_true rfl) fun H2 b2 => ?_)
    walk_at "go"
    refine r_c (s_end b2 rfl T.cl_Core T.na_Core_table (Nat.le_of_ble_eq_true rfl) fun H2 b3 => ?_)
    walk_at "go"
    refine r_c (s_end b3 rfl T.cl_Core T.na_Core_time (Nat.le_of_ble_eq_true rfl) fun H2 b4 => ?_)
    walk_at "go"
    refine r_c (s_end b4 rfl T.cl_Core T.na_Core_handler (Nat.le_of_ble_eq_true rfl) fun H2 b5 => ?_)
    walk_at "go"
    refine r_c (s_end b5 rfl T.cl_Core T.na_Core_back_to (Nat.le_of_ble_eq_true rfl) fun H2 b6 => ?_)
    walk_at "go"
    refine r_c (s_end b6 rfl T.cl_Core T.na_Core_cause (Nat.le_of_ble_eq_true rfl) fun H2 b7 => ?_)
    walk_at "go"
    refine r_c (s_end b7 rfl T.cl_Core T.na_Core_trapped (Nat.le_of_ble_eq_true rfl) fun H2 b8 => ?_)
    walk_at "go"
    refine r_c (s_end b8 rfl T.cl_Core T.na_Core_state (Nat.le_of_ble_eq_true rfl) fun H2 b9 => ?_)
    walk_at "go"
    refine r_dispLL (by decide +kernel) fun qd lq nq H3 n3 n4 n5 d1 d2 d3 s3 e3 e4 e5 => ?_
    have b10 := b9.add (l := [(lq, .lst []), (nq, .lst []), (qd, .dK [((.inr (Str.ofString "line") : Key), .ref lq), (.inr (Str.ofString "net"), .ref nq)])]) s3 (fun z hz => by
      rcases List.mem_cons.mp hz with rfl | hz
      · exact e4
      rcases List.mem_cons.mp hz with rfl | hz
      · exact e5
      rw [List.mem_singleton.mp hz]
      exact e3) (by simp [d3, d1.symm, d2.symm]) (fun b hb => by
      rcases List.mem_cons.mp hb with rfl | hb
      · exact n4
      rcases List.mem_cons.mp hb with rfl | hb
      · exact n5
      rw [List.mem_singleton.mp hb]
      exact n3)
    refine s_end b10 rfl T.cl_Core T.na_Core_queues (Nat.le_of_ble_eq_true rfl) fun H4 b11 => ?_
    walk_at "go"
    refine r_lstB (r_nil (newLB fun td H5 n6 g6 s6 e6 => ?_))
    refine s_end (b11.new s6 n6 e6) rfl T.cl_Core T.na_Core_told (Nat.le_of_ble_eq_true rfl) fun H6 b12 => ?_
    walk_at "go"
    refine r_lstB (r_nil (newLB fun sn H7 n7 g7 s7 e7 => ?_))
    refine s_end (b12.new s7 n7 e7) rfl T.cl_Core T.na_Core_sent (Nat.le_of_ble_eq_true rfl) fun H8 b13 => ?_
    walk_at "go"
    dsimp only
    have b14 := b13.same (Same.refl _)
    have hE8 : Eight H8 a rows := hE00.keep fun t xs e => b14.but t _ (fun z => by rw [z, ex] at e; exact nomatch e) e
    unfold sFld tMkS
    walk_at "go"
    intro dk dxd nk nd dn
    have nk2 : upd H8 dxd (.own dk) dk = none := by rw [upd_ne dn.symm]; exact nk
    have sE := (same_upd (o := .own dk) nd).trans (same_upd (o := .ins A.c.D dxd []) nk2)
    refine ⟨dk, dxd, a, rows, rfl, hE8.keep (Same.ts sE), ok, upd_same, fun bl al bs H9 tlb bd => ⟨rfl, ?_⟩⟩
    obtain ⟨sD, fD, nD, frD⟩ := bd.all nk2
    have b15 := b14.add ((same_upd nd).trans sD) fD nD (fun b hb => none_of (same_upd nd) (frD b hb))
    refine s_end b15 rfl T.cl_Core T.na_Core_disk (Nat.le_of_ble_eq_true rfl) fun H10 b16 => ?_
    exact q ⟨x, dk, 0, qd, rg, lq, nq, td, sn, bl, al, dx, dxd, bs, [], [], fun _ => False, fun _ _ => False⟩ H10 rfl rfl tlb rfl rfl b16
end
theorem perm_Q {o dk qd rg lq nq td sn bl al : Addr} {bs : List Addr} : (o :: ([rg, lq, nq, qd, td, sn, dk, bl] ++ bs ++ [al])).Perm ([o, dk, qd, rg, lq, nq, td, sn, bl, al] ++ bs) := by
  refine List.perm_iff_count.mpr fun a => ?_
  simp only [List.count_append, List.count_cons, List.count_nil, List.cons_append]
  omega
/-- a core that was made -/
theorem core_made {A : Ad} {H H' : Hp} {x dx : Addr} {k : Cq} {rows : List (List Nat)} (ndx : H dx = none) (nx : H x = none) (ne : dx ≠ x) (kx : k.o = x) (kdx : k.dxo = dx) (kbl : k.bs.length = rows.length) (ss : k.ss = []) (ts : k.ts = []) (ok : Rows8 rows)
    (b : Bn (upd (upd H dx (.own x)) x (.ins A.c.C dx [])) x H' (.ins A.c.C dx (CQ k (m0 rows []))) ([(k.rg, .lst (nv [0, 0, 0, 0])), (k.lq, .lst []), (k.nq, .lst []), (k.qd, .dK (QQ k)), (k.td, .lst []), (k.sn, .lst []), (k.dk, .ins A.c.D k.dxd (DQ k (m0 rows []))), (k.bl, .lst (k.bs.map V.ref))] ++ rowsF k.bs rows ++ [(k.al, .lst [])])) :
    Same H H' ∧ (∀ rms, Rows8 rms → CAt A.c.toCs H' k (m0 rows rms)) ∧ ∀ b ∈ ownQ k, H b = none := by
  subst kx
  subst kdx
  have nx2 : upd H k.dxo (.own k.o) k.o = none := by rw [upd_ne ne.symm]; exact nx
  obtain ⟨sC, fC, nC, frC⟩ := b.all nx2
  have ow : ((k.o, HO.ins A.c.C k.dxo (CQ k (m0 rows []))) :: ([(k.rg, HO.lst (nv [0, 0, 0, 0])), (k.lq, .lst []), (k.nq, .lst []), (k.qd, .dK (QQ k)), (k.td, .lst []), (k.sn, .lst []), (k.dk, .ins A.c.D k.dxd (DQ k (m0 rows []))), (k.bl, .lst (k.bs.map V.ref))] ++ rowsF k.bs rows ++ [(k.al, .lst [])])).map (·.1) = k.o :: ([k.rg, k.lq, k.nq, k.qd, k.td, k.sn, k.dk, k.bl] ++ k.bs ++ [k.al]) := by
    simp only [List.map_cons, List.map_append, rowsF_own kbl]
    rfl
  rw [ow] at nC frC
  have s1 := (same_upd (o := .own k.o) ndx).trans sC
  refine ⟨s1, fun rms okr => ⟨fun i y u e => ?_, rowsF_of kbl fun z hz => fC z (List.mem_cons_of_mem _ (List.mem_append.mpr (.inl (List.mem_append.mpr (.inr hz))))), by rw [ss]; exact ⟨rfl, fun _ _ _ z => nomatch z⟩, by rw [ts]; exact ⟨rfl, fun _ _ _ z => nomatch z⟩, perm_Q.nodup_iff.mp nC, m0_ok ok okr⟩, fun b hb => none_of (same_upd ndx) (frC b (perm_Q.mem_iff.mpr hb))⟩
  have e := List.mem_of_getElem? e
  have pk : ∀ z, z ∈ factsQ A.c.toCs k (m0 rows rms) → H' z.1 = some z.2 := fun z hz => by
    simp only [factsQ, List.mem_cons, List.not_mem_nil, or_false] at hz
    rcases hz with rfl | rfl | rfl | rfl | rfl | rfl | rfl | rfl | rfl | rfl
    · exact fC _ List.mem_cons_self
    · exact fC (k.dk, .ins A.c.D k.dxd (DQ k (m0 rows []))) (by simp)
    · exact fC (k.qd, .dK (QQ k)) (by simp)
    · exact fC (k.rg, .lst (nv [0, 0, 0, 0])) (by simp)
    · exact fC (k.lq, .lst []) (by simp)
    · exact fC (k.nq, .lst []) (by simp)
    · exact fC (k.td, .lst []) (by simp)
    · show H' k.sn = some (.lst (k.ss.map V.ref))
      rw [ss]
      exact fC (k.sn, .lst []) (by simp)
    · exact fC (k.bl, .lst (k.bs.map V.ref)) (by simp)
    · show H' k.al = some (.lst (k.ts.map V.ref))
      rw [ts]
      exact fC (k.al, .lst []) (by simp)
  exact pk _ e
end K15

namespace K15
open PySem PySem.Spec PyProof.Rows L2 Bk Rm Cm


theorem ops_at : ∀ i : Nat, i < 16 → ∃ z, OPSV[i]? = some (.str z) ∧ decide (V.str z = V.str (Str.ofString "wait")) = decide (i = 15)
  | 0, _ => ⟨_, rfl, by decide +kernel⟩
  | 1, _ => ⟨_, rfl, by decide +kernel⟩
  | 2, _ => ⟨_, rfl, by decide +kernel⟩
  | 3, _ => ⟨_, rfl, by decide +kernel⟩
  | 4, _ => ⟨_, rfl, by decide +kernel⟩
  | 5, _ => ⟨_, rfl, by decide +kernel⟩
  | 6, _ => ⟨_, rfl, by decide +kernel⟩
  | 7, _ => ⟨_, rfl, by decide +kernel⟩
  | 8, _ => ⟨_, rfl, by decide +kernel⟩
  | 9, _ => ⟨_, rfl, by decide +kernel⟩
  | 10, _ => ⟨_, rfl, by decide +kernel⟩
  | 11, _ => ⟨_, rfl, by decide +kernel⟩
  | 12, _ => ⟨_, rfl, by decide +kernel⟩
  | 13, _ => ⟨_, rfl, by decide +kernel⟩
  | 14, _ => ⟨_, rfl, by decide +kernel⟩
  | 15, _ => ⟨_, rfl, by decide +kernel⟩
  | n + 16, h => absurd h (by omega)
section
variable (A : Ad)
def spGN (g : M → Nat) : Sp := fun vs H Q _ => ∃ (k : Cq) (m : M), vs = [.ref k.o] ∧ CAt A.c.toCs H k m ∧ Q (.int (g m : Nat)) H
def spGB : Sp := fun vs H Q _ => ∃ (k : Cq) (m : M), vs = [.ref k.o] ∧ CAt A.c.toCs H k m ∧ Q (.bl m.tr) H
def spGS : Sp := fun vs H Q _ => ∃ (k : Cq) (m : M), vs = [.ref k.o] ∧ CAt A.c.toCs H k m ∧ Q (.str m.st.s) H
def spGR : Sp := fun vs H Q _ => ∃ (k : Cq) (m : M), vs = [.ref k.o] ∧ CAt A.c.toCs H k m ∧ ∀ p H', H p = none → Same H H' → H' p = some (.lst (nv m.r)) → Q (.ref p) H'
def spWait : Sp := fun vs H Q _ => ∃ (k : Cq) (m : M) (f : Nat), vs = [.ref k.o, .bl (decide (f ≠ 0))] ∧ QAt A.c H k m ∧ ∀ v H', QMv A.c H k m H' k (waitO m f).1 → OutV H' (waitO m f).2 v → Q v H'
def spTrapBy : Sp := fun vs H Q _ => ∃ (k : Cq) (m : M) (c : Nat), vs = [.ref k.o, .int (c : Nat)] ∧ QAt A.c H k m ∧ c ≤ 4 ∧ ∀ H', QMv A.c H k m H' k (trapB m c).1 → Q (.str (Str.ofString (trapB m c).2)) H'
def spActm : Sp := fun vs H Q _ => ∃ (k : Cq) (m : M) (n f : Nat), vs = [.ref k.o, .ref k.so, .bl (decide (f ≠ 0))] ∧ QAt A.c H k m ∧ m.Lim n ∧ n ≤ 1000000 ∧ ∀ k' v H', QMv A.c H k m H' k' (actO m f).1 → OutV H' (actO m f).2 v → Q v H'
def spStep : Sp := fun vs H Q _ => ∃ (k : Cq) (m : M) (n : Nat), vs = [.ref k.o, .ref k.so] ∧ QAt A.c H k m ∧ m.Lim n ∧ n ≤ 900000 ∧ (m.st = .runs ∨ m.st = .idle) ∧ ∀ k' v H', QMv A.c H k m H' k' (step m).1 → RowV H' (step m).2 v → Q v H'
end
section
variable {P : Program} {w : World} {K : PySem.W.Frag} {mg : Str → Option Value} {base : Heap} {A : Ad}
theorem ok_g_at_ {f : Addr} {fd : FuncData} (F : Fun K "counter" "Core.counter" s_Core_counter f fd) (T : Txt K mg A) : FnOk P w K mg base CX0 5 f fd ["self"] (spGN A fun m => m.at_) := by
  refine F.ok sc_Core_counter (fun vs H Q E h => ?_) (fun cdv A' outer s H vs Q E hr h => have hu := units1 hr; ⟨_, (pss_one (ps_ret (pe_fld (pv 0) rfl))), ?_⟩)
  · obtain ⟨k, m, rfl, _⟩ := h
    rfl
  · obtain ⟨k, m, rfl, hP, q⟩ := h
    walk_at "go"
    exact rc_co hP T T.na_Core_counter (v := .int (m.at_ : Nat)) rfl rfl q
theorem ok_g_cs {f : Addr} {fd : FuncData} (F : Fun K "cause" "Core.cause" s_Core_cause f fd) (T : Txt K mg A) : FnOk P w K mg base CX0 5 f fd ["self"] (spGN A fun m => m.cs) := by
  refine F.ok sc_Core_cause (fun vs H Q E h => ?_) (fun cdv A' outer s H vs Q E hr h => have hu := units1 hr; ⟨_, (pss_one (ps_ret (pe_fld (pv 0) rfl))), ?_⟩)
  · obtain ⟨k, m, rfl, _⟩ := h
    rfl
  · obtain ⟨k, m, rfl, hP, q⟩ := h
    walk_at "go"
    exact rc_co hP T T.na_Core_cause (v := .int (m.cs : Nat)) rfl rfl q
theorem ok_g_tm {f : Addr} {fd : FuncData} (F : Fun K "time" "Core.time" s_Core_time f fd) (T : Txt K mg A) : FnOk P w K mg base CX0 5 f fd ["self"] (spGN A fun m => m.tm) := by
  refine F.ok sc_Core_time (fun vs H Q E h => ?_) (fun cdv A' outer s H vs Q E hr h => have hu := units1 hr; ⟨_, (pss_one (ps_ret (pe_fld (pv 0) rfl))), ?_⟩)
  · obtain ⟨k, m, rfl, _⟩ := h
    rfl
  · obtain ⟨k, m, rfl, hP, q⟩ := h
    walk_at "go"
    exact rc_co hP T T.na_Core_time (v := .int (m.tm : Nat)) rfl rfl q
theorem ok_g_st {f : Addr} {fd : FuncData} (F : Fun K "state" "Core.state" s_Core_state f fd) (T : Txt K mg A) : FnOk P w K mg base CX0 5 f fd ["self"] (spGS A) := by
  refine F.ok sc_Core_state (fun vs H Q E h => ?_) (fun cdv A' outer s H vs Q E hr h => have hu := units1 hr; ⟨_, (pss_one (ps_ret (pe_fld (pv 0) rfl))), ?_⟩)
  · obtain ⟨k, m, rfl, _⟩ := h
    rfl
  · obtain ⟨k, m, rfl, hP, q⟩ := h
    walk_at "go"
    exact rc_co hP T T.na_Core_state (v := .str m.st.s) rfl rfl q
theorem ok_wait {f : Addr} {fd : FuncData} (F : Fun K "_wait" "Core._wait" s_Core_wait f fd) (T : Txt K mg A) (c_Disk_asks : CalM P w K mg base CX0 5 A.c.D "asks" (spAsks A)) : FnOk P w K mg base CX0 6 f fd ["self", "served"] (spWait A) := by
  refine F.ok sc_Core_wait (fun vs H Q E h => ?_) (fun cdv A' outer s H vs Q E hr h => have hu := units1 hr; ⟨_, (pss_cons (ps_if (PW.pt (pw_and (pt_not (pt_val (pv 1))) (pw_and (pt_not (pt_truth (pe_dget hu (pe_fld (pv 0) rfl) pe_str (fun _ _ => rfl)) (fun _ => rfl))) (pw_and1 (pt_not (pt_truth (pe_dget hu (pe_fld (pv 0) rfl) pe_str (fun _ _ => rfl)) (fun _ => rfl))))))) (pss_cons (ps_set (i := 2) sc_Core_wait.nd rfl (.inl rfl) (pe_mth0 (pe_fld (pv 0) rfl) T.cl_Disk c_Disk_asks hr (by decide) ps0))
    (pss_cons (ps_if (pt_not (pt_truth (pv 2) (fun _ => rfl))) (pss_one (ps_ret (pe_tup (pa_cons pe_str (pa_cons pe_non pa_nil))))) pss_nil)
    (pss_one (ps_fld (pv 0) (pe_callB (call_max2 rfl) (by rfl) T.m_max (by decide +kernel) (pa_cons (pe_fld (pv 0) rfl) (pa_cons (pe_ix ix_tup (pe_ix ix_list (pv 2) pe_int (fun _ _ => rfl)) pe_int (fun _ _ => rfl)) pa_nil))) rfl)))) pss_nil)
    (pss_one (ps_ret (pe_tup (pa_cons pe_str (pa_cons (pe_op op_add (pe_fld (pv 0) rfl) pe_int) pa_nil)))))), ?_⟩)
  · obtain ⟨k, m, f, rfl, _⟩ := h
    rfl
  · obtain ⟨k, m, f, rfl, hP, q⟩ := h
    unfold waitO at q
    by_cases hf : f = 0
    · subst hf
      rw [show decide ((0 : Nat) ≠ 0) = false from rfl]
      walk_at "go"
      refine r_co hP T T.na_Core_queues (v := .ref k.qd) rfl rfl ?_
      walk_at "go"
      refine ⟨k.qd, .ref k.lq, rfl, .inl ⟨_, .inr (Str.ofString "line"), .inl (hP.nm 2 _ _ rfl), rfl, rfl⟩, ?_⟩
      refine ⟨!(nv m.ln).isEmpty, .inl ⟨_, sqL (hP.nm 4 _ _ rfl), rfl⟩, ?_⟩
      cases el : m.ln with
      | cons x l =>
        rw [el, if_neg fun z => nomatch z.2.1] at q
        rw [show (!(nv (x :: l)).isEmpty) = true from rfl]
        walk_at "go"
        refine r_co hP T T.na_Core_time (v := .int (m.tm : Nat)) rfl rfl ?_
        walk_at "go"
        exact newT fun t3 H3 n3 s3 e3 => q _ H3 (QMv.same hP s3) ⟨t3, _, rfl, e3, rfl⟩
      | nil =>
        rw [show (!(nv []).isEmpty) = false from rfl]
        walk_at "go"
        refine r_co hP T T.na_Core_queues (v := .ref k.qd) rfl rfl ?_
        walk_at "go"
        refine ⟨k.qd, .ref k.nq, rfl, .inl ⟨_, .inr (Str.ofString "net"), .inl (hP.nm 2 _ _ rfl), rfl, rfl⟩, ?_⟩
        refine ⟨!(nv m.nt).isEmpty, .inl ⟨_, sqL (hP.nm 5 _ _ rfl), rfl⟩, ?_⟩
        cases en : m.nt with
        | cons x l =>
          rw [en, if_neg fun z => nomatch z.2.2] at q
          rw [show (!(nv (x :: l)).isEmpty) = true from rfl]
          walk_at "go"
          refine r_co hP T T.na_Core_time (v := .int (m.tm : Nat)) rfl rfl ?_
          walk_at "go"
          exact newT fun t3 H3 n3 s3 e3 => q _ H3 (QMv.same hP s3) ⟨t3, _, rfl, e3, rfl⟩
        | nil =>
          rw [if_pos ⟨rfl, el, en⟩] at q
          rw [show (!(nv []).isEmpty) = false from rfl]
          walk_at "go"
          refine r_co hP T T.na_Core_disk (v := .ref k.dk) rfl rfl ?_
          walk_at "go"
          refine ⟨k.dk, k.dxd, DQ k m, rfl, hP.nm 1 _ _ rfl, rfl, ?_⟩
          walk_at "go"
          refine ⟨k, m, rfl, hP.toCAt, fun p H1 n1 s1 e1 => ?_⟩
          have P1 := hP.same s1
          walk_at "go"
          refine ⟨!(k.ts.map V.ref).isEmpty, .inl ⟨_, sqL e1, rfl⟩, ?_⟩
          have lz := hP.av.1
          have av := hP.av.2
          cases ea : m.as with
          | nil =>
            have et : k.ts = [] := List.length_eq_zero_iff.mp (by rw [lz, ea]; rfl)
            rw [ea] at q
            rw [et, show (!(List.map V.ref ([] : List Addr)).isEmpty) = false from rfl]
            walk_at "go"
            exact newT fun t3 H3 n3 s3 e3 => q _ H3 (QMv.same hP (s1.trans s3)) ⟨t3, _, rfl, e3, rfl⟩
          | cons a l =>
            obtain ⟨t, ts, et⟩ : ∃ t ts, k.ts = t :: ts := by
              cases e : k.ts with
              | nil => rw [e, ea] at lz; exact nomatch lz
              | cons t ts => exact ⟨t, ts, rfl⟩
            have ta := (Same.ts s1) _ _ (av 0 t a (by rw [et]; rfl) (by rw [ea]; rfl))
            rw [ea] at q
            dsimp only at q
            rw [← ea] at q
            rw [et] at e1
            rw [et, show (!(List.map V.ref (t :: ts)).isEmpty) = true from rfl]
            walk_at "go"
            dsimp only
            refine s_co P1 T T.na_Core_time (v := .int (max m.tm a.due : Nat)) rfl (fun Q q => ?_) ?_
            · walk_at "go"
              refine r_co P1 T T.na_Core_time (v := .int (m.tm : Nat)) rfl rfl ?_
              walk_at "go"
              refine r_ixL (sqL e1) (v := .ref t) (atI_nat (j := 0) rfl) ?_
              walk_at "go"
              refine r_ixT (SqT.of ta) (v := .int (a.due : Nat)) rfl ?_
              walk_at "go"
              refine ⟨_, _, rfl, ?_⟩
              rw [show (if (a.due : Int) > (m.tm : Int) then (a.due : Int) else (m.tm : Int)) = ((max m.tm a.due : Nat) : Int) by split <;> omega]
              exact q
            rw [pq_tm]
            have d := (hP.ok.ao a (by rw [ea]; exact List.mem_cons_self)).2.2
            have pr := (QMv.same hP s1).trans (P1.core (a := m.at_) (t := m.tb) (tm := max m.tm a.due) (hd := m.hd) (bk := m.bk) (cs := m.cs) (tr := m.tr) (st := m.st) { hP.ok with ao := fun x hx => ⟨(hP.ok.ao x hx).1, (hP.ok.ao x hx).2.1, by have := (hP.ok.ao x hx).2.2; show x.due ≤ max m.tm a.due + 6; omega⟩ })
            have P2 := pr.at_
            walk_at "go"
            refine r_co P2 T T.na_Core_time (v := .int (max m.tm a.due : Nat)) rfl rfl ?_
            walk_at "go"
            exact newT fun t3 H3 n3 s3 e3 => q _ H3 (pr.then s3) ⟨t3, _, rfl, e3, rfl⟩
    · rw [if_neg fun z => hf z.1] at q
      rw [decide_eq_true hf]
      walk_at "go"
      refine r_co hP T T.na_Core_time (v := .int (m.tm : Nat)) rfl rfl ?_
      walk_at "go"
      exact newT fun t3 H3 n3 s3 e3 => q _ H3 (QMv.same hP s3) ⟨t3, _, rfl, e3, rfl⟩
theorem ok_trapby {f : Addr} {fd : FuncData} (F : Fun K "_trap_by" "Core._trap_by" s_Core_trap_by f fd) (T : Txt K mg A) : FnOk P w K mg base CX0 5 f fd ["self", "cause"] (spTrapBy A) := by
  refine F.ok sc_Core_trap_by (fun vs H Q E h => ?_) (fun cdv A' outer s H vs Q E hr h => have hu := units1 hr; ⟨_, (pss_cons (ps_if (pt_val (pe_fld (pv 0) rfl)) (pss_cons (ps_fld (pv 0) pe_str rfl)
    (pss_one (ps_ret pe_str))) pss_nil)
    (pss_cons (ps_fld (pv 0) pe_bl rfl)
    (pss_cons (ps_fld (pv 0) (pv 1) rfl)
    (pss_cons (ps_fld (pv 0) (pe_ifExp (pt_cmpR op_eq (pv 1) (C8.pe_gc (by rfl) T.c_CALLED) (nomark _)) (pe_op op_mod (pe_op op_add (pe_fld (pv 0) rfl) pe_int) (C8.pe_gc (by rfl) T.c_PLACES)) (pe_fld (pv 0) rfl)) rfl)
    (pss_cons (ps_fld (pv 0) (pe_fld (pv 0) rfl) rfl)
    (pss_one (ps_ret pe_str))))))), ?_⟩)
  · obtain ⟨k, m, c, rfl, _⟩ := h
    rfl
  · obtain ⟨k, m, c, rfl, hP, hc, q⟩ := h
    unfold trapB at q
    walk_at "go"
    refine r_co hP T T.na_Core_trapped (v := .bl m.tr) rfl rfl ?_
    walk_at "go"
    refine ite2 (fun e => ?_) (fun e => ?_)
    · rw [if_pos e] at q
      walk_at "go"
      refine s_co hP T T.na_Core_state (v := .str St.fell.s) rfl (fun Q q => r_c q) ?_
      rw [pq_st]
      have pr := hP.core (a := m.at_) (t := m.tb) (tm := m.tm) (hd := m.hd) (bk := m.bk) (cs := m.cs) (tr := m.tr) (st := .fell) { hP.ok with }
      walk_at "go"
      exact q _ pr
    · rw [if_neg e] at q
      walk_at "go"
      refine s_co hP T T.na_Core_trapped (v := .bl true) rfl (fun Q q => r_c q) ?_
      rw [pq_tr]
      have pr1 := hP.core (a := m.at_) (t := m.tb) (tm := m.tm) (hd := m.hd) (bk := m.bk) (cs := m.cs) (tr := true) (st := m.st) { hP.ok with }
      have P1 := pr1.at_
      walk_at "go"
      refine s_co P1 T T.na_Core_cause (v := .int (c : Nat)) rfl (fun Q q => r_var rfl q) ?_
      rw [pq_cs]
      have pr2 := pr1.trans (P1.core (a := m.at_) (t := m.tb) (tm := m.tm) (hd := m.hd) (bk := m.bk) (cs := c) (tr := true) (st := m.st) { hP.ok with c4 := hc })
      have P2 := pr2.at_
      walk_at "go"
      refine s_co P2 T T.na_Core_back_to (v := .int ((if c = 4 then (m.at_ + 1) % 64 else m.at_) : Nat)) rfl (fun Q q => ?_) ?_
      · by_cases z : c = 4
        · subst z
          rw [if_pos rfl] at q
          walk_at "go"
          rw [show decide (V.int ((4 : Nat) : Int) = V.int 4) = true from rfl, if_pos rfl]
          walk_at "go"
          refine r_co P2 T T.na_Core_counter (v := .int (m.at_ : Nat)) rfl rfl ?_
          walk_at "go"
          exact rn_mod 64 (by decide) q
        · rw [if_neg z] at q
          walk_at "go"
          rw [decide_eq_false (fun y => z (by injection y with y; omega) : ¬ V.int ((c : Nat) : Int) = V.int 4), if_neg Bool.false_ne_true]
          exact r_co P2 T T.na_Core_counter (v := .int (m.at_ : Nat)) rfl rfl q
      rw [pq_bk]
      have b64 : (if c = 4 then (m.at_ + 1) % 64 else m.at_) < 64 := by
        have := hP.ok.a64
        split <;> omega
      have pr3 := pr2.trans (P2.core (a := m.at_) (t := m.tb) (tm := m.tm) (hd := m.hd) (bk := if c = 4 then (m.at_ + 1) % 64 else m.at_) (cs := c) (tr := true) (st := m.st) { hP.ok with c4 := hc, b64 := b64 })
      have P3 := pr3.at_
      walk_at "go"
      refine s_co P3 T T.na_Core_counter (v := .int (m.hd : Nat)) rfl (fun Q q => r_co P3 T T.na_Core_handler (v := .int (m.hd : Nat)) rfl rfl q) ?_
      rw [pq_at]
      have pr4 := pr3.trans (P3.core (a := m.hd) (t := m.tb) (tm := m.tm) (hd := m.hd) (bk := if c = 4 then (m.at_ + 1) % 64 else m.at_) (cs := c) (tr := true) (st := m.st) { hP.ok with c4 := hc, b64 := b64, a64 := hP.ok.h64 })
      walk_at "go"
      exact q _ pr4
theorem ok_act {f : Addr} {fd : FuncData} (F : Fun K "_act" "Core._act" s_Core_act f fd) (T : Txt K mg A) (c_way : CalX P w K mg base 6 "_way" (spWay A)) (c_parts_of : CalX P w K mg base 5 "parts_of" spParts) (c_PlainStore_read_cell : CalM P w K mg base (L2.CX P w) 5 A.c.S "read_cell" (spRdC A)) (c_Core_wait : CalM P w K mg base CX0 6 A.c.C "_wait" (spWait A))
    (acts : ∀ i, i < 15 → ∃ fd, PySem.W.keepIn K (.ref (A.act i)) = true ∧ FnOk P w K mg base (L2.CX P w) 9 (A.act i) fd ["core", "store", "which", "rest"] (spAct A i) ∧ Binds K fd ["core", "store", "which", "rest"] []) : FnOk P w K mg base (L2.CX P w) 10 f fd ["self", "store", "served"] (spActm A) := by
  refine F.okX sc_Core_act (fun vs H Q E h => ?_) (fun cdv A' outer s H vs Q E hr h => have hu := units1 hr; ⟨_, (pss_cons (ps_asg (pe_calX c_way hr (by decide) (by rfl) (takes_of rfl rfl rfl rfl) (pa_cons (pv 0) (pa_cons (pv 1) (pa_cons (pe_fld (pv 0) rfl) (pa_cons pe_bl pa_nil))))) (pg_tup rfl (pgs_cons (pg_name (i := 3) sc_Core_act.nd rfl (.inl rfl)) (pgs_cons (pg_name (i := 4) sc_Core_act.nd rfl (.inl rfl)) pgs_nil))))
    (pss_cons (ps_if (pt_cmpR op_gt (pv 4) pe_int (nomark _)) (pss_one (ps_ret (pe_tup (pa_cons pe_str (pa_cons (pv 4) pa_nil))))) pss_nil)
    (pss_cons (ps_asg (pe_calX c_parts_of hr (by decide) (by rfl) (takes_of rfl rfl rfl rfl) (pa_cons (pe_mth (pv 1) T.cl_PlainStore c_PlainStore_read_cell hr (by decide) (psX (takes_of rfl rfl rfl rfl)) (pa_cons (pv 3) (pa_cons (pe_op op_mod (pe_fld (pv 0) rfl) pe_int) pa_nil))) pa_nil)) (pg_tup rfl (pgs_cons (pg_name (i := 5) sc_Core_act.nd rfl (.inl rfl)) (pgs_cons (pg_name (i := 6) sc_Core_act.nd rfl (.inl rfl)) (pgs_cons (pg_name (i := 7) sc_Core_act.nd rfl (.inl rfl)) pgs_nil)))))
    (pss_cons (ps_if (pt_cmpR op_eq (pe_ix ix_tup (C8.pe_gc (by rfl) T.c_OPS) (pv 5) (fun _ _ => rfl)) pe_str (nomark _)) (pss_one (ps_ret (pe_mth (pv 0) T.cl_Core c_Core_wait hr (by decide) ps0 (pa_cons (pv 2) pa_nil)))) pss_nil)
    (pss_cons (ps_set (i := 8) sc_Core_act.nd rfl (.inl rfl) (pe_ix ix_tup (C8.pe_gc (by rfl) T.c_ACTIONS) (pv 5) (fun _ _ => rfl)))
    (pss_one (ps_ret (pe_callV (pv 8) hr (pa_cons (pv 0) (pa_cons (pv 1) (pa_cons (pv 6) (pa_cons (pv 7) pa_nil)))))))))))), ?_⟩)
  · obtain ⟨k, m, n, f, rfl, _⟩ := h
    rfl
  · obtain ⟨k, m, n, f, rfl, hP, hl, hn, q⟩ := h
    walk_at "go"
    refine r_co hP T T.na_Core_counter (v := .int (m.at_ : Nat)) rfl rfl ?_
    walk_at "go"
    refine ⟨k, m, m.at_, false, rfl, hP, hP.ok.a64, fun y s t H1 mv1 e1 => ?_⟩
    have P1 := mv1.at_
    walk_at "go"
    refine ⟨t, _, rfl, sqT e1, by cases lead m m.at_ false <;> rfl, ?_⟩
    unfold actO at q
    rcases lead_ok (m := m) (p := m.at_) (w := false) with ⟨c, e, h1, h2⟩ | ⟨r, e, hr⟩
    · rw [e] at q e1 ⊢
      refine ⟨_, _, rfl, _, _, rfl, rfl, ?_⟩
      walk_at "go"
      rw [decide_eq_true (by omega : (0 : Int) < (c : Nat))]
      walk_at "go"
      exact newT fun t2 H2 n2 s2 e2 => q _ _ H2 (mv1.then s2) ⟨t2, _, rfl, e2, rfl⟩
    · rw [e] at q e1 ⊢
      dsimp only at q
      refine ⟨_, _, rfl, _, _, rfl, rfl, ?_⟩
      walk_at "go"
      rw [show decide ((0 : Int) < 0) = false from rfl]
      walk_at "go"
      obtain ⟨sdx, sfs, se, sl1, sl2⟩ := P1.obS
      refine ⟨k.so, sdx, sfs, rfl, se, sl1, ?_⟩
      refine r_cons (r_var rfl (r_cons (r_op ?_)))
      refine r_co P1 T T.na_Core_counter (v := .int (m.at_ : Nat)) rfl rfl ?_
      walk_at "go"
      refine rn_mod 8 (by decide) ?_
      walk_at "go"
      refine ⟨{ k with sow := y, sat := s }, m, r, m.at_ % 8, rfl, P1, hr, by omega, fun y2 sa2 H1b mv2 => ?_⟩
      have mv1 := mv1.trans mv2
      have P1 := mv2.at_
      walk_at "go"
      have le := hP.ok.ro.cel_le r (m.at_ % 8)
      generalize cel m.rs r (m.at_ % 8) = w at le q ⊢
      refine ⟨w, rfl, le, fun t2 H2 n2 s2 e2 => ?_⟩
      have P2 := P1.same s2
      have mv12 := mv1.then s2
      walk_at "go"
      refine ⟨t2, _, rfl, sqT e2, rfl, ?_⟩
      refine ⟨_, _, rfl, _, _, rfl, _, _, rfl, rfl, ?_⟩
      walk_at "go"
      obtain ⟨z, ez, ed⟩ := ops_at (w / 256) (by omega)
      refine r_ixT (T.ops H2) (atI_nat ez) ?_
      walk_at "go"
      rw [ed]
      by_cases h15 : w / 256 = 15
      · rw [decide_eq_true h15]
        rw [if_pos h15] at q
        walk_at "go"
        refine ⟨k.o, k.dxo, CQ k m, rfl, P2.nm 0 _ _ rfl, rfl, ?_⟩
        walk_at "go"
        exact ⟨{ k with sow := y2, sat := sa2 }, m, f, rfl, P2, fun v H3 mv o => q _ v H3 (mv12.trans mv) o⟩
      · rw [decide_eq_false h15]
        rw [if_neg h15] at q
        have lt : w / 256 < 15 := by omega
        obtain ⟨fd, ki, fo, bd⟩ := acts (w / 256) lt
        walk_at "go"
        refine r_ixT (T.acts H2) (v := .ref (A.act (w / 256))) (atI_nat (by rw [List.getElem?_map, List.getElem?_range lt]; rfl)) ?_
        walk_at "go"
        refine r_var rfl ⟨spAct A (w / 256), _, fd, _, 9, rfl, ki, fo, bd, Nat.le_refl _, ?_⟩
        walk_at "go"
        exact ⟨{ k with sow := y2, sat := sa2 }, m, n, w / 64 % 4, w % 64, rfl, P2, hl, hn, by omega, by omega, fun k' v H3 mv o => q k' v H3 (mv12.trans mv) o⟩
theorem pr_step {f : Addr} {fd fdE : FuncData} (F : Fun K "step" "Core.step" s_Core_step f fd) (T : Txt K mg A) (c_Disk_serve : CalM P w K mg base (L2.CX P w) 7 A.c.D "serve" (spServe A)) (c_Core_act : CalM P w K mg base (L2.CX P w) 10 A.c.C "_act" (spActm A)) (c_Core_trap_by : CalM P w K mg base CX0 5 A.c.C "_trap_by" (spTrapBy A)) (c_Ended_init : Own P w K mg base CX0 2 A.fE fdE ["self", "found"] (spInitN "found" A.CE)) : FnOk P w K mg base (L2.CX P w) 11 f fd ["self", "store"] (spStep A) := by
  refine F.okX sc_Core_step (fun vs H Q E h => ?_) (fun cdv A' outer s H vs Q E hr h => have hu := units1 hr; ⟨_, (pss_cons (ps_if (pt_cmpR op_in_seq (pe_fld (pv 0) rfl) (pe_tup (pa_cons pe_str (pa_cons pe_str pa_nil))) (by rfl)) (pss_one (ps_raise rfl (takes_of rfl rfl rfl rfl) (pmk_oexT T.ox_Ended T.i_Ended T.t_Ended c_Ended_init.ok (hr.mono (by decide)) c_Ended_init.bd .nil pass0 (by rfl) T.g_Ended (pa_cons (pe_fld (pv 0) rfl) pa_nil)))) pss_nil)
    (pss_cons (ps_fld (pv 0) pe_str rfl)
    (pss_cons (ps_par (i := 2) (j := 3) rfl sc_Core_step.nd rfl rfl (by decide) rfl rfl (pa_cons (pe_fld (pv 0) rfl) (pa_cons (pe_fld (pv 0) rfl) pa_nil)) (by rfl))
    (pss_cons (ps_set (i := 4) sc_Core_step.nd rfl (.inl rfl) (pe_mth (pe_fld (pv 0) rfl) T.cl_Disk c_Disk_serve hr (by decide) (psX (takes_of rfl rfl rfl rfl)) (pa_cons (pv 2) (pa_cons (pv 1) pa_nil))))
    (pss_cons (ps_asg (pe_mth (pv 0) T.cl_Core c_Core_act hr (by decide) (psX (takes_of rfl rfl rfl rfl)) (pa_cons (pv 1) (pa_cons (pv 4) pa_nil))) (pg_tup rfl (pgs_cons (pg_name (i := 5) sc_Core_step.nd rfl (.inl rfl)) (pgs_cons (pg_name (i := 6) sc_Core_step.nd rfl (.inl rfl)) pgs_nil))))
    (pss_cons (ps_if (pt_cmpR op_eq (pv 5) pe_str (nomark _)) (pss_cons (ps_fld (pv 0) pe_str rfl)
    (pss_one (ps_ret pe_non))) pss_nil)
    (pss_cons (ps_fldaug (pv 0) pe_int in_add)
    (pss_cons (ps_if (pt_cmpR op_eq (pv 5) pe_str (nomark _)) (pss_one (ps_ret (pe_tup (pa_cons (pv 2) (pa_cons (pe_mth (pv 0) T.cl_Core c_Core_trap_by hr (by decide) ps0 (pa_cons (pv 6) pa_nil)) (pa_cons (pv 3) (pa_cons (pv 6) pa_nil))))))) pss_nil)
    (pss_cons (ps_if (pt_cmpR op_eq (pv 5) pe_str (nomark _)) (pss_cons (ps_fld (pv 0) (pv 6) rfl)
    (pss_one (ps_ret (pe_tup (pa_cons (pv 2) (pa_cons pe_str (pa_cons (pv 3) (pa_cons pe_non pa_nil)))))))) pss_nil)
    (pss_cons (ps_fld (pv 0) (pe_op op_mod (pe_op op_add (pv 3) pe_int) (C8.pe_gc (by rfl) T.c_PLACES)) rfl)
    (pss_one (ps_ret (pe_tup (pa_cons (pv 2) (pa_cons (pv 5) (pa_cons (pv 3) (pa_cons (pv 6) pa_nil))))))))))))))))), ?_⟩)
  · obtain ⟨k, m, n, rfl, _⟩ := h
    rfl
  · obtain ⟨k, m, n, rfl, hP, hl, hn, hst, q⟩ := h
    walk_at "go"
    refine r_co hP T T.na_Core_state (v := .str m.st.s) rfl rfl ?_
    walk_at "go"
    refine newT fun t0 H0 n0 s0 e0 => ?_
    have ei : inV (.str m.st.s) [.str (Str.ofString "ended"), .str (Str.ofString "fell")] = false := by
      rcases hst with e | e <;> rw [e] <;> decide +kernel
    refine ⟨t0, _, rfl, .inr (sqT e0), rfl, rfl, _, rfl, ?_⟩
    refine ite2 (fun z => absurd (ei.symm.trans z) Bool.false_ne_true) (fun _ => ?_)
    have P0 := hP.same s0
    walk_at "go"
    refine s_co P0 T T.na_Core_state (v := .str St.runs.s) rfl (fun Q q => r_c q) ?_
    rw [pq_st]
    have pr1 := (QMv.same hP s0).trans (P0.core (a := m.at_) (t := m.tb) (tm := m.tm) (hd := m.hd) (bk := m.bk) (cs := m.cs) (tr := m.tr) (st := .runs) { hP.ok with })
    have hl1 : ({ m with st := .runs } : M).Lim n := { hl with }
    have es : step m = finish (serve { m with st := .runs }) (actO (serve { m with st := .runs }) (ready { m with st := .runs }).length) := act_two
    rw [es] at q
    generalize em1 : ({ m with st := .runs } : M) = m1 at pr1 hl1 q ⊢
    have tm1 : m1.tm = m.tm := by rw [← em1]
    have at1 : m1.at_ = m.at_ := by rw [← em1]
    generalize upd H0 k.o (.ins A.c.C k.dxo (CQ k m1)) = H1 at pr1 ⊢
    have P1 := pr1.at_
    walk_at "go"
    refine r_co P1 T T.na_Core_time (v := .int (m1.tm : Nat)) rfl rfl ?_
    walk_at "go"
    refine r_co P1 T T.na_Core_counter (v := .int (m1.at_ : Nat)) rfl rfl ?_
    walk_at "go"
    refine ⟨_, _, rfl, ?_⟩
    walk_at "go"
    refine r_co P1 T T.na_Core_disk (v := .ref k.dk) rfl rfl ?_
    walk_at "go"
    refine ⟨k.dk, k.dxd, DQ k m1, rfl, P1.nm 1 _ _ rfl, rfl, ?_⟩
    walk_at "go"
    refine ⟨k, m1, rfl, P1, fun k2 H2 mv2 => ?_⟩
    walk_at "go"
    refine ⟨k.o, k2.dxo, CQ k2 _, rfl, by rw [← mv2.oo]; exact mv2.at_.nm 0 _ _ rfl, rfl, ?_⟩
    walk_at "go"
    have ef : decide (ready m1 ≠ []) = decide ((ready m1).length ≠ 0) := by cases ready m1 <;> rfl
    refine ⟨k2, serve m1, n + 8, (ready m1).length, by rw [mv2.oo, mv2.ss, ef], mv2.at_, serve_lim P1.ok hl1, by omega, fun k3 v H3 mv3 o3 => ?_⟩
    have pr3 := (pr1.trans mv2).trans mv3
    have eo := pr3.oo
    have ok3 := actO_ok mv2.at_.ok (f := (ready m1).length)
    have kd3 := actO_kind (m := serve m1) (f := (ready m1).length)
    have tr3 := fun c => actO_trap mv2.at_.ok (f := (ready m1).length) (c := c)
    have tms : (serve m1).tm = m1.tm := rfl
    have ats : (serve m1).at_ = m1.at_ := rfl
    rw [← tms, ← ats]
    generalize (ready m1).length = fl at ok3 kd3 tr3 o3 pr3 q
    generalize serve m1 = M2 at ok3 kd3 tr3 o3 pr3 q ⊢
    have P3 := pr3.at_
    generalize actO M2 fl = zz at ok3 kd3 tr3 o3 pr3 q P3
    obtain ⟨M3, out⟩ := zz
    dsimp only at ok3 kd3 tr3 o3 pr3 q P3
    have q := q k3
    rw [← eo]
    cases out with
    | none =>
      obtain ⟨p, x, rfl, ep, rfl⟩ := o3
      walk_at "go"
      refine ⟨p, _, rfl, sqT ep, rfl, _, _, rfl, _, _, rfl, rfl, ?_⟩
      walk_at "go"
      refine s_co P3 T T.na_Core_state (v := .str St.idle.s) rfl (fun Q q => r_c q) ?_
      rw [pq_st]
      have pr4 := pr3.trans (P3.core (a := M3.at_) (t := M3.tb) (tm := M3.tm) (hd := M3.hd) (bk := M3.bk) (cs := M3.cs) (tr := M3.tr) (st := .idle) { P3.ok with })
      walk_at "go"
      exact q _ _ pr4 rfl
    | some o =>
      cases o with
      | trap c =>
        obtain ⟨p, x, rfl, ep, rfl⟩ := o3
        obtain ⟨et, ea, c4⟩ := tr3 c rfl
        walk_at "go"
        refine ⟨p, _, rfl, sqT ep, rfl, _, _, rfl, _, _, rfl, rfl, ?_⟩
        walk_at "go"
        rw [show decide (V.str (Str.ofString "trap") = V.str (Str.ofString "idle")) = false by decide +kernel]
        walk_at "go"
        refine ⟨_, rfl, k3.o, A.c.C, k3.dxo, CQ k3 M3, .int (M3.tm : Nat), rfl, P3.nm 0 _ _ rfl, T.cl_Core, T.na_Core_time, rfl, ?_⟩
        walk_at "go"
        refine ⟨_, _, rfl, rfl, ?_⟩
        refine ⟨k3.dxo, CQ k3 M3, P3.nm 0 _ _ rfl, by show 13 < 1000; decide, ?_⟩
        rw [show V.int ((M3.tm : Nat) + 1 : Int) = V.int ((M3.tm + 1 : Nat) : Int) from rfl, pq_tm]
        have mv4 := P3.core (a := M3.at_) (t := M3.tb) (tm := M3.tm + 1) (hd := M3.hd) (bk := M3.bk) (cs := M3.cs) (tr := M3.tr) (st := M3.st) P3.ok.tick
        generalize upd H3 k3.o (.ins A.c.C k3.dxo (CQ k3 { M3 with tm := M3.tm + 1 })) = H4 at mv4 ⊢
        have pr4 := pr3.trans mv4
        have P4 := pr4.at_
        walk_at "go"
        rw [show decide (V.str (Str.ofString "trap") = V.str (Str.ofString "trap")) = true from decide_eq_true rfl]
        walk_at "go"
        refine ⟨k3.o, k3.dxo, CQ k3 _, rfl, P4.nm 0 _ _ rfl, rfl, ?_⟩
        walk_at "go"
        refine ⟨k3, _, c, rfl, P4, c4, fun H5 mv5 => ?_⟩
        walk_at "go"
        unfold Cm.finish onward at q
        dsimp only at q
        rw [trapM_two] at q
        refine newT fun t6 H6 n6 s6 e6 => q _ H6 ((pr4.trans mv5).then s6) ⟨t6, _, rfl, ?_, rfl⟩
        rw [e6, et, ea]
      | jump c =>
        obtain ⟨p, x, rfl, ep, rfl⟩ := o3
        have c64 : c < 64 := ok3.2 _ rfl
        walk_at "go"
        refine ⟨p, _, rfl, sqT ep, rfl, _, _, rfl, _, _, rfl, rfl, ?_⟩
        walk_at "go"
        rw [show decide (V.str (Str.ofString "jump") = V.str (Str.ofString "idle")) = false by decide +kernel]
        walk_at "go"
        refine ⟨_, rfl, k3.o, A.c.C, k3.dxo, CQ k3 M3, .int (M3.tm : Nat), rfl, P3.nm 0 _ _ rfl, T.cl_Core, T.na_Core_time, rfl, ?_⟩
        walk_at "go"
        refine ⟨_, _, rfl, rfl, ?_⟩
        refine ⟨k3.dxo, CQ k3 M3, P3.nm 0 _ _ rfl, by show 13 < 1000; decide, ?_⟩
        rw [show V.int ((M3.tm : Nat) + 1 : Int) = V.int ((M3.tm + 1 : Nat) : Int) from rfl, pq_tm]
        have mv4 := P3.core (a := M3.at_) (t := M3.tb) (tm := M3.tm + 1) (hd := M3.hd) (bk := M3.bk) (cs := M3.cs) (tr := M3.tr) (st := M3.st) P3.ok.tick
        generalize upd H3 k3.o (.ins A.c.C k3.dxo (CQ k3 { M3 with tm := M3.tm + 1 })) = H4 at mv4 ⊢
        have pr4 := pr3.trans mv4
        have P4 := pr4.at_
        walk_at "go"
        rw [show decide (V.str (Str.ofString "jump") = V.str (Str.ofString "trap")) = false by decide +kernel]
        walk_at "go"
        rw [show decide (V.str (Str.ofString "jump") = V.str (Str.ofString "jump")) = true from decide_eq_true rfl]
        walk_at "go"
        refine s_co P4 T T.na_Core_counter (v := .int (c : Nat)) rfl (fun Q q => r_var rfl q) ?_
        rw [pq_at]
        have pr5 := pr4.trans (P4.core (a := c) (t := M3.tb) (tm := M3.tm + 1) (hd := M3.hd) (bk := M3.bk) (cs := M3.cs) (tr := M3.tr) (st := M3.st) { P4.ok with a64 := c64 })
        walk_at "go"
        exact newT fun t6 H6 n6 s6 e6 => q _ H6 (pr5.then s6) ⟨t6, _, rfl, e6, rfl⟩
      | row kd t =>
        obtain ⟨p, x, rfl, ep, th⟩ := o3
        obtain ⟨k1, k2', k3'⟩ : KindOk kd := kd3 _ rfl
        walk_at "go"
        refine ⟨p, _, rfl, sqT ep, rfl, _, _, rfl, _, _, rfl, rfl, ?_⟩
        walk_at "go"
        rw [decide_eq_false (fun z => k1 (by injection z) : ¬ V.str (Str.ofString kd) = V.str (Str.ofString "idle"))]
        walk_at "go"
        refine ⟨_, rfl, k3.o, A.c.C, k3.dxo, CQ k3 M3, .int (M3.tm : Nat), rfl, P3.nm 0 _ _ rfl, T.cl_Core, T.na_Core_time, rfl, ?_⟩
        walk_at "go"
        refine ⟨_, _, rfl, rfl, ?_⟩
        refine ⟨k3.dxo, CQ k3 M3, P3.nm 0 _ _ rfl, by show 13 < 1000; decide, ?_⟩
        rw [show V.int ((M3.tm : Nat) + 1 : Int) = V.int ((M3.tm + 1 : Nat) : Int) from rfl, pq_tm]
        have mv4 := P3.core (a := M3.at_) (t := M3.tb) (tm := M3.tm + 1) (hd := M3.hd) (bk := M3.bk) (cs := M3.cs) (tr := M3.tr) (st := M3.st) P3.ok.tick
        generalize upd H3 k3.o (.ins A.c.C k3.dxo (CQ k3 { M3 with tm := M3.tm + 1 })) = H4 at mv4 ⊢
        have pr4 := pr3.trans mv4
        have P4 := pr4.at_
        walk_at "go"
        rw [decide_eq_false (fun z => k2' (by injection z) : ¬ V.str (Str.ofString kd) = V.str (Str.ofString "trap"))]
        walk_at "go"
        rw [decide_eq_false (fun z => k3' (by injection z) : ¬ V.str (Str.ofString kd) = V.str (Str.ofString "jump"))]
        walk_at "go"
        refine s_co P4 T T.na_Core_counter (v := .int ((M2.at_ + 1) % 64 : Nat)) rfl (fun Q q => ?_) ?_
        · walk_at "go"
          exact rn_mod 64 (by decide) q
        rw [pq_at]
        have mv5 := P4.core (a := (M2.at_ + 1) % 64) (t := M3.tb) (tm := M3.tm + 1) (hd := M3.hd) (bk := M3.bk) (cs := M3.cs) (tr := M3.tr) (st := M3.st) { P4.ok with a64 := Nat.mod_lt _ (by decide) }
        have pr5 := pr4.trans mv5
        walk_at "go"
        exact newT fun t6 H6 n6 s6 e6 => q _ H6 (pr5.then s6) ⟨t6, _, rfl, e6, th.keep fun b xs e => Same.ts s6 _ _ (mv5.ts P4 _ _ (mv4.ts P3 _ _ e))⟩
end
end K15

namespace K15
open PySem PySem.Spec PyProof.Rows L2 Bk Rm Cm


section
variable (A : Ad)
def spSI : Sp := fun vs H Q _ => ∃ (x dx a : Addr) (rows : List (List Nat)), vs = [.ref x, .ref a] ∧ Eight H a rows ∧ Rows8 rows ∧ H x = some (.ins A.c.S dx []) ∧ ∀ (rl : Addr) (rs : List Addr) H', rs.length = rows.length → Bn H x H' (.ins A.c.S dx [("_rooms", .ref rl)]) ([(rl, .lst (rs.map V.ref))] ++ rowsF rs rows) → Q .non H'
end
section
variable {P : Program} {w : World} {K : PySem.W.Frag} {mg : Str → Option Value} {base : Heap} {A : Ad}
theorem ok_rdc {f : Addr} {fd : FuncData} (F : Fun K "read_cell" "PlainStore.read_cell" s_PlainStore_read_cell f fd) (T : Txt K mg A) (pk : A.c.kd = kdP A.c.S) (c_check_number : CalX P w K mg base 4 "check_number" spCkN) : FnOk P w K mg base (L2.CX P w) 5 f fd ["self", "room", "cell"] (spRdC A) := by
  refine F.okX sc_PlainStore_read_cell (fun vs H Q E h => ?_) (fun cdv A' outer s H vs Q E hr h => have hu := units1 hr; ⟨_, (pss_cons (ps_expr (pe_calX c_check_number hr (by decide) (by rfl) (takes_of rfl rfl rfl rfl) (pa_cons (pv 1) (pa_cons pe_int (pa_cons pe_int pa_nil)))))
    (pss_cons (ps_expr (pe_calX c_check_number hr (by decide) (by rfl) (takes_of rfl rfl rfl rfl) (pa_cons (pv 2) (pa_cons pe_int (pa_cons pe_int pa_nil)))))
    (pss_one (ps_ret (pe_ix ix_list (pe_ix ix_list (pe_fld (pv 0) rfl) (pv 1) (fun _ _ => rfl)) (pv 2) (fun _ _ => rfl)))))), ?_⟩)
  · obtain ⟨k, m, r, c, rfl, _⟩ := h
    rfl
  · obtain ⟨k, m, r, c, rfl, hP, hr8, hc8, q⟩ := h
    have kd := hP.kd
    rw [pk] at kd
    obtain ⟨dxs, rl, rs, ew, es0⟩ := kd
    have st := hP.st
    rw [es0] at st
    obtain ⟨s1, s2, s3, s4⟩ := st
    walk_at "go"
    refine ⟨r, 0, 7, rfl, by omega, by omega, ?_⟩
    walk_at "go"
    refine ⟨c, 0, 7, rfl, by omega, by omega, ?_⟩
    walk_at "go"
    have lr : r < rs.length := by rw [s3.1, hP.ok.ro.l8]; exact hr8
    have er := List.getElem?_eq_getElem lr
    refine ⟨_, rfl, k.so, A.c.S, dxs, _, _, rfl, s1, T.cl_PlainStore, T.na_PlainStore_rooms, rfl, ?_⟩
    walk_at "go"
    refine r_ixL (sqL s2) (v := .ref rs[r]) (atI_nat (by rw [List.getElem?_map, er]; rfl)) ?_
    walk_at "go"
    refine r_ixL (sqL (s3.2 r _ er)) (v := .int (cel m.rs r c : Nat)) (atI_nat (nv_at (hP.ok.ro.at hr8 hc8))) ?_
    exact q _ _ H (QMv.refl hP)
theorem ok_wrc {f : Addr} {fd : FuncData} (F : Fun K "write_cell" "PlainStore.write_cell" s_PlainStore_write_cell f fd) (T : Txt K mg A) (pk : A.c.kd = kdP A.c.S) (c_check_number : CalX P w K mg base 4 "check_number" spCkN) (c_check_word : CalX P w K mg base 4 "check_word" spCkW) : FnOk P w K mg base (L2.CX P w) 5 f fd ["self", "room", "cell", "word"] (spWrC A) := by
  refine F.okX sc_PlainStore_write_cell (fun vs H Q E h => ?_) (fun cdv A' outer s H vs Q E hr h => have hu := units1 hr; ⟨_, (pss_cons (ps_expr (pe_calX c_check_number hr (by decide) (by rfl) (takes_of rfl rfl rfl rfl) (pa_cons (pv 1) (pa_cons pe_int (pa_cons pe_int pa_nil)))))
    (pss_cons (ps_expr (pe_calX c_check_number hr (by decide) (by rfl) (takes_of rfl rfl rfl rfl) (pa_cons (pv 2) (pa_cons pe_int (pa_cons pe_int pa_nil)))))
    (pss_cons (ps_expr (pe_calX c_check_word hr (by decide) (by rfl) (takes_of rfl rfl rfl rfl) (pa_cons (pv 3) pa_nil)))
    (pss_one (ps_asg (pv 3) (pg_sub (pe_ix ix_list (pe_fld (pv 0) rfl) (pv 1) (fun _ _ => rfl)) (pv 2) set_list)))))), ?_⟩)
  · obtain ⟨k, m, r, c, w, rfl, _⟩ := h
    rfl
  · obtain ⟨k, m, r, c, w, rfl, hP, hr8, hc8, hw, q⟩ := h
    have kd := hP.kd
    rw [pk] at kd
    obtain ⟨dxs, rl, rs, ew, es0⟩ := kd
    have st := hP.st
    rw [es0] at st
    obtain ⟨s1, s2, s3, s4⟩ := st
    walk_at "go"
    refine ⟨r, 0, 7, rfl, by omega, by omega, ?_⟩
    walk_at "go"
    refine ⟨c, 0, 7, rfl, by omega, by omega, ?_⟩
    walk_at "go"
    refine ⟨w, rfl, by omega, by omega, ?_⟩
    walk_at "go"
    have lr : r < rs.length := by rw [s3.1, hP.ok.ro.l8]; exact hr8
    have er := List.getElem?_eq_getElem lr
    refine ⟨_, rfl, k.so, A.c.S, dxs, _, _, rfl, s1, T.cl_PlainStore, T.na_PlainStore_rooms, rfl, ?_⟩
    walk_at "go"
    refine r_ixL (sqL s2) (v := .ref rs[r]) (atI_nat (by rw [List.getElem?_map, er]; rfl)) ?_
    walk_at "go"
    refine ⟨rs[r], nv (m.rs.getD r []), _, c, rfl, rfl, s3.2 r _ er, ixn (by rw [nv_len, (hP.ok.ro.row hr8).2.1]; exact hc8), ?_⟩
    have es : (nv (m.rs.getD r [])).set c (.int w) = nv ((m.rs.getD r []).set c w) := by unfold nv; rw [List.map_set]
    rw [es]
    walk_at "go"
    exact q _ _ _ (hP.room ew es0 er (hP.ok.setc hr8 hw))
theorem ok_sinit {f : Addr} {fd fdI : FuncData} (F : Fun K "__init__" "PlainStore.__init__" s_PlainStore_init f fd) (T : Txt K mg A) (c_is_eight : CalD P w K mg base CX0 4 "is_eight" spEight []) (c_NoImage_init : Own P w K mg base CX0 2 A.fI fdI ["self", "found"] (spInitN "found" A.CI)) : FnOk P w K mg base (L2.CX P w) 6 f fd ["self", "rooms"] (spSI A) := by
  refine F.okX sc_PlainStore_init (fun vs H Q E h => ?_) (fun cdv A' outer s H vs Q E hr h => have hu65 := units65 hr; have hu64 := hr.units; have hu := units1 hr; ⟨_, (pss_cons (ps_if (pt_not (pt_val (pe_cal c_is_eight hr (by decide) (by rfl) (pa_cons (pv 1) pa_nil)))) (pss_one (ps_raise rfl (takes_of rfl rfl rfl rfl) (pmk_oexT T.ox_NoImage T.i_NoImage T.t_NoImage c_NoImage_init.ok (hr.mono (by decide)) c_NoImage_init.bd .nil pass0 (by rfl) T.g_NoImage (pa_cons (pv 1) pa_nil)))) pss_nil)
    (pss_one (ps_fld (pv 0) (pe_lc (own := [("words", 2)]) rfl sc_PlainStore_init.nd (pi_tup (pv 1)) (blkOk_by (N := ["self", "rooms", "words"]) (sc := defScope s_PlainStore_init) (by decide +kernel)) (fun _ _ _ _ _ => (pg_name (i := 2) sc_PlainStore_init.nd rfl (.inl rfl))) (fun _ _ _ _ _ => pts_nil) (fun _ _ _ _ _ => (pe_callTy (call_list_ofK (K := K) rfl) (by rfl) T.m_list (by decide +kernel) (pa_cons (pv 2) pa_nil)))) rfl))), ?_⟩)
  · obtain ⟨x, dx, a, rows, rfl, _⟩ := h
    rfl
  · obtain ⟨x, dx, a, rows, rfl, hE, ok, ex, q⟩ := h
    have l8 := ok.l8
    walk_at "go"
    refine ⟨a, rows, rfl, hE, ok, fun H0 s0 => ?_⟩
    obtain ⟨ts, ea, tl, hR⟩ := hE.keep (Same.ts s0)
    have b00 := (Bn.start ex).same s0
    walk_at "go"
    dsimp only
    refine lcNewTup (xs := ts.map V.ref) (fun i => .lst (nv (rows.getD i []))) (fun QQ z => r_var rfl z) (SqT.of ea) (by rw [List.length_map]; omega) (fun _ => rfl) (fun i y H1 Q' hy s1 kk => ?_) fun D H1 bs nD s1 eD tlb et nd fr => ?_
    · rw [List.getElem?_map] at hy
      cases ett : ts[i]? with
      | none => rw [ett] at hy; exact nomatch hy
      | some t =>
        rw [ett] at hy
        obtain rfl := Option.some.inj hy
        have li : i < rows.length := by rw [← tl]; exact (List.getElem?_eq_some_iff.mp ett).1
        rw [List.getD_eq_getElem?_getD, List.getElem?_eq_getElem li] at kk
        walk_at "go"
        exact ⟨t, _, rfl, .inr ((hR i t _ ett (List.getElem?_eq_getElem li)).keep (Same.ts s1)).sq, fun l nl => kk l _ nl (same_upd nl) upd_same⟩
    have tlb : bs.length = rows.length := by rw [tlb, List.length_map]; exact tl
    have b0 := rows_new b00 s1 nD eD tlb et nd fr
    refine s_end b0 rfl T.cl_PlainStore T.na_PlainStore_rooms (by decide) fun H2 b1 => ?_
    exact q D bs H2 tlb b1
theorem ok_rooms {f : Addr} {fd : FuncData} (F : Fun K "rooms" "PlainStore.rooms" s_PlainStore_rooms f fd) (T : Txt K mg A) : FnOk P w K mg base CX0 5 f fd ["self"] (spRooms A) := by
  refine F.ok sc_PlainStore_rooms (fun vs H Q E h => ?_) (fun cdv A' outer s H vs Q E hr h => have hu65 := units65 hr; have hu64 := hr.units; have hu := units1 hr; ⟨_, (pss_one (ps_ret (pe_callTy call_tuple_of (by rfl) T.m_tuple (by decide +kernel) (pa_cons (pe_lc (own := [("words", 1)]) rfl sc_PlainStore_rooms.nd (pi_list (pe_fld (pv 0) rfl)) (blkOk_by (N := ["self", "words"]) (sc := defScope s_PlainStore_rooms) (by decide +kernel)) (fun _ _ _ _ _ => (pg_name (i := 1) sc_PlainStore_rooms.nd rfl (.inl rfl))) (fun _ _ _ _ _ => pts_nil) (fun _ _ _ _ _ => (pe_callTy (call_tuple_ofK (K := K) rfl) (by rfl) T.m_tuple (by decide +kernel) (pa_cons (pv 1) pa_nil)))) pa_nil)))), ?_⟩)
  · obtain ⟨so, dxs, rl, rs, l, rfl, _⟩ := h
    rfl
  · obtain ⟨so, dxs, rl, rs, l, rfl, ⟨s1, s2, s3, s4⟩, ok, q⟩ := h
    walk_at "go"
    refine lcNewL (xs := rs.map V.ref) (fun i => .tup (nv (l.getD i []))) (fun QQ z => ⟨_, rfl, so, A.c.S, dxs, _, _, rfl, s1, T.cl_PlainStore, T.na_PlainStore_rooms, rfl, z⟩) (sqL s2) (by rw [List.length_map, s3.1, ok.l8]; omega) (fun _ => rfl) (fun i y H1 Q' hy s5 kk => ?_) fun D H1 bs nD s5 eD tlb et nd fr => ?_
    · rw [List.getElem?_map] at hy
      cases ett : rs[i]? with
      | none => rw [ett] at hy; exact nomatch hy
      | some t =>
        rw [ett] at hy
        obtain rfl := Option.some.inj hy
        walk_at "go"
        exact ⟨t, _, rfl, .inl ⟨sqL (s5 _ _ (s3.2 i t ett)), fun l nl => kk l _ nl (same_upd nl) upd_same⟩⟩
    have tlb : bs.length = l.length := by rw [tlb, List.length_map]; exact s3.1
    refine r_nil ⟨D, _, rfl, .inl ⟨sqL eD, fun l nl => q l _ (s5.trans (same_upd nl)) ⟨bs, upd_same, tlb, fun i t ws e1 e2 => ?_⟩⟩⟩
    have := et i t e1
    rw [List.getD_eq_getElem?_getD, e2] at this
    exact same_upd nl _ _ this
end
/-- a store that was made -/
theorem store_made {S : Addr} {H H' : Hp} {y dy rl : Addr} {rs : List Addr} {rms : List (List Nat)} (ndy : H dy = none) (ny : H y = none) (ne : dy ≠ y) (lrs : rs.length = rms.length)
    (b : Bn (upd (upd H dy (.own y)) y (.ins S dy [])) y H' (.ins S dy [("_rooms", .ref rl)]) ([(rl, .lst (rs.map V.ref))] ++ rowsF rs rms)) : Same H H' ∧ satS S y dy rl rs H' rms ∧ ∀ b, ownS y rl rs b → H b = none := by
  have ny2 : upd H dy (.own y) y = none := by rw [upd_ne ne.symm]; exact ny
  obtain ⟨sC, fC, nC, frC⟩ := b.all ny2
  have ow : ((y, HO.ins S dy [("_rooms", .ref rl)]) :: ([(rl, HO.lst (rs.map V.ref))] ++ rowsF rs rms)).map (·.1) = y :: rl :: rs := by
    simp only [List.map_cons, List.map_append, rowsF_own lrs]
    rfl
  rw [ow] at nC frC
  refine ⟨(same_upd (o := .own y) ndy).trans sC, ⟨fC _ List.mem_cons_self, fC (rl, .lst (rs.map V.ref)) (by simp), rowsF_of lrs fun z hz => fC z (by simp [hz]), nC⟩, fun b hb => none_of (same_upd ndy) (frC b ?_)⟩
  rcases hb with rfl | rfl | hb
  · exact List.mem_cons_self
  · exact List.mem_cons_of_mem _ List.mem_cons_self
  · exact List.mem_cons_of_mem _ (List.mem_cons_of_mem _ hb)
end K15

namespace K15
open PySem PySem.Spec PyProof.Rows L2 Bk Rm Cm


def spKind : Sp := fun vs H Q _ => ∃ b : Bool, vs = [.str (kq b)] ∧ Q (.bl true) H
def spMay : Sp := fun vs H Q _ => ∃ (b : Bool) (x : Nat), vs = [.str (kq b), .int (x : Nat)] ∧ Q (.bl (decide (x ≤ kmax b))) H
section
variable (A : Ad)
def spArrive : Sp := fun vs H Q _ => ∃ (k : Cq) (m : M) (n : Nat) (b : Bool) (x : Nat), vs = [.ref k.o, .str (kq b), .int (x : Nat)] ∧ CAt A.c.toCs H k m ∧ m.Lim n ∧ n ≤ 1000000 ∧ (m.st = .runs ∨ m.st = .idle) ∧ x ≤ kmax b ∧ ∀ H', CMv A.c.toCs H k m H' k (comesM m b x) → Q .non H'
def spQueue : Sp := fun vs H Q _ => ∃ (k : Cq) (m : M) (b : Bool), vs = [.ref k.o, .str (kq b)] ∧ CAt A.c.toCs H k m ∧ ∀ p H', H p = none → Same H H' → H' p = some (.lst (nv (qu m b))) → Q (.ref p) H'
def spGL (g : Cq → M → List V) : Sp := fun vs H Q _ => ∃ (k : Cq) (m : M), vs = [.ref k.o] ∧ CAt A.c.toCs H k m ∧ ∀ p H', H p = none → Same H H' → H' p = some (.lst (g k m)) → Q (.ref p) H'
def spBlk (g : Cq → Addr) : Sp := fun vs H Q _ => ∃ (k : Cq) (m : M), vs = [.ref (g k)] ∧ CAt A.c.toCs H k m ∧ ∀ p bs H', Same H H' → H' p = some (.lst (bs.map V.ref)) → Rw H' bs m.bs → (p :: bs).Nodup → (∀ b ∈ p :: bs, H b = none) → Q (.ref p) H'
def spMade : Sp := fun vs H Q _ => ∃ (k : Cq) (m : M), vs = [.ref k.dk] ∧ CAt A.c.toCs H k m ∧ Q (.int (m.mq : Nat)) H
end
section
variable {P : Program} {w : World} {K : PySem.W.Frag} {mg : Str → Option Value} {base : Heap} {A : Ad}
theorem ok_iskind {f : Addr} {fd : FuncData} {es : Array DictEntry} {nK : Nat} (F : Fun K "is_kind" "is_kind" s_is_kind f fd) (T : Txt K mg A) (KD : Kinds K w A.aK es nK) : FnOk P w K mg base CX0 1 f fd ["thing"] spKind := by
  refine F.ok sc_is_kind (fun vs H Q E h => ?_) (fun cdv A' outer s H vs Q E hr h => have hu := units1 hr; ⟨_, (pss_one (ps_ret (pe_and (pe_callB call_is (by rfl) T.m_isinstance (by decide +kernel) (pa_cons (pv 0) (pa_cons (pe_bltn (v := .ty "str") (by rfl) T.m_str (by decide +kernel) rfl) pa_nil))) (pe_one (pe_cmpR (op_in_kd KD.D) (pv 0) (C8.pe_gc (by rfl) T.c_KINDS) (by rfl)))))), ?_⟩)
  · obtain ⟨b, rfl, _⟩ := h
    rfl
  · obtain ⟨b, rfl, q⟩ := h
    walk_at "go"
    refine r_is (isa_str (b := true)) ?_
    walk_at "go"
    obtain ⟨u, e, r⟩ := KD.is b
    exact ⟨_, _, rfl, rfl, e, q⟩
theorem ok_may {f : Addr} {fd : FuncData} {es : Array DictEntry} {nK : Nat} (F : Fun K "may_arrive" "may_arrive" s_may_arrive f fd) (T : Txt K mg A) (KD : Kinds K w A.aK es nK) (c_is_whole : CalD P w K mg base CX0 1 "is_whole" spWh []) : FnOk P w K mg base CX0 2 f fd ["kind", "word"] spMay := by
  refine F.ok sc_may_arrive (fun vs H Q E h => ?_) (fun cdv A' outer s H vs Q E hr h => have hu := units1 hr; ⟨_, (pss_one (ps_ret (pe_cal c_is_whole hr (by decide) (by rfl) (pa_cons (pv 1) (pa_cons pe_int (pa_cons (pe_ix ix_kdict (C8.pe_gc (by rfl) T.c_KINDS) (pv 0) (fun _ _ => rfl)) pa_nil)))))), ?_⟩)
  · obtain ⟨b, x, rfl, _⟩ := h
    rfl
  · obtain ⟨b, x, rfl, q⟩ := h
    walk_at "go"
    refine ⟨A.aK, _, _, rfl, rfl, KD.get b, ?_⟩
    walk_at "go"
    refine ⟨x, 0, _, rfl, ?_⟩
    rw [show decide ((0 : Int) ≤ (x : Nat) ∧ ((x : Nat) : Int) ≤ (kmax b : Nat)) = decide (x ≤ kmax b) from decide_eq_decide.mpr ⟨fun z => by omega, fun z => by omega⟩]
    exact q
theorem pr_arrive {f : Addr} {fd fdK fdW fdE : FuncData} (F : Fun K "arrive" "Core.arrive" s_Core_arrive f fd) (T : Txt K mg A) (c_is_kind : CalD P w K mg base CX0 1 "is_kind" spKind []) (c_may_arrive : CalD P w K mg base CX0 2 "may_arrive" spMay []) (c_NoKind_init : Own P w K mg base CX0 2 A.fK fdK ["self", "found"] (spInitN "found" A.CK)) (c_NoWord_init : Own P w K mg base CX0 2 A.fW fdW ["self", "found"] (spInitN "found" A.CW)) (c_Ended_init : Own P w K mg base CX0 2 A.fE fdE ["self", "found"] (spInitN "found" A.CE)) : FnOk P w K mg base (L2.CX P w) 5 f fd ["self", "kind", "word"] (spArrive A) := by
  refine F.okX sc_Core_arrive (fun vs H Q E h => ?_) (fun cdv A' outer s H vs Q E hr h => have hu := units1 hr; ⟨_, (pss_cons (ps_if (pt_not (pt_val (pe_cal c_is_kind hr (by decide) (by rfl) (pa_cons (pv 1) pa_nil)))) (pss_one (ps_raise rfl (takes_of rfl rfl rfl rfl) (pmk_oexT T.ox_NoKind T.i_NoKind T.t_NoKind c_NoKind_init.ok (hr.mono (by decide)) c_NoKind_init.bd .nil pass0 (by rfl) T.g_NoKind (pa_cons (pv 1) pa_nil)))) pss_nil)
    (pss_cons (ps_if (pt_not (pt_val (pe_cal c_may_arrive hr (by decide) (by rfl) (pa_cons (pv 1) (pa_cons (pv 2) pa_nil))))) (pss_one (ps_raise rfl (takes_of rfl rfl rfl rfl) (pmk_oexT T.ox_NoWord T.i_NoWord T.t_NoWord c_NoWord_init.ok (hr.mono (by decide)) c_NoWord_init.bd .nil pass0 (by rfl) T.g_NoWord (pa_cons (pv 2) pa_nil)))) pss_nil)
    (pss_cons (ps_if (pt_cmpR op_in_seq (pe_fld (pv 0) rfl) (pe_tup (pa_cons pe_str (pa_cons pe_str pa_nil))) (by rfl)) (pss_one (ps_raise rfl (takes_of rfl rfl rfl rfl) (pmk_oexT T.ox_Ended T.i_Ended T.t_Ended c_Ended_init.ok (hr.mono (by decide)) c_Ended_init.bd .nil pass0 (by rfl) T.g_Ended (pa_cons (pe_fld (pv 0) rfl) pa_nil)))) pss_nil)
    (pss_cons (ps_expr (pe_bm PySem.F.plainAttrs_list PySem.F.slot_list_append PySem.F.type_list_append mt_append (pe_dget hu (pe_fld (pv 0) rfl) (pv 1) (fun _ _ => rfl)) (pa_cons (pv 2) pa_nil)))
    (pss_one (ps_fld (pv 0) pe_str rfl)))))), ?_⟩)
  · obtain ⟨k, m, n, b, x, rfl, _⟩ := h
    rfl
  · obtain ⟨k, m, n, b, x, rfl, hP, lm, ln, hst, hx, q⟩ := h
    walk_at "go"
    refine ⟨b, rfl, ?_⟩
    walk_at "go"
    refine ⟨b, x, rfl, ?_⟩
    rw [decide_eq_true hx]
    walk_at "go"
    refine rc_co hP T T.na_Core_state (v := .str m.st.s) rfl rfl ?_
    walk_at "go"
    refine newT fun t0 H0 n0 s0 e0 => ?_
    have ei : inV (.str m.st.s) [.str (Str.ofString "ended"), .str (Str.ofString "fell")] = false := by
      rcases hst with e | e <;> rw [e] <;> decide +kernel
    refine ⟨t0, _, rfl, .inr (sqT e0), rfl, rfl, _, rfl, ?_⟩
    refine ite2 (fun z => absurd (ei.symm.trans z) Bool.false_ne_true) (fun _ => ?_)
    have P0 := hP.same s0
    walk_at "go"
    refine rc_co P0 T T.na_Core_queues (v := .ref k.qd) rfl rfl ?_
    walk_at "go"
    have ok1 := comesM_ok hP.ok (b := b) hx
    cases b with
    | false =>
      refine ⟨k.qd, .ref k.lq, rfl, .inl ⟨_, .inr (Str.ofString "line"), .inl (P0.nm 2 _ _ rfl), rfl, rfl⟩, ?_⟩
      refine ⟨.inl ⟨rfl, _, sqL (P0.nm 4 _ _ rfl)⟩, ?_⟩
      walk_at "go"
      refine ⟨k.lq, _, _, rfl, rfl, P0.nm 4 _ _ rfl, by rw [nv_len, sizeLine_eq]; have := lm.ln; omega, ?_⟩
      rw [nv_app]
      have pr := (CMv.same hP s0).trans (P0.upd1 4 (k' := k) (m' := { m with ln := m.ln ++ [x] }) (u := .lst (nv m.ln)) (v := .lst (nv (m.ln ++ [x]))) rfl { ok1 with } rfl rfl ⟨rfl, rfl⟩ P0.sv P0.av rfl ⟨rfl, rfl, rfl⟩ rfl)
      generalize upd H0 k.lq _ = H1 at pr ⊢
      walk_at "go"
      refine sc_co pr.at_ T T.na_Core_state (v := .str St.runs.s) rfl (fun Q q => r_c q) ?_
      rw [pq_st]
      have pr2 := pr.trans (pr.at_.core (a := m.at_) (t := m.tb) (tm := m.tm) (hd := m.hd) (bk := m.bk) (cs := m.cs) (tr := m.tr) (st := .runs) ok1)
      walk_at "go"
      exact q _ pr2
    | true =>
      refine ⟨k.qd, .ref k.nq, rfl, .inl ⟨_, .inr (Str.ofString "net"), .inl (P0.nm 2 _ _ rfl), rfl, rfl⟩, ?_⟩
      refine ⟨.inl ⟨rfl, _, sqL (P0.nm 5 _ _ rfl)⟩, ?_⟩
      walk_at "go"
      refine ⟨k.nq, _, _, rfl, rfl, P0.nm 5 _ _ rfl, by rw [nv_len, sizeLine_eq]; have := lm.nt; omega, ?_⟩
      rw [nv_app]
      have pr := (CMv.same hP s0).trans (P0.upd1 5 (k' := k) (m' := { m with nt := m.nt ++ [x] }) (u := .lst (nv m.nt)) (v := .lst (nv (m.nt ++ [x]))) rfl { ok1 with } rfl rfl ⟨rfl, rfl⟩ P0.sv P0.av rfl ⟨rfl, rfl, rfl⟩ rfl)
      generalize upd H0 k.nq _ = H1 at pr ⊢
      walk_at "go"
      refine sc_co pr.at_ T T.na_Core_state (v := .str St.runs.s) rfl (fun Q q => r_c q) ?_
      rw [pq_st]
      have pr2 := pr.trans (pr.at_.core (a := m.at_) (t := m.tb) (tm := m.tm) (hd := m.hd) (bk := m.bk) (cs := m.cs) (tr := m.tr) (st := .runs) ok1)
      walk_at "go"
      exact q _ pr2
theorem ok_queue {f : Addr} {fd fdK : FuncData} (F : Fun K "queue" "Core.queue" s_Core_queue f fd) (T : Txt K mg A) (c_is_kind : CalD P w K mg base CX0 1 "is_kind" spKind []) (c_NoKind_init : Own P w K mg base CX0 2 A.fK fdK ["self", "found"] (spInitN "found" A.CK)) : FnOk P w K mg base (L2.CX P w) 5 f fd ["self", "kind"] (spQueue A) := by
  refine F.okX sc_Core_queue (fun vs H Q E h => ?_) (fun cdv A' outer s H vs Q E hr h => have hu := units1 hr; ⟨_, (pss_cons (ps_if (pt_not (pt_val (pe_cal c_is_kind hr (by decide) (by rfl) (pa_cons (pv 1) pa_nil)))) (pss_one (ps_raise rfl (takes_of rfl rfl rfl rfl) (pmk_oexT T.ox_NoKind T.i_NoKind T.t_NoKind c_NoKind_init.ok (hr.mono (by decide)) c_NoKind_init.bd .nil pass0 (by rfl) T.g_NoKind (pa_cons (pv 1) pa_nil)))) pss_nil)
    (pss_one (ps_ret (pe_callTy call_list_of (by rfl) T.m_list (by decide +kernel) (pa_cons (pe_dget hu (pe_fld (pv 0) rfl) (pv 1) (fun _ _ => rfl)) pa_nil))))), ?_⟩)
  · obtain ⟨k, m, b, rfl, _⟩ := h
    rfl
  · obtain ⟨k, m, b, rfl, hP, q⟩ := h
    walk_at "go"
    refine ⟨b, rfl, ?_⟩
    walk_at "go"
    refine rc_co hP T T.na_Core_queues (v := .ref k.qd) rfl rfl ?_
    walk_at "go"
    cases b with
    | false =>
      refine ⟨k.qd, .ref k.lq, rfl, .inl ⟨_, .inr (Str.ofString "line"), .inl (hP.nm 2 _ _ rfl), rfl, rfl⟩, ?_⟩
      walk_at "go"
      exact ⟨k.lq, _, rfl, .inl (sqL (hP.nm 4 _ _ rfl)), fun l hl => q l _ hl (same_upd hl) upd_same⟩
    | true =>
      refine ⟨k.qd, .ref k.nq, rfl, .inl ⟨_, .inr (Str.ofString "net"), .inl (hP.nm 2 _ _ rfl), rfl, rfl⟩, ?_⟩
      walk_at "go"
      exact ⟨k.nq, _, rfl, .inl (sqL (hP.nm 5 _ _ rfl)), fun l hl => q l _ hl (same_upd hl) upd_same⟩
theorem ok_g_td {f : Addr} {fd : FuncData} (F : Fun K "told" "Core.told" s_Core_told f fd) (T : Txt K mg A) : FnOk P w K mg base CX0 5 f fd ["self"] (spGL A fun _ m => nv m.td) := by
  refine F.ok sc_Core_told (fun vs H Q E h => ?_) (fun cdv A' outer s H vs Q E hr h => have hu := units1 hr; ⟨_, (pss_one (ps_ret (pe_callTy call_list_of (by rfl) T.m_list (by decide +kernel) (pa_cons (pe_fld (pv 0) rfl) pa_nil)))), ?_⟩)
  · obtain ⟨k, m, rfl, _⟩ := h
    rfl
  · obtain ⟨k, m, rfl, hP, q⟩ := h
    walk_at "go"
    refine rc_co hP T T.na_Core_told (v := .ref k.td) rfl rfl ?_
    walk_at "go"
    exact ⟨k.td, _, rfl, .inl (sqL (hP.nm 6 _ _ rfl)), fun l hl => q l _ hl (same_upd hl) upd_same⟩
theorem ok_g_sn {f : Addr} {fd : FuncData} (F : Fun K "sent" "Core.sent" s_Core_sent f fd) (T : Txt K mg A) : FnOk P w K mg base CX0 5 f fd ["self"] (spGL A fun k _ => k.ss.map V.ref) := by
  refine F.ok sc_Core_sent (fun vs H Q E h => ?_) (fun cdv A' outer s H vs Q E hr h => have hu := units1 hr; ⟨_, (pss_one (ps_ret (pe_callTy call_list_of (by rfl) T.m_list (by decide +kernel) (pa_cons (pe_fld (pv 0) rfl) pa_nil)))), ?_⟩)
  · obtain ⟨k, m, rfl, _⟩ := h
    rfl
  · obtain ⟨k, m, rfl, hP, q⟩ := h
    walk_at "go"
    refine rc_co hP T T.na_Core_sent (v := .ref k.sn) rfl rfl ?_
    walk_at "go"
    exact ⟨k.sn, _, rfl, .inl (sqL (hP.nm 7 _ _ rfl)), fun l hl => q l _ hl (same_upd hl) upd_same⟩
theorem ok_g_as {f : Addr} {fd : FuncData} (F : Fun K "asks" "Core.asks" s_Core_asks f fd) (T : Txt K mg A) (c_Disk_asks : CalM P w K mg base CX0 5 A.c.D "asks" (spAsks A)) : FnOk P w K mg base CX0 6 f fd ["self"] (spGL A fun k _ => k.ts.map V.ref) := by
  refine F.ok sc_Core_asks (fun vs H Q E h => ?_) (fun cdv A' outer s H vs Q E hr h => have hu := units1 hr; ⟨_, (pss_one (ps_ret (pe_mth0 (pe_fld (pv 0) rfl) T.cl_Disk c_Disk_asks hr (by decide) ps0))), ?_⟩)
  · obtain ⟨k, m, rfl, _⟩ := h
    rfl
  · obtain ⟨k, m, rfl, hP, q⟩ := h
    walk_at "go"
    refine rc_co hP T T.na_Core_disk (v := .ref k.dk) rfl rfl ?_
    refine ⟨k.dk, k.dxd, DQ k m, rfl, hP.nm 1 _ _ rfl, rfl, ?_⟩
    walk_at "go"
    exact ⟨k, m, rfl, hP, q⟩
theorem ok_dmade {f : Addr} {fd : FuncData} (F : Fun K "asks_made" "Disk.asks_made" s_Disk_asks_made f fd) (T : Txt K mg A) : FnOk P w K mg base CX0 5 f fd ["self"] (spMade A) := by
  refine F.ok sc_Disk_asks_made (fun vs H Q E h => ?_) (fun cdv A' outer s H vs Q E hr h => have hu := units1 hr; ⟨_, (pss_one (ps_ret (pe_fld (pv 0) rfl))), ?_⟩)
  · obtain ⟨k, m, rfl, _⟩ := h
    rfl
  · obtain ⟨k, m, rfl, hP, q⟩ := h
    walk_at "go"
    exact rc_di hP T T.na_Disk_made (v := .int (m.mq : Nat)) rfl rfl q
theorem ok_g_mq {f : Addr} {fd : FuncData} (F : Fun K "asks_made" "Core.asks_made" s_Core_asks_made f fd) (T : Txt K mg A) (c_Disk_asks_made : CalM P w K mg base CX0 5 A.c.D "asks_made" (spMade A)) : FnOk P w K mg base CX0 6 f fd ["self"] (spGN A fun m => m.mq) := by
  refine F.ok sc_Core_asks_made (fun vs H Q E h => ?_) (fun cdv A' outer s H vs Q E hr h => have hu := units1 hr; ⟨_, (pss_one (ps_ret (pe_mth0 (pe_fld (pv 0) rfl) T.cl_Disk c_Disk_asks_made hr (by decide) ps0))), ?_⟩)
  · obtain ⟨k, m, rfl, _⟩ := h
    rfl
  · obtain ⟨k, m, rfl, hP, q⟩ := h
    walk_at "go"
    refine rc_co hP T T.na_Core_disk (v := .ref k.dk) rfl rfl ?_
    refine ⟨k.dk, k.dxd, DQ k m, rfl, hP.nm 1 _ _ rfl, rfl, ?_⟩
    walk_at "go"
    exact ⟨k, m, rfl, hP, q⟩
theorem ok_g_dn {f : Addr} {fd : FuncData} (F : Fun K "asks_done" "Core.asks_done" s_Core_asks_done f fd) (T : Txt K mg A) (c_Disk_asks_done : CalM P w K mg base CX0 5 A.c.D "asks_done" (spDone A)) : FnOk P w K mg base CX0 6 f fd ["self"] (spGN A fun m => m.dn) := by
  refine F.ok sc_Core_asks_done (fun vs H Q E h => ?_) (fun cdv A' outer s H vs Q E hr h => have hu := units1 hr; ⟨_, (pss_one (ps_ret (pe_mth0 (pe_fld (pv 0) rfl) T.cl_Disk c_Disk_asks_done hr (by decide) ps0))), ?_⟩)
  · obtain ⟨k, m, rfl, _⟩ := h
    rfl
  · obtain ⟨k, m, rfl, hP, q⟩ := h
    walk_at "go"
    refine rc_co hP T T.na_Core_disk (v := .ref k.dk) rfl rfl ?_
    refine ⟨k.dk, k.dxd, DQ k m, rfl, hP.nm 1 _ _ rfl, rfl, ?_⟩
    walk_at "go"
    exact ⟨k, m, rfl, hP, q⟩
theorem ok_dblocks {f : Addr} {fd : FuncData} (F : Fun K "blocks" "Disk.blocks" s_Disk_blocks f fd) (T : Txt K mg A) : FnOk P w K mg base CX0 5 f fd ["self"] (spBlk A Cq.dk) := by
  refine F.ok sc_Disk_blocks (fun vs H Q E h => ?_) (fun cdv A' outer s H vs Q E hr h => have hu := units1 hr; ⟨_, (pss_one (ps_ret (pe_lc (own := [("block", 1)]) rfl sc_Disk_blocks.nd (pi_list (pe_fld (pv 0) rfl)) (blkOk_by (N := ["self", "block"]) (sc := defScope s_Disk_blocks) (by decide +kernel)) (fun _ _ _ _ _ => (pg_name (i := 1) sc_Disk_blocks.nd rfl (.inl rfl))) (fun _ _ _ _ _ => pts_nil) (fun _ _ _ _ _ => (pe_callTy (call_list_ofK (K := K) rfl) (by rfl) T.m_list (by decide +kernel) (pa_cons (pv 1) pa_nil)))))), ?_⟩)
  · obtain ⟨k, m, rfl, _⟩ := h
    rfl
  · obtain ⟨k, m, rfl, hP, q⟩ := h
    have l8 := hP.ok.bo.l8
    refine lcNewL (xs := k.bs.map V.ref) (fun i => .lst (nv (m.bs.getD i []))) (fun QQ z => rc_di hP T T.na_Disk_blocks (v := .ref k.bl) rfl rfl z) (sqL (hP.nm 8 _ _ rfl)) (by rw [List.length_map, hP.bw.1, l8]; decide) (fun _ => rfl) (fun i y H1 Q' hy s1 kk => ?_) fun D H1 bs nD s1 eD tl et nd fr => ?_
    · rw [List.getElem?_map] at hy
      cases ett : k.bs[i]? with
      | none => rw [ett] at hy; exact nomatch hy
      | some u =>
        rw [ett] at hy
        obtain rfl := Option.some.inj hy
        walk_at "go"
        exact ⟨u, _, rfl, .inl (sqL (s1 _ _ (hP.bw.2 i u ett))), fun l nl => kk l _ nl (same_upd nl) upd_same⟩
    · exact q D bs H1 s1 eD ⟨by rw [tl, List.length_map]; exact hP.bw.1, et⟩ nd (fun b hb => (List.mem_cons.mp hb).elim (fun z => by rw [z]; exact nD) (fr b))
theorem ok_g_bs {f : Addr} {fd : FuncData} (F : Fun K "blocks" "Core.blocks" s_Core_blocks f fd) (T : Txt K mg A) (c_Disk_blocks : CalM P w K mg base CX0 5 A.c.D "blocks" (spBlk A Cq.dk)) : FnOk P w K mg base CX0 6 f fd ["self"] (spBlk A Cq.o) := by
  refine F.ok sc_Core_blocks (fun vs H Q E h => ?_) (fun cdv A' outer s H vs Q E hr h => have hu := units1 hr; ⟨_, (pss_one (ps_ret (pe_mth0 (pe_fld (pv 0) rfl) T.cl_Disk c_Disk_blocks hr (by decide) ps0))), ?_⟩)
  · obtain ⟨k, m, rfl, _⟩ := h
    rfl
  · obtain ⟨k, m, rfl, hP, q⟩ := h
    walk_at "go"
    refine rc_co hP T T.na_Core_disk (v := .ref k.dk) rfl rfl ?_
    refine ⟨k.dk, k.dxd, DQ k m, rfl, hP.nm 1 _ _ rfl, rfl, ?_⟩
    walk_at "go"
    exact ⟨k, m, rfl, hP, q⟩
end
end K15

namespace K15
open PySem PySem.Spec PyProof.Rows L2 Bk Rm Cm


theorem lc_srcL {K : PySem.W.Frag} {σ : L2.St} {H : Hp} {Q : VK} {g : TG} {tt : TT} {te tl : TE} {vs : List Nat} (h : tl σ H fun x H1 => tLc (iList K (tC x)) g tt te vs σ H1 Q) : tLc (iList K tl) g tt te vs σ H Q := h
theorem fm_due {l : List Ask} {n : Nat} : l.filterMap (fun a => if decide (a.due ≤ n) = true then some (V.int (a.no : Nat)) else none) = nv ((l.filter fun a => decide (a.due ≤ n)).map Ask.no) := by
  induction l with
  | nil => rfl
  | cons a l ih =>
    rw [List.filterMap_cons, List.filter_cons]
    by_cases z : a.due ≤ n
    · rw [decide_eq_true z, if_pos rfl, if_pos rfl, ih]
      rfl
    · rw [decide_eq_false z, if_neg Bool.false_ne_true, if_neg Bool.false_ne_true, ih]
def spStepX (A : Ad) : Sp := fun vs H Q E => ∃ (k : Cq) (m : M) (v : V), vs = [.ref k.o, v] ∧ CAt A.c.toCs H k m ∧ (m.st = .ended ∨ m.st = .fell) ∧ RefuseN "found" A.CE (.str m.st.s) H E
def spStep2 (A : Ad) : Sp := fun vs H Q E => spStep A vs H Q E ∨ spStepX A vs H Q E
def spArriveX (A : Ad) : Sp := fun vs H Q E => ∃ (k : Cq) (m : M) (b : Bool) (x : Nat), vs = [.ref k.o, .str (kq b), .int (x : Nat)] ∧ CAt A.c.toCs H k m ∧ (m.st = .ended ∨ m.st = .fell) ∧ x ≤ kmax b ∧ RefuseN "found" A.CE (.str m.st.s) H E
def spArrive2 (A : Ad) : Sp := fun vs H Q E => spArrive A vs H Q E ∨ spArriveX A vs H Q E
section
variable {P : Program} {w : World} {K : PySem.W.Frag} {mg : Str → Option Value} {base : Heap} {A : Ad}
theorem ok_g_due {f : Addr} {fd : FuncData} (F : Fun K "due" "Core.due" s_Core_due f fd) (T : Txt K mg A) (c_Disk_asks : CalM P w K mg base CX0 5 A.c.D "asks" (spAsks A)) : FnOk P w K mg base CX0 6 f fd ["self"] (spGL A fun _ m => nv (dueL m)) := by
  refine F.ok sc_Core_due (fun vs H Q E h => ?_) (fun cdv A' outer s H vs Q E hr h => have hu65 := units65 hr; have hu64 := hr.units; have hu := units1 hr; ⟨_, (pss_one (ps_ret (pe_lc (own := [("ask", 1)]) rfl sc_Core_due.nd (pi_list (pe_mth0 (pe_fld (pv 0) rfl) T.cl_Disk c_Disk_asks hr (by decide) ps0)) (blkOk_by (N := ["self", "ask"]) (sc := defScope s_Core_due) (by decide +kernel)) (fun _ _ _ _ _ => (pg_name (i := 1) sc_Core_due.nd rfl (.inl rfl))) (fun _ _ _ _ _ => pts_one (pt_cmpR op_le (pe_ix (ix_tupK (K := K) rfl) (pv 1) pe_int (fun _ _ => rfl)) (pe_fldK (K := K) rfl (pv 0) rfl) (nomark _))) (fun _ _ _ _ _ => (pe_ix (ix_tupK (K := K) rfl) (pv 1) pe_int (fun _ _ => rfl)))))), ?_⟩)
  · obtain ⟨k, m, rfl, _⟩ := h
    rfl
  · obtain ⟨k, m, rfl, hP, q⟩ := h
    have lz := hP.av.1
    have le8 := hP.ok.a8
    refine lc_srcL ?_
    walk_at "go"
    refine rc_co hP T T.na_Core_disk (v := .ref k.dk) rfl rfl ?_
    refine ⟨k.dk, k.dxd, DQ k m, rfl, hP.nm 1 _ _ rfl, rfl, ?_⟩
    walk_at "go"
    refine ⟨k, m, rfl, hP, fun p H1 n1 s1 e1 => ?_⟩
    have P1 := hP.same s1
    refine lcLF (xs := k.ts.map V.ref) (fun i => (fun a : Ask => if decide (a.due ≤ m.tm) = true then some (V.int (a.no : Nat)) else none) (m.as.getD i a0.2)) (fun QQ z => z) (sqL e1) (by rw [List.length_map]; omega) (fun _ => rfl) (fun i y H2 Q' R' hy s2 h1 h2 => ?_) fun D H2 nD s2 e2 => ?_
    · rw [List.getElem?_map] at hy
      cases et : k.ts[i]? with
      | none => rw [et] at hy; exact nomatch hy
      | some t =>
        rw [et] at hy
        obtain rfl := Option.some.inj hy
        obtain ⟨a, ea, ez⟩ := zip_at a0 lz et
        have ta := (Same.ts (s1.trans s2)) _ _ (hP.av.2 i t a et ea)
        rw [List.getD_eq_getElem?_getD, ea] at h1 h2
        dsimp only [Option.getD_some] at h1 h2
        walk_at "go"
        refine r_ixT (SqT.of ta) (v := .int (a.due : Nat)) rfl ?_
        walk_at "go"
        refine rc_co (P1.same s2) T T.na_Core_time (v := .int (m.tm : Nat)) rfl rfl ?_
        walk_at "go"
        by_cases z : a.due ≤ m.tm
        · rw [decide_eq_true (Int.ofNat_le.mpr z), if_pos rfl]
          walk_at "go"
          exact r_ixT (SqT.of ta) (v := .int (a.no : Nat)) rfl (h1 _ (if_pos (decide_eq_true z)) _ (Same.refl _))
        · rw [decide_eq_false (fun y => z (Int.ofNat_le.mp y)), if_neg Bool.false_ne_true]
          exact h2 (if_neg (fun y => z (of_decide_eq_true y))) _ (Same.refl _)
    rw [List.length_map, lz] at e2
    have e2 := e2.trans (congrArg (fun l => some (HO.lst l)) ((rng_fm a0.2 m.as fun a => if decide (a.due ≤ m.tm) = true then some (V.int (a.no : Nat)) else none).trans fm_due))
    exact q D H2 (none_of s1 nD) (s1.trans s2) e2
theorem pr_stepX {f : Addr} {fd fdE : FuncData} (F : Fun K "step" "Core.step" s_Core_step f fd) (T : Txt K mg A) (c_Disk_serve : CalM P w K mg base (L2.CX P w) 7 A.c.D "serve" (spServe A)) (c_Core_act : CalM P w K mg base (L2.CX P w) 10 A.c.C "_act" (spActm A)) (c_Core_trap_by : CalM P w K mg base CX0 5 A.c.C "_trap_by" (spTrapBy A)) (c_Ended_init : Own P w K mg base CX0 2 A.fE fdE ["self", "found"] (spInitN "found" A.CE)) : FnOk P w K mg base (L2.CX P w) 11 f fd ["self", "store"] (spStepX A) := by
  refine F.okX sc_Core_step (fun vs H Q E h => ?_) (fun cdv A' outer s H vs Q E hr h => have hu := units1 hr; ⟨_, (pss_cons (ps_if (pt_cmpR op_in_seq (pe_fld (pv 0) rfl) (pe_tup (pa_cons pe_str (pa_cons pe_str pa_nil))) (by rfl)) (pss_one (ps_raise rfl (takes_of rfl rfl rfl rfl) (pmk_oexT T.ox_Ended T.i_Ended T.t_Ended c_Ended_init.ok (hr.mono (by decide)) c_Ended_init.bd .nil pass0 (by rfl) T.g_Ended (pa_cons (pe_fld (pv 0) rfl) pa_nil)))) pss_nil)
    (pss_cons (ps_fld (pv 0) pe_str rfl)
    (pss_cons (ps_par (i := 2) (j := 3) rfl sc_Core_step.nd rfl rfl (by decide) rfl rfl (pa_cons (pe_fld (pv 0) rfl) (pa_cons (pe_fld (pv 0) rfl) pa_nil)) (by rfl))
    (pss_cons (ps_set (i := 4) sc_Core_step.nd rfl (.inl rfl) (pe_mth (pe_fld (pv 0) rfl) T.cl_Disk c_Disk_serve hr (by decide) (psX (takes_of rfl rfl rfl rfl)) (pa_cons (pv 2) (pa_cons (pv 1) pa_nil))))
    (pss_cons (ps_asg (pe_mth (pv 0) T.cl_Core c_Core_act hr (by decide) (psX (takes_of rfl rfl rfl rfl)) (pa_cons (pv 1) (pa_cons (pv 4) pa_nil))) (pg_tup rfl (pgs_cons (pg_name (i := 5) sc_Core_step.nd rfl (.inl rfl)) (pgs_cons (pg_name (i := 6) sc_Core_step.nd rfl (.inl rfl)) pgs_nil))))
    (pss_cons (ps_if (pt_cmpR op_eq (pv 5) pe_str (nomark _)) (pss_cons (ps_fld (pv 0) pe_str rfl)
    (pss_one (ps_ret pe_non))) pss_nil)
    (pss_cons (ps_fldaug (pv 0) pe_int in_add)
    (pss_cons (ps_if (pt_cmpR op_eq (pv 5) pe_str (nomark _)) (pss_one (ps_ret (pe_tup (pa_cons (pv 2) (pa_cons (pe_mth (pv 0) T.cl_Core c_Core_trap_by hr (by decide) ps0 (pa_cons (pv 6) pa_nil)) (pa_cons (pv 3) (pa_cons (pv 6) pa_nil))))))) pss_nil)
    (pss_cons (ps_if (pt_cmpR op_eq (pv 5) pe_str (nomark _)) (pss_cons (ps_fld (pv 0) (pv 6) rfl)
    (pss_one (ps_ret (pe_tup (pa_cons (pv 2) (pa_cons pe_str (pa_cons (pv 3) (pa_cons pe_non pa_nil)))))))) pss_nil)
    (pss_cons (ps_fld (pv 0) (pe_op op_mod (pe_op op_add (pv 3) pe_int) (C8.pe_gc (by rfl) T.c_PLACES)) rfl)
    (pss_one (ps_ret (pe_tup (pa_cons (pv 2) (pa_cons (pv 5) (pa_cons (pv 3) (pa_cons (pv 6) pa_nil))))))))))))))))), ?_⟩)
  · obtain ⟨k, m, v, rfl, _⟩ := h
    rfl
  · obtain ⟨k, m, v, rfl, hP, hst, q⟩ := h
    walk_at "go"
    refine rc_co hP T T.na_Core_state (v := .str m.st.s) rfl rfl ?_
    walk_at "go"
    refine newT fun t0 H0 n0 s0 e0 => ?_
    have ei : inV (.str m.st.s) [.str (Str.ofString "ended"), .str (Str.ofString "fell")] = true := by
      rcases hst with e | e <;> rw [e] <;> decide +kernel
    refine ⟨t0, _, rfl, .inr (sqT e0), rfl, rfl, _, rfl, ?_⟩
    refine ite2 (fun _ => ?_) (fun z => absurd ei z)
    have P0 := hP.same s0
    walk_at "go"
    refine rc_co P0 T T.na_Core_state (v := .str m.st.s) rfl rfl ?_
    walk_at "go"
    exact r_mkN (RefuseN.on (nm := "found") q s0)
theorem pr_arriveX {f : Addr} {fd fdK fdW fdE : FuncData} (F : Fun K "arrive" "Core.arrive" s_Core_arrive f fd) (T : Txt K mg A) (c_is_kind : CalD P w K mg base CX0 1 "is_kind" spKind []) (c_may_arrive : CalD P w K mg base CX0 2 "may_arrive" spMay []) (c_NoKind_init : Own P w K mg base CX0 2 A.fK fdK ["self", "found"] (spInitN "found" A.CK)) (c_NoWord_init : Own P w K mg base CX0 2 A.fW fdW ["self", "found"] (spInitN "found" A.CW)) (c_Ended_init : Own P w K mg base CX0 2 A.fE fdE ["self", "found"] (spInitN "found" A.CE)) : FnOk P w K mg base (L2.CX P w) 5 f fd ["self", "kind", "word"] (spArriveX A) := by
  refine F.okX sc_Core_arrive (fun vs H Q E h => ?_) (fun cdv A' outer s H vs Q E hr h => have hu := units1 hr; ⟨_, (pss_cons (ps_if (pt_not (pt_val (pe_cal c_is_kind hr (by decide) (by rfl) (pa_cons (pv 1) pa_nil)))) (pss_one (ps_raise rfl (takes_of rfl rfl rfl rfl) (pmk_oexT T.ox_NoKind T.i_NoKind T.t_NoKind c_NoKind_init.ok (hr.mono (by decide)) c_NoKind_init.bd .nil pass0 (by rfl) T.g_NoKind (pa_cons (pv 1) pa_nil)))) pss_nil)
    (pss_cons (ps_if (pt_not (pt_val (pe_cal c_may_arrive hr (by decide) (by rfl) (pa_cons (pv 1) (pa_cons (pv 2) pa_nil))))) (pss_one (ps_raise rfl (takes_of rfl rfl rfl rfl) (pmk_oexT T.ox_NoWord T.i_NoWord T.t_NoWord c_NoWord_init.ok (hr.mono (by decide)) c_NoWord_init.bd .nil pass0 (by rfl) T.g_NoWord (pa_cons (pv 2) pa_nil)))) pss_nil)
    (pss_cons (ps_if (pt_cmpR op_in_seq (pe_fld (pv 0) rfl) (pe_tup (pa_cons pe_str (pa_cons pe_str pa_nil))) (by rfl)) (pss_one (ps_raise rfl (takes_of rfl rfl rfl rfl) (pmk_oexT T.ox_Ended T.i_Ended T.t_Ended c_Ended_init.ok (hr.mono (by decide)) c_Ended_init.bd .nil pass0 (by rfl) T.g_Ended (pa_cons (pe_fld (pv 0) rfl) pa_nil)))) pss_nil)
    (pss_cons (ps_expr (pe_bm PySem.F.plainAttrs_list PySem.F.slot_list_append PySem.F.type_list_append mt_append (pe_dget hu (pe_fld (pv 0) rfl) (pv 1) (fun _ _ => rfl)) (pa_cons (pv 2) pa_nil)))
    (pss_one (ps_fld (pv 0) pe_str rfl)))))), ?_⟩)
  · obtain ⟨k, m, b, x, rfl, _⟩ := h
    rfl
  · obtain ⟨k, m, b, x, rfl, hP, hst, hx, q⟩ := h
    walk_at "go"
    refine ⟨b, rfl, ?_⟩
    walk_at "go"
    refine ⟨b, x, rfl, ?_⟩
    rw [decide_eq_true hx]
    walk_at "go"
    refine rc_co hP T T.na_Core_state (v := .str m.st.s) rfl rfl ?_
    walk_at "go"
    refine newT fun t0 H0 n0 s0 e0 => ?_
    have ei : inV (.str m.st.s) [.str (Str.ofString "ended"), .str (Str.ofString "fell")] = true := by
      rcases hst with e | e <;> rw [e] <;> decide +kernel
    refine ⟨t0, _, rfl, .inr (sqT e0), rfl, rfl, _, rfl, ?_⟩
    refine ite2 (fun _ => ?_) (fun z => absurd ei z)
    have P0 := hP.same s0
    walk_at "go"
    refine rc_co P0 T T.na_Core_state (v := .str m.st.s) rfl rfl ?_
    walk_at "go"
    exact r_mkN (RefuseN.on (nm := "found") q s0)
theorem ok_step2 {f : Addr} {fd fdE : FuncData} (F : Fun K "step" "Core.step" s_Core_step f fd) (T : Txt K mg A) (c_Disk_serve : CalM P w K mg base (L2.CX P w) 7 A.c.D "serve" (spServe A)) (c_Core_act : CalM P w K mg base (L2.CX P w) 10 A.c.C "_act" (spActm A)) (c_Core_trap_by : CalM P w K mg base CX0 5 A.c.C "_trap_by" (spTrapBy A)) (c_Ended_init : Own P w K mg base CX0 2 A.fE fdE ["self", "found"] (spInitN "found" A.CE)) : FnOk P w K mg base (L2.CX P w) 11 f fd ["self", "store"] (spStep2 A) := by
  exact FnOk.or (pr_step F T c_Disk_serve c_Core_act c_Core_trap_by c_Ended_init) (pr_stepX F T c_Disk_serve c_Core_act c_Core_trap_by c_Ended_init)
theorem ok_arrive2 {f : Addr} {fd fdK fdW fdE : FuncData} (F : Fun K "arrive" "Core.arrive" s_Core_arrive f fd) (T : Txt K mg A) (c_is_kind : CalD P w K mg base CX0 1 "is_kind" spKind []) (c_may_arrive : CalD P w K mg base CX0 2 "may_arrive" spMay []) (c_NoKind_init : Own P w K mg base CX0 2 A.fK fdK ["self", "found"] (spInitN "found" A.CK)) (c_NoWord_init : Own P w K mg base CX0 2 A.fW fdW ["self", "found"] (spInitN "found" A.CW)) (c_Ended_init : Own P w K mg base CX0 2 A.fE fdE ["self", "found"] (spInitN "found" A.CE)) : FnOk P w K mg base (L2.CX P w) 5 f fd ["self", "kind", "word"] (spArrive2 A) := by
  exact FnOk.or (pr_arrive F T c_is_kind c_may_arrive c_NoKind_init c_NoWord_init c_Ended_init) (pr_arriveX F T c_is_kind c_may_arrive c_NoKind_init c_NoWord_init c_Ended_init)
end
end K15

namespace K15
open PySem PySem.Spec PyProof.Rows L2 Bk Rm Cm


section
variable (A : Ad)
def spStands : Sp := fun vs H Q _ => ∃ (k : Cq) (m : M) (n : Nat), vs = [.ref k.o] ∧ CAt A.c.toCs H k m ∧ m.Lim n ∧ n ≤ 1000000 ∧ ∀ t H', Same H H' → StV H' t m → Q (.ref t) H'
/-- a disk that stands so -/
def spDiskOf : Sp := fun vs H Q _ => ∃ (tb ta : Addr) (bs : List (List Nat)) (ts : List Addr) (as : List Ask) (mq dn : Nat), vs = [.ref tb, .ref ta, .int (mq : Nat), .int (dn : Nat)] ∧ Eight H tb bs ∧ Rows8 bs ∧ H ta = some (.tup (ts.map V.ref)) ∧ Tps askV H ts as ∧ as.length ≤ 8 ∧
  ∀ dk dxd bl al bsl H', bsl.length = bs.length → Nw H H' ((dk, .ins A.c.D dxd [("_blocks", .ref bl), ("_asks", .ref al), ("_made", .int (mq : Nat)), ("_done", .int (dn : Nat))]) :: (al, .lst (ts.map V.ref)) :: (bl, .lst (bsl.map V.ref)) :: rowsF bsl bs) → Q (.ref dk) H'
end
section
variable {P : Program} {w : World} {K : PySem.W.Frag} {mg : Str → Option Value} {base : Heap} {A : Ad}
theorem ok_stands {f : Addr} {fd : FuncData} (F : Fun K "stands" "Core.stands" s_Core_stands f fd) (T : Txt K mg A) (c_Disk_blocks : CalM P w K mg base CX0 5 A.c.D "blocks" (spBlk A Cq.dk)) (c_Disk_asks : CalM P w K mg base CX0 5 A.c.D "asks" (spAsks A)) (c_Disk_asks_made : CalM P w K mg base CX0 5 A.c.D "asks_made" (spMade A)) (c_Disk_asks_done : CalM P w K mg base CX0 5 A.c.D "asks_done" (spDone A)) : FnOk P w K mg base CX0 6 f fd ["self"] (spStands A) := by
  refine F.ok sc_Core_stands (fun vs H Q E h => ?_) (fun cdv A' outer s H vs Q E hr h => have hu65 := units65 hr; have hu64 := hr.units; have hu := units1 hr; ⟨_, (pss_one (ps_ret (pe_tup (pa_cons (pe_callTy call_tuple_of (by rfl) T.m_tuple (by decide +kernel) (pa_cons (pe_fld (pv 0) rfl) pa_nil)) (pa_cons (pe_fld (pv 0) rfl) (pa_cons (pe_fld (pv 0) rfl) (pa_cons (pe_fld (pv 0) rfl) (pa_cons (pe_fld (pv 0) rfl) (pa_cons (pe_fld (pv 0) rfl) (pa_cons (pe_fld (pv 0) rfl) (pa_cons (pe_fld (pv 0) rfl) (pa_cons (pe_fld (pv 0) rfl) (pa_cons (pe_callTy call_tuple_of (by rfl) T.m_tuple (by decide +kernel) (pa_cons (pe_dget hu (pe_fld (pv 0) rfl) pe_str (fun _ _ => rfl)) pa_nil)) (pa_cons (pe_callTy call_tuple_of (by rfl) T.m_tuple (by decide +kernel) (pa_cons (pe_dget hu (pe_fld (pv 0) rfl) pe_str (fun _ _ => rfl)) pa_nil)) (pa_cons (pe_callB call_len_seq (by rfl) T.m_len (by decide +kernel) (pa_cons (pe_fld (pv 0) rfl) pa_nil)) (pa_cons (pe_callB call_len_seq (by rfl) T.m_len (by decide +kernel) (pa_cons (pe_fld (pv 0) rfl) pa_nil)) (pa_cons (pe_callTy call_tuple_of (by rfl) T.m_tuple (by decide +kernel) (pa_cons (pe_lc (own := [("block", 1)]) rfl sc_Core_stands.nd (pi_list (pe_mth0 (pe_fld (pv 0) rfl) T.cl_Disk c_Disk_blocks hr (by decide) ps0)) (blkOk_by (N := ["self", "block"]) (sc := defScope s_Core_stands) (by decide +kernel)) (fun _ _ _ _ _ => (pg_name (i := 1) sc_Core_stands.nd rfl (.inl rfl))) (fun _ _ _ _ _ => pts_nil) (fun _ _ _ _ _ => (pe_callTy (call_tuple_ofK (K := K) rfl) (by rfl) T.m_tuple (by decide +kernel) (pa_cons (pv 1) pa_nil)))) pa_nil)) (pa_cons (pe_callTy call_tuple_of (by rfl) T.m_tuple (by decide +kernel) (pa_cons (pe_mth0 (pe_fld (pv 0) rfl) T.cl_Disk c_Disk_asks hr (by decide) ps0) pa_nil)) (pa_cons (pe_mth0 (pe_fld (pv 0) rfl) T.cl_Disk c_Disk_asks_made hr (by decide) ps0) (pa_cons (pe_mth0 (pe_fld (pv 0) rfl) T.cl_Disk c_Disk_asks_done hr (by decide) ps0) pa_nil)))))))))))))))))))), ?_⟩)
  · obtain ⟨k, m, n, rfl, _⟩ := h
    rfl
  · obtain ⟨k, m, n, rfl, hP, lm, hn, q⟩ := h
    walk_at "go"
    refine rc_co hP T T.na_Core_registers (v := .ref k.rg) rfl rfl ?_
    walk_at "go"
    refine ⟨k.rg, _, rfl, .inl ⟨sqL (hP.nm 3 _ _ rfl), fun t0 n0 => ?_⟩⟩
    have s0 := same_upd (o := .tup (nv m.r)) n0
    have e0 : upd H t0 (.tup (nv m.r)) t0 = some (.tup (nv m.r)) := upd_same
    generalize upd H t0 (.tup (nv m.r)) = H0 at s0 e0 ⊢
    have P0 := hP.same s0
    walk_at "go"
    refine rc_co P0 T T.na_Core_counter (v := .int (m.at_ : Nat)) rfl rfl ?_
    walk_at "go"
    refine rc_co P0 T T.na_Core_table (v := .int (m.tb : Nat)) rfl rfl ?_
    walk_at "go"
    refine rc_co P0 T T.na_Core_time (v := .int (m.tm : Nat)) rfl rfl ?_
    walk_at "go"
    refine rc_co P0 T T.na_Core_handler (v := .int (m.hd : Nat)) rfl rfl ?_
    walk_at "go"
    refine rc_co P0 T T.na_Core_back_to (v := .int (m.bk : Nat)) rfl rfl ?_
    walk_at "go"
    refine rc_co P0 T T.na_Core_cause (v := .int (m.cs : Nat)) rfl rfl ?_
    walk_at "go"
    refine rc_co P0 T T.na_Core_trapped (v := .bl m.tr) rfl rfl ?_
    walk_at "go"
    refine rc_co P0 T T.na_Core_state (v := .str m.st.s) rfl rfl ?_
    walk_at "go"
    refine rc_co P0 T T.na_Core_queues (v := .ref k.qd) rfl rfl ?_
    walk_at "go"
    refine ⟨k.qd, .ref k.lq, rfl, .inl ⟨_, .inr (Str.ofString "line"), .inl (P0.nm 2 _ _ rfl), rfl, rfl⟩, ?_⟩
    walk_at "go"
    refine ⟨k.lq, _, rfl, .inl ⟨sqL (P0.nm 4 _ _ rfl), fun t1 n1 => ?_⟩⟩
    have s1 := same_upd (o := .tup (nv m.ln)) n1
    have e1 : upd H0 t1 (.tup (nv m.ln)) t1 = some (.tup (nv m.ln)) := upd_same
    generalize upd H0 t1 (.tup (nv m.ln)) = H1 at s1 e1 ⊢
    have P1 := P0.same s1
    walk_at "go"
    refine rc_co P1 T T.na_Core_queues (v := .ref k.qd) rfl rfl ?_
    walk_at "go"
    refine ⟨k.qd, .ref k.nq, rfl, .inl ⟨_, .inr (Str.ofString "net"), .inl (P1.nm 2 _ _ rfl), rfl, rfl⟩, ?_⟩
    walk_at "go"
    refine ⟨k.nq, _, rfl, .inl ⟨sqL (P1.nm 5 _ _ rfl), fun t2 n2 => ?_⟩⟩
    have s2 := same_upd (o := .tup (nv m.nt)) n2
    have e2 : upd H1 t2 (.tup (nv m.nt)) t2 = some (.tup (nv m.nt)) := upd_same
    generalize upd H1 t2 (.tup (nv m.nt)) = H2 at s2 e2 ⊢
    have P2 := P1.same s2
    walk_at "go"
    refine rc_co P2 T T.na_Core_told (v := .ref k.td) rfl rfl ?_
    walk_at "go"
    refine ⟨k.td, _, rfl, .inl (sqL (P2.nm 6 _ _ rfl)), ?_⟩
    walk_at "go"
    refine rc_co P2 T T.na_Core_sent (v := .ref k.sn) rfl rfl ?_
    walk_at "go"
    refine ⟨k.sn, _, rfl, .inl (sqL (P2.nm 7 _ _ rfl)), ?_⟩
    walk_at "go"
    refine lc_srcL ?_
    walk_at "go"
    refine rc_co P2 T T.na_Core_disk (v := .ref k.dk) rfl rfl ?_
    refine ⟨k.dk, k.dxd, DQ k m, rfl, P2.nm 1 _ _ rfl, rfl, ?_⟩
    walk_at "go"
    refine ⟨k, m, rfl, P2, fun bl bs H3 s3 e3 rw3 nd3 fr3 => ?_⟩
    have P3 := P2.same s3
    refine lcNewL (xs := bs.map V.ref) (fun i => .tup (nv (m.bs.getD i []))) (fun QQ z => z) (sqL e3) (by rw [List.length_map, rw3.1, hP.ok.bo.l8]; omega) (fun _ => rfl) (fun i y H4 Q' hy s4 kk => ?_) fun D H4 us nD s4 eD ul et nd fr => ?_
    · rw [List.getElem?_map] at hy
      cases ett : bs[i]? with
      | none => rw [ett] at hy; exact nomatch hy
      | some t =>
        rw [ett] at hy
        obtain rfl := Option.some.inj hy
        walk_at "go"
        exact ⟨t, _, rfl, .inl ⟨sqL (s4 _ _ (rw3.2 i t ett)), fun l nl => kk l _ nl (same_upd nl) upd_same⟩⟩
    have P4 := P3.same s4
    have ul : us.length = m.bs.length := by rw [ul, List.length_map]; exact rw3.1
    walk_at "go"
    refine ⟨D, _, rfl, .inl ⟨sqL eD, fun t13 n13 => ?_⟩⟩
    have s5 := same_upd (o := .tup (us.map V.ref)) n13
    have e5 : upd H4 t13 (.tup (us.map V.ref)) t13 = some (.tup (us.map V.ref)) := upd_same
    generalize upd H4 t13 (.tup (us.map V.ref)) = H5 at s5 e5 ⊢
    have P5 := P4.same s5
    walk_at "go"
    refine rc_co P5 T T.na_Core_disk (v := .ref k.dk) rfl rfl ?_
    refine ⟨k.dk, k.dxd, DQ k m, rfl, P5.nm 1 _ _ rfl, rfl, ?_⟩
    walk_at "go"
    refine ⟨k, m, rfl, P5, fun al H6 n6 s6 e6 => ?_⟩
    have P6 := P5.same s6
    refine r_nil ?_
    refine ⟨al, _, rfl, .inl ⟨sqL e6, fun t14 n14 => ?_⟩⟩
    have s7 := same_upd (o := .tup (k.ts.map V.ref)) n14
    have e7 : upd H6 t14 (.tup (k.ts.map V.ref)) t14 = some (.tup (k.ts.map V.ref)) := upd_same
    generalize upd H6 t14 (.tup (k.ts.map V.ref)) = H7 at s7 e7 ⊢
    have P7 := P6.same s7
    walk_at "go"
    refine rc_co P7 T T.na_Core_disk (v := .ref k.dk) rfl rfl ?_
    refine ⟨k.dk, k.dxd, DQ k m, rfl, P7.nm 1 _ _ rfl, rfl, ?_⟩
    walk_at "go"
    refine ⟨k, m, rfl, P7, ?_⟩
    walk_at "go"
    refine rc_co P7 T T.na_Core_disk (v := .ref k.dk) rfl rfl ?_
    refine ⟨k.dk, k.dxd, DQ k m, rfl, P7.nm 1 _ _ rfl, rfl, ?_⟩
    walk_at "go"
    refine ⟨k, m, rfl, P7, ?_⟩
    walk_at "go"
    rw [nv_len, List.length_map, P2.sv.1]
    refine newT fun t H8 n8 s8 e8 => ?_
    have s47 := ((s5.trans s6).trans s7).trans s8
    have s37 := s4.trans s47
    refine q t H8 (((((s0.trans s1).trans s2).trans s3).trans s4).trans s47) ⟨t0, t1, t2, t13, t14, k.ts, us, e8, ((s1.trans s2).trans (s3.trans s37)) _ _ e0, (s2.trans (s3.trans s37)) _ _ e1, (s3.trans s37) _ _ e2, ⟨((s6.trans s7).trans s8) _ _ e5, ul, fun i t ws a b => ?_⟩, s8 _ _ e7, (P7.same s8).av⟩
    have := et i t a
    rw [List.getD_eq_getElem?_getD, b] at this
    exact s47 _ _ this
theorem ok_diskof {f : Addr} {fd : FuncData} (F : Fun K "disk_of" "disk_of" s_disk_of f fd) (T : Txt K mg A) (c_Disk_init : CalC P w K mg base CX0 5 A.c.D "Disk" (spDI A)) : FnOk P w K mg base CX0 7 f fd ["blocks", "asks", "made", "done"] (spDiskOf A) := by
  refine F.ok sc_disk_of (fun vs H Q E h => ?_) (fun cdv A' outer s H vs Q E hr h => have hu65 := units65 hr; have hu64 := hr.units; have hu := units1 hr; ⟨_, (pss_cons (ps_set (i := 4) sc_disk_of.nd rfl (.inl rfl) (pe_mk c_Disk_init hr (by decide) (by rfl) ps0 (pa_cons (pv 0) pa_nil)))
    (pss_cons (ps_fld (pv 4) (pe_lc (own := [("ask", 5)]) rfl sc_disk_of.nd (pi_tup (pv 1)) (blkOk_by (N := ["blocks", "asks", "made", "done", "disk", "ask"]) (sc := defScope s_disk_of) (by decide +kernel)) (fun _ _ _ _ _ => (pg_name (i := 5) sc_disk_of.nd rfl (.inl rfl))) (fun _ _ _ _ _ => pts_nil) (fun _ _ _ _ _ => (pe_callTy (call_tuple_ofK (K := K) rfl) (by rfl) T.m_tuple (by decide +kernel) (pa_cons (pv 5) pa_nil)))) rfl)
    (pss_cons (ps_fld (pv 4) (pv 2) rfl)
    (pss_cons (ps_fld (pv 4) (pv 3) rfl)
    (pss_one (ps_ret (pv 4))))))), ?_⟩)
  · obtain ⟨tb, ta, bs, ts, as, mq, dn, rfl, _⟩ := h
    rfl
  · obtain ⟨tb, ta, bs, ts, as, mq, dn, rfl, hE, ok, ea, tp, l8, q⟩ := h
    walk_at "go"
    intro x dx nx ndx nex
    have nx2 : upd H dx (.own x) x = none := by rw [upd_ne nex.symm]; exact nx
    have sE := (same_upd (o := .own x) ndx).trans (same_upd (o := .ins A.c.D dx []) nx2)
    refine ⟨x, dx, tb, bs, rfl, hE.keep (Same.ts sE), ok, upd_same, fun bl al0 bsl H1 lb bn => ⟨rfl, ?_⟩⟩
    obtain ⟨sC, fC, nC, frC⟩ := bn.all nx2
    have g1 : Nw H H1 _ := ⟨(same_upd (o := .own x) ndx).trans sC, fC, fun z hz => none_of (same_upd ndx) (frC z.1 (List.mem_map.mpr ⟨z, hz, rfl⟩)), nC⟩
    have g1 := g1.drop (F' := (x, HO.ins A.c.D dx [("_blocks", .ref bl), ("_asks", .ref al0), ("_made", .int 0), ("_done", .int 0)]) :: (bl, .lst (bsl.map V.ref)) :: rowsF bsl bs) (List.cons_sublist_cons.mpr (List.cons_sublist_cons.mpr (List.sublist_append_left _ _)))
    walk_at "go"
    unfold sFld
    refine lcTupT (ts := ts) (fun QQ z => r_var rfl z) (SqT.of (g1.sm _ _ ea)) (by rw [tp.1]; omega) (fun t ht => ?_) (fun _ => rfl) (fun _ => rfl) fun al H2 n2 s2 e2 => ?_
    · obtain ⟨i, hi, et⟩ := List.getElem_of_mem ht
      have li : i < as.length := by rw [← tp.1]; exact hi
      exact ⟨_, g1.sm _ _ (tp.2 i t as[i] (by rw [List.getElem?_eq_getElem hi, et]) (List.getElem?_eq_getElem li))⟩
    have g2 := g1.new s2 n2 e2
    refine ⟨_, rfl, x, A.c.D, dx, _, rfl, g2.at 1 rfl, T.cl_Disk, T.na_Disk_asks, Nat.le_of_ble_eq_true rfl, ?_⟩
    have g3 := g2.set 1 (o' := .ins A.c.D dx (putF ("_asks" : Str) (.ref al) [("_blocks", .ref bl), ("_asks", .ref al0), ("_made", .int 0), ("_done", .int 0)])) rfl
    generalize upd H2 x _ = H3 at g3 ⊢
    walk_at "go"
    refine ⟨x, A.c.D, dx, _, rfl, g3.at 1 rfl, T.cl_Disk, T.na_Disk_made, Nat.le_of_ble_eq_true rfl, ?_⟩
    have g4 := g3.set 1 (o' := .ins A.c.D dx (putF ("_made" : Str) (.int (mq : Nat)) (putF ("_asks" : Str) (.ref al) [("_blocks", .ref bl), ("_asks", .ref al0), ("_made", .int 0), ("_done", .int 0)]))) rfl
    generalize upd H3 x _ = H4 at g4 ⊢
    walk_at "go"
    refine ⟨x, A.c.D, dx, _, rfl, g4.at 1 rfl, T.cl_Disk, T.na_Disk_done, Nat.le_of_ble_eq_true rfl, ?_⟩
    have g5 := g4.set 1 (o' := .ins A.c.D dx (putF ("_done" : Str) (.int (dn : Nat)) (putF ("_made" : Str) (.int (mq : Nat)) (putF ("_asks" : Str) (.ref al) [("_blocks", .ref bl), ("_asks", .ref al0), ("_made", .int 0), ("_done", .int 0)])))) rfl
    generalize upd H4 x _ = H5 at g5 ⊢
    walk_at "go"
    exact q x dx bl al bsl H5 lb (g5.perm (.swap ..))
end
end K15

namespace K15
open PySem PySem.Spec PyProof.Rows L2 Bk Rm Cm


def FQ (r a t m h b c tr st q td sn d : V) : List (Str × V) := [("_registers", r), ("_counter", a), ("_table", t), ("_time", m), ("_handler", h), ("_back_to", b), ("_cause", c), ("_trapped", tr), ("_state", st), ("_queues", q), ("_told", td), ("_sent", sn), ("_disk", d)]
section
variable (A : Ad)
def spCoreOf (K : PySem.W.Frag) : Sp := fun vs H Q _ => ∃ (t tl sl : Addr) (m : M) (ss : List Addr) (n : Nat), vs = [.ref t, .ref tl, .ref sl] ∧ StV H t m ∧ m.Ok ∧ m.Lim n ∧ n ≤ 10000 ∧ SqA K H tl (nv m.td) ∧ SqA K H sl (ss.map V.ref) ∧ Tps sentV H ss m.sn ∧ ∀ k' H', Same H H' → CAt A.c.toCs H' k' m → (∀ b ∈ ownQ k', H b = none) → Q (.ref k'.o) H'
def spTwin : Sp := fun vs H Q _ => ∃ (k : Cq) (m : M) (n : Nat), vs = [.ref k.o] ∧ CAt A.c.toCs H k m ∧ m.Lim n ∧ n ≤ 10000 ∧ ∀ k' H', Same H H' → CAt A.c.toCs H' k' m → (∀ b ∈ ownQ k', H b = none) → Q (.ref k'.o) H'
end
section
variable {P : Program} {w : World} {K : PySem.W.Frag} {mg : Str → Option Value} {base : Heap} {A : Ad}
theorem ok_coreof {f : Addr} {fd : FuncData} (F : Fun K "core_of" "core_of" s_core_of f fd) (T : Txt K mg A) (c_Core_init : CalC P w K mg base (L2.CX P w) 7 A.c.C "Core" (spCI A)) (c_disk_of : CalD P w K mg base CX0 7 "disk_of" (spDiskOf A) []) : FnOk P w K mg base (L2.CX P w) 9 f fd ["stands", "told", "sent"] (spCoreOf A K) := by
  refine F.okX sc_core_of (fun vs H Q E h => ?_) (fun cdv A' outer s H vs Q E hr h => have hu65 := units65 hr; have hu64 := hr.units; have hu := units1 hr; ⟨_, (pss_cons (ps_set (i := 3) sc_core_of.nd rfl (.inl rfl) (pe_mk c_Core_init hr (by decide) (by rfl) (psX (takes_of rfl rfl rfl rfl)) (pa_cons (pe_ix ix_tup (pv 0) pe_int (fun _ _ => rfl)) pa_nil)))
    (pss_cons (ps_fld (pv 3) (pe_callTy call_list_of (by rfl) T.m_list (by decide +kernel) (pa_cons (pe_ix ix_tup (pv 0) pe_int (fun _ _ => rfl)) pa_nil)) rfl)
    (pss_cons (ps_asg (pe_slice sl_tup (pv 0) (po_some pe_int) (po_some pe_int)) (pg_tup rfl (pgs_cons (pg_fld (pv 3)) (pgs_cons (pg_fld (pv 3)) (pgs_cons (pg_fld (pv 3)) pgs_nil)))))
    (pss_cons (ps_asg (pe_slice sl_tup (pv 0) (po_some pe_int) (po_some pe_int)) (pg_tup rfl (pgs_cons (pg_fld (pv 3)) (pgs_cons (pg_fld (pv 3)) (pgs_cons (pg_fld (pv 3)) (pgs_cons (pg_fld (pv 3)) (pgs_cons (pg_fld (pv 3)) pgs_nil)))))))
    (pss_cons (ps_fld (pv 3) (pe_disp (pps_cons pe_str (pe_callTy call_list_of (by rfl) T.m_list (by decide +kernel) (pa_cons (pe_ix ix_tup (pv 0) pe_int (fun _ _ => rfl)) pa_nil)) (pps_cons pe_str (pe_callTy call_list_of (by rfl) T.m_list (by decide +kernel) (pa_cons (pe_ix ix_tup (pv 0) pe_int (fun _ _ => rfl)) pa_nil)) pps_nil)) rfl rfl (by simp) (by decide)) rfl)
    (pss_cons (ps_fld (pv 3) (pe_callTy call_list_of (by rfl) T.m_list (by decide +kernel) (pa_cons (pv 1) pa_nil)) rfl)
    (pss_cons (ps_fld (pv 3) (pe_lc (own := [("pair", 4)]) rfl sc_core_of.nd (pi_seqA (pv 2)) (blkOk_by (N := ["stands", "told", "sent", "core", "pair"]) (sc := defScope s_core_of) (by decide +kernel)) (fun _ _ _ _ _ => (pg_name (i := 4) sc_core_of.nd rfl (.inl rfl))) (fun _ _ _ _ _ => pts_nil) (fun _ _ _ _ _ => (pe_callTy (call_tuple_ofK (K := K) rfl) (by rfl) T.m_tuple (by decide +kernel) (pa_cons (pv 4) pa_nil)))) rfl)
    (pss_cons (ps_fld (pv 3) (pe_cal c_disk_of hr (by decide) (by rfl) (pa_cons (pe_ix ix_tup (pv 0) pe_int (fun _ _ => rfl)) (pa_cons (pe_ix ix_tup (pv 0) pe_int (fun _ _ => rfl)) (pa_cons (pe_ix ix_tup (pv 0) pe_int (fun _ _ => rfl)) (pa_cons (pe_ix ix_tup (pv 0) pe_int (fun _ _ => rfl)) pa_nil))))) rfl)
    (pss_one (ps_ret (pv 3))))))))))), ?_⟩)
  · obtain ⟨t, tl, sl, m, ss, n, rfl, _⟩ := h
    rfl
  · obtain ⟨t, tl, sl, m, ss, n, rfl, hSt, ok, lm, hn, hT, hS, tp, q⟩ := h
    obtain ⟨t0, t9, t10, t13, t14, ts, us, et, e0, e9, e10, ⟨e13, u13, r13⟩, e14, av⟩ := hSt
    walk_at "go"
    refine r_ixT (SqT.of et) (v := .ref t13) (atI_nat (j := 13) rfl) ?_
    walk_at "go"
    intro x dx nx ndx nex
    have nx2 : upd H dx (.own x) x = none := by rw [upd_ne nex.symm]; exact nx
    have sE := Same.ts ((same_upd (o := .own x) ndx).trans (same_upd (o := .ins A.c.C dx []) nx2))
    refine ⟨x, dx, t13, m.bs, rfl, ⟨us, sE _ _ e13, u13, fun i t ws a b => sE _ _ (r13 i t ws a b)⟩, ok.bo, upd_same, fun k0 H1 ko kdx kbl kss kts bn => ⟨rfl, ?_⟩⟩
    obtain ⟨s1, hC, fr1⟩ := core_made ndx nx nex ko kdx kbl kss kts ok.bo bn
    have g1 : Nw H H1 [(k0.o, .ins A.c.C k0.dxo (CQ k0 (m0 m.bs m.rs)))] := ⟨s1, fun z hz => by rw [List.mem_singleton.mp hz]; exact (hC m.rs ok.ro).nm 0 _ _ rfl, fun z hz => by rw [List.mem_singleton.mp hz]; exact fr1 _ (by simp [ownQ, namesQ]), by simp⟩
    rw [← ko]
    walk_at "go"
    have g : Nw H H1 [(k0.o, .ins A.c.C k0.dxo (FQ (.ref k0.rg) (.int 0) (.int 0) (.int 0) (.int 0) (.int 0) (.int 0) (.bl false) (.str St.runs.s) (.ref k0.qd) (.ref k0.td) (.ref k0.sn) (.ref k0.dk)))] := g1
    try unfold sFld
    walk_at "go"
    refine r_ixT (SqT.of (g.sm _ _ et)) (v := .ref t0) (atI_nat (j := 0) rfl) ?_
    walk_at "go"
    refine ⟨t0, _, rfl, .inr (SqT.of (g.sm _ _ e0)), fun rg nrg => ?_⟩
    have g := g.lay (o := .lst (nv m.r)) nrg
    generalize upd H1 rg (.lst (nv m.r)) = G1 at g ⊢
    have g : Nw H G1 [(rg, .lst (nv m.r)), (k0.o, .ins A.c.C k0.dxo (FQ (.ref k0.rg) (.int 0) (.int 0) (.int 0) (.int 0) (.int 0) (.int 0) (.bl false) (.str St.runs.s) (.ref k0.qd) (.ref k0.td) (.ref k0.sn) (.ref k0.dk)))] := g
    walk_at "go"
    refine ⟨k0.o, A.c.C, k0.dxo, _, rfl, g.at 1 rfl, T.cl_Core, T.na_Core_registers, Nat.le_of_ble_eq_true rfl, ?_⟩
    have g := g.set 1 (o' := .ins A.c.C k0.dxo (putF ("_registers" : Str) (.ref rg) (FQ (.ref k0.rg) (.int 0) (.int 0) (.int 0) (.int 0) (.int 0) (.int 0) (.bl false) (.str St.runs.s) (.ref k0.qd) (.ref k0.td) (.ref k0.sn) (.ref k0.dk)))) rfl
    generalize upd G1 k0.o _ = G2 at g ⊢
    have g : Nw H G2 [(rg, .lst (nv m.r)), (k0.o, .ins A.c.C k0.dxo (FQ (.ref rg) (.int 0) (.int 0) (.int 0) (.int 0) (.int 0) (.int 0) (.bl false) (.str St.runs.s) (.ref k0.qd) (.ref k0.td) (.ref k0.sn) (.ref k0.dk)))] := g
    walk_at "go"
    refine ⟨t, _, rfl, SqT.of (g.sm _ _ et), by show ¬ (HT.sIx 17 0 (some 1) = 0 ∧ HT.sIx 17 17 (some 4) = 17); decide, fun s1 ns1 => ?_⟩
    have es1 : upd G2 s1 (.tup (cutV [.ref t0, .int (m.at_ : Nat), .int (m.tb : Nat), .int (m.tm : Nat), .int (m.hd : Nat), .int (m.bk : Nat), .int (m.cs : Nat), .bl m.tr, .str m.st.s, .ref t9, .ref t10, .int (m.td.length : Nat), .int (m.sn.length : Nat), .ref t13, .ref t14, .int (m.mq : Nat), .int (m.dn : Nat)] (some 1) (some 4))) s1 = some (.tup [.int (m.at_ : Nat), .int (m.tb : Nat), .int (m.tm : Nat)]) := upd_same
    have g := g.same (same_upd (o := .tup (cutV [.ref t0, .int (m.at_ : Nat), .int (m.tb : Nat), .int (m.tm : Nat), .int (m.hd : Nat), .int (m.bk : Nat), .int (m.cs : Nat), .bl m.tr, .str m.st.s, .ref t9, .ref t10, .int (m.td.length : Nat), .int (m.sn.length : Nat), .ref t13, .ref t14, .int (m.mq : Nat), .int (m.dn : Nat)] (some 1) (some 4))) ns1)
    generalize upd G2 s1 _ = G3 at g es1 ⊢
    walk_at "go"
    refine ⟨s1, _, rfl, sqT es1, rfl, ?_⟩
    refine ⟨_, _, rfl, ?_⟩
    refine ⟨_, rfl, k0.o, A.c.C, k0.dxo, _, rfl, g.at 1 rfl, T.cl_Core, T.na_Core_counter, Nat.le_of_ble_eq_true rfl, ?_⟩
    have g := g.set 1 (o' := .ins A.c.C k0.dxo (putF ("_counter" : Str) (.int (m.at_ : Nat)) (FQ (.ref rg) (.int 0) (.int 0) (.int 0) (.int 0) (.int 0) (.int 0) (.bl false) (.str St.runs.s) (.ref k0.qd) (.ref k0.td) (.ref k0.sn) (.ref k0.dk)))) rfl
    generalize upd G3 k0.o _ = G4 at g ⊢
    have g : Nw H G4 [(rg, .lst (nv m.r)), (k0.o, .ins A.c.C k0.dxo (FQ (.ref rg) (.int (m.at_ : Nat)) (.int 0) (.int 0) (.int 0) (.int 0) (.int 0) (.bl false) (.str St.runs.s) (.ref k0.qd) (.ref k0.td) (.ref k0.sn) (.ref k0.dk)))] := g
    refine ⟨_, _, rfl, ?_⟩
    refine ⟨_, rfl, k0.o, A.c.C, k0.dxo, _, rfl, g.at 1 rfl, T.cl_Core, T.na_Core_table, Nat.le_of_ble_eq_true rfl, ?_⟩
    have g := g.set 1 (o' := .ins A.c.C k0.dxo (putF ("_table" : Str) (.int (m.tb : Nat)) (FQ (.ref rg) (.int (m.at_ : Nat)) (.int 0) (.int 0) (.int 0) (.int 0) (.int 0) (.bl false) (.str St.runs.s) (.ref k0.qd) (.ref k0.td) (.ref k0.sn) (.ref k0.dk)))) rfl
    generalize upd G4 k0.o _ = G5 at g ⊢
    have g : Nw H G5 [(rg, .lst (nv m.r)), (k0.o, .ins A.c.C k0.dxo (FQ (.ref rg) (.int (m.at_ : Nat)) (.int (m.tb : Nat)) (.int 0) (.int 0) (.int 0) (.int 0) (.bl false) (.str St.runs.s) (.ref k0.qd) (.ref k0.td) (.ref k0.sn) (.ref k0.dk)))] := g
    refine ⟨_, _, rfl, ?_⟩
    refine ⟨_, rfl, k0.o, A.c.C, k0.dxo, _, rfl, g.at 1 rfl, T.cl_Core, T.na_Core_time, Nat.le_of_ble_eq_true rfl, ?_⟩
    have g := g.set 1 (o' := .ins A.c.C k0.dxo (putF ("_time" : Str) (.int (m.tm : Nat)) (FQ (.ref rg) (.int (m.at_ : Nat)) (.int (m.tb : Nat)) (.int 0) (.int 0) (.int 0) (.int 0) (.bl false) (.str St.runs.s) (.ref k0.qd) (.ref k0.td) (.ref k0.sn) (.ref k0.dk)))) rfl
    generalize upd G5 k0.o _ = G6 at g ⊢
    have g : Nw H G6 [(rg, .lst (nv m.r)), (k0.o, .ins A.c.C k0.dxo (FQ (.ref rg) (.int (m.at_ : Nat)) (.int (m.tb : Nat)) (.int (m.tm : Nat)) (.int 0) (.int 0) (.int 0) (.bl false) (.str St.runs.s) (.ref k0.qd) (.ref k0.td) (.ref k0.sn) (.ref k0.dk)))] := g
    refine ⟨rfl, ?_⟩
    walk_at "go"
    refine ⟨t, _, rfl, SqT.of (g.sm _ _ et), by show ¬ (HT.sIx 17 0 (some 4) = 0 ∧ HT.sIx 17 17 (some 9) = 17); decide, fun s4 ns4 => ?_⟩
    have es4 : upd G6 s4 (.tup (cutV [.ref t0, .int (m.at_ : Nat), .int (m.tb : Nat), .int (m.tm : Nat), .int (m.hd : Nat), .int (m.bk : Nat), .int (m.cs : Nat), .bl m.tr, .str m.st.s, .ref t9, .ref t10, .int (m.td.length : Nat), .int (m.sn.length : Nat), .ref t13, .ref t14, .int (m.mq : Nat), .int (m.dn : Nat)] (some 4) (some 9))) s4 = some (.tup [.int (m.hd : Nat), .int (m.bk : Nat), .int (m.cs : Nat), .bl m.tr, .str m.st.s]) := upd_same
    have g := g.same (same_upd (o := .tup (cutV [.ref t0, .int (m.at_ : Nat), .int (m.tb : Nat), .int (m.tm : Nat), .int (m.hd : Nat), .int (m.bk : Nat), .int (m.cs : Nat), .bl m.tr, .str m.st.s, .ref t9, .ref t10, .int (m.td.length : Nat), .int (m.sn.length : Nat), .ref t13, .ref t14, .int (m.mq : Nat), .int (m.dn : Nat)] (some 4) (some 9))) ns4)
    generalize upd G6 s4 _ = G7 at g es4 ⊢
    walk_at "go"
    refine ⟨s4, _, rfl, sqT es4, rfl, ?_⟩
    refine ⟨_, _, rfl, ?_⟩
    refine ⟨_, rfl, k0.o, A.c.C, k0.dxo, _, rfl, g.at 1 rfl, T.cl_Core, T.na_Core_handler, Nat.le_of_ble_eq_true rfl, ?_⟩
    have g := g.set 1 (o' := .ins A.c.C k0.dxo (putF ("_handler" : Str) (.int (m.hd : Nat)) (FQ (.ref rg) (.int (m.at_ : Nat)) (.int (m.tb : Nat)) (.int (m.tm : Nat)) (.int 0) (.int 0) (.int 0) (.bl false) (.str St.runs.s) (.ref k0.qd) (.ref k0.td) (.ref k0.sn) (.ref k0.dk)))) rfl
    generalize upd G7 k0.o _ = G8 at g ⊢
    have g : Nw H G8 [(rg, .lst (nv m.r)), (k0.o, .ins A.c.C k0.dxo (FQ (.ref rg) (.int (m.at_ : Nat)) (.int (m.tb : Nat)) (.int (m.tm : Nat)) (.int (m.hd : Nat)) (.int 0) (.int 0) (.bl false) (.str St.runs.s) (.ref k0.qd) (.ref k0.td) (.ref k0.sn) (.ref k0.dk)))] := g
    refine ⟨_, _, rfl, ?_⟩
    refine ⟨_, rfl, k0.o, A.c.C, k0.dxo, _, rfl, g.at 1 rfl, T.cl_Core, T.na_Core_back_to, Nat.le_of_ble_eq_true rfl, ?_⟩
    have g := g.set 1 (o' := .ins A.c.C k0.dxo (putF ("_back_to" : Str) (.int (m.bk : Nat)) (FQ (.ref rg) (.int (m.at_ : Nat)) (.int (m.tb : Nat)) (.int (m.tm : Nat)) (.int (m.hd : Nat)) (.int 0) (.int 0) (.bl false) (.str St.runs.s) (.ref k0.qd) (.ref k0.td) (.ref k0.sn) (.ref k0.dk)))) rfl
    generalize upd G8 k0.o _ = G9 at g ⊢
    have g : Nw H G9 [(rg, .lst (nv m.r)), (k0.o, .ins A.c.C k0.dxo (FQ (.ref rg) (.int (m.at_ : Nat)) (.int (m.tb : Nat)) (.int (m.tm : Nat)) (.int (m.hd : Nat)) (.int (m.bk : Nat)) (.int 0) (.bl false) (.str St.runs.s) (.ref k0.qd) (.ref k0.td) (.ref k0.sn) (.ref k0.dk)))] := g
    refine ⟨_, _, rfl, ?_⟩
    refine ⟨_, rfl, k0.o, A.c.C, k0.dxo, _, rfl, g.at 1 rfl, T.cl_Core, T.na_Core_cause, Nat.le_of_ble_eq_true rfl, ?_⟩
    have g := g.set 1 (o' := .ins A.c.C k0.dxo (putF ("_cause" : Str) (.int (m.cs : Nat)) (FQ (.ref rg) (.int (m.at_ : Nat)) (.int (m.tb : Nat)) (.int (m.tm : Nat)) (.int (m.hd : Nat)) (.int (m.bk : Nat)) (.int 0) (.bl false) (.str St.runs.s) (.ref k0.qd) (.ref k0.td) (.ref k0.sn) (.ref k0.dk)))) rfl
    generalize upd G9 k0.o _ = G10 at g ⊢
    have g : Nw H G10 [(rg, .lst (nv m.r)), (k0.o, .ins A.c.C k0.dxo (FQ (.ref rg) (.int (m.at_ : Nat)) (.int (m.tb : Nat)) (.int (m.tm : Nat)) (.int (m.hd : Nat)) (.int (m.bk : Nat)) (.int (m.cs : Nat)) (.bl false) (.str St.runs.s) (.ref k0.qd) (.ref k0.td) (.ref k0.sn) (.ref k0.dk)))] := g
    refine ⟨_, _, rfl, ?_⟩
    refine ⟨_, rfl, k0.o, A.c.C, k0.dxo, _, rfl, g.at 1 rfl, T.cl_Core, T.na_Core_trapped, Nat.le_of_ble_eq_true rfl, ?_⟩
    have g := g.set 1 (o' := .ins A.c.C k0.dxo (putF ("_trapped" : Str) (.bl m.tr) (FQ (.ref rg) (.int (m.at_ : Nat)) (.int (m.tb : Nat)) (.int (m.tm : Nat)) (.int (m.hd : Nat)) (.int (m.bk : Nat)) (.int (m.cs : Nat)) (.bl false) (.str St.runs.s) (.ref k0.qd) (.ref k0.td) (.ref k0.sn) (.ref k0.dk)))) rfl
    generalize upd G10 k0.o _ = G11 at g ⊢
    have g : Nw H G11 [(rg, .lst (nv m.r)), (k0.o, .ins A.c.C k0.dxo (FQ (.ref rg) (.int (m.at_ : Nat)) (.int (m.tb : Nat)) (.int (m.tm : Nat)) (.int (m.hd : Nat)) (.int (m.bk : Nat)) (.int (m.cs : Nat)) (.bl m.tr) (.str St.runs.s) (.ref k0.qd) (.ref k0.td) (.ref k0.sn) (.ref k0.dk)))] := g
    refine ⟨_, _, rfl, ?_⟩
    refine ⟨_, rfl, k0.o, A.c.C, k0.dxo, _, rfl, g.at 1 rfl, T.cl_Core, T.na_Core_state, Nat.le_of_ble_eq_true rfl, ?_⟩
    have g := g.set 1 (o' := .ins A.c.C k0.dxo (putF ("_state" : Str) (.str m.st.s) (FQ (.ref rg) (.int (m.at_ : Nat)) (.int (m.tb : Nat)) (.int (m.tm : Nat)) (.int (m.hd : Nat)) (.int (m.bk : Nat)) (.int (m.cs : Nat)) (.bl m.tr) (.str St.runs.s) (.ref k0.qd) (.ref k0.td) (.ref k0.sn) (.ref k0.dk)))) rfl
    generalize upd G11 k0.o _ = G12 at g ⊢
    have g : Nw H G12 [(rg, .lst (nv m.r)), (k0.o, .ins A.c.C k0.dxo (FQ (.ref rg) (.int (m.at_ : Nat)) (.int (m.tb : Nat)) (.int (m.tm : Nat)) (.int (m.hd : Nat)) (.int (m.bk : Nat)) (.int (m.cs : Nat)) (.bl m.tr) (.str m.st.s) (.ref k0.qd) (.ref k0.td) (.ref k0.sn) (.ref k0.dk)))] := g
    refine ⟨rfl, ?_⟩
    walk_at "go"
    intro qd nqd
    have g := g.lay (o := .dK []) nqd
    generalize upd G12 qd (.dK []) = G13 at g ⊢
    have g : Nw H G13 [(qd, .dK []), (rg, .lst (nv m.r)), (k0.o, .ins A.c.C k0.dxo (FQ (.ref rg) (.int (m.at_ : Nat)) (.int (m.tb : Nat)) (.int (m.tm : Nat)) (.int (m.hd : Nat)) (.int (m.bk : Nat)) (.int (m.cs : Nat)) (.bl m.tr) (.str m.st.s) (.ref k0.qd) (.ref k0.td) (.ref k0.sn) (.ref k0.dk)))] := g
    unfold tPairs
    walk_at "go"
    refine r_ixT (SqT.of (g.sm _ _ et)) (v := .ref t9) (atI_nat (j := 9) rfl) ?_
    walk_at "go"
    refine ⟨t9, _, rfl, .inr (SqT.of (g.sm _ _ e9)), fun lq nlq => ?_⟩
    have g := g.lay (o := .lst (nv m.ln)) nlq
    generalize upd G13 lq (.lst (nv m.ln)) = G14 at g ⊢
    have g : Nw H G14 [(lq, .lst (nv m.ln)), (qd, .dK []), (rg, .lst (nv m.r)), (k0.o, .ins A.c.C k0.dxo (FQ (.ref rg) (.int (m.at_ : Nat)) (.int (m.tb : Nat)) (.int (m.tm : Nat)) (.int (m.hd : Nat)) (.int (m.bk : Nat)) (.int (m.cs : Nat)) (.bl m.tr) (.str m.st.s) (.ref k0.qd) (.ref k0.td) (.ref k0.sn) (.ref k0.dk)))] := g
    unfold tPairs
    walk_at "go"
    refine r_ixT (SqT.of (g.sm _ _ et)) (v := .ref t10) (atI_nat (j := 10) rfl) ?_
    walk_at "go"
    refine ⟨t10, _, rfl, .inr (SqT.of (g.sm _ _ e10)), fun nq nnq => ?_⟩
    have g := g.lay (o := .lst (nv m.nt)) nnq
    generalize upd G14 nq (.lst (nv m.nt)) = G15 at g ⊢
    have g : Nw H G15 [(nq, .lst (nv m.nt)), (lq, .lst (nv m.ln)), (qd, .dK []), (rg, .lst (nv m.r)), (k0.o, .ins A.c.C k0.dxo (FQ (.ref rg) (.int (m.at_ : Nat)) (.int (m.tb : Nat)) (.int (m.tm : Nat)) (.int (m.hd : Nat)) (.int (m.bk : Nat)) (.int (m.cs : Nat)) (.bl m.tr) (.str m.st.s) (.ref k0.qd) (.ref k0.td) (.ref k0.sn) (.ref k0.dk)))] := g
    unfold tPairs
    refine ⟨g.at 2 rfl, [((.inr (Str.ofString "line") : Key), .ref lq), (.inr (Str.ofString "net"), .ref nq)], rfl, by show 2 ≤ 15; decide, ?_⟩
    have g := g.set 2 (o' := .dK [((.inr (Str.ofString "line") : Key), .ref lq), (.inr (Str.ofString "net"), .ref nq)]) rfl
    rw [show mergeK [] [((.inr (Str.ofString "line") : Key), V.ref lq), (.inr (Str.ofString "net"), .ref nq)] = [((.inr (Str.ofString "line") : Key), V.ref lq), (.inr (Str.ofString "net"), .ref nq)] from rfl]
    generalize upd G15 qd _ = G16 at g ⊢
    have g : Nw H G16 [(nq, .lst (nv m.nt)), (lq, .lst (nv m.ln)), (qd, .dK [((.inr (Str.ofString "line") : Key), .ref lq), (.inr (Str.ofString "net"), .ref nq)]), (rg, .lst (nv m.r)), (k0.o, .ins A.c.C k0.dxo (FQ (.ref rg) (.int (m.at_ : Nat)) (.int (m.tb : Nat)) (.int (m.tm : Nat)) (.int (m.hd : Nat)) (.int (m.bk : Nat)) (.int (m.cs : Nat)) (.bl m.tr) (.str m.st.s) (.ref k0.qd) (.ref k0.td) (.ref k0.sn) (.ref k0.dk)))] := g
    walk_at "go"
    refine ⟨k0.o, A.c.C, k0.dxo, _, rfl, g.at 4 rfl, T.cl_Core, T.na_Core_queues, Nat.le_of_ble_eq_true rfl, ?_⟩
    have g := g.set 4 (o' := .ins A.c.C k0.dxo (putF ("_queues" : Str) (.ref qd) (FQ (.ref rg) (.int (m.at_ : Nat)) (.int (m.tb : Nat)) (.int (m.tm : Nat)) (.int (m.hd : Nat)) (.int (m.bk : Nat)) (.int (m.cs : Nat)) (.bl m.tr) (.str m.st.s) (.ref k0.qd) (.ref k0.td) (.ref k0.sn) (.ref k0.dk)))) rfl
    generalize upd G16 k0.o _ = G17 at g ⊢
    have g : Nw H G17 [(nq, .lst (nv m.nt)), (lq, .lst (nv m.ln)), (qd, .dK [((.inr (Str.ofString "line") : Key), .ref lq), (.inr (Str.ofString "net"), .ref nq)]), (rg, .lst (nv m.r)), (k0.o, .ins A.c.C k0.dxo (FQ (.ref rg) (.int (m.at_ : Nat)) (.int (m.tb : Nat)) (.int (m.tm : Nat)) (.int (m.hd : Nat)) (.int (m.bk : Nat)) (.int (m.cs : Nat)) (.bl m.tr) (.str m.st.s) (.ref qd) (.ref k0.td) (.ref k0.sn) (.ref k0.dk)))] := g
    walk_at "go"
    try unfold sFld
    walk_at "go"
    refine ⟨tl, _, rfl, hT.imp (g.sm.seq) (seqT g.sm), fun td ntd => ?_⟩
    have g := g.lay (o := .lst (nv m.td)) ntd
    generalize upd G17 td (.lst (nv m.td)) = G18 at g ⊢
    have g : Nw H G18 [(td, .lst (nv m.td)), (nq, .lst (nv m.nt)), (lq, .lst (nv m.ln)), (qd, .dK [((.inr (Str.ofString "line") : Key), .ref lq), (.inr (Str.ofString "net"), .ref nq)]), (rg, .lst (nv m.r)), (k0.o, .ins A.c.C k0.dxo (FQ (.ref rg) (.int (m.at_ : Nat)) (.int (m.tb : Nat)) (.int (m.tm : Nat)) (.int (m.hd : Nat)) (.int (m.bk : Nat)) (.int (m.cs : Nat)) (.bl m.tr) (.str m.st.s) (.ref qd) (.ref k0.td) (.ref k0.sn) (.ref k0.dk)))] := g
    walk_at "go"
    refine ⟨k0.o, A.c.C, k0.dxo, _, rfl, g.at 5 rfl, T.cl_Core, T.na_Core_told, Nat.le_of_ble_eq_true rfl, ?_⟩
    have g := g.set 5 (o' := .ins A.c.C k0.dxo (putF ("_told" : Str) (.ref td) (FQ (.ref rg) (.int (m.at_ : Nat)) (.int (m.tb : Nat)) (.int (m.tm : Nat)) (.int (m.hd : Nat)) (.int (m.bk : Nat)) (.int (m.cs : Nat)) (.bl m.tr) (.str m.st.s) (.ref qd) (.ref k0.td) (.ref k0.sn) (.ref k0.dk)))) rfl
    generalize upd G18 k0.o _ = G19 at g ⊢
    have g : Nw H G19 [(td, .lst (nv m.td)), (nq, .lst (nv m.nt)), (lq, .lst (nv m.ln)), (qd, .dK [((.inr (Str.ofString "line") : Key), .ref lq), (.inr (Str.ofString "net"), .ref nq)]), (rg, .lst (nv m.r)), (k0.o, .ins A.c.C k0.dxo (FQ (.ref rg) (.int (m.at_ : Nat)) (.int (m.tb : Nat)) (.int (m.tm : Nat)) (.int (m.hd : Nat)) (.int (m.bk : Nat)) (.int (m.cs : Nat)) (.bl m.tr) (.str m.st.s) (.ref qd) (.ref td) (.ref k0.sn) (.ref k0.dk)))] := g
    walk_at "go"
    try unfold sFld
    refine lcTupA (ts := ss) (fun QQ z => r_var rfl z) (hS.imp (g.sm.seq) (seqT g.sm)) (by rw [tp.1]; have := lm.sn; omega) (fun y hy => ?_) (fun _ => rfl) (fun _ => rfl) fun sn H2 n2 s2 e2 => ?_
    · obtain ⟨i, hi, ey⟩ := List.getElem_of_mem hy
      have li : i < m.sn.length := by rw [← tp.1]; exact hi
      exact ⟨_, g.sm _ _ (tp.2 i y m.sn[i] (by rw [List.getElem?_eq_getElem hi, ey]) (List.getElem?_eq_getElem li))⟩
    have g := g.new s2 n2 e2
    have g : Nw H H2 [(sn, .lst (ss.map V.ref)), (td, .lst (nv m.td)), (nq, .lst (nv m.nt)), (lq, .lst (nv m.ln)), (qd, .dK [((.inr (Str.ofString "line") : Key), .ref lq), (.inr (Str.ofString "net"), .ref nq)]), (rg, .lst (nv m.r)), (k0.o, .ins A.c.C k0.dxo (FQ (.ref rg) (.int (m.at_ : Nat)) (.int (m.tb : Nat)) (.int (m.tm : Nat)) (.int (m.hd : Nat)) (.int (m.bk : Nat)) (.int (m.cs : Nat)) (.bl m.tr) (.str m.st.s) (.ref qd) (.ref td) (.ref k0.sn) (.ref k0.dk)))] := g
    refine ⟨_, rfl, k0.o, A.c.C, k0.dxo, _, rfl, g.at 6 rfl, T.cl_Core, T.na_Core_sent, Nat.le_of_ble_eq_true rfl, ?_⟩
    have g := g.set 6 (o' := .ins A.c.C k0.dxo (putF ("_sent" : Str) (.ref sn) (FQ (.ref rg) (.int (m.at_ : Nat)) (.int (m.tb : Nat)) (.int (m.tm : Nat)) (.int (m.hd : Nat)) (.int (m.bk : Nat)) (.int (m.cs : Nat)) (.bl m.tr) (.str m.st.s) (.ref qd) (.ref td) (.ref k0.sn) (.ref k0.dk)))) rfl
    generalize upd H2 k0.o _ = G20 at g ⊢
    have g : Nw H G20 [(sn, .lst (ss.map V.ref)), (td, .lst (nv m.td)), (nq, .lst (nv m.nt)), (lq, .lst (nv m.ln)), (qd, .dK [((.inr (Str.ofString "line") : Key), .ref lq), (.inr (Str.ofString "net"), .ref nq)]), (rg, .lst (nv m.r)), (k0.o, .ins A.c.C k0.dxo (FQ (.ref rg) (.int (m.at_ : Nat)) (.int (m.tb : Nat)) (.int (m.tm : Nat)) (.int (m.hd : Nat)) (.int (m.bk : Nat)) (.int (m.cs : Nat)) (.bl m.tr) (.str m.st.s) (.ref qd) (.ref td) (.ref sn) (.ref k0.dk)))] := g
    walk_at "go"
    try unfold sFld
    walk_at "go"
    refine r_ixT (SqT.of (g.sm _ _ et)) (v := .ref t13) (atI_nat (j := 13) rfl) ?_
    walk_at "go"
    refine r_ixT (SqT.of (g.sm _ _ et)) (v := .ref t14) (atI_nat (j := 14) rfl) ?_
    walk_at "go"
    refine r_ixT (SqT.of (g.sm _ _ et)) (v := .int (m.mq : Nat)) (atI_nat (j := 15) rfl) ?_
    walk_at "go"
    refine r_ixT (SqT.of (g.sm _ _ et)) (v := .int (m.dn : Nat)) (atI_nat (j := 16) rfl) ?_
    walk_at "go"
    have tG := Same.ts g.sm
    refine ⟨t13, t14, m.bs, ts, m.as, m.mq, m.dn, rfl, ⟨us, tG _ _ e13, u13, fun i t ws a b => tG _ _ (r13 i t ws a b)⟩, ok.bo, tG _ _ e14, av.keep tG, ok.a8, fun dk dxd bl al bsl H3 lb g3 => ?_⟩
    have g := g.app g3.sm g3.f g3.nd (fun b hb => by obtain ⟨z, hz, rfl⟩ := List.mem_map.mp hb; exact g3.fr z hz)
    have g := g.perm List.perm_append_comm
    have g : Nw H H3 ([(sn, .lst (ss.map V.ref)), (td, .lst (nv m.td)), (nq, .lst (nv m.nt)), (lq, .lst (nv m.ln)), (qd, .dK [((.inr (Str.ofString "line") : Key), .ref lq), (.inr (Str.ofString "net"), .ref nq)]), (rg, .lst (nv m.r)), (k0.o, .ins A.c.C k0.dxo (FQ (.ref rg) (.int (m.at_ : Nat)) (.int (m.tb : Nat)) (.int (m.tm : Nat)) (.int (m.hd : Nat)) (.int (m.bk : Nat)) (.int (m.cs : Nat)) (.bl m.tr) (.str m.st.s) (.ref qd) (.ref td) (.ref sn) (.ref k0.dk)))] ++ ((dk, .ins A.c.D dxd [("_blocks", .ref bl), ("_asks", .ref al), ("_made", .int (m.mq : Nat)), ("_done", .int (m.dn : Nat))]) :: (al, .lst (ts.map V.ref)) :: (bl, .lst (bsl.map V.ref)) :: rowsF bsl m.bs)) := g
    walk_at "go"
    refine ⟨k0.o, A.c.C, k0.dxo, _, rfl, g.at 6 rfl, T.cl_Core, T.na_Core_disk, Nat.le_of_ble_eq_true rfl, ?_⟩
    have g := g.set 6 (o' := .ins A.c.C k0.dxo (putF ("_disk" : Str) (.ref dk) (FQ (.ref rg) (.int (m.at_ : Nat)) (.int (m.tb : Nat)) (.int (m.tm : Nat)) (.int (m.hd : Nat)) (.int (m.bk : Nat)) (.int (m.cs : Nat)) (.bl m.tr) (.str m.st.s) (.ref qd) (.ref td) (.ref sn) (.ref k0.dk)))) rfl
    generalize upd H3 k0.o _ = H4 at g ⊢
    have g : Nw H H4 ([(sn, .lst (ss.map V.ref)), (td, .lst (nv m.td)), (nq, .lst (nv m.nt)), (lq, .lst (nv m.ln)), (qd, .dK [((.inr (Str.ofString "line") : Key), .ref lq), (.inr (Str.ofString "net"), .ref nq)]), (rg, .lst (nv m.r)), (k0.o, .ins A.c.C k0.dxo (FQ (.ref rg) (.int (m.at_ : Nat)) (.int (m.tb : Nat)) (.int (m.tm : Nat)) (.int (m.hd : Nat)) (.int (m.bk : Nat)) (.int (m.cs : Nat)) (.bl m.tr) (.str m.st.s) (.ref qd) (.ref td) (.ref sn) (.ref dk)))] ++ ((dk, .ins A.c.D dxd [("_blocks", .ref bl), ("_asks", .ref al), ("_made", .int (m.mq : Nat)), ("_done", .int (m.dn : Nat))]) :: (al, .lst (ts.map V.ref)) :: (bl, .lst (bsl.map V.ref)) :: rowsF bsl m.bs)) := g
    walk_at "go"
    obtain ⟨k, hk⟩ : ∃ k : Cq, k = { k0 with dk := dk, qd := qd, rg := rg, lq := lq, nq := nq, td := td, sn := sn, bl := bl, al := al, dxd := dxd, bs := bsl, ss := ss, ts := ts } := ⟨_, rfl⟩
    have ko : k.o = k0.o := by rw [hk]
    have gk : Nw H H4 (([(k.sn, .lst (k.ss.map V.ref)), (k.td, .lst (nv m.td)), (k.nq, .lst (nv m.nt)), (k.lq, .lst (nv m.ln)), (k.qd, .dK (QQ k)), (k.rg, .lst (nv m.r)), (k.o, .ins A.c.C k.dxo (CQ k m))] : List (Addr × HO)) ++ ((k.dk, .ins A.c.D k.dxd (DQ k m)) :: (k.al, .lst (k.ts.map V.ref)) :: (k.bl, .lst (k.bs.map V.ref)) :: rowsF k.bs m.bs)) := by rw [hk]; exact g
    have lbk : k.bs.length = m.bs.length := by rw [hk]; exact lb
    have svk : Tps sentV H4 k.ss m.sn := by rw [hk]; exact tp.keep (Same.ts g.sm)
    have avk : Tps askV H4 k.ts m.as := by rw [hk]; exact av.keep (Same.ts g.sm)
    rw [← ko]
    obtain ⟨c1, c2⟩ := cat_of gk lbk svk avk ok
    exact q k H4 gk.sm c1 c2
theorem ok_ctwin {f : Addr} {fd : FuncData} (F : Fun K "twin" "Core.twin" s_Core_twin f fd) (T : Txt K mg A) (c_Core_stands : CalM P w K mg base CX0 6 A.c.C "stands" (spStands A)) (c_core_of : CalX P w K mg base 9 "core_of" (spCoreOf A K)) : FnOk P w K mg base (L2.CX P w) 10 f fd ["self"] (spTwin A) := by
  refine F.okX sc_Core_twin (fun vs H Q E h => ?_) (fun cdv A' outer s H vs Q E hr h => have hu65 := units65 hr; have hu64 := hr.units; have hu := units1 hr; ⟨_, (pss_one (ps_ret (pe_calX c_core_of hr (by decide) (by rfl) (takes_of rfl rfl rfl rfl) (pa_cons (pe_mth0 (pv 0) T.cl_Core c_Core_stands hr (by decide) ps0) (pa_cons (pe_fld (pv 0) rfl) (pa_cons (pe_fld (pv 0) rfl) pa_nil)))))), ?_⟩)
  · obtain ⟨k, m, n, rfl, _⟩ := h
    rfl
  · obtain ⟨k, m, n, rfl, hP, lm, hn, q⟩ := h
    walk_at "go"
    refine ⟨k.o, k.dxo, CQ k m, rfl, hP.nm 0 _ _ rfl, rfl, ?_⟩
    walk_at "go"
    refine ⟨k, m, n, rfl, hP, lm, by omega, fun t H1 s1 hSt => ?_⟩
    have P1 := hP.same s1
    walk_at "go"
    refine rc_co P1 T T.na_Core_told (v := .ref k.td) rfl rfl ?_
    walk_at "go"
    refine rc_co P1 T T.na_Core_sent (v := .ref k.sn) rfl rfl ?_
    walk_at "go"
    exact ⟨t, k.td, k.sn, m, k.ss, n, rfl, hSt, hP.ok, lm, hn, .inl (sqL (P1.nm 6 _ _ rfl)), .inl (sqL (P1.nm 7 _ _ rfl)), P1.sv, fun k' H' s2 c2 f2 => q k' H' (s1.trans s2) c2 (fun b hb => none_of s1 (f2 b hb))⟩
end
end K15

namespace K15
open PySem PySem.Spec PyProof.Rows L2 Bk Rm Cm


section
variable (A : Ad)
def spMStep : Sp := fun vs H Q _ => ∃ (p : Pk) (k : Cq) (m : M) (lg : List Arv) (tl : List Cm.Row) (n : Nat), vs = [.ref p.o] ∧ MAt A.c A.P H p k m lg tl ∧ m.Lim n ∧ n ≤ 900000 ∧ tl.length ≤ 1000000 ∧ (m.st = .runs ∨ m.st = .idle) ∧ ∀ p' k' v H', MMv A.c A.P H p k H' p' k' (Cm.step m).1 lg (tl ++ (Cm.step m).2.toList) → RowV H' (Cm.step m).2 v → Q v H'
def spMStepX : Sp := fun vs H Q E => ∃ (p : Pk) (k : Cq) (m : M) (lg : List Arv) (tl : List Cm.Row), vs = [.ref p.o] ∧ MAt A.c A.P H p k m lg tl ∧ (m.st = .ended ∨ m.st = .fell) ∧ RefuseN "found" A.CE (.str m.st.s) H E
def spMStep2 : Sp := fun vs H Q E => spMStep A vs H Q E ∨ spMStepX A vs H Q E
def spMArr : Sp := fun vs H Q _ => ∃ (p : Pk) (k : Cq) (m : M) (lg : List Arv) (tl : List Cm.Row) (n : Nat) (b : Bool) (x : Nat), vs = [.ref p.o, .str (kq b), .int (x : Nat)] ∧ MAt A.c A.P H p k m lg tl ∧ m.Lim n ∧ n ≤ 1000000 ∧ lg.length ≤ 1000000 ∧ (m.st = .runs ∨ m.st = .idle) ∧ x ≤ kmax b ∧ ∀ p' k' H', MMv A.c A.P H p k H' p' k' (comesM m b x) (lg ++ [⟨m.tm, b, x⟩]) tl → Q .non H'
def spMArrX : Sp := fun vs H Q E => ∃ (p : Pk) (k : Cq) (m : M) (lg : List Arv) (tl : List Cm.Row) (b : Bool) (x : Nat), vs = [.ref p.o, .str (kq b), .int (x : Nat)] ∧ MAt A.c A.P H p k m lg tl ∧ (m.st = .ended ∨ m.st = .fell) ∧ x ≤ kmax b ∧ RefuseN "found" A.CE (.str m.st.s) H E
def spMArr2 : Sp := fun vs H Q E => spMArr A vs H Q E ∨ spMArrX A vs H Q E
def spMTime : Sp := fun vs H Q _ => ∃ (p : Pk) (k : Cq) (m : M) (lg : List Arv) (tl : List Cm.Row), vs = [.ref p.o] ∧ MAt A.c A.P H p k m lg tl ∧ Q (.int (m.tm : Nat)) H
def spMState : Sp := fun vs H Q _ => ∃ (p : Pk) (k : Cq) (m : M) (lg : List Arv) (tl : List Cm.Row), vs = [.ref p.o] ∧ MAt A.c A.P H p k m lg tl ∧ Q (.str m.st.s) H
def spMLog : Sp := fun vs H Q _ => ∃ (p : Pk) (k : Cq) (m : M) (lg : List Arv) (tl : List Cm.Row), vs = [.ref p.o] ∧ MAt A.c A.P H p k m lg tl ∧ ∀ a H', H a = none → Same H H' → H' a = some (.lst (p.ls.map V.ref)) → Q (.ref a) H'
def spMTrail : Sp := fun vs H Q _ => ∃ (p : Pk) (k : Cq) (m : M) (lg : List Arv) (tl : List Cm.Row), vs = [.ref p.o] ∧ MAt A.c A.P H p k m lg tl ∧ ∀ a H', H a = none → Same H H' → H' a = some (.lst p.tv) → Q (.ref a) H'
def spMCore : Sp := fun vs H Q _ => ∃ (p : Pk) (k : Cq) (m : M) (lg : List Arv) (tl : List Cm.Row) (n : Nat), vs = [.ref p.o] ∧ MAt A.c A.P H p k m lg tl ∧ m.Lim n ∧ n ≤ 10000 ∧ ∀ k' H', Same H H' → CAt A.c.toCs H' k' m → (∀ b ∈ ownQ k', H b = none) → Q (.ref k'.o) H'
def spSTwin : Sp := fun vs H Q _ => ∃ (so dxs rl : Addr) (rs : List Addr) (l : List (List Nat)), vs = [.ref so] ∧ satS A.c.S so dxs rl rs H l ∧ Rows8 l ∧ ∀ y dy rl' rs' H', Same H H' → satS A.c.S y dy rl' rs' H' l → (∀ b, ownS y rl' rs' b → H b = none) → Q (.ref y) H'
def spMStore : Sp := fun vs H Q _ => ∃ (p : Pk) (k : Cq) (m : M) (lg : List Arv) (tl : List Cm.Row), vs = [.ref p.o] ∧ MAt A.c A.P H p k m lg tl ∧ ∀ y dy rl' rs' H', Same H H' → satS A.c.S y dy rl' rs' H' m.rs → (∀ b, ownS y rl' rs' b → H b = none) → Q (.ref y) H'
end
section
variable {P : Program} {w : World} {K : PySem.W.Frag} {mg : Str → Option Value} {base : Heap} {A : Ad}
theorem ok_mtime {f : Addr} {fd : FuncData} (F : Fun K "time" "PlainMachine.time" s_PlainMachine_time f fd) (T : Txt K mg A) (c_Core_time : CalM P w K mg base CX0 5 A.c.C "time" (spGN A fun m => m.tm)) : FnOk P w K mg base CX0 6 f fd ["self"] (spMTime A) := by
  refine F.ok sc_PlainMachine_time (fun vs H Q E h => ?_) (fun cdv A' outer s H vs Q E hr h => have hu := units1 hr; ⟨_, (pss_one (ps_ret (pe_mth0 (pe_fld (pv 0) rfl) T.cl_Core c_Core_time hr (by decide) ps0))), ?_⟩)
  · obtain ⟨p, k, m, lg, tl, rfl, _⟩ := h
    rfl
  · obtain ⟨p, k, m, lg, tl, rfl, hM, q⟩ := h
    walk_at "go"
    refine ⟨_, rfl, p.o, A.P, p.dx, _, _, rfl, hM.ob, T.cl_PlainMachine, T.na_PlainMachine_core, rfl, ?_⟩
    refine ⟨k.o, k.dxo, CQ k m, rfl, hM.qa.nm 0 _ _ rfl, rfl, ?_⟩
    walk_at "go"
    exact ⟨k, m, rfl, hM.qa.toCAt, q⟩
theorem ok_mstate {f : Addr} {fd : FuncData} (F : Fun K "state" "PlainMachine.state" s_PlainMachine_state f fd) (T : Txt K mg A) (c_Core_state : CalM P w K mg base CX0 5 A.c.C "state" (spGS A)) : FnOk P w K mg base CX0 6 f fd ["self"] (spMState A) := by
  refine F.ok sc_PlainMachine_state (fun vs H Q E h => ?_) (fun cdv A' outer s H vs Q E hr h => have hu := units1 hr; ⟨_, (pss_one (ps_ret (pe_mth0 (pe_fld (pv 0) rfl) T.cl_Core c_Core_state hr (by decide) ps0))), ?_⟩)
  · obtain ⟨p, k, m, lg, tl, rfl, _⟩ := h
    rfl
  · obtain ⟨p, k, m, lg, tl, rfl, hM, q⟩ := h
    walk_at "go"
    refine ⟨_, rfl, p.o, A.P, p.dx, _, _, rfl, hM.ob, T.cl_PlainMachine, T.na_PlainMachine_core, rfl, ?_⟩
    refine ⟨k.o, k.dxo, CQ k m, rfl, hM.qa.nm 0 _ _ rfl, rfl, ?_⟩
    walk_at "go"
    exact ⟨k, m, rfl, hM.qa.toCAt, q⟩
theorem ok_mlog {f : Addr} {fd : FuncData} (F : Fun K "log" "PlainMachine.log" s_PlainMachine_log f fd) (T : Txt K mg A) : FnOk P w K mg base CX0 6 f fd ["self"] (spMLog A) := by
  refine F.ok sc_PlainMachine_log (fun vs H Q E h => ?_) (fun cdv A' outer s H vs Q E hr h => have hu := units1 hr; ⟨_, (pss_one (ps_ret (pe_callTy call_list_of (by rfl) T.m_list (by decide +kernel) (pa_cons (pe_fld (pv 0) rfl) pa_nil)))), ?_⟩)
  · obtain ⟨p, k, m, lg, tl, rfl, _⟩ := h
    rfl
  · obtain ⟨p, k, m, lg, tl, rfl, hM, q⟩ := h
    walk_at "go"
    refine ⟨_, rfl, p.o, A.P, p.dx, _, _, rfl, hM.ob, T.cl_PlainMachine, T.na_PlainMachine_log, rfl, ?_⟩
    walk_at "go"
    exact ⟨p.ll, _, rfl, .inl (sqL hM.lo), fun l hl => q l _ hl (same_upd hl) upd_same⟩
theorem ok_mtrail {f : Addr} {fd : FuncData} (F : Fun K "trail" "PlainMachine.trail" s_PlainMachine_trail f fd) (T : Txt K mg A) : FnOk P w K mg base CX0 6 f fd ["self"] (spMTrail A) := by
  refine F.ok sc_PlainMachine_trail (fun vs H Q E h => ?_) (fun cdv A' outer s H vs Q E hr h => have hu := units1 hr; ⟨_, (pss_one (ps_ret (pe_callTy call_list_of (by rfl) T.m_list (by decide +kernel) (pa_cons (pe_fld (pv 0) rfl) pa_nil)))), ?_⟩)
  · obtain ⟨p, k, m, lg, tl, rfl, _⟩ := h
    rfl
  · obtain ⟨p, k, m, lg, tl, rfl, hM, q⟩ := h
    walk_at "go"
    refine ⟨_, rfl, p.o, A.P, p.dx, _, _, rfl, hM.ob, T.cl_PlainMachine, T.na_PlainMachine_trail, rfl, ?_⟩
    walk_at "go"
    exact ⟨p.lt, _, rfl, .inl (sqL hM.to_), fun l hl => q l _ hl (same_upd hl) upd_same⟩
theorem ok_mcore {f : Addr} {fd : FuncData} (F : Fun K "core" "PlainMachine.core" s_PlainMachine_core f fd) (T : Txt K mg A) (c_Core_twin : CalM P w K mg base (L2.CX P w) 10 A.c.C "twin" (spTwin A)) : FnOk P w K mg base (L2.CX P w) 11 f fd ["self"] (spMCore A) := by
  refine F.okX sc_PlainMachine_core (fun vs H Q E h => ?_) (fun cdv A' outer s H vs Q E hr h => have hu := units1 hr; ⟨_, (pss_one (ps_ret (pe_mth0 (pe_fld (pv 0) rfl) T.cl_Core c_Core_twin hr (by decide) (psX (takes_of rfl rfl rfl rfl))))), ?_⟩)
  · obtain ⟨p, k, m, lg, tl, n, rfl, _⟩ := h
    rfl
  · obtain ⟨p, k, m, lg, tl, n, rfl, hM, lm, hn, q⟩ := h
    walk_at "go"
    refine ⟨_, rfl, p.o, A.P, p.dx, _, _, rfl, hM.ob, T.cl_PlainMachine, T.na_PlainMachine_core, rfl, ?_⟩
    refine ⟨k.o, k.dxo, CQ k m, rfl, hM.qa.nm 0 _ _ rfl, rfl, ?_⟩
    walk_at "go"
    exact ⟨k, m, n, rfl, hM.qa.toCAt, lm, hn, q⟩
theorem ok_stwin {f : Addr} {fd : FuncData} (F : Fun K "twin" "PlainStore.twin" s_PlainStore_twin f fd) (T : Txt K mg A) (c_PlainStore_init : CalC P w K mg base (L2.CX P w) 6 A.c.S "PlainStore" (spSI A)) (c_PlainStore_rooms : CalM P w K mg base CX0 5 A.c.S "rooms" (spRooms A)) : FnOk P w K mg base (L2.CX P w) 8 f fd ["self"] (spSTwin A) := by
  refine F.okX sc_PlainStore_twin (fun vs H Q E h => ?_) (fun cdv A' outer s H vs Q E hr h => have hu := units1 hr; ⟨_, (pss_one (ps_ret (pe_mk c_PlainStore_init hr (by decide) (by rfl) (psX (takes_of rfl rfl rfl rfl)) (pa_cons (pe_mth0 (pv 0) T.cl_PlainStore c_PlainStore_rooms hr (by decide) ps0) pa_nil)))), ?_⟩)
  · obtain ⟨so, dxs, rl, rs, l, rfl, _⟩ := h
    rfl
  · obtain ⟨so, dxs, rl, rs, l, rfl, hS, ok, q⟩ := h
    walk_at "go"
    refine ⟨so, dxs, _, rfl, hS.1, rfl, ?_⟩
    walk_at "go"
    refine ⟨so, dxs, rl, rs, l, rfl, hS, ok, fun a H1 s1 h8 => ?_⟩
    walk_at "go"
    intro y dy ny ndy ney
    have ny2 : upd H1 dy (.own y) y = none := by rw [upd_ne ney.symm]; exact ny
    have sE := Same.ts ((same_upd (o := .own y) ndy).trans (same_upd (o := .ins A.c.S dy []) ny2))
    refine ⟨y, dy, a, l, rfl, h8.keep sE, ok, upd_same, fun rl' rs' H2 lrs bns => ⟨rfl, ?_⟩⟩
    obtain ⟨s2, hS2, fr2⟩ := store_made ndy ny ney lrs bns
    exact q y dy rl' rs' H2 (s1.trans s2) hS2 fun b hb => none_of s1 (fr2 b hb)
theorem ok_mstore {f : Addr} {fd : FuncData} (F : Fun K "store" "PlainMachine.store" s_PlainMachine_store f fd) (T : Txt K mg A) (pk : A.c.kd = kdP A.c.S) (c_PlainStore_twin : CalM P w K mg base (L2.CX P w) 8 A.c.S "twin" (spSTwin A)) : FnOk P w K mg base (L2.CX P w) 9 f fd ["self"] (spMStore A) := by
  refine F.okX sc_PlainMachine_store (fun vs H Q E h => ?_) (fun cdv A' outer s H vs Q E hr h => have hu := units1 hr; ⟨_, (pss_one (ps_ret (pe_mth0 (pe_fld (pv 0) rfl) T.cl_PlainStore c_PlainStore_twin hr (by decide) (psX (takes_of rfl rfl rfl rfl))))), ?_⟩)
  · obtain ⟨p, k, m, lg, tl, rfl, _⟩ := h
    rfl
  · obtain ⟨p, k, m, lg, tl, rfl, hM, q⟩ := h
    have kd := hM.qa.kd
    rw [pk] at kd
    obtain ⟨dxs, rl, rs, ew, es⟩ := kd
    have st := hM.qa.st
    rw [es] at st
    walk_at "go"
    refine ⟨_, rfl, p.o, A.P, p.dx, _, _, rfl, hM.ob, T.cl_PlainMachine, T.na_PlainMachine_store, rfl, ?_⟩
    refine ⟨k.so, dxs, _, rfl, st.1, rfl, ?_⟩
    walk_at "go"
    exact ⟨k.so, dxs, rl, rs, m.rs, rfl, st, hM.qa.ok.ro, q⟩
theorem pr_mstep {f : Addr} {fd : FuncData} (F : Fun K "step" "PlainMachine.step" s_PlainMachine_step f fd) (T : Txt K mg A) (c_Core_step : CalM P w K mg base (L2.CX P w) 11 A.c.C "step" (spStep2 A)) : FnOk P w K mg base (L2.CX P w) 12 f fd ["self"] (spMStep A) := by
  refine F.okX sc_PlainMachine_step (fun vs H Q E h => ?_) (fun cdv A' outer s H vs Q E hr h => have hu := units1 hr; ⟨_, (pss_cons (ps_set (i := 1) sc_PlainMachine_step.nd rfl (.inl rfl) (pe_mth (pe_fld (pv 0) rfl) T.cl_Core c_Core_step hr (by decide) (psX (takes_of rfl rfl rfl rfl)) (pa_cons (pe_fld (pv 0) rfl) pa_nil)))
    (pss_cons (ps_if (pt_cmpR op_notN (pv 1) pe_non (nomark _)) (pss_one (ps_expr (pe_bm PySem.F.plainAttrs_list PySem.F.slot_list_append PySem.F.type_list_append mt_append (pe_fld (pv 0) rfl) (pa_cons (pv 1) pa_nil)))) pss_nil)
    (pss_one (ps_ret (pv 1))))), ?_⟩)
  · obtain ⟨p, k, m, lg, tl, n, rfl, _⟩ := h
    rfl
  · obtain ⟨p, k, m, lg, tl, n, rfl, hM, lm, hn, hl, hst, q⟩ := h
    walk_at "go"
    refine ⟨_, rfl, p.o, A.P, p.dx, _, _, rfl, hM.ob, T.cl_PlainMachine, T.na_PlainMachine_core, rfl, ?_⟩
    refine ⟨k.o, k.dxo, CQ k m, rfl, hM.qa.nm 0 _ _ rfl, rfl, ?_⟩
    walk_at "go"
    refine ⟨_, rfl, p.o, A.P, p.dx, _, _, rfl, hM.ob, T.cl_PlainMachine, T.na_PlainMachine_store, rfl, ?_⟩
    walk_at "go"
    refine .inl ⟨k, m, n, rfl, hM.qa, lm, hn, hst, fun k1 v H1 mv rv => ?_⟩
    have mm := hM.ofQ mv
    walk_at "go"
    cases e : (Cm.step m).2 with
    | none =>
      rw [e] at rv q
      obtain rfl : v = .non := rv
      refine ⟨rfl, ?_⟩
      rw [show (!decide (V.non = V.non)) = false from rfl]
      walk_at "go"
      exact q p k1 _ H1 (by rw [show (none : Option Cm.Row).toList = [] from rfl, List.append_nil]; exact mm) rfl
    | some z =>
      rw [e] at rv q
      have rv0 := rv
      obtain ⟨t, x, rfl, et, _⟩ := rv
      refine ⟨rfl, ?_⟩
      rw [show (!decide (V.ref t = V.non)) = true from rfl]
      walk_at "go"
      refine ⟨_, rfl, p.o, A.P, p.dx, _, _, rfl, mm.at_.ob, T.cl_PlainMachine, T.na_PlainMachine_trail, rfl, ?_⟩
      walk_at "go"
      refine ⟨.inl ⟨rfl, _, sqL mm.at_.to_⟩, ?_⟩
      walk_at "go"
      refine ⟨p.lt, _, _, rfl, rfl, mm.at_.to_, by rw [mm.at_.tv.1, sizeLine_eq]; omega, ?_⟩
      have mm2 := mm.trans (mm.at_.row rv0)
      have rv2 := rv0.keep (ts_upd (o := .lst (p.tv ++ [.ref t])) mm.at_.to_)
      generalize upd H1 p.lt _ = H2 at mm2 rv2 ⊢
      walk_at "go"
      exact q _ k1 _ H2 mm2 rv2
theorem pr_mstepX {f : Addr} {fd : FuncData} (F : Fun K "step" "PlainMachine.step" s_PlainMachine_step f fd) (T : Txt K mg A) (c_Core_step : CalM P w K mg base (L2.CX P w) 11 A.c.C "step" (spStep2 A)) : FnOk P w K mg base (L2.CX P w) 12 f fd ["self"] (spMStepX A) := by
  refine F.okX sc_PlainMachine_step (fun vs H Q E h => ?_) (fun cdv A' outer s H vs Q E hr h => have hu := units1 hr; ⟨_, (pss_cons (ps_set (i := 1) sc_PlainMachine_step.nd rfl (.inl rfl) (pe_mth (pe_fld (pv 0) rfl) T.cl_Core c_Core_step hr (by decide) (psX (takes_of rfl rfl rfl rfl)) (pa_cons (pe_fld (pv 0) rfl) pa_nil)))
    (pss_cons (ps_if (pt_cmpR op_notN (pv 1) pe_non (nomark _)) (pss_one (ps_expr (pe_bm PySem.F.plainAttrs_list PySem.F.slot_list_append PySem.F.type_list_append mt_append (pe_fld (pv 0) rfl) (pa_cons (pv 1) pa_nil)))) pss_nil)
    (pss_one (ps_ret (pv 1))))), ?_⟩)
  · obtain ⟨p, k, m, lg, tl, rfl, _⟩ := h
    rfl
  · obtain ⟨p, k, m, lg, tl, rfl, hM, hst, q⟩ := h
    walk_at "go"
    refine ⟨_, rfl, p.o, A.P, p.dx, _, _, rfl, hM.ob, T.cl_PlainMachine, T.na_PlainMachine_core, rfl, ?_⟩
    refine ⟨k.o, k.dxo, CQ k m, rfl, hM.qa.nm 0 _ _ rfl, rfl, ?_⟩
    walk_at "go"
    refine ⟨_, rfl, p.o, A.P, p.dx, _, _, rfl, hM.ob, T.cl_PlainMachine, T.na_PlainMachine_store, rfl, ?_⟩
    walk_at "go"
    exact .inr ⟨k, m, _, rfl, hM.qa.toCAt, hst, q⟩
theorem ok_mstep {f : Addr} {fd : FuncData} (F : Fun K "step" "PlainMachine.step" s_PlainMachine_step f fd) (T : Txt K mg A) (c_Core_step : CalM P w K mg base (L2.CX P w) 11 A.c.C "step" (spStep2 A)) : FnOk P w K mg base (L2.CX P w) 12 f fd ["self"] (spMStep2 A) := by
  exact FnOk.or (pr_mstep F T c_Core_step) (pr_mstepX F T c_Core_step)
theorem pr_marr {f : Addr} {fd : FuncData} (F : Fun K "arrive" "PlainMachine.arrive" s_PlainMachine_arrive f fd) (T : Txt K mg A) (c_Core_arrive : CalM P w K mg base (L2.CX P w) 5 A.c.C "arrive" (spArrive2 A)) (c_Core_time : CalM P w K mg base CX0 5 A.c.C "time" (spGN A fun m => m.tm)) : FnOk P w K mg base (L2.CX P w) 6 f fd ["self", "kind", "word"] (spMArr A) := by
  refine F.okX sc_PlainMachine_arrive (fun vs H Q E h => ?_) (fun cdv A' outer s H vs Q E hr h => have hu := units1 hr; ⟨_, (pss_cons (ps_expr (pe_mth (pe_fld (pv 0) rfl) T.cl_Core c_Core_arrive hr (by decide) (psX (takes_of rfl rfl rfl rfl)) (pa_cons (pv 1) (pa_cons (pv 2) pa_nil))))
    (pss_one (ps_expr (pe_bm PySem.F.plainAttrs_list PySem.F.slot_list_append PySem.F.type_list_append mt_append (pe_fld (pv 0) rfl) (pa_cons (pe_tup (pa_cons (pe_mth0 (pe_fld (pv 0) rfl) T.cl_Core c_Core_time hr (by decide) ps0) (pa_cons (pv 1) (pa_cons (pv 2) pa_nil)))) pa_nil))))), ?_⟩)
  · obtain ⟨p, k, m, lg, tl, n, b, x, rfl, _⟩ := h
    rfl
  · obtain ⟨p, k, m, lg, tl, n, b, x, rfl, hM, lm, hn, hl, hst, hx, q⟩ := h
    walk_at "go"
    refine ⟨_, rfl, p.o, A.P, p.dx, _, _, rfl, hM.ob, T.cl_PlainMachine, T.na_PlainMachine_core, rfl, ?_⟩
    refine ⟨k.o, k.dxo, CQ k m, rfl, hM.qa.nm 0 _ _ rfl, rfl, ?_⟩
    walk_at "go"
    refine .inl ⟨k, m, n, b, x, rfl, hM.qa.toCAt, lm, hn, hst, hx, fun H1 mv => ?_⟩
    have mm := hM.ofQ (hM.qa.ofC mv)
    walk_at "go"
    refine ⟨_, rfl, p.o, A.P, p.dx, _, _, rfl, mm.at_.ob, T.cl_PlainMachine, T.na_PlainMachine_log, rfl, ?_⟩
    walk_at "go"
    refine ⟨.inl ⟨rfl, _, sqL mm.at_.lo⟩, ?_⟩
    walk_at "go"
    refine ⟨_, rfl, p.o, A.P, p.dx, _, _, rfl, mm.at_.ob, T.cl_PlainMachine, T.na_PlainMachine_core, rfl, ?_⟩
    refine ⟨k.o, k.dxo, CQ k _, rfl, mm.at_.qa.nm 0 _ _ rfl, rfl, ?_⟩
    walk_at "go"
    refine ⟨k, _, rfl, mm.at_.qa.toCAt, ?_⟩
    walk_at "go"
    have etm : (comesM m b x).tm = m.tm := by unfold comesM; split <;> rfl
    rw [show ((fun m : M => m.tm) (comesM m b x)) = m.tm from etm]
    refine newT fun t H2 n2 s2 e2 => ?_
    have e2 : H2 t = some (.tup (arvV ⟨m.tm, b, x⟩)) := e2
    have mm2 := mm.trans (MMv.same mm.at_ s2)
    walk_at "go"
    refine ⟨p.ll, _, _, rfl, rfl, mm2.at_.lo, by rw [List.length_map, mm2.at_.lv.1, sizeLine_eq]; omega, ?_⟩
    rw [show p.ls.map V.ref ++ [V.ref t] = (p.ls ++ [t]).map V.ref by rw [List.map_append]; rfl]
    have mm3 := mm2.trans (mm2.at_.arv e2)
    generalize upd H2 p.ll _ = H3 at mm3 ⊢
    walk_at "go"
    exact q _ k H3 mm3
theorem pr_marrX {f : Addr} {fd : FuncData} (F : Fun K "arrive" "PlainMachine.arrive" s_PlainMachine_arrive f fd) (T : Txt K mg A) (c_Core_arrive : CalM P w K mg base (L2.CX P w) 5 A.c.C "arrive" (spArrive2 A)) (c_Core_time : CalM P w K mg base CX0 5 A.c.C "time" (spGN A fun m => m.tm)) : FnOk P w K mg base (L2.CX P w) 6 f fd ["self", "kind", "word"] (spMArrX A) := by
  refine F.okX sc_PlainMachine_arrive (fun vs H Q E h => ?_) (fun cdv A' outer s H vs Q E hr h => have hu := units1 hr; ⟨_, (pss_cons (ps_expr (pe_mth (pe_fld (pv 0) rfl) T.cl_Core c_Core_arrive hr (by decide) (psX (takes_of rfl rfl rfl rfl)) (pa_cons (pv 1) (pa_cons (pv 2) pa_nil))))
    (pss_one (ps_expr (pe_bm PySem.F.plainAttrs_list PySem.F.slot_list_append PySem.F.type_list_append mt_append (pe_fld (pv 0) rfl) (pa_cons (pe_tup (pa_cons (pe_mth0 (pe_fld (pv 0) rfl) T.cl_Core c_Core_time hr (by decide) ps0) (pa_cons (pv 1) (pa_cons (pv 2) pa_nil)))) pa_nil))))), ?_⟩)
  · obtain ⟨p, k, m, lg, tl, b, x, rfl, _⟩ := h
    rfl
  · obtain ⟨p, k, m, lg, tl, b, x, rfl, hM, hst, hx, q⟩ := h
    walk_at "go"
    refine ⟨_, rfl, p.o, A.P, p.dx, _, _, rfl, hM.ob, T.cl_PlainMachine, T.na_PlainMachine_core, rfl, ?_⟩
    refine ⟨k.o, k.dxo, CQ k m, rfl, hM.qa.nm 0 _ _ rfl, rfl, ?_⟩
    walk_at "go"
    exact .inr ⟨k, m, b, x, rfl, hM.qa.toCAt, hst, hx, q⟩
theorem ok_marr {f : Addr} {fd : FuncData} (F : Fun K "arrive" "PlainMachine.arrive" s_PlainMachine_arrive f fd) (T : Txt K mg A) (c_Core_arrive : CalM P w K mg base (L2.CX P w) 5 A.c.C "arrive" (spArrive2 A)) (c_Core_time : CalM P w K mg base CX0 5 A.c.C "time" (spGN A fun m => m.tm)) : FnOk P w K mg base (L2.CX P w) 6 f fd ["self", "kind", "word"] (spMArr2 A) := by
  exact FnOk.or (pr_marr F T c_Core_arrive c_Core_time) (pr_marrX F T c_Core_arrive c_Core_time)
end
end K15

namespace K15
open PySem PySem.Spec PyProof.Rows L2 Bk Rm Cm


/-- at a: a list or a tuple -/
def KT (K : PySem.W.Frag) (a : Addr) (xs : List V) : Prop := ∃ (o : Obj) (its : Array Value) (n : Nat), K.lookup a = some o ∧ o.cls = .type "tuple" ∧ o.data = .seq its n ∧ its.size ≤ sizeLine ∧ Vals xs its.toList
def LgA (K : PySem.W.Frag) (H : Hp) (a : Addr) (xs : List V) : Prop := H a = some (.lst xs) ∨ H a = some (.tup xs) ∨ KT K a xs
theorem LgA.frame {K : PySem.W.Frag} {H H' : Hp} {a : Addr} {xs : List V} {p : Pk} {k : Cq} (h : LgA K H a xs) (n : ¬ OwnM p k a ∨ KT K a xs) (f : ∀ b u, ¬ OwnM p k b → H b = some u → H' b = some u) : LgA K H' a xs :=
  n.elim (fun n => h.imp (f _ _ n) (Or.imp (f _ _ n) id)) fun n => .inr (.inr n)
theorem LgA.own {K : PySem.W.Frag} {H : Hp} {a : Addr} {xs : List V} {p p' : Pk} {k k' : Cq} (h : LgA K H a xs) (n : ¬ OwnM p k a ∨ KT K a xs) (w : ∀ b, OwnM p' k' b → OwnM p k b ∨ H b = none) : ¬ OwnM p' k' a ∨ KT K a xs := by
  rcases n with n | n
  · rcases h with e | e | e
    · exact .inl fun z => (w a z).elim n fun y => by rw [e] at y; exact nomatch y
    · exact .inl fun z => (w a z).elim n fun y => by rw [e] at y; exact nomatch y
    · exact .inr e
  · exact .inr n
theorem LgA.sq {K : PySem.W.Frag} {H : Hp} {a : Addr} {xs : List V} (h : LgA K H a xs) : SqA K H a xs := h.elim (fun e => .inl (sqL e)) (fun h => h.elim (fun e => .inr (SqT.of e)) (fun e => .inr (.inr e)))
theorem LgA.keep {K : PySem.W.Frag} {H H' : Hp} {a : Addr} {xs : List V} (h : LgA K H a xs) (f : ∀ u, H a = some u → H' a = some u) : LgA K H' a xs := h.imp (f _) (Or.imp (f _) id)
theorem LgA.same {K : PySem.W.Frag} {H H' : Hp} {a : Addr} {xs : List V} (h : LgA K H a xs) (s : Same H H') : LgA K H' a xs := h.keep (s _)
theorem LgA.is2 {K : PySem.W.Frag} {H : Hp} {a : Addr} {xs : List V} (h : LgA K H a xs) : IsB K H (.ref a) "list" "tuple" true := by
  rcases h with e | e | ⟨o, its, n, e, c, _⟩
  · exact isb_lst (b := true) (c := false) e
  · exact isb_tup (b := false) (c := true) e
  · exact ⟨.type "tuple", .kTuple e c, kit2 (a := false) (b := true) (kit_ty (by decide +kernel)) (kit_ty (by decide +kernel))⟩
/-- the arrivals of a log -/
structure Lgd (K : PySem.W.Frag) (H : Hp) (a : Addr) (ts : List Addr) (lg : List Arv) : Prop where
  at_ : LgA K H a (ts.map V.ref)
  tp : Tps arvV H ts lg
  wd : ∀ z ∈ lg, z.wd ≤ kmax z.net
  le : lg.length < 64
theorem Lgd.same {K : PySem.W.Frag} {H H' : Hp} {a : Addr} {ts : List Addr} {lg : List Arv} (h : Lgd K H a ts lg) (s : Same H H') : Lgd K H' a ts lg := ⟨h.at_.same s, h.tp.keep (Same.ts s), h.wd, h.le⟩
theorem sh_row (l : List Nat) : SeqAt.shaped (rowL l) = true := by
  obtain ⟨g1, g2⟩ := lay_nums l
  unfold SeqAt.shaped rowL
  generalize numsD l = x at g1 g2
  rw [show PyData.canLay0 (.list x) = true from g1, Bool.true_and]
  exact decide_eq_true (show PyData.depthAll x + 1 ≤ 64 by omega)
def spCount : Sp := fun vs H Q _ => ∃ x : Int, vs = [.int x] ∧ Q (.bl (decide (0 ≤ x))) H
def spImg : Sp := fun vs H Q _ => ∃ (img a b : Addr) (rows rms : List (List Nat)), vs = [.ref img] ∧ H img = some (.tup [.ref a, .ref b]) ∧ Eight H a rms ∧ Eight H b rows ∧ Rows8 rms ∧ Rows8 rows ∧ ∀ H', Same H H' → Q (.bl true) H'
def spIsArr : Sp := fun vs H Q _ => ∃ (t : Addr) (z : Arv), vs = [.ref t] ∧ H t = some (.tup (arvV z)) ∧ z.wd ≤ kmax z.net ∧ Q (.bl true) H
def spIsLog (K : PySem.W.Frag) : Sp := fun vs H Q _ => ∃ (a : Addr) (ts : List Addr) (lg : List Arv), vs = [.ref a] ∧ Lgd K H a ts lg ∧ lg.Pairwise (fun x y => x.tm ≤ y.tm) ∧ ∀ H', Same H H' → Q (.bl true) H'
def spEnd : Sp := fun vs H Q _ => ∃ n : Nat, vs = [.int (n : Nat)] ∧ n ≤ 20000 ∧ Q .non H
section
variable {P : Program} {w : World} {K : PySem.W.Frag} {mg : Str → Option Value} {base : Heap} {A : Ad}
theorem ok_count {f : Addr} {fd : FuncData} (F : Fun K "is_count" "is_count" s_is_count f fd) (T : Txt K mg A) : FnOk P w K mg base CX0 1 f fd ["thing"] spCount := by
  refine F.ok sc_is_count (fun vs H Q E h => ?_) (fun cdv A' outer s H vs Q E hr h => ⟨_, (pss_one (ps_ret (pe_and (pe_callB call_is (by rfl) T.m_isinstance (by decide +kernel) (pa_cons (pv 0) (pa_cons (pe_bltn (v := .ty "int") (by rfl) T.m_int (by decide +kernel) rfl) pa_nil))) (pe_and (pe_not (pe_callB call_is (by rfl) T.m_isinstance (by decide +kernel) (pa_cons (pv 0) (pa_cons (pe_bltn (v := .ty "bool") (by rfl) T.m_bool (by decide +kernel) rfl) pa_nil)))) (pe_one (pe_cmpR op_ge (pv 0) pe_int (nomark _))))))), ?_⟩)
  · obtain ⟨x, rfl, _⟩ := h
    rfl
  · obtain ⟨x, rfl, q⟩ := h
    walk_at "go"
    refine r_is (isa_int (b := true)) ?_
    walk_at "go"
    refine r_is (isa_int (b := false)) ?_
    walk_at "go"
    exact q
theorem ok_isimage {f : Addr} {fd : FuncData} (F : Fun K "is_image" "is_image" s_is_image f fd) (T : Txt K mg A) (c_is_eight : CalD P w K mg base CX0 4 "is_eight" spEight []) : FnOk P w K mg base CX0 5 f fd ["thing"] spImg := by
  refine F.ok sc_is_image (fun vs H Q E h => ?_) (fun cdv A' outer s H vs Q E hr h => have hu := units1 hr; ⟨_, (pss_one (ps_ret (pe_and (pe_callB call_is (by rfl) T.m_isinstance (by decide +kernel) (pa_cons (pv 0) (pa_cons (pe_bltn (v := .ty "tuple") (by rfl) T.m_tuple (by decide +kernel) rfl) pa_nil))) (pe_and (pe_cmpR op_eq (pe_callB call_len_seq (by rfl) T.m_len (by decide +kernel) (pa_cons (pv 0) pa_nil)) pe_int (nomark _)) (pe_and (pe_cal c_is_eight hr (by decide) (by rfl) (pa_cons (pe_ix ix_tup (pv 0) pe_int (fun _ _ => rfl)) pa_nil)) (pe_one (pe_cal c_is_eight hr (by decide) (by rfl) (pa_cons (pe_ix ix_tup (pv 0) pe_int (fun _ _ => rfl)) pa_nil)))))))), ?_⟩)
  · obtain ⟨img, a, b, rows, rms, rfl, _⟩ := h
    rfl
  · obtain ⟨img, a, b, rows, rms, rfl, eI, hA, hB, okA, okB, q⟩ := h
    walk_at "go"
    refine r_is (isa_tup (b := true) eI) ?_
    walk_at "go"
    refine ⟨img, _, rfl, .inr (SqT.of eI), ?_⟩
    walk_at "go"
    rw [show decide (V.int (([V.ref a, V.ref b].length : Nat) : Int) = V.int 2) = true from decide_eq_true rfl]
    walk_at "go"
    refine r_ixT (SqT.of eI) (v := .ref a) (atI_nat (j := 0) rfl) ?_
    walk_at "go"
    refine ⟨a, rms, rfl, hA, okA, fun H1 s1 => ?_⟩
    walk_at "go"
    refine r_ixT (SqT.of (s1 _ _ eI)) (v := .ref b) (atI_nat (j := 1) rfl) ?_
    walk_at "go"
    exact ⟨b, rows, rfl, hB.keep (Same.ts s1), okB, fun H2 s2 => q H2 (s1.trans s2)⟩
theorem ok_isarr {f : Addr} {fd : FuncData} (F : Fun K "is_arrival" "is_arrival" s_is_arrival f fd) (T : Txt K mg A) (c_is_count : CalD P w K mg base CX0 1 "is_count" spCount []) (c_is_kind : CalD P w K mg base CX0 1 "is_kind" spKind []) (c_may_arrive : CalD P w K mg base CX0 2 "may_arrive" spMay []) : FnOk P w K mg base CX0 3 f fd ["thing"] spIsArr := by
  refine F.ok sc_is_arrival (fun vs H Q E h => ?_) (fun cdv A' outer s H vs Q E hr h => have hu := units1 hr; ⟨_, (pss_cons (ps_if (PW.pt (pw_or (pt_not (pt_val (pe_callB call_is (by rfl) T.m_isinstance (by decide +kernel) (pa_cons (pv 0) (pa_cons (pe_bltn (v := .ty "tuple") (by rfl) T.m_tuple (by decide +kernel) rfl) pa_nil))))) (pw_or1 (pt_cmpR op_ne (pe_callB call_len_seq (by rfl) T.m_len (by decide +kernel) (pa_cons (pv 0) pa_nil)) pe_int (nomark _))))) (pss_one (ps_ret pe_bl)) pss_nil)
    (pss_cons (ps_asg (pv 0) (pg_tup rfl (pgs_cons (pg_name (i := 1) sc_is_arrival.nd rfl (.inl rfl)) (pgs_cons (pg_name (i := 2) sc_is_arrival.nd rfl (.inl rfl)) (pgs_cons (pg_name (i := 3) sc_is_arrival.nd rfl (.inl rfl)) pgs_nil)))))
    (pss_one (ps_ret (pe_and (pe_cal c_is_count hr (by decide) (by rfl) (pa_cons (pv 1) pa_nil)) (pe_and (pe_cal c_is_kind hr (by decide) (by rfl) (pa_cons (pv 2) pa_nil)) (pe_one (pe_cal c_may_arrive hr (by decide) (by rfl) (pa_cons (pv 2) (pa_cons (pv 3) pa_nil)))))))))), ?_⟩)
  · obtain ⟨t, z, rfl, _⟩ := h
    rfl
  · obtain ⟨t, z, rfl, et, hz, q⟩ := h
    walk_at "go"
    refine r_is (isa_tup (b := true) et) ?_
    walk_at "go"
    refine ⟨t, _, rfl, .inr (SqT.of et), ?_⟩
    walk_at "go"
    rw [show decide (V.int (((arvV z).length : Nat) : Int) = V.int 3) = true from decide_eq_true rfl]
    walk_at "go"
    refine ⟨t, _, rfl, SqT.of et, rfl, ?_⟩
    refine ⟨_, _, rfl, ?_⟩
    refine ⟨_, _, rfl, ?_⟩
    refine ⟨_, _, rfl, ?_⟩
    refine ⟨rfl, ?_⟩
    walk_at "go"
    refine ⟨_, rfl, ?_⟩
    rw [decide_eq_true (show (0 : Int) ≤ (z.tm : Nat) by omega)]
    walk_at "go"
    refine ⟨z.net, rfl, ?_⟩
    walk_at "go"
    refine ⟨z.net, z.wd, rfl, ?_⟩
    rw [decide_eq_true hz]
    exact q
theorem ok_islog {f : Addr} {fd : FuncData} (F : Fun K "is_log" "is_log" s_is_log f fd) (T : Txt K mg A) (c_is_arrival : CalD P w K mg base CX0 3 "is_arrival" spIsArr []) : FnOk P w K mg base CX0 4 f fd ["thing"] (spIsLog K) := by
  refine F.ok sc_is_log (fun vs H Q E h => ?_) (fun cdv A' outer s H vs Q E hr h => have hu65 := units65 hr; have hu64 := hr.units; have hu := units1 hr; ⟨_, (pss_cons (ps_if (PW.pt (pw_or (pt_not (pt_val (pe_callB call_is2 (by rfl) T.m_isinstance (by decide +kernel) (pa_cons (pv 0) (pa_cons (pe_tup (pa_cons (pe_bltn (v := .ty "list") (by rfl) T.m_list (by decide +kernel) rfl) (pa_cons (pe_bltn (v := .ty "tuple") (by rfl) T.m_tuple (by decide +kernel) rfl) pa_nil))) pa_nil))))) (pw_or1 (pt_cmpR op_gt (pe_callB call_len_seq (by rfl) T.m_len (by decide +kernel) (pa_cons (pv 0) pa_nil)) (C8.pe_gc (by rfl) T.c_LONGEST_LOG) (nomark _))))) (pss_one (ps_ret pe_bl)) pss_nil)
    (pss_cons (ps_if (pt_not (pt_val (pe_callB (cr_all rfl) (by rfl) T.m_all (by decide +kernel) (pa_cons (pe_lc (own := [("row", 2)]) rfl sc_is_log.nd (pi_seqA (pv 0)) (blkOk_by (N := ["thing", "times", "row"]) (sc := defScope s_is_log) (by decide +kernel)) (fun _ _ _ _ _ => (pg_name (i := 2) sc_is_log.nd rfl (.inl rfl))) (fun _ _ _ _ _ => pts_nil) (fun _ _ _ _ _ => (pe_cal c_is_arrival hr (by decide) (by rfl) (pa_cons (pv 2) pa_nil)))) pa_nil)))) (pss_one (ps_ret pe_bl)) pss_nil)
    (pss_cons (ps_setLc (i := 1) (own := [("row", 2)]) rfl sc_is_log.nd rfl rfl (sw_true rfl rfl rfl (by decide +kernel)) (pi_seqA (pv 0)) (blkOk_by (N := ["thing", "times", "row"]) (sc := defScope s_is_log) (by decide +kernel)) (fun _ _ _ _ _ => (pg_name (i := 2) sc_is_log.nd rfl (.inl rfl))) (fun _ _ _ _ _ => pts_nil) (fun _ _ _ _ _ => (pe_ix (ix_tupK (K := K) rfl) (pv 2) pe_int (fun _ _ => rfl))))
    (pss_one (ps_ret (pe_cmpR (op_eqD hu64) (pv 1) (pe_callB cr_sorted (by rfl) T.m_sorted (by decide +kernel) (pa_cons (pv 1) pa_nil)) (nomark _))))))), ?_⟩)
  · obtain ⟨a, ts, lg, rfl, _⟩ := h
    rfl
  · obtain ⟨a, ts, lg, rfl, hL, hP, q⟩ := h
    have lts : ts.length = lg.length := hL.tp.1
    have lle := hL.le
    walk_at "go"
    refine newT fun tk H0 n0 s0 e0 => ?_
    have hL := hL.same s0
    refine r_is2 hL.at_.is2 e0 ?_
    walk_at "go"
    refine ⟨a, _, rfl, hL.at_.sq, ?_⟩
    rw [List.length_map]
    walk_at "go"
    rw [decide_eq_false (show ¬ ((ts.length : Nat) : Int) > 2400 by omega)]
    walk_at "go"
    refine r_cb (r_cons (lcQ (fun _ => some (.bl true)) hL.at_.sq (by rw [List.length_map]; omega) (fun QQ z => r_var rfl z) (fun i x H1 Q' R' hx s1 h1 _ => ?_) fun D H1 nD s1 e1 => ?_))
    · rw [List.getElem?_map] at hx
      cases et : ts[i]? with
      | none => rw [et] at hx; exact nomatch hx
      | some t =>
        rw [et] at hx
        obtain rfl := Option.some.inj hx
        have li : i < lg.length := by rw [← lts]; exact (List.getElem?_eq_some_iff.mp et).1
        refine ⟨rfl, r_yes ?_⟩
        walk_at "go"
        exact ⟨t, lg[i], rfl, s1 _ _ (hL.tp.2 i t _ et (List.getElem?_eq_getElem li)), hL.wd _ (List.getElem_mem li), h1 _ rfl _ (Same.refl _)⟩
    refine r_nil ⟨D, List.replicate ts.length true, rfl, ?_, ?_⟩
    · rw [List.length_map, show (fun _ : Nat => some (V.bl true)) = some ∘ (fun _ => V.bl true) from rfl, List.filterMap_eq_map, List.map_const', List.length_range] at e1
      rw [List.map_replicate]
      exact sqL e1
    rw [show (List.replicate ts.length true).all id = true by rw [List.all_replicate]; simp]
    have hL := hL.same s1
    walk_at "go"
    refine lcQ (fun i => some (.int ((lg.map Arv.tm).getD i 0 : Nat))) hL.at_.sq (by rw [List.length_map]; omega) (fun QQ z => r_var rfl z) (fun i x H2 Q' R' hx s2 h1 _ => ?_) fun DD H2 nDD s2 e2 => ?_
    · rw [List.getElem?_map] at hx
      cases et : ts[i]? with
      | none => rw [et] at hx; exact nomatch hx
      | some t =>
        rw [et] at hx
        obtain rfl := Option.some.inj hx
        have li : i < lg.length := by rw [← lts]; exact (List.getElem?_eq_some_iff.mp et).1
        have eg := List.getElem?_eq_getElem li
        refine ⟨rfl, r_yes ?_⟩
        walk_at "go"
        refine r_ixT (SqT.of (s2 _ _ (hL.tp.2 i t _ et eg))) (v := .int (lg[i].tm : Nat)) rfl ?_
        refine h1 _ ?_ _ (Same.refl _)
        rw [List.getD_eq_getElem?_getD, List.getElem?_map, eg]
        rfl
    have e2 : H2 DD = some (.lst (nv (lg.map Arv.tm))) := by
      rw [e2, List.length_map, show (fun i => some (V.int ((lg.map Arv.tm).getD i 0 : Nat))) = some ∘ (fun i => V.int ((lg.map Arv.tm).getD i 0 : Nat)) from rfl, List.filterMap_eq_map]
      congr 2
      refine List.ext_getElem (by simp [nv_len, lts]) fun i h1 h2 => ?_
      have hi : i < lg.length := by simpa [nv_len] using h2
      simp only [List.getElem_map, List.getElem_range, nv, List.getD_eq_getElem?_getD, List.getElem?_map, List.getElem?_eq_getElem hi, Option.map_some, Option.getD_some]
    walk_at "go"
    refine ⟨DD, (lg.map Arv.tm).map (fun n : Nat => (n : Int)), rfl, by rw [List.map_map]; exact sqL e2, by rw [List.length_map, List.length_map]; exact lle, fun ns' pp hp hs np => ?_⟩
    have hsrt : ((lg.map Arv.tm).map (fun n : Nat => (n : Int))).Pairwise (· ≤ ·) := by
      rw [List.pairwise_map, List.pairwise_map]
      exact hP.imp fun h => by omega
    have hns : ns' = (lg.map Arv.tm).map (fun n : Nat => (n : Int)) := List.Perm.eq_of_pairwise (fun a b _ _ h1 h2 => Int.le_antisymm h1 h2) hs hsrt hp
    subst hns
    have s3 := same_upd (o := .lst (((lg.map Arv.tm).map (fun n : Nat => (n : Int))).map V.int)) np
    have e3 : upd H2 pp (.lst (((lg.map Arv.tm).map (fun n : Nat => (n : Int))).map V.int)) pp = some (.lst (nv (lg.map Arv.tm))) := by rw [upd_same, List.map_map]; rfl
    generalize upd H2 pp _ = H3 at s3 e3 ⊢
    refine ⟨_, _, dp_rowL (sqL (s3 _ _ e2)), dp_rowL (sqL e3), sh_row _, sh_row _, ?_⟩
    rw [SeqAt.eqv_refl _ (SeqAt.canLay_of_shaped (sh_row _))]
    exact q _ (((s0.trans s1).trans s2).trans s3)
theorem ok_ckend {f : Addr} {fd : FuncData} (F : Fun K "check_end" "check_end" s_check_end f fd) (T : Txt K mg A) (c_check_number : CalX P w K mg base 4 "check_number" spCkN) : FnOk P w K mg base (L2.CX P w) 5 f fd ["thing"] spEnd := by
  refine F.okX sc_check_end (fun vs H Q E h => ?_) (fun cdv A' outer s H vs Q E hr h => have hu := units1 hr; ⟨_, (pss_one (ps_expr (pe_calX c_check_number hr (by decide) (by rfl) (takes_of rfl rfl rfl rfl) (pa_cons (pv 0) (pa_cons pe_int (pa_cons (C8.pe_gc (by rfl) T.c_LAST_END) pa_nil)))))), ?_⟩)
  · obtain ⟨n, rfl, _⟩ := h
    rfl
  · obtain ⟨n, rfl, hn, q⟩ := h
    walk_at "go"
    refine ⟨n, 0, 20000, rfl, by omega, by omega, ?_⟩
    walk_at "go"
    exact q
end
end K15

namespace K15
open PySem PySem.Spec PyProof.Rows L2 Bk Rm Cm


theorem but_none {x b : Addr} {H Hi : Hp} {u : HO} (bt : But x H Hi) (ex : Hi x = some u) (e : Hi b = none) : b ≠ x ∧ H b = none := by
  have n : b ≠ x := fun z => by rw [z, ex] at e; exact nomatch e
  refine ⟨n, ?_⟩
  cases z : H b with
  | none => rfl
  | some v => rw [bt _ _ n z] at e; exact nomatch e
theorem ts_ins {H : Hp} {x C dx : Addr} {fs : List (Str × V)} {o : HO} (e : H x = some (.ins C dx fs)) : TS H (upd H x o) := fun t ys et => by
  rw [upd_ne fun z => by rw [z, e] at et; exact nomatch et]
  exact et
theorem qat_of {A : Ad} (pk : A.c.kd = kdP A.c.S) {H : Hp} {k0 : Cq} {m : M} {y dy rl : Addr} {rs : List Addr} (h : CAt A.c.toCs H k0 m) (hS : satS A.c.S y dy rl rs H m.rs) (dj : ∀ b ∈ ownQ k0, ¬ ownS y rl rs b) : QAt A.c H { k0 with so := y, sow := ownS y rl rs, sat := satS A.c.S y dy rl rs } m :=
  ⟨⟨h.nm, h.bw, h.sv, h.av, h.nd, h.ok⟩, hS, dj, by rw [pk]; exact ⟨dy, rl, rs, rfl, rfl⟩⟩
theorem r_ixA {K : PySem.W.Frag} {H : Hp} {Q : VK} {a : Addr} {xs : List V} {i : Int} {v : V} (h : SqA K H a xs) (e : atI xs i = some v) (q : Q v H) : rIx K (.ref a) (.int i) H Q :=
  h.elim (fun h => .inl ⟨a, xs, i, v, rfl, rfl, h, e, q⟩) (fun h => .inr (.inl ⟨a, xs, i, v, rfl, rfl, h, e, q⟩))
section
variable (A : Ad)
def spMI : Sp := fun vs H Q _ => ∃ (x dx img a b : Addr) (rows rms : List (List Nat)), vs = [.ref x, .ref img] ∧ H img = some (.tup [.ref a, .ref b]) ∧ Eight H a rms ∧ Eight H b rows ∧ Rows8 rms ∧ Rows8 rows ∧ H x = some (.ins A.P dx []) ∧ ∀ p k H', But x H H' → p.o = x → p.dx = dx → MAt A.c A.P H' p k (m0 rows rms) [] [] → (∀ b, OwnM p k b → b = x ∨ H b = none) → Q .non H'
def spRunBy (K : PySem.W.Frag) : Sp := fun vs H Q _ => ∃ (p : Pk) (k : Cq) (m : M) (a : Addr) (ts : List Addr) (log : List Arv) (e n : Nat), vs = [.ref p.o, .ref a, .int (e : Nat)] ∧ MAt A.c A.P H p k m [] [] ∧ Lgd K H a ts log ∧ (¬ OwnM p k a ∨ KT K a (ts.map V.ref)) ∧ m.Lim n ∧ n ≤ 1000 ∧ e ≤ 20000 ∧
  ∀ (p' : Pk) (k' : Cq) H', MMv A.c A.P H p k H' p' k' (runN (e + 1) e (Cm.Run.come ⟨m, [], [], log⟩)).m (runN (e + 1) e (Cm.Run.come ⟨m, [], [], log⟩)).lg (runN (e + 1) e (Cm.Run.come ⟨m, [], [], log⟩)).tl → Q .non H'
def spRunA (K : PySem.W.Frag) : Sp := fun vs H Q _ => ∃ (img ia ib a : Addr) (rows rms : List (List Nat)) (ts : List Addr) (log : List Arv) (e : Nat), vs = [.ref img, .ref a, .int (e : Nat)] ∧ H img = some (.tup [.ref ia, .ref ib]) ∧ Eight H ia rms ∧ Eight H ib rows ∧ Rows8 rms ∧ Rows8 rows ∧ Lgd K H a ts log ∧ log.Pairwise (fun x y => x.tm ≤ y.tm) ∧ e ≤ 20000 ∧
  ∀ (p : Pk) (k : Cq) H', Same H H' → MAt A.c A.P H' p k (runA rows rms log e).m (runA rows rms log e).lg (runA rows rms log e).tl → (∀ b, OwnM p k b → H b = none) → Q (.ref p.o) H'
def spArrd (K : PySem.W.Frag) : Sp := fun vs H Q _ => ∃ (p : Pk) (k : Cq) (m : M) (lg : List Arv) (tl : List Cm.Row) (a : Addr) (ts : List Addr) (log : List Arv) (c n : Nat), vs = [.ref p.o, .ref a, .int (c : Nat)] ∧ MAt A.c A.P H p k m lg tl ∧ Lgd K H a ts log ∧ (¬ OwnM p k a ∨ KT K a (ts.map V.ref)) ∧ c ≤ log.length ∧ m.Lim n ∧ n ≤ 900000 ∧ lg.length ≤ 900000 ∧
  ∀ (p' : Pk) (k' : Cq) (c' : Nat) H', MMv A.c A.P H p k H' p' k' (arrM m lg (log.drop c)).1 (arrM m lg (log.drop c)).2.1 tl → c' ≤ log.length → log.drop c' = (arrM m lg (log.drop c)).2.2 → Q (.int (c' : Nat)) H'
end
section
variable {P : Program} {w : World} {K : PySem.W.Frag} {mg : Str → Option Value} {base : Heap} {A : Ad}
theorem ok_minit {f : Addr} {fd fdI : FuncData} (F : Fun K "__init__" "PlainMachine.__init__" s_PlainMachine_init f fd) (T : Txt K mg A) (pk : A.c.kd = kdP A.c.S) (c_is_image : CalD P w K mg base CX0 5 "is_image" spImg []) (c_Core_init : CalC P w K mg base (L2.CX P w) 7 A.c.C "Core" (spCI A)) (c_PlainStore_init : CalC P w K mg base (L2.CX P w) 6 A.c.S "PlainStore" (spSI A)) (c_NoImage_init : Own P w K mg base CX0 2 A.fI fdI ["self", "found"] (spInitN "found" A.CI)) : FnOk P w K mg base (L2.CX P w) 9 f fd ["self", "image"] (spMI A) := by
  refine F.okX sc_PlainMachine_init (fun vs H Q E h => ?_) (fun cdv A' outer s H vs Q E hr h => have hu65 := units65 hr; have hu64 := hr.units; have hu := units1 hr; ⟨_, (pss_cons (ps_if (pt_not (pt_val (pe_cal c_is_image hr (by decide) (by rfl) (pa_cons (pv 1) pa_nil)))) (pss_one (ps_raise rfl (takes_of rfl rfl rfl rfl) (pmk_oexT T.ox_NoImage T.i_NoImage T.t_NoImage c_NoImage_init.ok (hr.mono (by decide)) c_NoImage_init.bd .nil pass0 (by rfl) T.g_NoImage (pa_cons (pv 1) pa_nil)))) pss_nil)
    (pss_cons (ps_asg (pv 1) (pg_tup rfl (pgs_cons (pg_name (i := 2) sc_PlainMachine_init.nd rfl (.inl rfl)) (pgs_cons (pg_name (i := 3) sc_PlainMachine_init.nd rfl (.inl rfl)) pgs_nil))))
    (pss_cons (ps_fld (pv 0) (pe_mk c_Core_init hr (by decide) (by rfl) (psX (takes_of rfl rfl rfl rfl)) (pa_cons (pv 3) pa_nil)) rfl)
    (pss_cons (ps_fld (pv 0) (pe_mk c_PlainStore_init hr (by decide) (by rfl) (psX (takes_of rfl rfl rfl rfl)) (pa_cons (pv 2) pa_nil)) rfl)
    (pss_cons (ps_fld (pv 0) (pe_lstB pa_nil) rfl)
    (pss_one (ps_fld (pv 0) (pe_lstB pa_nil) rfl))))))), ?_⟩)
  · obtain ⟨x, dx, img, a, b, rows, rms, rfl, _⟩ := h
    rfl
  · obtain ⟨x, dx, img, a, b, rows, rms, rfl, eI, hA, hB, okA, okB, ex, q⟩ := h
    walk_at "go"
    refine ⟨img, a, b, rows, rms, rfl, eI, hA, hB, okA, okB, fun H0 s0 => ?_⟩
    have hA := hA.keep (Same.ts s0)
    have hB := hB.keep (Same.ts s0)
    have ex := s0 _ _ ex
    walk_at "go"
    refine ⟨img, _, rfl, SqT.of (s0 _ _ eI), rfl, ?_⟩
    refine ⟨_, _, rfl, ?_⟩
    refine ⟨_, _, rfl, ?_⟩
    refine ⟨rfl, ?_⟩
    walk_at "go"
    try unfold sFld tMkS
    walk_at "go"
    intro y dy ny ndy ney
    have ny2 : upd H0 dy (.own y) y = none := by rw [upd_ne ney.symm]; exact ny
    have sE := Same.ts ((same_upd (o := .own y) ndy).trans (same_upd (o := .ins A.c.C dy []) ny2))
    refine ⟨y, dy, b, rows, rfl, hB.keep sE, okB, upd_same, fun k0 H1 ko kdx kbl kss kts bn => ⟨rfl, ?_⟩⟩
    obtain ⟨s1, hC, fr1⟩ := core_made ndy ny ney ko kdx kbl kss kts okB bn
    have hC := hC rms okA
    rw [← ko]
    have ex1 := s1 _ _ ex
    refine ⟨_, rfl, x, A.P, dx, _, rfl, ex1, T.cl_PlainMachine, T.na_PlainMachine_core, Nat.le_of_ble_eq_true rfl, ?_⟩
    have nC : x ∉ ownQ k0 := fun z => by have := fr1 x z; rw [ex] at this; exact nomatch this
    have C2 : CAt A.c.toCs (upd H1 x (.ins A.P dx (putF ("_core" : Str) (.ref k0.o) []))) k0 (m0 rows rms) := hC.keep (fun c u hc e => by rw [upd_ne fun z => nC (by rw [← z]; exact hc)]; exact e) (ts_ins ex1)
    have hA2 := (hA.keep (Same.ts s1)).keep (ts_ins (o := .ins A.P dx (putF ("_core" : Str) (.ref k0.o) [])) ex1)
    have b2 : But x H (upd H1 x (.ins A.P dx (putF ("_core" : Str) (.ref k0.o) []))) := (But.of (s0.trans s1)).trans But.upd
    have ex2 : upd H1 x (.ins A.P dx (putF ("_core" : Str) (.ref k0.o) [])) x = some (.ins A.P dx [("_core", .ref k0.o)]) := upd_same
    generalize upd H1 x _ = H2 at C2 hA2 b2 ex2 ⊢
    dsimp only
    walk_at "go"
    intro z dz nz ndz nez
    have nz2 : upd H2 dz (.own z) z = none := by rw [upd_ne nez.symm]; exact nz
    have sE2 := Same.ts ((same_upd (o := .own z) ndz).trans (same_upd (o := .ins A.c.S dz []) nz2))
    refine ⟨z, dz, a, rms, rfl, hA2.keep sE2, okA, upd_same, fun rl rs H3 lrs bns => ⟨rfl, ?_⟩⟩
    obtain ⟨s3, hS3, fr3⟩ := store_made ndz nz nez lrs bns
    have ex3 := s3 _ _ ex2
    refine ⟨_, rfl, x, A.P, dx, _, rfl, ex3, T.cl_PlainMachine, T.na_PlainMachine_store, Nat.le_of_ble_eq_true rfl, ?_⟩
    have nS : ¬ ownS z rl rs x := fun y => by have := fr3 x y; rw [ex2] at this; exact nomatch this
    have dj : ∀ c ∈ ownQ k0, ¬ ownS z rl rs c := fun c hc y => by
      obtain ⟨u, e, _⟩ := C2.has hc
      rw [fr3 c y] at e
      exact nomatch e
    have C4 : CAt A.c.toCs (upd H3 x (.ins A.P dx (putF ("_store" : Str) (.ref z) [("_core", .ref k0.o)]))) k0 (m0 rows rms) := (C2.same s3).keep (fun c u hc e => by rw [upd_ne fun y => nC (by rw [← y]; exact hc)]; exact e) (ts_ins ex3)
    have S4 : satS A.c.S z dz rl rs (upd H3 x (.ins A.P dx (putF ("_store" : Str) (.ref z) [("_core", .ref k0.o)]))) rms := stoS.fr _ _ _ hS3 (fun c u hc e => by rw [upd_ne fun y => nS (by rw [← y]; exact hc)]; exact e) (ts_ins ex3)
    have b4 : But x H (upd H3 x (.ins A.P dx (putF ("_store" : Str) (.ref z) [("_core", .ref k0.o)]))) := (b2.trans (But.of s3)).trans But.upd
    have ex4 : upd H3 x (.ins A.P dx (putF ("_store" : Str) (.ref z) [("_core", .ref k0.o)])) x = some (.ins A.P dx [("_core", .ref k0.o), ("_store", .ref z)]) := upd_same
    generalize upd H3 x _ = H4 at C4 S4 b4 ex4 ⊢
    dsimp only
    walk_at "go"
    refine newLB fun l1 H5 n5 _ s5 e5 => ?_
    have ex5 := s5 _ _ ex4
    refine ⟨_, rfl, x, A.P, dx, _, rfl, ex5, T.cl_PlainMachine, T.na_PlainMachine_log, Nat.le_of_ble_eq_true rfl, ?_⟩
    have l1x : l1 ≠ x := fun y => by rw [y, ex4] at n5; exact nomatch n5
    have C6 : CAt A.c.toCs (upd H5 x (.ins A.P dx (putF ("_log" : Str) (.ref l1) [("_core", .ref k0.o), ("_store", .ref z)]))) k0 (m0 rows rms) := (C4.same s5).keep (fun c u hc e => by rw [upd_ne fun y => nC (by rw [← y]; exact hc)]; exact e) (ts_ins ex5)
    have S6 : satS A.c.S z dz rl rs (upd H5 x (.ins A.P dx (putF ("_log" : Str) (.ref l1) [("_core", .ref k0.o), ("_store", .ref z)]))) rms := stoS.fr _ _ _ (stoS.fr _ _ _ S4 (fun c u _ e => s5 _ _ e) (Same.ts s5)) (fun c u hc e => by rw [upd_ne fun y => nS (by rw [← y]; exact hc)]; exact e) (ts_ins ex5)
    have b6 : But x H (upd H5 x (.ins A.P dx (putF ("_log" : Str) (.ref l1) [("_core", .ref k0.o), ("_store", .ref z)]))) := (b4.trans (But.of s5)).trans But.upd
    have ex6 : upd H5 x (.ins A.P dx (putF ("_log" : Str) (.ref l1) [("_core", .ref k0.o), ("_store", .ref z)])) x = some (.ins A.P dx [("_core", .ref k0.o), ("_store", .ref z), ("_log", .ref l1)]) := upd_same
    have e6 : upd H5 x (.ins A.P dx (putF ("_log" : Str) (.ref l1) [("_core", .ref k0.o), ("_store", .ref z)])) l1 = some (.lst []) := by rw [upd_ne l1x]; exact e5
    generalize upd H5 x _ = H6 at C6 S6 b6 ex6 e6 ⊢
    dsimp only
    walk_at "go"
    refine newLB fun l2 H7 n7 _ s7 e7 => ?_
    have ex7 := s7 _ _ ex6
    refine ⟨_, rfl, x, A.P, dx, _, rfl, ex7, T.cl_PlainMachine, T.na_PlainMachine_trail, Nat.le_of_ble_eq_true rfl, ?_⟩
    have l2x : l2 ≠ x := fun y => by rw [y, ex6] at n7; exact nomatch n7
    have l21 : l2 ≠ l1 := fun y => by rw [y, e6] at n7; exact nomatch n7
    have C8 : CAt A.c.toCs (upd H7 x (.ins A.P dx (putF ("_trail" : Str) (.ref l2) [("_core", .ref k0.o), ("_store", .ref z), ("_log", .ref l1)]))) k0 (m0 rows rms) := (C6.same s7).keep (fun c u hc e => by rw [upd_ne fun y => nC (by rw [← y]; exact hc)]; exact e) (ts_ins ex7)
    have S8 : satS A.c.S z dz rl rs (upd H7 x (.ins A.P dx (putF ("_trail" : Str) (.ref l2) [("_core", .ref k0.o), ("_store", .ref z), ("_log", .ref l1)]))) rms := stoS.fr _ _ _ (stoS.fr _ _ _ S6 (fun c u _ e => s7 _ _ e) (Same.ts s7)) (fun c u hc e => by rw [upd_ne fun y => nS (by rw [← y]; exact hc)]; exact e) (ts_ins ex7)
    have b8 : But x H (upd H7 x (.ins A.P dx (putF ("_trail" : Str) (.ref l2) [("_core", .ref k0.o), ("_store", .ref z), ("_log", .ref l1)]))) := (b6.trans (But.of s7)).trans But.upd
    have ex8 : upd H7 x (.ins A.P dx (putF ("_trail" : Str) (.ref l2) [("_core", .ref k0.o), ("_store", .ref z), ("_log", .ref l1)])) x = some (.ins A.P dx [("_core", .ref k0.o), ("_store", .ref z), ("_log", .ref l1), ("_trail", .ref l2)]) := upd_same
    have e81 : upd H7 x (.ins A.P dx (putF ("_trail" : Str) (.ref l2) [("_core", .ref k0.o), ("_store", .ref z), ("_log", .ref l1)])) l1 = some (.lst []) := by rw [upd_ne l1x]; exact s7 _ _ e6
    have e82 : upd H7 x (.ins A.P dx (putF ("_trail" : Str) (.ref l2) [("_core", .ref k0.o), ("_store", .ref z), ("_log", .ref l1)])) l2 = some (.lst []) := by rw [upd_ne l2x]; exact e7
    generalize upd H7 x _ = H8 at C8 S8 b8 ex8 e81 e82 ⊢
    have no1 : ¬ (l1 ∈ ownQ k0 ∨ ownS z rl rs l1) := fun y => y.elim (C4.none n5) fun y => by
      obtain ⟨u, e, _⟩ := stoS.hs _ _ S4 _ y
      rw [n5] at e
      exact nomatch e
    have no2 : ¬ (l2 ∈ ownQ k0 ∨ ownS z rl rs l2) := fun y => y.elim (C6.none n7) fun y => by
      obtain ⟨u, e, _⟩ := stoS.hs _ _ S6 _ y
      rw [n7] at e
      exact nomatch e
    refine q ⟨x, dx, l1, l2, [], []⟩ { k0 with so := z, sow := ownS z rl rs, sat := satS A.c.S z dz rl rs } H8 b8 rfl rfl ⟨ex8, e81, ⟨rfl, fun _ _ _ y => nomatch y⟩, e82, ⟨rfl, fun _ _ _ y => nomatch y⟩, qat_of pk C8 S8 dj, by simp [l1x.symm, l2x.symm, l21.symm], fun c hc => ?_⟩ fun c hc => ?_
    · simp only [List.mem_cons, List.not_mem_nil, or_false] at hc
      rcases hc with rfl | rfl | rfl
      · exact fun y => y.elim nC nS
      · exact no1
      · exact no2
    · rcases hc with hc | hc | hc
      · simp only [List.mem_cons, List.not_mem_nil, or_false] at hc
        rcases hc with rfl | rfl | rfl
        · exact .inl rfl
        · exact .inr (but_none b4 ex4 n5).2
        · exact .inr (but_none b6 ex6 n7).2
      · exact .inr (none_of s0 (fr1 c hc))
      · exact .inr (but_none b2 ex2 (fr3 c hc)).2
theorem ok_arrived {f : Addr} {fd : FuncData} (F : Fun K "arrived" "arrived" s_arrived f fd) (T : Txt K mg A) (c_PlainMachine_time : CalM P w K mg base CX0 6 A.P "time" (spMTime A)) (c_PlainMachine_state : CalM P w K mg base CX0 6 A.P "state" (spMState A)) (c_PlainMachine_arrive : CalM P w K mg base (L2.CX P w) 6 A.P "arrive" (spMArr2 A)) : FnOk P w K mg base (L2.CX P w) 7 f fd ["machine", "log", "come"] (spArrd A K) := by
  refine F.okX sc_arrived (fun vs H Q E h => ?_) (fun cdv A' outer s H vs Q E hr h => have hu65 := units65 hr; have hu64 := hr.units; have hu := units1 hr; ⟨_, (pss_cons (ps_while (passes_of rfl) (PW.pt (pw_and (pt_cmpR op_lt (pv 2) (pe_callB call_len_seq (by rfl) T.m_len (by decide +kernel) (pa_cons (pv 1) pa_nil)) (nomark _)) (pw_and (pt_cmpR op_le (pe_ix ix_tup (pe_ix ix_seq (pv 1) (pv 2) (fun _ _ => rfl)) pe_int (fun _ _ => rfl)) (pe_mth0 (pv 0) T.cl_PlainMachine c_PlainMachine_time hr (by decide) ps0) (nomark _)) (pw_and1 (pt_cmpR op_notIn_seq (pe_mth0 (pv 0) T.cl_PlainMachine c_PlainMachine_state hr (by decide) ps0) (pe_tup (pa_cons pe_str (pa_cons pe_str pa_nil))) (by rfl))))))
      (pss_cons (ps_asg (pe_ix ix_seq (pv 1) (pv 2) (fun _ _ => rfl)) (pg_tup rfl (pgs_cons (pg_name (i := 3) sc_arrived.nd rfl (.inl rfl)) (pgs_cons (pg_name (i := 4) sc_arrived.nd rfl (.inl rfl)) (pgs_cons (pg_name (i := 5) sc_arrived.nd rfl (.inl rfl)) pgs_nil)))))
    (pss_cons (ps_expr (pe_mth (pv 0) T.cl_PlainMachine c_PlainMachine_arrive hr (by decide) (psX (takes_of rfl rfl rfl rfl)) (pa_cons (pv 4) (pa_cons (pv 5) pa_nil))))
    (pss_one (ps_aug (i := 2) sc_arrived.nd rfl (.inl rfl) pe_int ip_add)))))
    (pss_one (ps_ret (pv 2)))), ?_⟩)
  · obtain ⟨p, k, m, lg, tl, a, ts, log, c, n, rfl, _⟩ := h
    rfl
  · obtain ⟨p, k, m, lg, tl, a, ts, log, c, n, rfl, hM, hL, nO, hc, hl, hn, hlg, q⟩ := h
    have lts : ts.length = log.length := hL.tp.1
    have lle := hL.le
    walk_at "go"
    refine r_while (fun d σ G => ∃ p1 k1 m1 lg1 c1 x3 x4 x5, σ = [some (.ref p.o), some (.ref a), some (.int (c1 : Nat)), x3, x4, x5] ∧ MMv A.c A.P H p k G p1 k1 m1 lg1 tl ∧ arrM m1 lg1 (log.drop c1) = arrM m lg (log.drop c) ∧ c ≤ c1 ∧ c1 ≤ log.length ∧ d = log.length - c1 ∧ m1.Lim (n + (c1 - c)) ∧ lg1.length = lg.length + (c1 - c))
      ⟨_, p, k, m, lg, c, none, none, none, rfl, MMv.same hM (Same.refl _), rfl, Nat.le_refl _, hc, rfl, by rw [Nat.sub_self]; exact hl, by rw [Nat.sub_self]; rfl⟩ (fun d σ G hW => ?_)
    obtain ⟨p1, k1, m1, lg1, c1, x3, x4, x5, rfl, mv, ea, cc, cl, rfl, hl1, hg1⟩ := hW
    have o1 := mv.oo
    have hLG : Lgd K G a ts log := ⟨hL.at_.frame nO mv.fr, hL.tp.keep (mv.ts hM), hL.wd, hL.le⟩
    walk_at "go"
    refine ⟨a, _, rfl, hLG.at_.sq, ?_⟩
    rw [List.length_map, lts]
    walk_at "go"
    by_cases hlt : c1 < log.length
    · rw [decide_eq_true (show (c1 : Int) < (log.length : Nat) by omega)]
      have ez := List.getElem?_eq_getElem hlt
      have ed : log.drop c1 = log[c1] :: log.drop (c1 + 1) := List.drop_eq_getElem_cons hlt
      obtain ⟨t, et⟩ : ∃ t, ts[c1]? = some t := ⟨_, List.getElem?_eq_getElem (by rw [lts]; exact hlt)⟩
      have etv := hLG.tp.2 c1 t _ et ez
      have eai : atI (ts.map V.ref) (c1 : Nat) = some (.ref t) := atI_nat (by rw [List.getElem?_map, et]; rfl)
      have hwd := hLG.wd _ (List.getElem_mem hlt)
      generalize log[c1] = z at ez ed etv hwd
      walk_at "go"
      refine r_ixA hLG.at_.sq eai ?_
      walk_at "go"
      refine r_ixT (SqT.of etv) (v := .int (z.tm : Nat)) rfl ?_
      walk_at "go"
      refine ⟨p.o, p1.dx, PF p1 k1, rfl, by rw [← o1]; exact mv.at_.ob, rfl, ?_⟩
      walk_at "go"
      refine ⟨p1, k1, m1, lg1, tl, by rw [o1], mv.at_, ?_⟩
      walk_at "go"
      by_cases hdue : z.tm ≤ m1.tm
      · rw [decide_eq_true (show ((z.tm : Nat) : Int) ≤ (m1.tm : Nat) by omega)]
        walk_at "go"
        refine ⟨p.o, p1.dx, PF p1 k1, rfl, by rw [← o1]; exact mv.at_.ob, rfl, ?_⟩
        walk_at "go"
        refine ⟨p1, k1, m1, lg1, tl, by rw [o1], mv.at_, ?_⟩
        walk_at "go"
        refine newT fun tq G1 nq sq eq => ?_
        have mv1 := mv.trans (MMv.same mv.at_ sq)
        refine ⟨tq, _, rfl, .inr (sqT eq), rfl, rfl, _, rfl, ?_⟩
        have ei : inV (.str m1.st.s) [.str (Str.ofString "ended"), .str (Str.ofString "fell")] = !m1.alive := by
          unfold M.alive
          cases m1.st <;> decide +kernel
        rw [if_pos rfl, ei, Bool.not_not]
        by_cases ha : m1.alive = true
        · rw [if_pos ha]
          have hst : m1.st = .runs ∨ m1.st = .idle := of_decide_eq_true ha
          have en : arrM m1 lg1 (z :: log.drop (c1 + 1)) = arrM (comesM m1 z.net z.wd) (lg1 ++ [⟨m1.tm, z.net, z.wd⟩]) (log.drop (c1 + 1)) := by
            rw [arrM, if_pos ⟨hdue, ha⟩]
          rw [ed, en] at ea
          refine ⟨fun σ G => ∃ p1 k1 m1 lg1 x3 x4 x5, σ = [some (.ref p.o), some (.ref a), some (.int ((c1 + 1 : Nat) : Int)), x3, x4, x5] ∧ MMv A.c A.P H p k G p1 k1 m1 lg1 tl ∧ arrM m1 lg1 (log.drop (c1 + 1)) = arrM m lg (log.drop c) ∧ m1.Lim (n + (c1 + 1 - c)) ∧ lg1.length = lg.length + (c1 + 1 - c), fun σ G hN => ?_, ?_⟩
          · obtain ⟨p1, k1, m1, lg1, x3, x4, x5, e1, e2, e3, e4, e5⟩ := hN
            exact ⟨log.length - (c1 + 1), by omega, p1, k1, m1, lg1, c1 + 1, x3, x4, x5, e1, e2, e3, by omega, by omega, rfl, e4, e5⟩
          walk_at "go"
          have hLG1 := hLG.same sq
          refine r_ixA hLG1.at_.sq eai ?_
          walk_at "go"
          refine ⟨t, _, rfl, SqT.of (sq _ _ etv), rfl, ?_⟩
          refine ⟨_, _, rfl, ?_⟩
          refine ⟨_, _, rfl, ?_⟩
          refine ⟨_, _, rfl, ?_⟩
          refine ⟨rfl, ?_⟩
          walk_at "go"
          refine ⟨p.o, p1.dx, PF p1 k1, rfl, by rw [← o1]; exact mv1.at_.ob, rfl, ?_⟩
          walk_at "go"
          refine .inl ⟨p1, k1, m1, lg1, tl, _, z.net, z.wd, by rw [o1], mv1.at_, hl1, by omega, by omega, hst, hwd, fun p2 k2 G2 mv2 => ?_⟩
          have mv3 := mv1.trans mv2
          walk_at "go"
          dsimp only
          walk_at "go"
          refine ⟨_, rfl, _, _, rfl, rfl, ?_⟩
          exact ⟨p2, k2, _, _, _, _, _, by rw [show ((c1 + 1 : Nat) : Int) = (c1 : Int) + 1 by omega]; rfl, mv3, ea, (comesM_lim hl1).mono (by omega), by rw [List.length_append, hg1]; show _ + 1 = _; omega⟩
        · rw [if_neg ha]
          walk_at "go"
          have en : arrM m1 lg1 (z :: log.drop (c1 + 1)) = (m1, lg1, z :: log.drop (c1 + 1)) := by
            unfold arrM
            rw [if_neg fun y => ha y.2]
          rw [ed, en] at ea
          refine q p1 k1 c1 _ ?_ cl ?_
          · rw [← ea]; exact mv1
          · rw [← ea]; exact ed
      · rw [decide_eq_false (show ¬ ((z.tm : Nat) : Int) ≤ (m1.tm : Nat) by omega)]
        walk_at "go"
        have en : arrM m1 lg1 (z :: log.drop (c1 + 1)) = (m1, lg1, z :: log.drop (c1 + 1)) := by
          unfold arrM
          rw [if_neg fun y => hdue y.1]
        rw [ed, en] at ea
        refine q p1 k1 c1 _ ?_ cl ?_
        · rw [← ea]; exact mv
        · rw [← ea]; exact ed
    · rw [decide_eq_false (show ¬ (c1 : Int) < (log.length : Nat) by omega)]
      have ec : c1 = log.length := by omega
      rw [ec, List.drop_length] at ea
      walk_at "go"
      refine q p1 k1 c1 _ ?_ cl ?_
      · rw [← ea]; exact mv
      · rw [← ea, ec, List.drop_length]; rfl
theorem go_lim {s : Cm.Run} {n : Nat} (ok : s.m.Ok) (h : s.m.Lim n) (hw : ∀ a ∈ s.left, a.wd ≤ kmax a.net) : s.come.m.Lim (n + (s.left.length - s.come.left.length)) ∧ s.come.m.Ok ∧ s.come.left.length ≤ s.left.length ∧ s.come.lg.length + s.come.left.length = s.lg.length + s.left.length := by
  have go : ∀ (r : List Arv) (m : M) (lg : List Arv) (n : Nat), m.Ok → m.Lim n → (∀ a ∈ r, a.wd ≤ kmax a.net) → (arrM m lg r).1.Lim (n + (r.length - (arrM m lg r).2.2.length)) ∧ (arrM m lg r).1.Ok ∧ (arrM m lg r).2.2.length ≤ r.length ∧ (arrM m lg r).2.1.length + (arrM m lg r).2.2.length = lg.length + r.length := by
    intro r
    induction r with
    | nil => exact fun m lg n ok h _ => ⟨h.mono (Nat.le_add_right _ _), ok, Nat.le_refl _, rfl⟩
    | cons a r ih =>
      intro m lg n ok h hw
      unfold arrM
      split
      · obtain ⟨h1, h2, h3, h4⟩ := ih _ (lg ++ [⟨m.tm, a.net, a.wd⟩]) (n + 1) (comesM_ok ok (b := a.net) (hw a List.mem_cons_self)) (comesM_lim h (b := a.net) (x := a.wd)) fun z hz => hw z (List.mem_cons_of_mem _ hz)
        refine ⟨h1.mono (by rw [List.length_cons]; omega), h2, by rw [List.length_cons]; omega, ?_⟩
        rw [h4, List.length_append]
        simp only [List.length_cons, List.length_nil]
        omega
      · exact ⟨h.mono (Nat.le_add_right _ _), ok, Nat.le_refl _, rfl⟩
  exact go s.left s.m s.lg n ok h hw
theorem come_sub {s : Cm.Run} : ∀ a ∈ s.come.left, a ∈ s.left := by
  have go : ∀ (r : List Arv) (m : M) (lg : List Arv), ∀ a ∈ (arrM m lg r).2.2, a ∈ r := by
    intro r
    induction r with
    | nil => exact fun _ _ _ h => h
    | cons b r ih =>
      intro m lg a ha
      unfold arrM at ha
      split at ha
      · exact List.mem_cons_of_mem _ (ih _ _ a ha)
      · exact ha
  exact go _ _ _
theorem run_exit {f e : Nat} {s : Cm.Run} (h : ¬ s.go e) : runN f e s = s := by
  cases f with
  | zero => rfl
  | succ f => exact if_neg h
theorem ok_runby {f : Addr} {fd : FuncData} (F : Fun K "run_by" "run_by" s_run_by f fd) (T : Txt K mg A) (c_arrived : CalX P w K mg base 7 "arrived" (spArrd A K)) (c_PlainMachine_time : CalM P w K mg base CX0 6 A.P "time" (spMTime A)) (c_PlainMachine_state : CalM P w K mg base CX0 6 A.P "state" (spMState A)) (c_PlainMachine_step : CalM P w K mg base (L2.CX P w) 12 A.P "step" (spMStep2 A)) : FnOk P w K mg base (L2.CX P w) 13 f fd ["machine", "log", "end"] (spRunBy A K) := by
  refine F.okX sc_run_by (fun vs H Q E h => ?_) (fun cdv A' outer s H vs Q E hr h => have hu65 := units65 hr; have hu64 := hr.units; have hu := units1 hr; ⟨_, (pss_cons (ps_set (i := 3) sc_run_by.nd rfl (.inl rfl) (pe_calX c_arrived hr (by decide) (by rfl) (takes_of rfl rfl rfl rfl) (pa_cons (pv 0) (pa_cons (pv 1) (pa_cons pe_int pa_nil)))))
    (pss_one (ps_while (passes_of rfl) (PW.pt (pw_and (pt_cmpR op_lt (pe_mth0 (pv 0) T.cl_PlainMachine c_PlainMachine_time hr (by decide) ps0) (pv 2) (nomark _)) (pw_and1 (pt_cmpR op_eq (pe_mth0 (pv 0) T.cl_PlainMachine c_PlainMachine_state hr (by decide) ps0) pe_str (nomark _)))))
      (pss_cons (ps_expr (pe_mth0 (pv 0) T.cl_PlainMachine c_PlainMachine_step hr (by decide) (psX (takes_of rfl rfl rfl rfl))))
    (pss_one (ps_set (i := 3) sc_run_by.nd rfl (.inl rfl) (pe_calX c_arrived hr (by decide) (by rfl) (takes_of rfl rfl rfl rfl) (pa_cons (pv 0) (pa_cons (pv 1) (pa_cons (pv 3) pa_nil)))))))))), ?_⟩)
  · obtain ⟨p, k, m, a, ts, log, e, n, rfl, _⟩ := h
    rfl
  · obtain ⟨p, k, m, a, ts, log, e, n, rfl, hM, hL, nO, hl, hn, he, q⟩ := h
    have lle := hL.le
    walk_at "go"
    refine ⟨p, k, m, [], [], a, ts, log, 0, n, rfl, hM, hL, nO, Nat.zero_le _, hl, by omega, Nat.zero_le _, fun p1 k1 c1 H1 mv1 hc1 ed1 => ?_⟩
    rw [List.drop_zero] at mv1 ed1
    obtain ⟨S, hS⟩ : ∃ S : Cm.Run, S = runN (e + 1) e (Cm.Run.come ⟨m, [], [], log⟩) := ⟨_, rfl⟩
    rw [← hS] at q
    have g0 := go_lim (s := ⟨m, [], [], log⟩) hM.qa.ok hl hL.wd
    walk_at "go"
    refine r_while (fun d σ G => ∃ (p1 : Pk) (k1 : Cq) (s : Cm.Run) (c1 f i : Nat), σ = [some (.ref p.o), some (.ref a), some (.int (e : Nat)), some (.int (c1 : Nat))] ∧ MMv A.c A.P H p k G p1 k1 s.m s.lg s.tl ∧ c1 ≤ log.length ∧ log.drop c1 = s.left ∧ runN f e s = S ∧ Wtg s.m s.left ∧ (s.go e → e + 1 ≤ f + s.m.tm) ∧ d = f ∧ i + f = e + 1 ∧ s.m.Lim (n + 64 + 16 * i + (log.length - s.left.length)) ∧ s.tl.length ≤ i ∧ s.lg.length + s.left.length = log.length)
      ⟨e + 1, p1, k1, Cm.Run.come ⟨m, [], [], log⟩, c1, e + 1, 0, rfl, mv1, hc1, ed1, hS.symm, come_wtg, fun _ => by omega, rfl, by omega, g0.1.mono (by show n + (log.length - _) ≤ _; omega), Nat.le_refl _, by have := g0.2.2.2; exact this.trans (by show 0 + log.length = _; omega)⟩ (fun d σ G hW => ?_)
    obtain ⟨p1, k1, s1, c1, f, i, rfl, mv, hc, ed, hR, hWt, hf, rfl, hif, hl1, htl, hlg⟩ := hW
    have o1 := mv.oo
    walk_at "go"
    refine ⟨p.o, p1.dx, PF p1 k1, rfl, by rw [← o1]; exact mv.at_.ob, rfl, ?_⟩
    walk_at "go"
    refine ⟨p1, k1, _, _, _, by rw [o1], mv.at_, ?_⟩
    walk_at "go"
    by_cases htm : s1.m.tm < e
    · rw [decide_eq_true (show ((s1.m.tm : Nat) : Int) < (e : Nat) by omega)]
      walk_at "go"
      refine ⟨p.o, p1.dx, PF p1 k1, rfl, by rw [← o1]; exact mv.at_.ob, rfl, ?_⟩
      walk_at "go"
      refine ⟨p1, k1, _, _, _, by rw [o1], mv.at_, ?_⟩
      walk_at "go"
      by_cases hst : s1.m.st = .runs
      · rw [hst, show decide (V.str St.runs.s = V.str (Str.ofString "runs")) = true from by decide +kernel]
        have hgo : s1.go e := ⟨htm, hst⟩
        have hf1 := hf hgo
        obtain ⟨d', rfl⟩ : ∃ d', d = d' + 1 := ⟨d - 1, by omega⟩
        have hR' : Cm.runN d' e s1.step.come = S := by rw [← hR]; exact (if_pos hgo).symm
        rw [if_pos rfl]
        refine ⟨fun σ G => ∃ (p1 : Pk) (k1 : Cq) (c1 : Nat), σ = [some (.ref p.o), some (.ref a), some (.int (e : Nat)), some (.int (c1 : Nat))] ∧ MMv A.c A.P H p k G p1 k1 s1.step.come.m s1.step.come.lg s1.step.come.tl ∧ c1 ≤ log.length ∧ log.drop c1 = s1.step.come.left, fun σ G hN => ?_, ?_⟩
        · obtain ⟨p2, k2, c2, e1, e2, e3, e4⟩ := hN
          have hw1 : ∀ z ∈ s1.step.left, z.wd ≤ kmax z.net := fun z hz => hL.wd z (by
            have hz : z ∈ s1.left := hz
            rw [← ed] at hz
            exact List.mem_of_mem_drop hz)
          have g1 := go_lim (s := s1.step) (step_ok mv.at_.qa.ok) (step_lim mv.at_.qa.ok hl1) hw1
          have tt := turn_tm hWt hst
          refine ⟨d', Nat.lt_succ_self _, p2, k2, s1.step.come, c2, d', i + 1, e1, e2, e3, e4, hR', come_wtg, fun hg => ?_, rfl, by omega, ?_, ?_, ?_⟩
          · rcases tt with tt | tt
            · omega
            · exact absurd hg.2 tt
          · refine g1.1.mono ?_
            have h1 : s1.step.come.left.length ≤ s1.step.left.length := g1.2.2.1
            have h2 : s1.step.left.length = s1.left.length := rfl
            omega
          · show (s1.tl ++ (Cm.step s1.m).2.toList).length ≤ i + 1
            rw [List.length_append]
            have : (Cm.step s1.m).2.toList.length ≤ 1 := by cases (Cm.step s1.m).2 <;> simp
            omega
          · exact g1.2.2.2.trans hlg
        walk_at "go"
        refine ⟨p.o, p1.dx, PF p1 k1, rfl, by rw [← o1]; exact mv.at_.ob, rfl, ?_⟩
        walk_at "go"
        refine .inl ⟨p1, k1, s1.m, s1.lg, s1.tl, _, by rw [o1], mv.at_, hl1, by omega, by omega, .inl hst, fun p2 k2 v G2 mv2 rv => ?_⟩
        have mv3 := mv.trans mv2
        have o2 := mv3.oo
        walk_at "go"
        have hLG : Lgd K G2 a ts log := ⟨hL.at_.frame nO mv3.fr, hL.tp.keep (mv3.ts hM), hL.wd, hL.le⟩
        refine ⟨p2, k2, s1.step.m, s1.step.lg, s1.step.tl, a, ts, log, c1, _, by rw [o2]; rfl, mv3.at_, hLG, hL.at_.own nO mv3.nw, hc, step_lim mv.at_.qa.ok hl1, by omega, by show s1.lg.length ≤ _; omega, fun p3 k3 c3 G3 mv4 hc3 ed3 => ?_⟩
        rw [ed] at mv4 ed3
        walk_at "go"
        exact ⟨p3, k3, c3, rfl, mv3.trans mv4, hc3, ed3⟩
      · rw [show decide (V.str s1.m.st.s = V.str (Str.ofString "runs")) = false from by
          cases e : s1.m.st with
          | runs => exact absurd e hst
          | idle => decide +kernel
          | ended => decide +kernel
          | fell => decide +kernel]
        walk_at "go"
        rw [run_exit (fun hg => hst hg.2)] at hR
        subst hR
        exact q p1 k1 _ mv
    · rw [decide_eq_false (show ¬ ((s1.m.tm : Nat) : Int) < (e : Nat) by omega)]
      walk_at "go"
      rw [run_exit (fun hg => htm hg.1)] at hR
      subst hR
      exact q p1 k1 _ mv
theorem ok_runalone {f : Addr} {fd fdL : FuncData} {dvs : List V} {kws : List (Str × V)} (F : FunD K "run_alone" "run_alone" (defArgs s_run_alone) (defBody s_run_alone) (defScope s_run_alone) dvs kws f fd) (T : Txt K mg A) (c_PlainMachine_init : CalC P w K mg base (L2.CX P w) 9 A.P "PlainMachine" (spMI A)) (c_is_log : CalD P w K mg base CX0 4 "is_log" (spIsLog K) []) (c_check_end : CalX P w K mg base 5 "check_end" spEnd) (c_run_by : CalX P w K mg base 13 "run_by" (spRunBy A K)) (c_NoLog_init : Own P w K mg base CX0 2 A.fL fdL ["self", "found"] (spInitN "found" A.CL)) : FnOk P w K mg base (L2.CX P w) 14 f fd ["image", "log", "end"] (spRunA A K) := by
  refine F.ok sc_run_alone (fun vs H Q E h => ?_) (fun cdv A' outer s H vs Q E hr h => have hu65 := units65 hr; have hu64 := hr.units; have hu := units1 hr; ⟨_, (pss_cons (ps_set (i := 3) sc_run_alone.nd rfl (.inl rfl) (pe_mk c_PlainMachine_init hr (by decide) (by rfl) (psX (takes_of rfl rfl rfl rfl)) (pa_cons (pv 0) pa_nil)))
    (pss_cons (ps_if (pt_not (pt_val (pe_cal c_is_log hr (by decide) (by rfl) (pa_cons (pv 1) pa_nil)))) (pss_one (ps_raise rfl (takes_of rfl rfl rfl rfl) (pmk_oexT T.ox_NoLog T.i_NoLog T.t_NoLog c_NoLog_init.ok (hr.mono (by decide)) c_NoLog_init.bd .nil pass0 (by rfl) T.g_NoLog (pa_cons (pv 1) pa_nil)))) pss_nil)
    (pss_cons (ps_expr (pe_calX c_check_end hr (by decide) (by rfl) (takes_of rfl rfl rfl rfl) (pa_cons (pv 2) pa_nil)))
    (pss_cons (ps_expr (pe_calX c_run_by hr (by decide) (by rfl) (takes_of rfl rfl rfl rfl) (pa_cons (pv 3) (pa_cons (pv 1) (pa_cons (pv 2) pa_nil)))))
    (pss_one (ps_ret (pv 3))))))), ?_⟩)
  · obtain ⟨img, ia, ib, a, rows, rms, ts, log, e, rfl, _⟩ := h
    rfl
  · obtain ⟨img, ia, ib, a, rows, rms, ts, log, e, rfl, eI, hA, hB, okA, okB, hL, hP, he, q⟩ := h
    walk_at "go"
    intro x dx nx ndx nex
    have nx2 : upd H dx (.own x) x = none := by rw [upd_ne nex.symm]; exact nx
    have s0 := (same_upd (o := .own x) ndx).trans (same_upd (o := .ins A.P dx []) nx2)
    have sE := Same.ts s0
    refine ⟨x, dx, img, ia, ib, rows, rms, rfl, s0 _ _ eI, hA.keep sE, hB.keep sE, okA, okB, upd_same, fun p k H1 b1 po pdx hM fr => ⟨rfl, ?_⟩⟩
    have s1 : Same H H1 := fun b u eb => b1 _ _ (fun z => by rw [z, nx] at eb; exact nomatch eb) (s0 _ _ eb)
    have fr1 : ∀ b, OwnM p k b → H b = none := fun b hb => (fr b hb).elim (fun z => by rw [z]; exact nx) fun z => none_of s0 z
    rw [← po]
    have hL1 := hL.same s1
    have nO : ¬ OwnM p k a ∨ KT K a (ts.map V.ref) := by
      rcases hL.at_ with z | z | z
      · exact .inl fun y => by have := fr1 a y; rw [z] at this; exact nomatch this
      · exact .inl fun y => by have := fr1 a y; rw [z] at this; exact nomatch this
      · exact .inr z
    walk_at "go"
    refine ⟨a, ts, log, rfl, hL1, hP, fun H2 s2 => ?_⟩
    have hM2 := hM.same s2
    walk_at "go"
    refine ⟨e, rfl, he, ?_⟩
    walk_at "go"
    refine ⟨p, k, m0 rows rms, a, ts, log, e, 0, rfl, hM2, hL1.same s2, nO, ⟨Nat.le_refl _, Nat.le_refl _, Nat.le_refl _, Nat.le_refl _, Nat.le_refl _, Nat.le_refl _, Nat.le_refl _, fun _ z => nomatch z⟩, by decide, he, fun p' k' H3 mv => ?_⟩
    have s12 := s1.trans s2
    have s3 : Same H H3 := fun b u eb => mv.fr _ _ (fun z => by rw [fr1 b z] at eb; exact nomatch eb) (s12 _ _ eb)
    walk_at "go"
    rw [← mv.oo]
    exact q p' k' H3 s3 mv.at_ fun b hb => (mv.nw b hb).elim (fr1 b) fun z => none_of s12 z
end
end K15

namespace K15
open PySem PySem.Spec PyProof.Rows L2 Bk Rm Cm


def spOrder : Sp := fun vs H Q _ => ∃ (bx : Addr) (n : Nat), vs = [.ref bx] ∧ Box bx n H ∧ n < 900000 ∧ ∀ (w : Nat) H', w ≤ 4095 → Box bx (n + 10) H' → But bx H H' → Q (.int (w : Nat)) H'
def spImage : Sp := fun vs H Q _ => ∃ (bx : Addr) (n : Nat), vs = [.ref bx] ∧ Box bx n H ∧ n < 800000 ∧ ∀ (img a b : Addr) (rows rms : List (List Nat)) H', H' img = some (.tup [.ref a, .ref b]) → Eight H' a rms → Eight H' b rows → Rows8 rms → Rows8 rows → Box bx (n + 500) H' → But bx H H' → Q (.ref img) H'
section
variable {P : Program} {w : World} {K : PySem.W.Frag} {mg : Str → Option Value} {base : Heap} {A : Ad}
theorem ok_order {f : Addr} {fd : FuncData} (F : Fun K "_law_order" "_law_order" s_order_L f fd) (T : Txt K mg A) (c_take_L : CalD P w K mg base CX0 1 "_law_take" spTake []) : FnOk P w K mg base CX0 2 f fd ["_law_box_here"] spOrder := by
  refine F.ok sc_order_L (fun vs H Q E h => ?_) (fun cdv A' outer s H vs Q E hr h => have hu := units1 hr; ⟨_, (pss_cons (ps_set (i := 1) sc_order_L.nd rfl (.inl rfl) (pe_ix ix_list (pe_lstB (pa_cons pe_int (pa_cons pe_int (pa_cons pe_int (pa_cons pe_int (pa_cons pe_int (pa_cons pe_int (pa_cons pe_int (pa_cons pe_int (pa_cons pe_int (pa_cons pe_int (pa_cons pe_int (pa_cons pe_int (pa_cons pe_int (pa_cons pe_int (pa_cons pe_int (pa_cons pe_int (pa_cons pe_int (pa_cons pe_int (pa_cons pe_int (pa_cons pe_int (pa_cons pe_int (pa_cons pe_int (pa_cons pe_int (pa_cons pe_int pa_nil))))))))))))))))))))))))) (pe_cal c_take_L hr (by decide) (by rfl) (pa_cons (pv 0) (pa_cons pe_int pa_nil))) (fun _ _ => rfl)))
    (pss_cons (ps_par (i := 2) (j := 3) rfl sc_order_L.nd rfl rfl (by decide) rfl rfl (pa_cons (pe_cal c_take_L hr (by decide) (by rfl) (pa_cons (pv 0) (pa_cons pe_int pa_nil))) (pa_cons (pe_cal c_take_L hr (by decide) (by rfl) (pa_cons (pv 0) (pa_cons pe_int pa_nil))) pa_nil)) (by rfl))
    (C8.pss_cut (ps_if (PW.pt (pw_and (pt_cmpR op_eq (pv 1) pe_int (nomark _)) (pw_and1 (pt_cmpR op_gt (pe_cal c_take_L hr (by decide) (by rfl) (pa_cons (pv 0) (pa_cons pe_int pa_nil))) pe_int (nomark _))))) (pss_one (ps_par (i := 2) (j := 3) rfl sc_order_L.nd rfl rfl (by decide) rfl rfl (pa_cons (pe_ix ix_list (pe_lstB (pa_cons pe_int (pa_cons pe_int (pa_cons pe_int pa_nil)))) (pe_cal c_take_L hr (by decide) (by rfl) (pa_cons (pv 0) (pa_cons pe_int pa_nil))) (fun _ _ => rfl)) (pa_cons (pe_cal c_take_L hr (by decide) (by rfl) (pa_cons (pv 0) (pa_cons pe_int pa_nil))) pa_nil)) (by rfl))) pss_nil)
    (C8.pss_cut (ps_if (pt_cmpR op_in_seq (pv 1) (pe_tup (pa_cons pe_int (pa_cons pe_int pa_nil))) (by rfl)) (pss_one (ps_set (i := 3) sc_order_L.nd rfl (.inl rfl) (pe_op op_add pe_int (pe_cal c_take_L hr (by decide) (by rfl) (pa_cons (pv 0) (pa_cons pe_int pa_nil)))))) pss_nil)
    (C8.pss_cut (ps_if (pt_cmpR op_eq (pv 1) pe_int (nomark _)) (pss_one (ps_par (i := 2) (j := 3) rfl sc_order_L.nd rfl rfl (by decide) rfl rfl (pa_cons (pe_ix ix_list (pe_lstB (pa_cons pe_int (pa_cons pe_int (pa_cons pe_int (pa_cons pe_int pa_nil))))) (pe_cal c_take_L hr (by decide) (by rfl) (pa_cons (pv 0) (pa_cons pe_int pa_nil))) (fun _ _ => rfl)) (pa_cons (pe_cal c_take_L hr (by decide) (by rfl) (pa_cons (pv 0) (pa_cons pe_int pa_nil))) pa_nil)) (by rfl))) pss_nil)
    (C8.pss_cut (ps_if (pt_cmpR op_eq (pe_cal c_take_L hr (by decide) (by rfl) (pa_cons (pv 0) (pa_cons pe_int pa_nil))) pe_int (nomark _)) (pss_one (ps_set (i := 1) sc_order_L.nd rfl (.inl rfl) pe_int)) pss_nil)
    (pss_one (ps_ret (pe_op op_add (pe_op op_add (pe_op op_mulW (pv 1) pe_int) (pe_op op_mulW (pv 2) pe_int)) (pv 3)))))))))), ?_⟩)
  · obtain ⟨bx, n, rfl, _⟩ := h
    rfl
  · obtain ⟨bx, n, rfl, hB, hn, q⟩ := h
    have g0 := Gn.start hB
    walk_at "go"
    refine newLB fun l1 H1 n1 _ s1 e1 => ?_
    have g1 := g0.new s1 n1 e1
    walk_at "go"
    refine r_take g1.hb (fun d2 H2 l2 u2 hB2 b2 => ?_)
    have g2 := g1.take b2 hB2
    obtain ⟨op, hop, ev⟩ := ixI (l := [1, 1, 2, 3, 4, 5, 6, 7, 8, 9, 9, 10, 11, 12, 13, 13, 13, 14, 14, 15, 3, 1, 6, 11]) l2 u2
    refine r_ixL (sqL (g2.at 0 rfl)) ev ?_
    have op2 : 0 ≤ op ∧ op ≤ 15 := by simp at hop; omega
    walk_at "go"
    refine r_take g2.hb (fun sl H3 l3 u3 hB3 b3 => ?_)
    walk_at "go"
    refine r_take hB3 (fun re H4 l4 u4 hB4 b4 => ?_)
    have g4 := ((g2.take b3 hB3).take b4 hB4).drop (List.nil_sublist _)
    walk_at "go"
    refine ⟨_, _, rfl, ?_⟩
    refine r_cut (fun σ G => ∃ a b : Int, σ = [some (.ref bx), some (.int op), some (.int a), some (.int b)] ∧ 0 ≤ a ∧ a ≤ 3 ∧ 0 ≤ b ∧ b ≤ 63 ∧ Gn bx (n + 6) H G []) ?_ ?_
    · walk_at "go"
      generalize decide (V.int op = V.int 9) = cc
      cases cc with
      | true =>
        walk_at "go"
        refine r_take g4.hb (fun x H5 l5 u5 hB5 b5 => ?_)
        have g5 := g4.take b5 hB5
        walk_at "go"
        refine ite2 (fun _ => ?_) (fun _ => ?_)
        · walk_at "go"
          refine newLB fun l1 H6 n6 _ s6 e6 => ?_
          have g6 := g5.new s6 n6 e6
          walk_at "go"
          refine r_take g6.hb (fun d H7 l7 u7 hB7 b7 => ?_)
          have g7 := g6.take b7 hB7
          obtain ⟨v, hv, ev⟩ := ixI (l := [1, 2, 3]) l7 u7
          have v2 : 1 ≤ v ∧ v ≤ 3 := by simp at hv; omega
          refine r_ixL (sqL (g7.at 0 rfl)) ev ?_
          walk_at "go"
          refine r_take g7.hb (fun y H8 l8 u8 hB8 b8 => ?_)
          have g8 := g7.take b8 hB8
          walk_at "go"
          refine ⟨_, _, rfl, ?_⟩
          exact ⟨v, y, rfl, by omega, by omega, by omega, by omega, g8.drop (List.nil_sublist _)⟩
        · walk_at "go"
          exact ⟨sl, re, rfl, by omega, by omega, by omega, by omega, g5.mono (by omega)⟩
      | false =>
        walk_at "go"
        exact ⟨sl, re, rfl, by omega, by omega, by omega, by omega, g4.mono (by omega)⟩
    rintro σ G ⟨a, b, rfl, a0, a3, b0, b63, g⟩
    clear g4 g2 g1
    refine r_cut (fun σ G => ∃ a b : Int, σ = [some (.ref bx), some (.int op), some (.int a), some (.int b)] ∧ 0 ≤ a ∧ a ≤ 3 ∧ 0 ≤ b ∧ b ≤ 63 ∧ Gn bx (n + 7) H G []) ?_ ?_
    · walk_at "go"
      refine newT fun t0 H0 n0 s0 e0 => ?_
      have g0 := g.same s0
      refine ⟨t0, _, rfl, .inr (sqT e0), rfl, rfl, _, rfl, ?_⟩
      refine ite2 (fun _ => ?_) (fun _ => ?_)
      · walk_at "go"
        refine r_take g0.hb (fun x H5 l5 u5 hB5 b5 => ?_)
        walk_at "go"
        exact ⟨a, 24 + x, rfl, by omega, by omega, by omega, by omega, g0.take b5 hB5⟩
      · walk_at "go"
        exact ⟨a, b, rfl, by omega, by omega, by omega, by omega, g0.mono (by omega)⟩
    rintro σ G ⟨a, b, rfl, a0, a3, b0, b63, g⟩
    refine r_cut (fun σ G => ∃ a b : Int, σ = [some (.ref bx), some (.int op), some (.int a), some (.int b)] ∧ 0 ≤ a ∧ a ≤ 3 ∧ 0 ≤ b ∧ b ≤ 63 ∧ Gn bx (n + 9) H G []) ?_ ?_
    · walk_at "go"
      generalize decide (V.int op = V.int 11) = cc
      cases cc with
      | true =>
        walk_at "go"
        refine newLB fun l1 H6 n6 _ s6 e6 => ?_
        have g6 := g.new s6 n6 e6
        walk_at "go"
        refine r_take g6.hb (fun d H7 l7 u7 hB7 b7 => ?_)
        have g7 := g6.take b7 hB7
        obtain ⟨v, hv, ev⟩ := ixI (l := [0, 1, 2, 3]) l7 u7
        have v2 : 0 ≤ v ∧ v ≤ 3 := by simp at hv; omega
        refine r_ixL (sqL (g7.at 0 rfl)) ev ?_
        walk_at "go"
        refine r_take g7.hb (fun y H8 l8 u8 hB8 b8 => ?_)
        have g8 := g7.take b8 hB8
        walk_at "go"
        refine ⟨_, _, rfl, ?_⟩
        exact ⟨v, y, rfl, by omega, by omega, by omega, by omega, (g8.drop (List.nil_sublist _)).mono (by omega)⟩
      | false =>
        walk_at "go"
        exact ⟨a, b, rfl, by omega, by omega, by omega, by omega, g.mono (by omega)⟩
    rintro σ G ⟨a, b, rfl, a0, a3, b0, b63, g⟩
    refine r_cut (fun σ G => ∃ op a b : Int, σ = [some (.ref bx), some (.int op), some (.int a), some (.int b)] ∧ 0 ≤ op ∧ op ≤ 15 ∧ 0 ≤ a ∧ a ≤ 3 ∧ 0 ≤ b ∧ b ≤ 63 ∧ Gn bx (n + 10) H G []) ?_ ?_
    · walk_at "go"
      refine r_take g.hb (fun x H5 l5 u5 hB5 b5 => ?_)
      have g5 := g.take b5 hB5
      walk_at "go"
      generalize decide (V.int x = V.int 0) = cc
      cases cc with
      | true =>
        walk_at "go"
        exact ⟨0, a, b, rfl, by omega, by omega, by omega, by omega, by omega, by omega, g5⟩
      | false =>
        walk_at "go"
        exact ⟨op, a, b, rfl, by omega, by omega, by omega, by omega, by omega, by omega, g5⟩
    rintro σ G ⟨op, a, b, rfl, o0, o15, a0, a3, b0, b63, g⟩
    walk_at "go"
    refine r_mul (by omega) ?_
    walk_at "go"
    refine r_mul (by omega) ?_
    walk_at "go"
    obtain ⟨e, he⟩ := Int.eq_ofNat_of_zero_le (show 0 ≤ op * 256 + a * 64 + b by omega)
    rw [he]
    exact q e G (by omega) g.hb g.bt
theorem ok_image {f : Addr} {fd : FuncData} (F : Fun K "_law_image" "_law_image" s_image_L f fd) (T : Txt K mg A) (c_take_L : CalD P w K mg base CX0 1 "_law_take" spTake []) (c_order_L : CalD P w K mg base CX0 2 "_law_order" spOrder []) : FnOk P w K mg base CX0 3 f fd ["_law_box_here"] spImage := by
  refine F.ok sc_image_L (fun vs H Q E h => ?_) (fun cdv A' outer s H vs Q E hr h => have hu := units1 hr; ⟨_, (pss_cons (ps_set (i := 1) sc_image_L.nd rfl (.inl rfl) (pe_lstB (pa_cons (pe_op op_add (pe_op op_mulW pe_int pe_int) pe_int) (pa_cons (pe_op op_add (pe_op op_mulW pe_int pe_int) pe_int) (pa_cons (pe_op op_add (pe_op op_mulW pe_int pe_int) (pe_ix ix_list (pe_lstB (pa_cons pe_int (pa_cons pe_int pa_nil))) (pe_cal c_take_L hr (by decide) (by rfl) (pa_cons (pv 0) (pa_cons pe_int pa_nil))) (fun _ _ => rfl))) (pa_cons (pe_op op_add (pe_op op_mulW pe_int pe_int) pe_int) (pa_cons (pe_op op_add (pe_op op_mulW pe_int pe_int) pe_int) pa_nil)))))))
    (pss_cons (ps_for PassesOwn.never rfl (pi_range1 (by rfl) T.m_range (pa_cons pe_int pa_nil)) (pg_name (i := 2) sc_image_L.nd rfl (.inl rfl))
      (pss_cons (ps_set (i := 3) sc_image_L.nd rfl (.inl rfl) (pe_op op_add (pe_op op_mulW pe_int (pe_cal c_take_L hr (by decide) (by rfl) (pa_cons (pv 0) (pa_cons pe_int pa_nil)))) (pe_cal c_take_L hr (by decide) (by rfl) (pa_cons (pv 0) (pa_cons pe_int pa_nil)))))
    (pss_one (ps_expr (pe_bm PySem.F.plainAttrs_list PySem.F.slot_list_append PySem.F.type_list_append mt_append (pv 1) (pa_cons (pe_ix ix_list (pe_lstB (pa_cons pe_int (pa_cons (pe_op op_add (pe_op op_mulW pe_int pe_int) pe_int) (pa_cons (pe_op op_add (pe_op op_mulW pe_int pe_int) pe_int) (pa_cons (pe_op op_add (pe_op op_mulW pe_int pe_int) pe_int) (pa_cons (pv 3) pa_nil)))))) (pe_cal c_take_L hr (by decide) (by rfl) (pa_cons (pv 0) (pa_cons pe_int pa_nil))) (fun _ _ => rfl)) pa_nil))))))
    (pss_cons (ps_setLc (i := 4) (own := [("_law_k", 2)]) rfl sc_image_L.nd rfl rfl (sw_true rfl rfl rfl (by decide +kernel)) (pi_range1 (by rfl) T.m_range (pa_cons pe_int pa_nil)) (blkOk_by (N := ["_law_box_here", "_law_entries", "_law_k", "_law_any_one", "_law_program", "_law_rooms", "_law_way", "_law_row", "_law_blocks", "_law_cell_here"]) (sc := defScope s_image_L) (by decide +kernel)) (fun _ _ _ _ _ => (pg_name (i := 2) sc_image_L.nd rfl (.inl rfl))) (fun _ _ _ _ _ => pts_nil) (fun _ _ _ _ _ => (pe_cal c_order_L hr (by decide) (by rfl) (pa_cons (pv 0) pa_nil))))
    (pss_cons (ps_asg (pe_op op_add (pe_op op_add (pe_op op_mulW pe_int pe_int) pe_int) (pe_cal c_take_L hr (by decide) (by rfl) (pa_cons (pv 0) (pa_cons pe_int pa_nil)))) (pg_sub (pv 4) pe_int set_list))
    (pss_cons (ps_asg (pe_tup (pa_cons (pe_op op_mulW pe_int pe_int) (pa_cons (pe_op op_add (pe_op op_mulW pe_int pe_int) (pe_ix ix_list (pe_lstB (pa_cons pe_int (pa_cons pe_int (pa_cons pe_int pa_nil)))) (pe_cal c_take_L hr (by decide) (by rfl) (pa_cons (pv 0) (pa_cons pe_int pa_nil))) (fun _ _ => rfl))) pa_nil))) (pg_tup rfl (pgs_cons (pg_sub (pv 4) pe_int set_list) (pgs_cons (pg_sub (pv 4) pe_int set_list) pgs_nil))))
    (pss_cons (ps_set (i := 5) sc_image_L.nd rfl (.inl rfl) (pe_lstB (pa_cons (pe_callTy call_tuple_of (by rfl) T.m_tuple (by decide +kernel) (pa_cons (pv 1) pa_nil)) (pa_cons (pe_callTy call_tuple_of (by rfl) T.m_tuple (by decide +kernel) (pa_cons (pe_slice sl_list (pv 4) po_none (po_some pe_int)) pa_nil)) (pa_cons (pe_callTy call_tuple_of (by rfl) T.m_tuple (by decide +kernel) (pa_cons (pe_slice sl_list (pv 4) (po_some pe_int) (po_some pe_int)) pa_nil)) (pa_cons (pe_callTy call_tuple_of (by rfl) T.m_tuple (by decide +kernel) (pa_cons (pe_slice sl_list (pv 4) (po_some pe_int) po_none) pa_nil)) pa_nil))))))
    (pss_cons (ps_for PassesOwn.never rfl (pi_range2 (by rfl) T.m_range (pa_cons pe_int (pa_cons pe_int pa_nil))) (pg_name (i := 2) sc_image_L.nd rfl (.inl rfl))
      (pss_cons (ps_set (i := 6) sc_image_L.nd rfl (.inl rfl) (pe_cal c_take_L hr (by decide) (by rfl) (pa_cons (pv 0) (pa_cons pe_int pa_nil))))
    (pss_cons (ps_setLc (i := 7) (own := [("_law_cell_here", 9)]) rfl sc_image_L.nd rfl rfl (sw_true rfl rfl rfl (by decide +kernel)) (pi_range1 (by rfl) T.m_range (pa_cons pe_int pa_nil)) (blkOk_by (N := ["_law_box_here", "_law_entries", "_law_k", "_law_any_one", "_law_program", "_law_rooms", "_law_way", "_law_row", "_law_blocks", "_law_cell_here"]) (sc := defScope s_image_L) (by decide +kernel)) (fun _ _ _ _ _ => (pg_name (i := 9) sc_image_L.nd rfl (.inl rfl))) (fun _ _ _ _ _ => pts_nil) (fun _ _ _ _ _ => (pe_ix (ix_listK (K := K) rfl) (pe_lstB (pa_cons pe_int (pa_cons pe_int (pa_cons pe_int (pa_cons (pe_cal c_take_L hr (by decide) (by rfl) (pa_cons (pv 0) (pa_cons pe_int pa_nil))) pa_nil))))) (pe_cal c_take_L hr (by decide) (by rfl) (pa_cons (pv 0) (pa_cons pe_int pa_nil))) (fun _ _ => rfl))))
    (pss_one (ps_expr (pe_bm PySem.F.plainAttrs_list PySem.F.slot_list_append PySem.F.type_list_append mt_append (pv 5) (pa_cons (pe_ix ix_list (pe_lstB (pa_cons (pe_op op_repT (pe_tup (pa_cons pe_int pa_nil)) pe_int) (pa_cons (pe_callTy call_tuple_of (by rfl) T.m_tuple (by decide +kernel) (pa_cons (pv 1) pa_nil)) (pa_cons (pe_callTy call_tuple_of (by rfl) T.m_tuple (by decide +kernel) (pa_cons (pv 7) pa_nil)) (pa_cons (pe_callTy call_tuple_of (by rfl) T.m_tuple (by decide +kernel) (pa_cons (pv 7) pa_nil)) pa_nil))))) (pv 6) (fun _ _ => rfl)) pa_nil)))))))
    (pss_cons (ps_set (i := 8) sc_image_L.nd rfl (.inl rfl) (pe_lstB pa_nil))
    (pss_cons (ps_for PassesOwn.never rfl (pi_range1 (by rfl) T.m_range (pa_cons pe_int pa_nil)) (pg_name (i := 2) sc_image_L.nd rfl (.inl rfl))
      (pss_cons (ps_setLc (i := 7) (own := [("_law_cell_here", 9)]) rfl sc_image_L.nd rfl rfl (sw_true rfl rfl rfl (by decide +kernel)) (pi_range1 (by rfl) T.m_range (pa_cons pe_int pa_nil)) (blkOk_by (N := ["_law_box_here", "_law_entries", "_law_k", "_law_any_one", "_law_program", "_law_rooms", "_law_way", "_law_row", "_law_blocks", "_law_cell_here"]) (sc := defScope s_image_L) (by decide +kernel)) (fun _ _ _ _ _ => (pg_name (i := 9) sc_image_L.nd rfl (.inl rfl))) (fun _ _ _ _ _ => pts_nil) (fun _ _ _ _ _ => (pe_cal c_take_L hr (by decide) (by rfl) (pa_cons (pv 0) (pa_cons pe_int pa_nil)))))
    (pss_one (ps_expr (pe_bm PySem.F.plainAttrs_list PySem.F.slot_list_append PySem.F.type_list_append mt_append (pv 8) (pa_cons (pe_ix ix_list (pe_lstB (pa_cons (pe_op op_repT (pe_tup (pa_cons pe_int pa_nil)) pe_int) (pa_cons (pe_callTy call_tuple_of (by rfl) T.m_tuple (by decide +kernel) (pa_cons (pv 7) pa_nil)) pa_nil))) (pe_cal c_take_L hr (by decide) (by rfl) (pa_cons (pv 0) (pa_cons pe_int pa_nil))) (fun _ _ => rfl)) pa_nil))))))
    (pss_one (ps_ret (pe_tup (pa_cons (pe_callTy call_tuple_of (by rfl) T.m_tuple (by decide +kernel) (pa_cons (pv 5) pa_nil)) (pa_cons (pe_callTy call_tuple_of (by rfl) T.m_tuple (by decide +kernel) (pa_cons (pv 8) pa_nil)) pa_nil)))))))))))))), ?_⟩)
  · obtain ⟨bx, n, rfl, _⟩ := h
    rfl
  · obtain ⟨bx, n, rfl, hB, hn, q⟩ := h
    have g0 := Gn.start hB
    walk_at "go"
    refine r_mul (by omega) ?_
    walk_at "go"
    refine r_mul (by omega) ?_
    walk_at "go"
    refine r_mul (by omega) ?_
    walk_at "go"
    refine newLB fun l1 H1 n1 _ s1 e1 => ?_
    have g1 := g0.new s1 n1 e1
    walk_at "go"
    refine r_take g1.hb (fun d2 H2 l2 u2 hB2 b2 => ?_)
    have g2 := g1.take b2 hB2
    obtain ⟨v, hv, ev⟩ := ixI (l := [1, 3]) l2 u2
    have v2 : 1 ≤ v ∧ v ≤ 3 := by simp at hv; omega
    refine r_ixL (sqL (g2.at 0 rfl)) ev ?_
    walk_at "go"
    refine r_mul (by omega) ?_
    walk_at "go"
    refine r_mul (by omega) ?_
    walk_at "go"
    refine newLB fun le H3 n3 _ s3 e3 => ?_
    have g3 := (g2.new s3 n3 e3).drop (F' := [(le, _)]) (List.cons_sublist_cons.mpr (List.nil_sublist _))
    walk_at "go"
    refine ⟨3, rfl, by decide, by decide, ?_⟩
    refine for_range (fun i σ G => ∃ x2 x3 es, σ = [some (.ref bx), some (.ref le), x2, x3, none, none, none, none, none, none] ∧ es.length = 5 + i ∧ (∀ w ∈ es, w ≤ 4095) ∧ Gn bx (n + 1 + 3 * i) H G [(le, .lst (nv es))]) ?_ ?_ ?_
    · obtain ⟨v, rfl⟩ := Int.eq_ofNat_of_zero_le (show 0 ≤ v by omega)
      exact ⟨none, none, [4 * 1 + 1, 4 * 2 + 1, 4 * 3 + v, 4 * 4 + 3, 4 * 5 + 3], rfl, rfl, fun w hw => by simp at hw; omega, g3⟩
    · rintro i σ G hi ⟨x2, x3, es, rfl, el, ele, g⟩
      have hi : i < 3 := hi
      walk_at "go"
      refine r_take g.hb (fun d1 G1 l1 u1 hB1 b1 => ?_)
      have g1 := g.take b1 hB1
      walk_at "go"
      refine r_mul (by omega) ?_
      walk_at "go"
      refine r_take g1.hb (fun d2 G2 l2 u2 hB2 b2 => ?_)
      have g2 := g1.take b2 hB2
      walk_at "go"
      refine ⟨.inl ⟨rfl, _, sqL (g2.at 0 rfl)⟩, ?_⟩
      walk_at "go"
      refine r_mul (by omega) ?_
      walk_at "go"
      refine r_mul (by omega) ?_
      walk_at "go"
      refine r_mul (by omega) ?_
      walk_at "go"
      refine newLB fun l3 G3 n3 _ s3 e3 => ?_
      have g3 := g2.new s3 n3 e3
      walk_at "go"
      refine r_take g3.hb (fun d4 G4 l4 u4 hB4 b4 => ?_)
      have g4 := g3.take b4 hB4
      obtain ⟨v, hv, ev⟩ := ixI (l := [0, 4 * 0 + 3, 4 * 6 + 3, 4 * 7 + 1, 4 * d1 + d2]) l4 u4
      have v2 : 0 ≤ v ∧ v ≤ 31 := by simp at hv; omega
      refine r_ixL (sqL (g4.at 0 rfl)) ev ?_
      obtain ⟨v, rfl⟩ := Int.eq_ofNat_of_zero_le v2.1
      walk_at "go"
      refine ⟨le, _, _, rfl, rfl, g4.at 1 rfl, by rw [nv_len, el, sizeLine_eq]; omega, ?_⟩
      have g5 := (g4.drop (F' := [(le, .lst (nv es))]) (List.Sublist.cons _ (List.Sublist.refl _))).set 0 (o' := .lst (nv es ++ [.int (v : Nat)])) rfl
      rw [nv_app] at g5
      rw [nv_app]
      generalize upd G4 le _ = G5 at g5 ⊢
      walk_at "go"
      exact ⟨_, _, es ++ [v], rfl, by rw [List.length_append, el]; rfl, fun w hw => (List.mem_append.mp hw).elim (ele w) (fun z => by rw [List.mem_singleton.mp z]; omega), g5⟩
    · rintro σ G ⟨x2, x3, es, rfl, el, ele, g⟩
      clear g3 g2 g1 g0
      walk_at "go"
      refine lcDrawC (c := 10) (n := 24) (fun v => ∃ w : Nat, v = .int (w : Nat) ∧ w ≤ 4095) g.hb (by decide) (fun _ => rfl) (fun i H7 Q' hi hB7 b7 kk => ?_) fun D1 G1 xs1 nD1 b1 hB1 eD1 xl1 xp1 => ?_
      · walk_at "go"
        exact ⟨bx, _, rfl, hB7, by omega, fun w H8 hw hB8 b8 => kk _ _ ⟨w, rfl, hw⟩ hB8 b8⟩
      obtain ⟨ps, rfl, pl, ple⟩ := words_of xp1
      rw [xl1] at pl
      have g1 : Gn bx (n + 1 + 3 * 3 + 10 * 24) H G1 [(D1, .lst (nv ps)), (le, .lst (nv es))] := g.newB b1 hB1 nD1 eD1
      walk_at "go"
      refine r_mul (by omega) ?_
      walk_at "go"
      refine r_take g1.hb (fun d2 G2 l2 u2 hB2 b2 => ?_)
      have g2 := g1.take b2 hB2
      walk_at "go"
      obtain ⟨p0, hp0⟩ := Int.eq_ofNat_of_zero_le (show 0 ≤ 11 * 256 + 16 + d2 by omega)
      rw [hp0]
      refine ⟨D1, _, 0, 0, rfl, rfl, g2.at 0 rfl, ixn (r := 0) (by rw [nv_len, pl]; decide), ?_⟩
      have g3 := g2.set 0 (o' := .lst ((nv ps).set 0 (.int (p0 : Nat)))) rfl
      rw [nv_set] at g3
      rw [nv_set]
      generalize upd G2 D1 _ = G3 at g3 ⊢
      have pl := (List.length_set (as := ps) (i := 0) (a := p0)).trans pl
      have ple := set_le (i := 0) (v := p0) ple (by omega)
      generalize ps.set 0 p0 = ps at g3 pl ple ⊢
      walk_at "go"
      refine r_mul (by omega) ?_
      walk_at "go"
      refine r_mul (by omega) ?_
      walk_at "go"
      refine newLB fun l3 G4 n3 _ s3 e3 => ?_
      have g4 := g3.new s3 n3 e3
      walk_at "go"
      refine r_take g4.hb (fun d4 G5 l4 u4 hB4 b4 => ?_)
      have g5 := g4.take b4 hB4
      obtain ⟨v, hv, ev⟩ := ixI (l := [0, 1, 8]) l4 u4
      have v2 : 0 ≤ v ∧ v ≤ 8 := by simp at hv; omega
      refine r_ixL (sqL (g5.at 0 rfl)) ev ?_
      walk_at "go"
      refine newT fun t6 G6 n6 s6 e6 => ?_
      have g6 := (g5.drop (F' := [(D1, _), (le, _)]) (List.Sublist.cons _ (List.Sublist.refl _))).same s6
      walk_at "go"
      refine ⟨t6, _, rfl, sqT e6, rfl, ?_⟩
      obtain ⟨p1, hp1⟩ := Int.eq_ofNat_of_zero_le (show 0 ≤ (9 : Int) * 256 by omega)
      obtain ⟨p2, hp2⟩ := Int.eq_ofNat_of_zero_le (show 0 ≤ 9 * 256 + v by omega)
      rw [hp2, hp1]
      refine ⟨_, _, rfl, ?_⟩
      refine ⟨_, rfl, ?_⟩
      refine ⟨D1, _, 15, 15, rfl, rfl, g6.at 0 rfl, ixn (r := 15) (by rw [nv_len, pl]; decide), ?_⟩
      have g7 := g6.set 0 (o' := .lst ((nv ps).set 15 (.int (p1 : Nat)))) rfl
      rw [nv_set] at g7
      rw [nv_set]
      generalize upd G6 D1 _ = G7 at g7 ⊢
      have pl := (List.length_set (as := ps) (i := 15) (a := p1)).trans pl
      have ple := set_le (i := 15) (v := p1) ple (by omega)
      generalize ps.set 15 p1 = ps at g7 pl ple ⊢
      refine ⟨_, _, rfl, ?_⟩
      refine ⟨_, rfl, ?_⟩
      refine ⟨D1, _, 23, 23, rfl, rfl, g7.at 0 rfl, ixn (r := 23) (by rw [nv_len, pl]; decide), ?_⟩
      have g8 := g7.set 0 (o' := .lst ((nv ps).set 23 (.int (p2 : Nat)))) rfl
      rw [nv_set] at g8
      rw [nv_set]
      generalize upd G7 D1 _ = G8 at g8 ⊢
      have pl := (List.length_set (as := ps) (i := 23) (a := p2)).trans pl
      have ple := set_le (i := 23) (v := p2) ple (by omega)
      generalize ps.set 23 p2 = ps at g8 pl ple ⊢
      clear g7 g6 g5 g4 g3 g2 g1 g
      refine ⟨rfl, ?_⟩
      walk_at "go"
      refine ⟨le, _, rfl, .inl ⟨sqL (g8.at 1 rfl), fun t0 n0 => ?_⟩⟩
      have g9 := g8.lay (o := .tup (nv es)) n0
      generalize upd G8 t0 _ = G9 at g9 ⊢
      walk_at "go"
      refine r_slL (sqL (g9.at 1 rfl)) (cut_to (m := 8) (by rw [nv_len, pl]; decide)) fun c1 G10 n10 s10 e10 => ?_
      have g10 := g9.new s10 n10 e10
      walk_at "go"
      refine ⟨c1, _, rfl, .inl ⟨sqL (g10.at 0 rfl), fun t1 n1 => ?_⟩⟩
      have g11 := g10.lay (o := .tup ((nv ps).take 8)) n1
      generalize upd G10 t1 _ = G11 at g11 ⊢
      walk_at "go"
      refine r_slL (sqL (g11.at 3 rfl)) (cut_mid (m := 8) (k := 16) (by decide) (by rw [nv_len, pl]; decide)) fun c2 G12 n12 s12 e12 => ?_
      have g12 := g11.new s12 n12 e12
      walk_at "go"
      refine ⟨c2, _, rfl, .inl ⟨sqL (g12.at 0 rfl), fun t2 n2 => ?_⟩⟩
      have g13 := g12.lay (o := .tup (((nv ps).drop 8).take 8)) n2
      generalize upd G12 t2 _ = G13 at g13 ⊢
      walk_at "go"
      refine r_slL (sqL (g13.at 5 rfl)) (cut_from (m := 16) (by rw [nv_len, pl]; decide)) fun c3 G14 n14 s14 e14 => ?_
      have g14 := g13.new s14 n14 e14
      walk_at "go"
      refine ⟨c3, _, rfl, .inl ⟨sqL (g14.at 0 rfl), fun t3 n3 => ?_⟩⟩
      have g15 := g14.lay (o := .tup ((nv ps).drop 16)) n3
      generalize upd G14 t3 _ = G15 at g15 ⊢
      walk_at "go"
      refine newLB fun lr G16 n16 _ s16 e16 => ?_
      have g16 := g15.new s16 n16 e16
      have el8 : es.length = 8 := el
      have hRL : RL G16 [t0, t1, t2, t3] := by
        have z0 := RL.one (g16.at 7 rfl) el8 ele
        have z1 := RL.one (H := G16) (t := t1) (ws := ps.take 8) (by rw [g16.at 5 rfl]; unfold nv; rw [List.map_take]) (by rw [List.length_take, pl]; rfl) (fun w hw => ple w (List.mem_of_mem_take hw))
        have z2 := RL.one (H := G16) (t := t2) (ws := (ps.drop 8).take 8) (by rw [g16.at 3 rfl]; unfold nv; rw [List.map_take, List.map_drop]) (by rw [List.length_take, List.length_drop, pl]; rfl) (fun w hw => ple w (List.mem_of_mem_drop (List.mem_of_mem_take hw)))
        have z3 := RL.one (H := G16) (t := t3) (ws := ps.drop 16) (by rw [g16.at 1 rfl]; unfold nv; rw [List.map_drop]) (by rw [List.length_drop, pl]) (fun w hw => ple w (List.mem_of_mem_drop hw))
        exact ((z0.app z1).app z2).app z3
      have gL := g16.drop (F' := [(lr, _), (le, _)]) (List.cons_sublist_cons.mpr (.cons _ (.cons _ (.cons _ (.cons _ (.cons _ (.cons _ (.cons _ (.cons _ (List.Sublist.refl _))))))))))
      clear g16 g15 g14 g13 g12 g11 g10 g9 g8
      walk_at "go"
      refine ⟨4, 8, rfl, ⟨by decide, by decide, by decide, by decide⟩, ?_⟩
      refine for_it (n := 4) walk_range (fun i σ G => ∃ x2 x6 x7 x9, ∃ ts : List Addr, σ = [some (.ref bx), some (.ref le), x2, x3, some (.ref D1), some (.ref lr), x6, x7, none, x9] ∧ ts.length = 4 + i ∧ RL G ts ∧ Gn bx (n + 252 + 17 * i) H G [(lr, .lst (ts.map V.ref)), (le, .lst (nv es))]) ?_ (fun _ _ _ _ _ => trivial) (fun i q2 σ G G2 hi hPt hY => ?_) (fun σ G hPt => ?_)
      · exact ⟨_, none, none, none, [t0, t1, t2, t3], rfl, rfl, hRL, gL.mono (by omega)⟩
      · obtain ⟨x2', x6, x7, x9, ts, rfl, tl, hRL, g⟩ := hPt
        obtain ⟨rfl, rfl⟩ := hY
        have hi : i < 4 := hi
        walk_at "go"
        refine r_take g.hb (fun d1 G1 l1 u1 hB1 b1 => ?_)
        have hRL := hRL.keep (ts_but b1 g.hb)
        have g1 := g.take b1 hB1
        walk_at "go"
        refine lcDrawC (c := 2) (n := 8) (fun v => ∃ w : Nat, v = .int (w : Nat) ∧ w ≤ 4095) g1.hb (by decide) (fun _ => rfl) (fun i H7 Q' hi hB7 b7 kk => ?_) fun D2 G2 xs2 nD2 b2 hB2 eD2 xl2 xp2 => ?_
        · have y0 := Gn.start hB7
          walk_at "go"
          refine r_take hB7 (fun d2 H8 l2 u2 hB8 b8 => ?_)
          have y1 := y0.take b8 hB8
          walk_at "go"
          refine newLB fun l1 H9 n9 _ s9 e9 => ?_
          have y2 := y1.new s9 n9 e9
          walk_at "go"
          refine r_take y2.hb (fun d3 H10 l3 u3 hB10 b10 => ?_)
          have y3 := y2.take b10 hB10
          obtain ⟨v, hv, ev⟩ := ixI (l := [0, 1, 4095, d2]) l3 u3
          have v2 : 0 ≤ v ∧ v ≤ 4095 := by simp at hv; omega
          refine r_ixL (sqL (y3.at 0 rfl)) ev ?_
          exact kk _ _ ⟨v.toNat, by rw [Int.toNat_of_nonneg v2.1], by omega⟩ y3.hb y3.bt
        obtain ⟨ws, rfl, wl, wle⟩ := words_of xp2
        rw [xl2] at wl
        have hRL := hRL.keep (ts_but b2 g1.hb)
        have g2 := g1.newB b2 hB2 nD2 eD2
        walk_at "go"
        refine ⟨.inl ⟨rfl, _, sqL (g2.at 1 rfl)⟩, ?_⟩
        walk_at "go"
        refine r_rep8 (x := 0) fun ta G3 s3 ea => ?_
        have hRa := RL.one ea rfl (fun w hw => by rw [List.eq_of_mem_replicate hw]; omega)
        have hRL := hRL.keep (Same.ts s3)
        have g3 := g2.same s3
        walk_at "go"
        refine ⟨le, _, rfl, .inl ⟨sqL (g3.at 2 rfl), fun tb nb => ?_⟩⟩
        have hRL := hRL.keep (Same.ts (same_upd (o := .tup (nv es)) nb))
        have hRa := hRa.keep (Same.ts (same_upd (o := .tup (nv es)) nb))
        have g4 := g3.lay (o := .tup (nv es)) nb
        generalize upd G3 tb _ = G4 at g4 hRL hRa ⊢
        walk_at "go"
        refine ⟨D2, _, rfl, .inl ⟨sqL (g4.at 1 rfl), fun tc nc => ?_⟩⟩
        have hRL := hRL.keep (Same.ts (same_upd (o := .tup (nv ws)) nc))
        have hRa := hRa.keep (Same.ts (same_upd (o := .tup (nv ws)) nc))
        have g5 := g4.lay (o := .tup (nv ws)) nc
        generalize upd G4 tc _ = G5 at g5 hRL hRa ⊢
        walk_at "go"
        refine ⟨D2, _, rfl, .inl ⟨sqL (g5.at 2 rfl), fun td nd => ?_⟩⟩
        have hRL := hRL.keep (Same.ts (same_upd (o := .tup (nv ws)) nd))
        have hRa := hRa.keep (Same.ts (same_upd (o := .tup (nv ws)) nd))
        have g6 := g5.lay (o := .tup (nv ws)) nd
        generalize upd G5 td _ = G6 at g6 hRL hRa ⊢
        walk_at "go"
        refine newLB fun l7 G7 n7 _ s7 e7 => ?_
        have hRL := hRL.keep (Same.ts s7)
        have hRa := hRa.keep (Same.ts s7)
        have g7 := g6.new s7 n7 e7
        have hRb := RL.one (g7.at 3 rfl) el8 ele
        have hRc := RL.one (g7.at 2 rfl) wl wle
        have hRd := RL.one (g7.at 1 rfl) wl wle
        obtain ⟨t, et, hRt⟩ : ∃ t, atI [V.ref ta, .ref tb, .ref tc, .ref td] d1 = some (.ref t) ∧ RL G7 [t] := by
          obtain ⟨d, rfl⟩ := Int.eq_ofNat_of_zero_le l1
          obtain rfl | rfl | rfl | rfl : d = 0 ∨ d = 1 ∨ d = 2 ∨ d = 3 := by omega
          · exact ⟨ta, rfl, hRa⟩
          · exact ⟨tb, rfl, hRb⟩
          · exact ⟨tc, rfl, hRc⟩
          · exact ⟨td, rfl, hRd⟩
        walk_at "go"
        refine r_ixL (sqL (g7.at 0 rfl)) et ?_
        walk_at "go"
        refine ⟨lr, _, _, rfl, rfl, g7.at 5 rfl, by rw [List.length_map, tl, sizeLine_eq]; omega, ?_⟩
        have hRL := (hRL.app hRt).keep (ts_upd (o := .lst (ts.map V.ref ++ [.ref t])) (g7.at 5 rfl))
        have g8 := (g7.drop (F' := [(lr, _), (le, _)]) (.cons _ (.cons _ (.cons _ (.cons _ (.cons _ (List.Sublist.refl _))))))).set 0 (o' := .lst (ts.map V.ref ++ [.ref t])) rfl
        generalize upd G7 lr _ = G8 at g8 hRL ⊢
        walk_at "go"
        exact ⟨_, _, _, _, ts ++ [t], rfl, by rw [List.length_append, tl]; rfl, hRL, by rw [List.map_append]; exact g8.mono (by omega)⟩
      · obtain ⟨x2', x6, x7, x9, ts, rfl, tl, hRL, g⟩ := hPt
        clear gL
        walk_at "go"
        refine newLB fun lb G0 n0 _ s0 e0 => ?_
        have hRL := hRL.keep (Same.ts s0)
        have g0 := (g.drop (F' := [(lr, _)]) (List.cons_sublist_cons.mpr (List.nil_sublist _))).new s0 n0 e0
        clear g
        walk_at "go"
        refine ⟨8, rfl, by decide, by decide, ?_⟩
        refine for_range (fun i σ G => ∃ x2 x6 x7 x9, ∃ us : List Addr, σ = [some (.ref bx), some (.ref le), x2, x3, some (.ref D1), some (.ref lr), x6, x7, some (.ref lb), x9] ∧ us.length = i ∧ RL G ts ∧ RL G us ∧ Gn bx (n + 320 + 9 * i) H G [(lb, .lst (us.map V.ref)), (lr, .lst (ts.map V.ref))]) ?_ ?_ ?_
        · exact ⟨_, _, _, _, [], rfl, rfl, hRL, RL.nil, g0.mono (by omega)⟩
        · rintro i σ G hi ⟨x2, x6, x7, x9, us, rfl, ul, hRL, hRU, g⟩
          have hi : i < 8 := hi
          walk_at "go"
          refine lcDrawC (c := 1) (n := 8) (fun v => ∃ w : Nat, v = .int (w : Nat) ∧ w ≤ 4095) g.hb (by decide) (fun _ => rfl) (fun i H7 Q' hi hB7 b7 kk => ?_) fun D2 G2 xs2 nD2 b2 hB2 eD2 xl2 xp2 => ?_
          · walk_at "go"
            refine r_take hB7 (fun d2 H8 l2 u2 hB8 b8 => ?_)
            exact kk _ _ ⟨d2.toNat, by rw [Int.toNat_of_nonneg l2], by omega⟩ hB8 b8
          obtain ⟨ws, rfl, wl, wle⟩ := words_of xp2
          rw [xl2] at wl
          have hRL := hRL.keep (ts_but b2 g.hb)
          have hRU := hRU.keep (ts_but b2 g.hb)
          have g2 := g.newB b2 hB2 nD2 eD2
          walk_at "go"
          refine ⟨.inl ⟨rfl, _, sqL (g2.at 1 rfl)⟩, ?_⟩
          walk_at "go"
          refine r_rep8 (x := 0) fun ta G3 s3 ea => ?_
          have hRa := RL.one ea rfl (fun w hw => by rw [List.eq_of_mem_replicate hw]; omega)
          have hRL := hRL.keep (Same.ts s3)
          have hRU := hRU.keep (Same.ts s3)
          have g3 := g2.same s3
          walk_at "go"
          refine ⟨D2, _, rfl, .inl ⟨sqL (g3.at 0 rfl), fun tb nb => ?_⟩⟩
          have sb := Same.ts (same_upd (o := .tup (nv ws)) nb)
          have hRL := hRL.keep sb
          have hRU := hRU.keep sb
          have hRa := hRa.keep sb
          have g4 := g3.lay (o := .tup (nv ws)) nb
          generalize upd G3 tb _ = G4 at g4 hRL hRa hRU ⊢
          walk_at "go"
          refine newLB fun l7 G7 n7 _ s7 e7 => ?_
          have hRL := hRL.keep (Same.ts s7)
          have hRU := hRU.keep (Same.ts s7)
          have hRa := hRa.keep (Same.ts s7)
          have g7 := g4.new s7 n7 e7
          have hRb := RL.one (g7.at 1 rfl) wl wle
          walk_at "go"
          refine r_take g7.hb (fun d8 G8 l8 u8 hB8 b8 => ?_)
          have hRL := hRL.keep (ts_but b8 g7.hb)
          have hRU := hRU.keep (ts_but b8 g7.hb)
          have hRa := hRa.keep (ts_but b8 g7.hb)
          have hRb := hRb.keep (ts_but b8 g7.hb)
          have g8 := g7.take b8 hB8
          obtain ⟨t, et, hRt⟩ : ∃ t, atI [V.ref ta, .ref tb] d8 = some (.ref t) ∧ RL G8 [t] := by
            obtain ⟨d, rfl⟩ := Int.eq_ofNat_of_zero_le l8
            obtain rfl | rfl : d = 0 ∨ d = 1 := by omega
            · exact ⟨ta, rfl, hRa⟩
            · exact ⟨tb, rfl, hRb⟩
          refine r_ixL (sqL (g8.at 0 rfl)) et ?_
          walk_at "go"
          refine ⟨lb, _, _, rfl, rfl, g8.at 3 rfl, by rw [List.length_map, ul, sizeLine_eq]; omega, ?_⟩
          have tu := ts_upd (o := .lst (us.map V.ref ++ [.ref t])) (g8.at 3 rfl)
          have hRL := hRL.keep tu
          have hRU := (hRU.app hRt).keep tu
          have g9 := (g8.drop (F' := [(lb, _), (lr, _)]) (.cons _ (.cons _ (.cons _ (List.Sublist.refl _))))).set 0 (o' := .lst (us.map V.ref ++ [.ref t])) rfl
          generalize upd G8 lb _ = G9 at g9 hRL hRU ⊢
          walk_at "go"
          exact ⟨_, _, _, _, us ++ [t], rfl, by rw [List.length_append, ul]; rfl, hRL, hRU, by rw [List.map_append]; exact g9.mono (by omega)⟩
        · rintro σ G ⟨x2, x6, x7, x9, us, rfl, ul, hRL, hRU, g⟩
          have ul : us.length = 8 := ul
          have tl : ts.length = 8 := tl
          walk_at "go"
          refine ⟨lr, _, rfl, .inl ⟨sqL (g.at 1 rfl), fun ta na => ?_⟩⟩
          have sa := same_upd (o := .tup (ts.map V.ref)) na
          have g1 := g.lay (o := .tup (ts.map V.ref)) na
          generalize upd G ta _ = G1 at g1 sa ⊢
          walk_at "go"
          refine ⟨lb, _, rfl, .inl ⟨sqL (g1.at 1 rfl), fun tb nb => ?_⟩⟩
          have sb := same_upd (o := .tup (us.map V.ref)) nb
          have g2 := g1.lay (o := .tup (us.map V.ref)) nb
          generalize upd G1 tb _ = G2 at g2 sb ⊢
          walk_at "go"
          refine newT fun img G3 n3 s3 e3 => ?_
          have hRL := hRL.keep (Same.ts ((sa.trans sb).trans s3))
          have hRU := hRU.keep (Same.ts ((sa.trans sb).trans s3))
          have g3 := g2.same s3
          obtain ⟨rms, ok1, l1, r1⟩ := hRL.eight tl
          obtain ⟨rows, ok2, l2, r2⟩ := hRU.eight ul
          exact q img ta tb rows rms G3 e3 ⟨ts, g3.at 1 rfl, l1.symm, r1⟩ ⟨us, g3.at 0 rfl, l2.symm, r2⟩ ok1 ok2 (g3.hb.mono (by omega)) g3.bt
end
end K15

namespace K15
open PySem PySem.Spec PyProof.Rows L2 Bk Rm Cm


def zeros : List (List Nat) := List.replicate 8 (List.replicate 8 0)
def spFilled : Sp := fun vs H Q _ => ∃ d, vs = [.ref d] ∧ H d = some (.dK []) ∧ ∀ a H', Same H H' → Eight H' a zeros → Q (.ref a) H'
section
variable {P : Program} {w : World} {K : PySem.W.Frag} {mg : Str → Option Value} {base : Heap} {A : Ad}
theorem ok_filled {f : Addr} {fd : FuncData} (F : Fun K "_filled" "_filled" s_filled f fd) (T : Txt K mg A) : FnOk P w K mg base CX0 1 f fd ["told"] spFilled := by
  refine F.ok sc_filled (fun vs H Q E h => ?_) (fun cdv A' outer s H vs Q E hr h => have hu65 := units65 hr; have hu64 := hr.units; have hu := units1 hr; ⟨_, (pss_cons (ps_set (i := 1) sc_filled.nd rfl (.inl rfl) (pe_lstB pa_nil))
    (pss_cons (ps_for PassesOwn.never rfl (pi_range1 (by rfl) T.m_range (pa_cons (C8.pe_gc (by rfl) T.c_EIGHT) pa_nil)) (pg_name (i := 2) sc_filled.nd rfl (.inl rfl))
      (pss_cons (ps_set (i := 3) sc_filled.nd rfl (.inl rfl) (pe_callTy call_list_of (by rfl) T.m_list (by decide +kernel) (pa_cons (pe_dget2 hu (pv 0) (pv 2) (pe_tup pa_nil) ⟨rfl, rfl, rfl, rfl⟩) pa_nil)))
    (pss_one (ps_expr (pe_bm PySem.F.plainAttrs_list PySem.F.slot_list_append PySem.F.type_list_append mt_append (pv 1) (pa_cons (pe_callTy call_tuple_of (by rfl) T.m_tuple (by decide +kernel) (pa_cons (pe_op op_cat (pv 3) (pe_op op_rep (pe_lstB (pa_cons pe_int pa_nil)) (pe_op op_sub (C8.pe_gc (by rfl) T.c_EIGHT) (pe_callB call_len_seq (by rfl) T.m_len (by decide +kernel) (pa_cons (pv 3) pa_nil))))) pa_nil)) pa_nil))))))
    (pss_one (ps_ret (pe_callTy call_tuple_of (by rfl) T.m_tuple (by decide +kernel) (pa_cons (pv 1) pa_nil)))))), ?_⟩)
  · obtain ⟨d, rfl, _⟩ := h
    rfl
  · obtain ⟨d, rfl, ed, q⟩ := h
    walk_at "go"
    refine newLB fun D H1 nD _ s1 e1 => ?_
    walk_at "go"
    refine ⟨_, rfl, by decide, by decide, ?_⟩
    refine forL_it (n := 8) walk_range (fun i σ G => ∃ (x2 x3 : Option V) (ts : List Addr), σ = [some (.ref d), some (.ref D), x2, x3] ∧ Same H G ∧ G D = some (.lst (ts.map V.ref)) ∧ ts.length = i ∧ ∀ t ∈ ts, G t = some (.tup (nv (List.replicate 8 0)))) ?_ (fun _ _ _ _ _ => trivial) (fun i q2 σ G G2 hi hPt hY => ?_) (fun σ G hPt => ?_)
    · exact ⟨none, none, [], rfl, s1, e1, rfl, fun _ z => (nomatch z)⟩
    · obtain ⟨x2, x3, ts, rfl, kp, eD, hl, ht⟩ := hPt
      obtain ⟨rfl, rfl⟩ := hY
      dsimp only
      walk_at "go"
      refine r_dget2 ?_
      walk_at "go"
      have ed2 := (kp) _ _ ed
      refine ⟨d, rfl, .inl ⟨[], .inl ed2⟩, ?_⟩
      walk_at "go"
      refine newT fun t0 G3 n3 s3 e3 => ?_
      refine ⟨none, .inl ⟨[], .inl (0 + (i : Int)), .inl (s3 _ _ ed2), rfl, rfl⟩, ?_⟩
      walk_at "go"
      refine ⟨t0, [], rfl, .inr (SqT.of e3), fun l nl => ?_⟩
      have s4 := same_upd (o := .lst []) nl
      have e4 : upd G3 l (.lst []) l = some (.lst []) := upd_same
      generalize upd G3 l _ = G4 at s4 e4 ⊢
      walk_at "go"
      refine ⟨.inl ⟨rfl, _, sqL ((s3.trans s4) _ _ eD)⟩, ?_⟩
      walk_at "go"
      refine newLB fun z1 G5 n5 _ s5 e5 => ?_
      walk_at "go"
      refine ⟨l, [], rfl, .inl (sqL (s5 _ _ e4)), ?_⟩
      walk_at "go"
      refine ⟨z1, 8, [.int 0], rfl, rfl, e5, by decide, by decide, Nat.le_of_ble_eq_true rfl, fun z2 nz2 => ?_⟩
      have s6 := same_upd (o := .lst (List.replicate 8 (V.int 0))) nz2
      have e6 : upd G5 z2 (.lst (List.replicate 8 (V.int 0))) z2 = some (.lst (List.replicate 8 (V.int 0))) := upd_same
      rw [show (List.replicate (Int.toNat 8) [V.int 0]).flatten = List.replicate 8 (V.int 0) from rfl]
      generalize upd G5 z2 _ = G6 at s6 e6 ⊢
      refine ⟨l, z2, [], _, rfl, rfl, (s5.trans s6) _ _ e4, e6, Nat.le_of_ble_eq_true rfl, fun z3 nz3 => ?_⟩
      have s7 := same_upd (o := .lst (List.replicate 8 (V.int 0))) nz3
      have e7 : upd G6 z3 (.lst (List.replicate 8 (V.int 0))) z3 = some (.lst (List.replicate 8 (V.int 0))) := upd_same
      rw [show ([] : List V) ++ List.replicate 8 (V.int 0) = List.replicate 8 (V.int 0) from rfl]
      generalize upd G6 z3 _ = G7 at s7 e7 ⊢
      walk_at "go"
      refine ⟨z3, _, rfl, .inl ⟨sqL e7, fun z4 nz4 => ?_⟩⟩
      have s8 := same_upd (o := .tup (List.replicate 8 (V.int 0))) nz4
      have e8 : upd G7 z4 (.tup (List.replicate 8 (V.int 0))) z4 = some (.tup (nv (List.replicate 8 0))) := upd_same
      generalize upd G7 z4 _ = G8 at s8 e8 ⊢
      have s38 := ((((s3.trans s4).trans s5).trans s6).trans s7).trans s8
      walk_at "go"
      have eD8 := s38 _ _ eD
      refine ⟨D, _, _, rfl, rfl, eD8, by rw [List.length_map, hl, sizeLine_eq]; omega, ?_⟩
      rw [show ts.map V.ref ++ [V.ref z4] = (ts ++ [z4]).map V.ref by rw [List.map_append]; rfl]
      have tsu := ts_upd (o := .lst ((ts ++ [z4]).map V.ref)) eD8
      refine ⟨_, _, ts ++ [z4], rfl, fun b u eb => ?_, upd_same, by rw [List.length_append, hl]; rfl, fun t ht4 => ?_⟩
      · rw [upd_ne (fun z => by rw [z, nD] at eb; exact nomatch eb)]
        exact (kp.trans s38) _ _ eb
      · rcases List.mem_append.mp ht4 with y | y
        · exact tsu _ _ (s38 _ _ (ht t y))
        · rw [List.mem_singleton.mp y]
          exact tsu _ _ e8
    · obtain ⟨x2, x3, ts, rfl, kp, eD, hl, ht⟩ := hPt
      walk_at "go"
      refine ⟨D, _, rfl, .inl ⟨sqL eD, fun a na => ?_⟩⟩
      have sa := same_upd (o := .tup (ts.map V.ref)) na
      refine q a _ (kp.trans sa) ⟨ts, upd_same, by rw [hl]; rfl, fun i t ws h1 h2 => ?_⟩
      obtain rfl := List.eq_of_mem_replicate (List.mem_of_getElem? h2)
      exact sa _ _ (ht t (List.mem_of_getElem? h1))
def spImgOf : Sp := fun vs H Q _ => vs = [.non, .non] ∧ ∀ (img a b : Addr) H', Same H H' → H' img = some (.tup [.ref a, .ref b]) → Eight H' a zeros → Eight H' b zeros → Q (.ref img) H'
theorem ok_imageof {f : Addr} {fd fdI : FuncData} {dvs : List V} {kws : List (Str × V)} (F : FunD K "image_of" "image_of" (defArgs s_image_of) (defBody s_image_of) (defScope s_image_of) dvs kws f fd) (T : Txt K mg A) (c_filled : CalD P w K mg base CX0 1 "_filled" spFilled []) (c_is_told : CalD P w K mg base CX0 3 "_is_told" (fun _ _ _ _ => False) []) (c_NoImage_init : Own P w K mg base CX0 2 A.fI fdI ["self", "found"] (spInitN "found" A.CI)) : FnOk P w K mg base (L2.CX P w) 4 f fd ["rooms", "blocks"] spImgOf := by
  refine F.ok sc_image_of (fun vs H Q E h => ?_) (fun cdv A' outer s H vs Q E hr h => have hu65 := units65 hr; have hu64 := hr.units; have hu := units1 hr; ⟨_, (pss_cons (ps_for (passes_of rfl) rfl (pi_tup (pe_tup (pa_cons (pv 0) (pa_cons (pv 1) pa_nil)))) (pg_name (i := 2) sc_image_of.nd rfl (.inl rfl))
      (pss_one (ps_if (PW.pt (pw_and (pt_cmpR op_notN (pv 2) pe_non (nomark _)) (pw_and1 (pt_not (pt_val (pe_cal c_is_told hr (by decide) (by rfl) (pa_cons (pv 2) pa_nil))))))) (pss_one (ps_raise rfl (takes_of rfl rfl rfl rfl) (pmk_oexT T.ox_NoImage T.i_NoImage T.t_NoImage c_NoImage_init.ok (hr.mono (by decide)) c_NoImage_init.bd .nil pass0 (by rfl) T.g_NoImage (pa_cons (pv 2) pa_nil)))) pss_nil)))
    (pss_one (ps_ret (pe_tup (pa_cons (pe_cal c_filled hr (by decide) (by rfl) (pa_cons (pe_orT (pv 0) (pe_one pe_dnewK)) pa_nil)) (pa_cons (pe_cal c_filled hr (by decide) (by rfl) (pa_cons (pe_orT (pv 1) (pe_one pe_dnewK)) pa_nil)) pa_nil)))))), ?_⟩)
  · obtain ⟨rfl, _⟩ := h
    rfl
  · obtain ⟨rfl, q⟩ := h
    walk_at "go"
    refine newT fun tl H1 n1 s1 e1 => ?_
    have sq1 : SqT K H1 tl [.non, .non] := SqT.of e1
    refine ⟨tl, rfl, ⟨_, sq1⟩, ?_⟩
    refine forL_it (n := 2) (walk_tup (xs := [V.non, V.non])) (fun i σ G => ∃ x2 : Option V, σ = [some .non, some .non, x2] ∧ Same H1 G) ?_ (fun _ σ G _ h => by obtain ⟨_, _, sg⟩ := h; exact SqT.of (sg _ _ e1)) (fun i x σ G G2 hi hPt hY => ?_) (fun σ G hPt => ?_)
    · exact ⟨none, rfl, Same.refl _⟩
    · obtain ⟨x2, rfl, sg⟩ := hPt
      obtain ⟨rfl, hx⟩ := hY
      have hx : x = .non := by
        match i, hi, hx with
        | 0, _, hx => exact (Option.some.inj hx).symm
        | 1, _, hx => exact (Option.some.inj hx).symm
      subst hx
      walk_at "go"
      refine ⟨rfl, ?_⟩
      rw [show (!decide (V.non = V.non)) = false from rfl]
      walk_at "go"
      exact ⟨_, rfl, sg⟩
    · obtain ⟨x2, rfl, sg⟩ := hPt
      walk_at "go"
      unfold tOrT
      walk_at "go"
      refine ⟨false, rfl, ?_⟩
      rw [if_neg Bool.false_ne_true]
      walk_at "go"
      intro d1 nd1
      have s2 := same_upd (o := .dK []) nd1
      have e2 : upd G d1 (.dK []) d1 = some (.dK []) := upd_same
      generalize upd G d1 _ = G2 at s2 e2 ⊢
      walk_at "go"
      refine ⟨d1, rfl, e2, fun a1 G3 s3 h3 => ?_⟩
      walk_at "go"
      refine ⟨false, rfl, ?_⟩
      rw [if_neg Bool.false_ne_true]
      walk_at "go"
      intro d2 nd2
      have s4 := same_upd (o := .dK []) nd2
      have e4 : upd G3 d2 (.dK []) d2 = some (.dK []) := upd_same
      generalize upd G3 d2 _ = G4 at s4 e4 ⊢
      walk_at "go"
      refine ⟨d2, rfl, e4, fun a2 G5 s5 h5 => ?_⟩
      walk_at "go"
      refine newT fun img G6 n6 s6 e6 => ?_
      exact q img a1 a2 G6 (s1.trans (sg.trans (s2.trans (s3.trans (s4.trans (s5.trans s6)))))) e6 (h3.keep (Same.ts (s4.trans (s5.trans s6)))) (h5.keep (Same.ts s6))
def stD (m : M) : PyData := .tuple [.tuple (numsD m.r), .int (m.at_ : Nat), .int (m.tb : Nat), .int (m.tm : Nat), .int (m.hd : Nat), .int (m.bk : Nat), .int (m.cs : Nat), .bool m.tr, .str m.st.s, .tuple (numsD m.ln), .tuple (numsD m.nt), .int (m.td.length : Nat), .int (m.sn.length : Nat), .tuple (m.bs.map fun r => .tuple (numsD r)), .tuple (m.as.map asqD), .int (m.mq : Nat), .int (m.dn : Nat)]
theorem dqa_rowsT {H : Hp} : ∀ {ts : List Addr} {rows : List (List Nat)}, ts.length = rows.length → (∀ (i : Nat) t ws, ts[i]? = some t → rows[i]? = some ws → H t = some (.tup (nv ws))) → DqAll false K H (ts.map V.ref) (rows.map fun r => .tuple (numsD r))
  | [], [], _, _ => .nil
  | [], _ :: _, h, _ => nomatch h
  | _ :: _, [], h, _ => nomatch h
  | t :: ts, r :: rows, h, g => .cons (.tup (SqT.of (g 0 t r rfl rfl)) (dqa_nums r)) (dqa_rowsT (Nat.succ.inj h) fun i t ws a b => g (i + 1) t ws a b)
theorem dq_stands {H : Hp} {t : Addr} {m : M} (h : StV H t m) : Dq false K H (.ref t) (stD m) := by
  obtain ⟨t0, t9, t10, t13, t14, ts, us, a, b, c, d, ⟨e1, e2, e3⟩, f, g⟩ := h
  exact .tup (SqT.of a) (.cons (.tup (SqT.of b) (dqa_nums _)) (.cons (.int _) (.cons (.int _) (.cons (.int _) (.cons (.int _) (.cons (.int _) (.cons (.int _) (.cons (.bl _) (.cons (.str _) (.cons (.tup (SqT.of c) (dqa_nums _)) (.cons (.tup (SqT.of d) (dqa_nums _)) (.cons (.int _) (.cons (.int _) (.cons (.tup (SqT.of e1) (dqa_rowsT e2 e3)) (.cons (.tup (SqT.of f) (dqa_refs (fun _ _ z => dq_ask z) g)) (.cons (.int _) (.cons (.int _) .nil)))))))))))))))))
theorem lay_rowsT : ∀ l : List (List Nat), PyData.canLayAll0 (l.map fun r => PyData.tuple (numsD r)) = true ∧ PyData.depthAll (l.map fun r => PyData.tuple (numsD r)) ≤ 1
  | [] => ⟨rfl, Nat.zero_le _⟩
  | a :: r => by
    obtain ⟨h1, h2⟩ := lay_rowsT r
    obtain ⟨g1, g2⟩ := lay_nums a
    rw [List.map_cons]
    generalize (r.map fun r => PyData.tuple (numsD r)) = X at h1 h2
    generalize numsD a = x at g1 g2
    constructor
    · show (PyData.canLayAll0 x && PyData.canLayAll0 X) = true
      rw [h1, g1]
      rfl
    · show max (PyData.depthAll x + 1) (PyData.depthAll X) ≤ 1
      omega
theorem lay_asqs : ∀ l : List Ask, PyData.canLayAll0 (l.map asqD) = true ∧ PyData.depthAll (l.map asqD) ≤ 1
  | [] => ⟨rfl, Nat.zero_le _⟩
  | a :: r => by
    obtain ⟨h1, h2⟩ := lay_asqs r
    rw [List.map_cons]
    generalize r.map asqD = X at h1 h2
    constructor
    · show (PyData.canLay0 (asqD a) && PyData.canLayAll0 X) = true
      rw [h1, Bool.and_true]
      simp only [asqD, PyData.canLay0, PyData.canLayAll0, Bool.and_true, Bool.true_and]
      cases a.wr <;> decide +kernel
    · show max (PyData.depth (asqD a)) (PyData.depthAll X) ≤ 1
      have : PyData.depth (asqD a) ≤ 1 := Nat.le_of_ble_eq_true rfl
      omega
theorem st_lay (s : Cm.St) : PyData.canLay0 (.str s.s) = true := by cases s <;> decide +kernel
theorem sh_stD (m : M) : SeqAt.shaped (stD m) = true := by
  obtain ⟨a1, a2⟩ := lay_nums m.r
  obtain ⟨b1, b2⟩ := lay_nums m.ln
  obtain ⟨c1, c2⟩ := lay_nums m.nt
  obtain ⟨d1, d2⟩ := lay_rowsT m.bs
  obtain ⟨e1, e2⟩ := lay_asqs m.as
  have s1 := st_lay m.st
  unfold SeqAt.shaped stD
  generalize numsD m.r = xa at a1 a2
  generalize numsD m.ln = xb at b1 b2
  generalize numsD m.nt = xc at c1 c2
  generalize (m.bs.map fun r => PyData.tuple (numsD r)) = xd at d1 d2
  generalize m.as.map asqD = xe at e1 e2
  rw [Bool.and_eq_true]
  constructor
  · simp only [PyData.canLay0, PyData.canLayAll0, a1, b1, c1, d1, e1, Bool.and_true, Bool.true_and] at s1 ⊢
    exact s1
  · refine decide_eq_true ?_
    simp only [PyData.depth, PyData.depthAll]
    omega
end
end K15

namespace K15
open PySem PySem.Spec PyProof.Rows L2 Bk Rm Cm


/-- a made thing is of its own class -/
def IsOwn (K : PySem.W.Frag) (C : Addr) : Prop := ∀ (H : Hp) (a dx : Addr) (fs : List (Str × V)), H a = some (.ins C dx fs) → TyX K H (.ref a) (.ref C)
theorem r_own {K : PySem.W.Frag} {C a dx : Addr} {H : Hp} {Q : VK} {fs : List (Str × V)} (io : IsOwn K C) (e : H a = some (.ins C dx fs)) (q : Q (.bl true) H) : rIs K [.ref a, .ref C] H Q :=
  .inl ⟨.ref a, .ref C, .ref C, .ref C, true, rfl, .own C, io H a dx fs e, by unfold PySem.W.kitOne; rw [if_pos (by simp)], q⟩
theorem dp_of {K : PySem.W.Frag} {H : Hp} {v : V} {d : PyData} (h : Dq false K H v d) : Dp K H v d :=
  Dq.rec (b := false) (motive_1 := fun v d _ => Dp K H v d) (motive_2 := fun vs ds _ => DpAll K H vs ds) .non .bl .int .str (fun _ h _ ih => .lst h ih) (fun h _ ih => .tup h ih) (fun e _ _ _ _ => nomatch e) .nil (fun _ _ a b => .cons a b) h
theorem lay_sents : ∀ l : List (Nat × Nat), PyData.canLayAll0 (l.map sentD) = true ∧ PyData.depthAll (l.map sentD) ≤ 1
  | [] => ⟨rfl, Nat.zero_le _⟩
  | a :: r => by
    obtain ⟨h1, h2⟩ := lay_sents r
    rw [List.map_cons]
    generalize r.map sentD = X at h1 h2
    constructor
    · show (PyData.canLay0 (sentD a) && PyData.canLayAll0 X) = true
      rw [h1, Bool.and_true]
      rfl
    · show max (PyData.depth (sentD a)) (PyData.depthAll X) ≤ 1
      have : PyData.depth (sentD a) ≤ 1 := Nat.le_of_ble_eq_true rfl
      omega
theorem sh_sents (l : List (Nat × Nat)) : SeqAt.shaped (sentsD l) = true := by
  obtain ⟨h1, h2⟩ := lay_sents l
  unfold SeqAt.shaped sentsD
  generalize l.map sentD = X at h1 h2
  rw [show PyData.canLay0 (.list X) = true from h1, Bool.true_and]
  exact decide_eq_true (show PyData.depthAll X + 1 ≤ 64 by omega)
/-- two cores that stand alike, and told and sent alike -/
def Alike (A : Ad) (a b : Addr) (H : Hp) : Prop := ∃ (k1 k2 : Cq) (m : M) (n : Nat), a = k1.o ∧ b = k2.o ∧ CAt A.c.toCs H k1 m ∧ CAt A.c.toCs H k2 m ∧ m.Lim n ∧ n ≤ 1000000
section
variable {P : Program} {w : World} {K : PySem.W.Frag} {mg : Str → Option Value} {base : Heap} {A : Ad}
theorem ok_eq {f : Addr} {fd : FuncData} (F : Fun K "__eq__" "Core.__eq__" s_Core_eq f fd) (T : Txt K mg A) (io : IsOwn K A.c.C) (c_Core_stands : CalM P w K mg base CX0 6 A.c.C "stands" (spStands A)) : FnOk P w K mg base CX0 7 f fd ["self", "other"] (spEq (Alike A)) := by
  refine F.ok sc_Core_eq (fun vs H Q E h => ?_) (fun cdv A' outer s H vs Q E hr h => have hu65 := units65 hr; have hu64 := hr.units; have hu := units1 hr; ⟨_, (pss_cons (ps_if (pt_not (pt_val (pe_callB call_is (by rfl) T.m_isinstance (by decide +kernel) (pa_cons (pv 1) (pa_cons (pe_glob (v := .ref _) (by rfl) T.g_Core rfl) pa_nil))))) (pss_one (ps_ret pe_bl)) pss_nil)
    (pss_one (ps_ret (pe_and (pe_cmpR (op_eqD hu64) (pe_mth0 (pv 0) T.cl_Core c_Core_stands hr (by decide) ps0) (pe_mth0 (pv 1) T.cl_Core c_Core_stands hr (by decide) ps0) (nomark _)) (pe_and (pe_cmpR (op_eqD hu64) (pe_fld (pv 0) rfl) (pe_fld (pv 1) rfl) (nomark _)) (pe_one (pe_cmpR (op_eqD hu64) (pe_fld (pv 0) rfl) (pe_fld (pv 1) rfl) (nomark _)))))))), ?_⟩)
  · obtain ⟨a, b, rfl, _⟩ := h
    rfl
  · obtain ⟨a, b, rfl, ⟨k1, k2, m, n, rfl, rfl, h1, h2, lm, hn⟩, q⟩ := h
    walk_at "go"
    refine r_own io (h2.nm 0 _ _ rfl) ?_
    walk_at "go"
    refine ⟨k1.o, k1.dxo, CQ k1 m, rfl, h1.nm 0 _ _ rfl, rfl, ?_⟩
    walk_at "go"
    refine ⟨k1, m, n, rfl, h1, lm, hn, fun t1 H1 s1 st1 => ?_⟩
    have h1 := h1.same s1
    have h2 := h2.same s1
    walk_at "go"
    refine ⟨k2.o, k2.dxo, CQ k2 m, rfl, h2.nm 0 _ _ rfl, rfl, ?_⟩
    walk_at "go"
    refine ⟨k2, m, n, rfl, h2, lm, hn, fun t2 H2 s2 st2 => ?_⟩
    have h1 := h1.same s2
    have h2 := h2.same s2
    have st1 := st1.keep (Same.ts s2)
    walk_at "go"
    refine ⟨_, _, dp_of (dq_stands st1), dp_of (dq_stands st2), sh_stD m, sh_stD m, ?_⟩
    rw [SeqAt.eqv_refl _ (SeqAt.canLay_of_shaped (sh_stD m))]
    walk_at "go"
    refine ⟨_, rfl, k1.o, A.c.C, k1.dxo, _, _, rfl, h1.nm 0 _ _ rfl, T.cl_Core, T.na_Core_told, rfl, ?_⟩
    walk_at "go"
    refine ⟨_, rfl, k2.o, A.c.C, k2.dxo, _, _, rfl, h2.nm 0 _ _ rfl, T.cl_Core, T.na_Core_told, rfl, ?_⟩
    refine ⟨_, _, dp_rowL (sqL (h1.nm 6 _ _ rfl)), dp_rowL (sqL (h2.nm 6 _ _ rfl)), sh_row _, sh_row _, ?_⟩
    rw [SeqAt.eqv_refl _ (SeqAt.canLay_of_shaped (sh_row m.td))]
    walk_at "go"
    refine ⟨_, rfl, k1.o, A.c.C, k1.dxo, _, _, rfl, h1.nm 0 _ _ rfl, T.cl_Core, T.na_Core_sent, rfl, ?_⟩
    walk_at "go"
    refine ⟨_, rfl, k2.o, A.c.C, k2.dxo, _, _, rfl, h2.nm 0 _ _ rfl, T.cl_Core, T.na_Core_sent, rfl, ?_⟩
    refine ⟨_, _, dp_of (d := sentsD m.sn) (.lst (fun z => nomatch z) (sqL (h1.nm 7 _ _ rfl)) (dqa_refs (fun _ _ z => dq_sent z) h1.sv)), dp_of (d := sentsD m.sn) (.lst (fun z => nomatch z) (sqL (h2.nm 7 _ _ rfl)) (dqa_refs (fun _ _ z => dq_sent z) h2.sv)), sh_sents _, sh_sents _, ?_⟩
    rw [SeqAt.eqv_refl _ (SeqAt.canLay_of_shaped (sh_sents m.sn))]
    exact q _ (s1.trans s2)
end
end K15

namespace K15
open PySem PySem.Spec PyProof.Rows L2 Bk Rm Cm


section
variable (A : Ad)
def spMOf : Sp := fun vs H Q _ => ∃ (p : Pk) (k : Cq) (m : M) (lg : List Arv) (tl : List Cm.Row) (n : Nat) (a : Addr), vs = [.ref k.o, .ref a, .ref p.ll, .ref p.lt] ∧ MAt A.c A.P H p k m lg tl ∧ m.Lim n ∧ n ≤ 10000 ∧ Eight H a m.rs ∧ ∀ p' k' H', Same H H' → MAt A.c A.P H' p' k' m lg tl → (∀ b, OwnM p' k' b → H b = none) → Q (.ref p'.o) H'
def spMTwin : Sp := fun vs H Q _ => ∃ (p : Pk) (k : Cq) (m : M) (lg : List Arv) (tl : List Cm.Row) (n : Nat), vs = [.ref p.o] ∧ MAt A.c A.P H p k m lg tl ∧ m.Lim n ∧ n ≤ 10000 ∧ ∀ p' k' H', Same H H' → MAt A.c A.P H' p' k' m lg tl → (∀ b, OwnM p' k' b → H b = none) → Q (.ref p'.o) H'
end
theorem zeros_ok : Rows8 zeros := ⟨rfl, by decide +kernel⟩
section
variable {P : Program} {w : World} {K : PySem.W.Frag} {mg : Str → Option Value} {base : Heap} {A : Ad}
theorem ok_machineof {f : Addr} {fd : FuncData} (F : Fun K "machine_of" "machine_of" s_machine_of f fd) (T : Txt K mg A) (pk : A.c.kd = kdP A.c.S) (c_image_of : CalXD P w K mg base 4 "image_of" spImgOf [.non, .non]) (c_PlainMachine_init : CalC P w K mg base (L2.CX P w) 9 A.P "PlainMachine" (spMI A)) (c_Core_twin : CalM P w K mg base (L2.CX P w) 10 A.c.C "twin" (spTwin A)) (c_PlainStore_init : CalC P w K mg base (L2.CX P w) 6 A.c.S "PlainStore" (spSI A)) : FnOk P w K mg base (L2.CX P w) 11 f fd ["core", "rooms", "log", "trail"] (spMOf A) := by
  refine F.okX sc_machine_of (fun vs H Q E h => ?_) (fun cdv A' outer s H vs Q E hr h => have hu65 := units65 hr; have hu64 := hr.units; have hu := units1 hr; ⟨_, (pss_cons (ps_set (i := 4) sc_machine_of.nd rfl (.inl rfl) (pe_mk c_PlainMachine_init hr (by decide) (by rfl) (psX (takes_of rfl rfl rfl rfl)) (pa_cons (pe_calXD0 c_image_of hr (by decide) (by rfl) (takes_of rfl rfl rfl rfl)) pa_nil)))
    (pss_cons (ps_fld (pv 4) (pe_mth0 (pv 0) T.cl_Core c_Core_twin hr (by decide) (psX (takes_of rfl rfl rfl rfl))) rfl)
    (pss_cons (ps_fld (pv 4) (pe_mk c_PlainStore_init hr (by decide) (by rfl) (psX (takes_of rfl rfl rfl rfl)) (pa_cons (pv 1) pa_nil)) rfl)
    (pss_cons (ps_fld (pv 4) (pe_callTy call_list_of (by rfl) T.m_list (by decide +kernel) (pa_cons (pv 2) pa_nil)) rfl)
    (pss_cons (ps_fld (pv 4) (pe_callTy call_list_of (by rfl) T.m_list (by decide +kernel) (pa_cons (pv 3) pa_nil)) rfl)
    (pss_one (ps_ret (pv 4)))))))), ?_⟩)
  · obtain ⟨p, k, m, lg, tl, n, a, rfl, _⟩ := h
    rfl
  · obtain ⟨p, k, m, lg, tl, n, a, rfl, hM, lm, hn, hA, q⟩ := h
    walk_at "go"
    refine ⟨rfl, fun img ia ib G0 g0 eI hIa hIb => ?_⟩
    walk_at "go"
    intro x dx nx ndx nex
    have nx2 : upd G0 dx (.own x) x = none := by rw [upd_ne nex.symm]; exact nx
    have s0 := (same_upd (o := .own x) ndx).trans (same_upd (o := .ins A.P dx []) nx2)
    have sE := Same.ts s0
    refine ⟨x, dx, img, ia, ib, zeros, zeros, rfl, s0 _ _ eI, hIa.keep sE, hIb.keep sE, zeros_ok, zeros_ok, upd_same, fun p0 k0 H1 b1 po pdx hM0 fr => ⟨rfl, ?_⟩⟩
    have s1 : Same G0 H1 := fun b u eb => b1 _ _ (fun z => by rw [z, nx] at eb; exact nomatch eb) (s0 _ _ eb)
    have h1 : Same H H1 := g0.trans s1
    have nxH : H x = none := none_of g0 nx
    have ex1 : H1 x = some (.ins A.P dx (PF p0 k0)) := by rw [← po, ← pdx]; exact hM0.ob
    clear fr hM0 b1 s0 sE nx2 eI hIa hIb
    walk_at "go"
    try unfold sFld
    walk_at "go"
    refine ⟨k.o, k.dxo, CQ k m, rfl, (hM.same h1).qa.nm 0 _ _ rfl, rfl, ?_⟩
    walk_at "go"
    refine ⟨k, m, n, rfl, (hM.same h1).qa.toCAt, lm, hn, fun k1 H2 s2 hC fC => ?_⟩
    have ex2 := s2 _ _ ex1
    have h2 := h1.trans s2
    walk_at "go"
    refine ⟨x, A.P, dx, _, rfl, ex2, T.cl_PlainMachine, T.na_PlainMachine_core, Nat.le_of_ble_eq_true rfl, ?_⟩
    have nC : x ∉ ownQ k1 := fun z => by have := fC x z; rw [ex1] at this; exact nomatch this
    have C3 : CAt A.c.toCs (upd H2 x (.ins A.P dx (putF ("_core" : Str) (.ref k1.o) (PF p0 k0)))) k1 m := hC.keep (fun c u hc e => by rw [upd_ne fun z => nC (by rw [← z]; exact hc)]; exact e) (ts_ins ex2)
    have fO : ∀ {G : Hp} {fs fs' : List (Str × V)}, G x = some (.ins A.P dx fs) → Same H G → Same H (upd G x (.ins A.P dx fs')) := fun e h b u eb => by
      rw [upd_ne fun z => by rw [z, nxH] at eb; exact nomatch eb]
      exact h _ _ eb
    have h3 : Same H (upd H2 x (.ins A.P dx (putF ("_core" : Str) (.ref k1.o) (PF p0 k0)))) := fO ex2 h2
    have ex3 : upd H2 x (.ins A.P dx (putF ("_core" : Str) (.ref k1.o) (PF p0 k0))) x = some (.ins A.P dx [("_core", .ref k1.o), ("_store", .ref k0.so), ("_log", .ref p0.ll), ("_trail", .ref p0.lt)]) := upd_same
    generalize upd H2 x _ = H3 at C3 h3 ex3 ⊢
    have fC : ∀ b ∈ ownQ k1, H b = none := fun b hb => none_of h1 (fC b hb)
    clear hC h2 ex2 s2
    dsimp only
    walk_at "go"
    try unfold sFld
    walk_at "go"
    intro z dz nz ndz nez
    have nz2 : upd H3 dz (.own z) z = none := by rw [upd_ne nez.symm]; exact nz
    have sE2 := Same.ts ((same_upd (o := .own z) ndz).trans (same_upd (o := .ins A.c.S dz []) nz2))
    refine ⟨z, dz, a, m.rs, rfl, (hA.keep (Same.ts h3)).keep sE2, hM.qa.ok.ro, upd_same, fun rl rs H4 lrs bns => ⟨rfl, ?_⟩⟩
    obtain ⟨s4, hS4, fr4⟩ := store_made ndz nz nez lrs bns
    have ex4 := s4 _ _ ex3
    have h4 := h3.trans s4
    have dj : ∀ c ∈ ownQ k1, ¬ ownS z rl rs c := fun c hc y => by
      obtain ⟨u, e, _⟩ := C3.has hc
      rw [fr4 c y] at e
      exact nomatch e
    have nS : ¬ ownS z rl rs x := fun y => by have := fr4 x y; rw [ex3] at this; exact nomatch this
    have C4 := C3.same s4
    walk_at "go"
    refine ⟨x, A.P, dx, _, rfl, ex4, T.cl_PlainMachine, T.na_PlainMachine_store, Nat.le_of_ble_eq_true rfl, ?_⟩
    have C5 : CAt A.c.toCs (upd H4 x (.ins A.P dx (putF ("_store" : Str) (.ref z) [("_core", .ref k1.o), ("_store", .ref k0.so), ("_log", .ref p0.ll), ("_trail", .ref p0.lt)]))) k1 m := C4.keep (fun c u hc e => by rw [upd_ne fun y => nC (by rw [← y]; exact hc)]; exact e) (ts_ins ex4)
    have S5 : satS A.c.S z dz rl rs (upd H4 x (.ins A.P dx (putF ("_store" : Str) (.ref z) [("_core", .ref k1.o), ("_store", .ref k0.so), ("_log", .ref p0.ll), ("_trail", .ref p0.lt)]))) m.rs := stoS.fr _ _ _ hS4 (fun c u hc e => by rw [upd_ne fun y => nS (by rw [← y]; exact hc)]; exact e) (ts_ins ex4)
    have h5 : Same H (upd H4 x (.ins A.P dx (putF ("_store" : Str) (.ref z) [("_core", .ref k1.o), ("_store", .ref k0.so), ("_log", .ref p0.ll), ("_trail", .ref p0.lt)]))) := fO ex4 h4
    have ex5 : upd H4 x (.ins A.P dx (putF ("_store" : Str) (.ref z) [("_core", .ref k1.o), ("_store", .ref k0.so), ("_log", .ref p0.ll), ("_trail", .ref p0.lt)])) x = some (.ins A.P dx [("_core", .ref k1.o), ("_store", .ref z), ("_log", .ref p0.ll), ("_trail", .ref p0.lt)]) := upd_same
    generalize upd H4 x _ = H5 at C5 S5 h5 ex5 ⊢
    have fS : ∀ b, ownS z rl rs b → H b = none := fun b hb => none_of h3 (fr4 b hb)
    clear C3 C4 h4 s4 sE2 fr4 hS4 nz2 nz ndz ex3 ex4
    dsimp only
    walk_at "go"
    try unfold sFld
    walk_at "go"
    refine ⟨p.ll, _, rfl, .inl (sqL (h5 _ _ hM.lo)), fun l1 nl1 => ?_⟩
    have s6 := same_upd (o := .lst (p.ls.map V.ref)) nl1
    have e6 : upd H5 l1 (.lst (p.ls.map V.ref)) l1 = some (.lst (p.ls.map V.ref)) := upd_same
    generalize upd H5 l1 _ = H6 at s6 e6 ⊢
    have ex6 := s6 _ _ ex5
    walk_at "go"
    refine ⟨x, A.P, dx, _, rfl, ex6, T.cl_PlainMachine, T.na_PlainMachine_log, Nat.le_of_ble_eq_true rfl, ?_⟩
    have l1x : l1 ≠ x := fun y => by rw [y, ex5] at nl1; exact nomatch nl1
    have C7 : CAt A.c.toCs (upd H6 x (.ins A.P dx (putF ("_log" : Str) (.ref l1) [("_core", .ref k1.o), ("_store", .ref z), ("_log", .ref p0.ll), ("_trail", .ref p0.lt)]))) k1 m := (C5.same s6).keep (fun c u hc e => by rw [upd_ne fun y => nC (by rw [← y]; exact hc)]; exact e) (ts_ins ex6)
    have S7 : satS A.c.S z dz rl rs (upd H6 x (.ins A.P dx (putF ("_log" : Str) (.ref l1) [("_core", .ref k1.o), ("_store", .ref z), ("_log", .ref p0.ll), ("_trail", .ref p0.lt)]))) m.rs := stoS.fr _ _ _ (stoS.fr _ _ _ S5 (fun c u _ e => s6 _ _ e) (Same.ts s6)) (fun c u hc e => by rw [upd_ne fun y => nS (by rw [← y]; exact hc)]; exact e) (ts_ins ex6)
    have h7 : Same H (upd H6 x (.ins A.P dx (putF ("_log" : Str) (.ref l1) [("_core", .ref k1.o), ("_store", .ref z), ("_log", .ref p0.ll), ("_trail", .ref p0.lt)]))) := fO ex6 (h5.trans s6)
    have ex7 : upd H6 x (.ins A.P dx (putF ("_log" : Str) (.ref l1) [("_core", .ref k1.o), ("_store", .ref z), ("_log", .ref p0.ll), ("_trail", .ref p0.lt)])) x = some (.ins A.P dx [("_core", .ref k1.o), ("_store", .ref z), ("_log", .ref l1), ("_trail", .ref p0.lt)]) := upd_same
    have e7 : upd H6 x (.ins A.P dx (putF ("_log" : Str) (.ref l1) [("_core", .ref k1.o), ("_store", .ref z), ("_log", .ref p0.ll), ("_trail", .ref p0.lt)])) l1 = some (.lst (p.ls.map V.ref)) := by rw [upd_ne l1x]; exact e6
    generalize upd H6 x _ = H7 at C7 S7 h7 ex7 e7 ⊢
    dsimp only
    walk_at "go"
    try unfold sFld
    walk_at "go"
    refine ⟨p.lt, _, rfl, .inl (sqL (h7 _ _ hM.to_)), fun l2 nl2 => ?_⟩
    have s8 := same_upd (o := .lst p.tv) nl2
    have e8 : upd H7 l2 (.lst p.tv) l2 = some (.lst p.tv) := upd_same
    generalize upd H7 l2 _ = H8 at s8 e8 ⊢
    have ex8 := s8 _ _ ex7
    walk_at "go"
    refine ⟨x, A.P, dx, _, rfl, ex8, T.cl_PlainMachine, T.na_PlainMachine_trail, Nat.le_of_ble_eq_true rfl, ?_⟩
    have l2x : l2 ≠ x := fun y => by rw [y, ex7] at nl2; exact nomatch nl2
    have l21 : l2 ≠ l1 := fun y => by rw [y, e7] at nl2; exact nomatch nl2
    have C9 : CAt A.c.toCs (upd H8 x (.ins A.P dx (putF ("_trail" : Str) (.ref l2) [("_core", .ref k1.o), ("_store", .ref z), ("_log", .ref l1), ("_trail", .ref p0.lt)]))) k1 m := (C7.same s8).keep (fun c u hc e => by rw [upd_ne fun y => nC (by rw [← y]; exact hc)]; exact e) (ts_ins ex8)
    have S9 : satS A.c.S z dz rl rs (upd H8 x (.ins A.P dx (putF ("_trail" : Str) (.ref l2) [("_core", .ref k1.o), ("_store", .ref z), ("_log", .ref l1), ("_trail", .ref p0.lt)]))) m.rs := stoS.fr _ _ _ (stoS.fr _ _ _ S7 (fun c u _ e => s8 _ _ e) (Same.ts s8)) (fun c u hc e => by rw [upd_ne fun y => nS (by rw [← y]; exact hc)]; exact e) (ts_ins ex8)
    have h9 : Same H (upd H8 x (.ins A.P dx (putF ("_trail" : Str) (.ref l2) [("_core", .ref k1.o), ("_store", .ref z), ("_log", .ref l1), ("_trail", .ref p0.lt)]))) := fO ex8 (h7.trans s8)
    have ex9 : upd H8 x (.ins A.P dx (putF ("_trail" : Str) (.ref l2) [("_core", .ref k1.o), ("_store", .ref z), ("_log", .ref l1), ("_trail", .ref p0.lt)])) x = some (.ins A.P dx [("_core", .ref k1.o), ("_store", .ref z), ("_log", .ref l1), ("_trail", .ref l2)]) := upd_same
    have e91 : upd H8 x (.ins A.P dx (putF ("_trail" : Str) (.ref l2) [("_core", .ref k1.o), ("_store", .ref z), ("_log", .ref l1), ("_trail", .ref p0.lt)])) l1 = some (.lst (p.ls.map V.ref)) := by rw [upd_ne l1x]; exact s8 _ _ e7
    have e92 : upd H8 x (.ins A.P dx (putF ("_trail" : Str) (.ref l2) [("_core", .ref k1.o), ("_store", .ref z), ("_log", .ref l1), ("_trail", .ref p0.lt)])) l2 = some (.lst p.tv) := by rw [upd_ne l2x]; exact e8
    generalize upd H8 x _ = H9 at C9 S9 h9 ex9 e91 e92 ⊢
    dsimp only
    walk_at "go"
    have no1 : ¬ (l1 ∈ ownQ k1 ∨ ownS z rl rs l1) := fun y => y.elim (C5.none nl1) fun y => by
      obtain ⟨u, e, _⟩ := stoS.hs _ _ S5 _ y
      rw [nl1] at e
      exact nomatch e
    have no2 : ¬ (l2 ∈ ownQ k1 ∨ ownS z rl rs l2) := fun y => y.elim (C7.none nl2) fun y => by
      obtain ⟨u, e, _⟩ := stoS.hs _ _ S7 _ y
      rw [nl2] at e
      exact nomatch e
    refine q ⟨x, dx, l1, l2, p.ls, p.tv⟩ { k1 with so := z, sow := ownS z rl rs, sat := satS A.c.S z dz rl rs } H9 h9 ⟨ex9, e91, hM.lv.keep (Same.ts h9), e92, hM.tv.keep (Same.ts h9), qat_of pk C9 S9 dj, by simp [l1x.symm, l2x.symm, l21.symm], fun c hc => ?_⟩ fun c hc => ?_
    · simp only [List.mem_cons, List.not_mem_nil, or_false] at hc
      rcases hc with rfl | rfl | rfl
      · exact fun y => y.elim nC nS
      · exact no1
      · exact no2
    · rcases hc with hc | hc | hc
      · simp only [List.mem_cons, List.not_mem_nil, or_false] at hc
        rcases hc with rfl | rfl | rfl
        · exact nxH
        · exact none_of h5 nl1
        · exact none_of h7 nl2
      · exact fC c hc
      · exact fS c hc
theorem ok_mtwin {f : Addr} {fd : FuncData} (F : Fun K "twin" "PlainMachine.twin" s_PlainMachine_twin f fd) (T : Txt K mg A) (pk : A.c.kd = kdP A.c.S) (c_machine_of : CalX P w K mg base 11 "machine_of" (spMOf A)) (c_PlainStore_rooms : CalM P w K mg base CX0 5 A.c.S "rooms" (spRooms A)) : FnOk P w K mg base (L2.CX P w) 12 f fd ["self"] (spMTwin A) := by
  refine F.okX sc_PlainMachine_twin (fun vs H Q E h => ?_) (fun cdv A' outer s H vs Q E hr h => have hu65 := units65 hr; have hu64 := hr.units; have hu := units1 hr; ⟨_, (pss_one (ps_ret (pe_calX c_machine_of hr (by decide) (by rfl) (takes_of rfl rfl rfl rfl) (pa_cons (pe_fld (pv 0) rfl) (pa_cons (pe_mth0 (pe_fld (pv 0) rfl) T.cl_PlainStore c_PlainStore_rooms hr (by decide) ps0) (pa_cons (pe_fld (pv 0) rfl) (pa_cons (pe_fld (pv 0) rfl) pa_nil))))))), ?_⟩)
  · obtain ⟨p, k, m, lg, tl, n, rfl, _⟩ := h
    rfl
  · obtain ⟨p, k, m, lg, tl, n, rfl, hM, lm, hn, q⟩ := h
    have kd := hM.qa.kd
    rw [pk] at kd
    obtain ⟨dxs, rl, rs, ew, es⟩ := kd
    have st := hM.qa.st
    rw [es] at st
    walk_at "go"
    refine ⟨_, rfl, p.o, A.P, p.dx, _, _, rfl, hM.ob, T.cl_PlainMachine, T.na_PlainMachine_core, rfl, ?_⟩
    walk_at "go"
    refine ⟨_, rfl, p.o, A.P, p.dx, _, _, rfl, hM.ob, T.cl_PlainMachine, T.na_PlainMachine_store, rfl, ?_⟩
    refine ⟨k.so, dxs, _, rfl, st.1, rfl, ?_⟩
    walk_at "go"
    refine ⟨k.so, dxs, rl, rs, m.rs, rfl, st, hM.qa.ok.ro, fun a H1 s1 hA => ?_⟩
    have hM1 := hM.same s1
    walk_at "go"
    refine ⟨_, rfl, p.o, A.P, p.dx, _, _, rfl, hM1.ob, T.cl_PlainMachine, T.na_PlainMachine_log, rfl, ?_⟩
    walk_at "go"
    refine ⟨_, rfl, p.o, A.P, p.dx, _, _, rfl, hM1.ob, T.cl_PlainMachine, T.na_PlainMachine_trail, rfl, ?_⟩
    walk_at "go"
    exact ⟨p, k, m, lg, tl, n, a, rfl, hM1, lm, hn, hA, fun p' k' H' s' hM' fr => q p' k' H' (s1.trans s') hM' fun b hb => none_of s1 (fr b hb)⟩
end
end K15

namespace K15
open PySem PySem.Spec PyProof.Rows L2 Bk Rm Cm
/-! how much there is, and the data of trails and logs -/
def KL : List String := ["ended", "step", "clock", "told", "sent", "asked", "read", "waited", "trap", "fell"]
def OutL : Out → Prop
  | .row k _ => k ∈ KL
  | _ => True
theorem exec_kinds {m : M} {op a b : Nat} : OutL (exec m op a b).2 := by
  have ld : ∀ p, OutL (Cm.load m a p).2 := fun p => by
    unfold Cm.load
    cases lead m p false
    · trivial
    · exact (by show _ ∈ KL; decide)
  have sv : ∀ p, OutL (Cm.save m a p).2 := fun p => by
    unfold Cm.save
    cases lead m p true
    · trivial
    · exact (by show _ ∈ KL; decide)
  unfold Cm.exec
  split
  · exact (by show _ ∈ KL; decide)
  · exact (by show _ ∈ KL; decide)
  · exact ld _
  · exact sv _
  · exact ld _
  · exact sv _
  · exact (by show _ ∈ KL; decide)
  · exact (by show _ ∈ KL; decide)
  · unfold Cm.part
    split
    · trivial
    · exact (by show _ ∈ KL; decide)
  · unfold Cm.jump
    split
    · trivial
    · exact (by show _ ∈ KL; decide)
  · exact (by show _ ∈ KL; decide)
  · unfold traps
    split
    · exact (by show _ ∈ KL; decide)
    · trivial
    · exact (by show _ ∈ KL; decide)
    · trivial
  · exact (by show _ ∈ KL; decide)
  · unfold outM
    split
    · exact (by show _ ∈ KL; decide)
    · exact (by show _ ∈ KL; decide)
    · unfold askM
      split
      · exact (by show _ ∈ KL; decide)
      · exact (by show _ ∈ KL; decide)
  · unfold inM
    split <;> exact (by show _ ∈ KL; decide)
theorem trapM_kinds {m : M} {c : Nat} {z : Cm.Row} (e : (trapM m c).2 = some z) : z.kind ∈ KL := by
  unfold trapM at e
  split at e <;> (rw [← Option.some.inj e]; first | exact (by decide : "fell" ∈ KL) | exact (by decide : "trap" ∈ KL))
theorem step_kinds {m : M} {z : Cm.Row} (e : (Cm.step m).2 = some z) : z.kind ∈ KL := by
  unfold Cm.step act at e
  generalize ({ serve m with st := .runs } : M) = m1 at e
  cases q : lead m1 m1.at_ false with
  | no c => rw [q] at e; exact trapM_kinds e
  | room n =>
    rw [q] at e
    dsimp only at e
    split at e
    · unfold Cm.wait at e
      split at e
      · split at e
        · exact nomatch e
        · rw [← Option.some.inj e]; exact (by decide : "waited" ∈ KL)
      · rw [← Option.some.inj e]; exact (by decide : "waited" ∈ KL)
    · have ek := exec_kinds (m := m1) (op := cel m1.rs n (m1.at_ % 8) / 256) (a := cel m1.rs n (m1.at_ % 8) / 64 % 4) (b := cel m1.rs n (m1.at_ % 8) % 64)
      generalize exec m1 (cel m1.rs n (m1.at_ % 8) / 256) (cel m1.rs n (m1.at_ % 8) / 64 % 4) (cel m1.rs n (m1.at_ % 8) % 64) = y at e ek
      obtain ⟨m2, o2⟩ := y
      unfold onward at e
      cases o2 with
      | trap c => exact trapM_kinds e
      | jump p => rw [← Option.some.inj e]; exact (by decide : "step" ∈ KL)
      | row k t => rw [← Option.some.inj e]; exact ek
theorem th_mono {t : Th} {n m : Nat} (h : t.le n) (l : n ≤ m) : t.le m := by
  cases t with
  | non => trivial
  | num a => exact Nat.le_trans h l
  | two a b => exact ⟨Nat.le_trans h.1 l, Nat.le_trans h.2 l⟩
  | ask a k b c => exact ⟨Nat.le_trans h.1 l, Nat.le_trans h.2.1 l, Nat.le_trans h.2.2 l⟩
theorem dqa_rowVs {K : PySem.W.Frag} {H : Hp} : ∀ {xs : List V} {os : List (Option Cm.Row)}, xs.length = os.length → (∀ (i : Nat) v o, xs[i]? = some v → os[i]? = some o → RowV H o v) → DqAll false K H xs (os.map rowDat)
  | [], [], _, _ => .nil
  | [], _ :: _, h, _ => nomatch h
  | _ :: _, [], h, _ => nomatch h
  | x :: xs, o :: os, h, g => .cons (dq_rowV (g 0 x o rfl rfl)) (dqa_rowVs (Nat.succ.inj h) fun i v o a b => g (i + 1) v o a b)
theorem m0_lim {rows rms : List (List Nat)} : (m0 rows rms).Lim 0 := ⟨Nat.le_refl _, Nat.le_refl _, Nat.le_refl _, Nat.le_refl _, Nat.le_refl _, Nat.le_refl _, Nat.le_refl _, fun _ z => nomatch z⟩
def arvD (a : Arv) : PyData := .tuple [.int (a.tm : Nat), .str (kq a.net), .int (a.wd : Nat)]
theorem kq_ok (b : Bool) : PyData.canLay0 (.str (kq b)) = true := by cases b <;> decide +kernel
theorem lay_arvs : ∀ l : List Arv, PyData.canLayAll0 (l.map arvD) = true ∧ PyData.depthAll (l.map arvD) ≤ 1
  | [] => ⟨rfl, Nat.zero_le _⟩
  | a :: r => by
    obtain ⟨h1, h2⟩ := lay_arvs r
    rw [List.map_cons]
    generalize r.map arvD = X at h1 h2
    constructor
    · show (PyData.canLay0 (arvD a) && PyData.canLayAll0 X) = true
      simp only [arvD, PyData.canLay0, PyData.canLayAll0, h1, Bool.and_true, Bool.true_and]
      exact kq_ok a.net
    · show max (PyData.depth (arvD a)) (PyData.depthAll X) ≤ 1
      have : PyData.depth (arvD a) ≤ 1 := Nat.le_of_ble_eq_true rfl
      omega
theorem sh_arvs (l : List Arv) : SeqAt.shaped (.list (l.map arvD)) = true := by
  obtain ⟨h1, h2⟩ := lay_arvs l
  unfold SeqAt.shaped
  generalize l.map arvD = X at h1 h2
  rw [show PyData.canLay0 (.list X) = true from h1, Bool.true_and]
  exact decide_eq_true (show PyData.depthAll X + 1 ≤ 64 by omega)
theorem dpa_arvs {K : PySem.W.Frag} {H : Hp} : ∀ {ts : List Addr} {l : List Arv}, Tps arvV H ts l → DpAll K H (ts.map V.ref) (l.map arvD)
  | [], [], _ => .nil
  | [], _ :: _, h => nomatch h.1
  | _ :: _, [], h => nomatch h.1
  | t :: ts, a :: l, h => .cons (.tup (SqT.of (h.2 0 t a rfl rfl)) (.cons (.int _) (.cons (.str _) (.cons (.int _) .nil)))) (dpa_arvs ⟨Nat.succ.inj h.1, fun i x z e1 e2 => h.2 (i + 1) x z e1 e2⟩)
theorem dp_arvs {K : PySem.W.Frag} {H : Hp} {a : Addr} {ts : List Addr} {l : List Arv} (h : Tps arvV H ts l) (e : SqL K H a (ts.map V.ref)) : Dp K H (.ref a) (.list (l.map arvD)) := .lst e (dpa_arvs h)
theorem st_alive {m : M} (h : m.alive = true) : m.st = .runs ∨ m.st = .idle := of_decide_eq_true h
theorem st_in {m : M} : inV (.str m.st.s) [.str (Str.ofString "runs"), .str (Str.ofString "idle")] = m.alive := by
  unfold M.alive
  cases e : m.st <;> decide +kernel
structure RI (L i : Nat) (s : Cm.Run) : Prop where
  ok : s.m.Ok
  lm : s.m.Lim (64 + 16 * i + (L - s.left.length))
  tn : s.tl.length ≤ i
  ro : ∀ z ∈ s.tl, z.le (5064 + 16 * i + L) ∧ z.kind ∈ KL
  sm : s.lg.length + s.left.length = L
  wl : ∀ z ∈ s.left, z.wd ≤ kmax z.net
  wg : ∀ z ∈ s.lg, z.wd ≤ kmax z.net ∧ z.tm ≤ 64 + 16 * i + L
theorem row_mono {z : Cm.Row} {n k : Nat} (h : z.le n) (l : n ≤ k) : z.le k := ⟨Nat.le_trans h.1 l, Nat.le_trans h.2.1 l, th_mono h.2.2 l⟩
theorem RI.come {L i : Nat} {s : Cm.Run} (h : RI L i s) : RI L i s.come := by
  have g := go_lim h.ok h.lm h.wl
  have hs := h.sm
  refine ⟨g.2.1, g.1.mono (by have := g.2.2.1; omega), h.tn, h.ro, g.2.2.2.trans h.sm, fun z hz => h.wl z (come_sub z hz), ?_⟩
  have tl := h.lm.tm
  have go : ∀ (r : List Arv) (m : M) (lg : List Arv), m.tm = s.m.tm → (∀ z ∈ r, z.wd ≤ kmax z.net) → (∀ z ∈ lg, z.wd ≤ kmax z.net ∧ z.tm ≤ 64 + 16 * i + L) → ∀ z ∈ (arrM m lg r).2.1, z.wd ≤ kmax z.net ∧ z.tm ≤ 64 + 16 * i + L := by
    intro r
    induction r with
    | nil => exact fun _ _ _ _ hg => hg
    | cons a r ih =>
      intro m lg em hw hg
      unfold arrM
      split
      · refine ih _ _ ?_ (fun z hz => hw z (List.mem_cons_of_mem _ hz)) fun z hz => ?_
        · rw [← em]
          unfold comesM
          split <;> rfl
        · rcases List.mem_append.mp hz with y | y
          · exact hg z y
          · rw [List.mem_singleton.mp y]
            exact ⟨hw a List.mem_cons_self, by show m.tm ≤ _; omega⟩
      · exact hg
  exact go s.left s.m s.lg rfl h.wl h.wg
theorem RI.step {L i : Nat} {s : Cm.Run} (h : RI L i s) : RI L (i + 1) s.step := by
  refine ⟨step_ok h.ok, (step_lim h.ok h.lm).mono ?_, ?_, fun z hz => ?_, h.sm, h.wl, fun z hz => ⟨(h.wg z hz).1, by have := (h.wg z hz).2; omega⟩⟩
  · show _ ≤ 64 + 16 * (i + 1) + (L - s.left.length)
    omega
  · show (s.tl ++ (Cm.step s.m).2.toList).length ≤ i + 1
    rw [List.length_append]
    have := h.tn
    have : (Cm.step s.m).2.toList.length ≤ 1 := by cases (Cm.step s.m).2 <;> simp
    omega
  · rcases List.mem_append.mp (show z ∈ s.tl ++ (Cm.step s.m).2.toList from hz) with y | y
    · exact ⟨row_mono (h.ro z y).1 (by omega), (h.ro z y).2⟩
    · have e : (Cm.step s.m).2 = some z := by
        cases e : (Cm.step s.m).2 with
        | none => rw [e] at y; exact nomatch y
        | some x => rw [e] at y; rw [List.mem_singleton.mp y]
      exact ⟨row_mono (step_row h.ok h.lm e) (by omega), step_kinds e⟩
def trD (tl : List Cm.Row) : PyData := .list ((tl.map some).map rowDat)
def lgD (lg : List Arv) : PyData := .list (lg.map arvD)
theorem dq_tr {K : PySem.W.Frag} {H : Hp} {a : Addr} {vs : List V} {tl : List Cm.Row} (e : H a = some (.lst vs)) (h : TlV H vs tl) : Dq false K H (.ref a) (trD tl) := by
  refine .lst (fun z => nomatch z) (sqL e) (dqa_rowVs (by rw [List.length_map]; exact h.1) fun i v o e1 e2 => ?_)
  rw [List.getElem?_map] at e2
  cases ez : tl[i]? with
  | none => rw [ez] at e2; exact nomatch e2
  | some z =>
    rw [ez] at e2
    rw [← Option.some.inj e2]
    exact h.2 i v z e1 ez
theorem dq_lg {K : PySem.W.Frag} {H : Hp} {a : Addr} {ts : List Addr} {lg : List Arv} (e : H a = some (.lst (ts.map V.ref))) (h : Tps arvV H ts lg) : Dq false K H (.ref a) (lgD lg) :=
  .lst (fun z => nomatch z) (sqL e) (dqa_refs (fun _ _ z => .tup (SqT.of z) (.cons (.int _) (.cons (.str _) (.cons (.int _) .nil)))) h)
theorem run_ext {e : Nat} : ∀ {f : Nat} {s : Cm.Run}, ∃ x, (Cm.runN f e s).tl = s.tl ++ x
  | 0, s => ⟨[], (List.append_nil _).symm⟩
  | f + 1, s => by
    unfold Cm.runN
    split
    · obtain ⟨x, h⟩ := run_ext (e := e) (f := f) (s := s.step.come)
      exact ⟨(Cm.step s.m).2.toList ++ x, by rw [h, ← List.append_assoc]; rfl⟩
    · exact ⟨[], (List.append_nil _).symm⟩
theorem kl_lay : ∀ k ∈ KL, PyData.canLay0 (.str (Str.ofString k)) = true := by decide +kernel
theorem lay_row {z : Cm.Row} (h : z.kind ∈ KL) : PyData.canLay0 (rowDat (some z)) = true ∧ PyData.depth (rowDat (some z)) ≤ 3 := by
  have kk := kl_lay _ h
  generalize z.th = t
  have th : PyData.canLay0 (thD z.th) = true ∧ PyData.depth (thD z.th) ≤ 1 := by
    cases z.th with
    | non => exact ⟨rfl, Nat.zero_le _⟩
    | num a => exact ⟨rfl, Nat.zero_le _⟩
    | two a b => exact ⟨rfl, Nat.le_of_ble_eq_true rfl⟩
    | ask n k b r =>
      refine ⟨?_, Nat.le_of_ble_eq_true rfl⟩
      simp only [thD, PyData.canLay0, PyData.canLayAll0, Bool.and_true, Bool.true_and]
      cases k <;> decide +kernel
  refine ⟨?_, ?_⟩
  · simp only [rowDat, PyData.canLay0, PyData.canLayAll0, Bool.and_true, Bool.true_and] at kk ⊢
    rw [kk, th.1]
    rfl
  · have := th.2
    simp only [rowDat, PyData.depth, PyData.depthAll]
    omega
theorem lay_rows : ∀ {l : List Cm.Row}, (∀ z ∈ l, z.kind ∈ KL) → PyData.canLayAll0 ((l.map some).map rowDat) = true ∧ PyData.depthAll ((l.map some).map rowDat) ≤ 3
  | [], _ => ⟨rfl, Nat.zero_le _⟩
  | a :: r, h => by
    obtain ⟨h1, h2⟩ := lay_rows (l := r) fun z hz => h z (List.mem_cons_of_mem _ hz)
    obtain ⟨g1, g2⟩ := lay_row (h a List.mem_cons_self)
    rw [List.map_cons, List.map_cons]
    generalize (r.map some).map rowDat = X at h1 h2
    generalize rowDat (some a) = Y at g1 g2
    constructor
    · show (PyData.canLay0 Y && PyData.canLayAll0 X) = true
      rw [g1, h1]
      rfl
    · show max (PyData.depth Y) (PyData.depthAll X) ≤ 3
      omega
theorem sh_tr {l : List Cm.Row} (h : ∀ z ∈ l, z.kind ∈ KL) : SeqAt.shaped (trD l) = true := by
  obtain ⟨h1, h2⟩ := lay_rows h
  unfold SeqAt.shaped trD
  generalize (l.map some).map rowDat = X at h1 h2
  rw [show PyData.canLay0 (.list X) = true from h1, Bool.true_and]
  exact decide_eq_true (show PyData.depthAll X + 1 ≤ 64 by omega)
theorem tlv_take {H : Hp} {vs : List V} {l1 x : List Cm.Row} (h : TlV H vs (l1 ++ x)) : TlV H (vs.take l1.length) l1 := by
  obtain ⟨hl, hr⟩ := h
  rw [List.length_append] at hl
  refine ⟨by rw [List.length_take]; omega, fun i v z a b => ?_⟩
  have hi := (List.getElem?_eq_some_iff.mp b).1
  rw [List.getElem?_take, if_pos hi] at a
  exact hr i v z a (by rw [List.getElem?_append_left hi]; exact b)
end K15

namespace K15
open PySem PySem.Spec PyProof.Rows L2 Bk Rm Cm


theorem Path_get {m0 m : M} {lg0 lg : List Arv} {tl0 tl : List Cm.Row} (h : Path m0 lg0 tl0 m lg tl) (hi : m.st ≠ .idle) : ∃ more k, lg = lg0 ++ more ∧ tl.length = tl0.length + k ∧ itc k (Run.come ⟨m0, lg0, tl0, more⟩) = ⟨m, lg, tl, []⟩ ∧ ∀ i, i < k → (itc i (Run.come ⟨m0, lg0, tl0, more⟩)).m.st = .runs ∧ (itc i (Run.come ⟨m0, lg0, tl0, more⟩)).tl.length = tl0.length + i := by
  obtain ⟨more, e1, hx, k, hk, h⟩ := h
  have g := h [] (fun _ z => nomatch z)
  rw [List.append_nil, up_off hi] at g
  have e : Run.come ⟨up m0, lg0, tl0, more⟩ = Run.come ⟨m0, lg0, tl0, more⟩ := by
    by_cases z : m0.st = .idle
    · rcases hx z with ⟨rfl, rfl⟩ | ⟨a, r, rfl, ha⟩
      · exact absurd z hi
      · have al : m0.alive = true := decide_eq_true (.inr z)
        have q1 : arrM (up m0) lg0 (a :: r) = arrM (comesM (up m0) a.net a.wd) (lg0 ++ [⟨(up m0).tm, a.net, a.wd⟩]) r := if_pos ⟨by rw [up_tm, ha]; exact Nat.le_refl _, up_alive (.inr z)⟩
        have q2 : arrM m0 lg0 (a :: r) = arrM (comesM m0 a.net a.wd) (lg0 ++ [⟨m0.tm, a.net, a.wd⟩]) r := if_pos ⟨Nat.le_of_eq ha, al⟩
        unfold Run.come
        dsimp only
        rw [q1, q2, up_comes, up_tm]
    · rw [up_off z]
  rw [e] at g
  exact ⟨more, k, e1, hk, g.1, g.2⟩
theorem RI_one {L i : Nat} {m : M} {lg : List Arv} {tl : List Cm.Row} {a : Arv} {r : List Arv} (h : RI L i ⟨m, lg, tl, a :: r⟩) : RI L i ⟨comesM m a.net a.wd, lg ++ [⟨m.tm, a.net, a.wd⟩], tl, r⟩ := by
  have tm := h.lm.tm
  have sm := h.sm
  have hw := h.wl a List.mem_cons_self
  dsimp only at tm sm hw
  rw [List.length_cons] at tm sm
  have lm := comesM_lim (b := a.net) (x := a.wd) h.lm
  dsimp only at lm
  rw [List.length_cons] at lm
  refine ⟨comesM_ok h.ok hw, lm.mono (by dsimp only; omega), h.tn, h.ro, by dsimp only; rw [List.length_append]; simp only [List.length_cons, List.length_nil]; omega, fun z hz => h.wl z (List.mem_cons_of_mem _ hz), fun z hz => ?_⟩
  rcases List.mem_append.mp hz with y | y
  · exact h.wg z y
  · rw [List.mem_singleton.mp y]
    exact ⟨hw, by show m.tm ≤ _; omega⟩
theorem tps_drop {α : Type} {f : α → List V} {H : Hp} {ts : List Addr} {l : List α} (h : Tps f H ts l) (n : Nat) : Tps f H (ts.drop n) (l.drop n) :=
  ⟨by rw [List.length_drop, List.length_drop, h.1], fun i t z a b => h.2 (n + i) t z (by rw [List.getElem?_drop] at a; exact a) (by rw [List.getElem?_drop] at b; exact b)⟩
theorem RI_wide {i0 i1 : Nat} {m0 m : M} {lg0 more : List Arv} {tl0 tl : List Cm.Row} (h : RI lg0.length i0 ⟨m0, lg0, tl0, []⟩) (g : RI (lg0 ++ more).length i1 ⟨m, lg0 ++ more, tl, []⟩) : RI (lg0 ++ more).length i0 ⟨m0, lg0, tl0, more⟩ := by
  have lm := h.lm
  dsimp only at lm
  rw [List.length_nil] at lm
  refine ⟨h.ok, lm.mono (by dsimp only; rw [List.length_append]; omega), h.tn, fun z hz => ⟨row_mono (h.ro z hz).1 (by rw [List.length_append]; omega), (h.ro z hz).2⟩, by rw [List.length_append], fun z hz => (g.wg z (List.mem_append_right _ hz)).1, fun z hz => ⟨(h.wg z hz).1, by have := (h.wg z hz).2; rw [List.length_append]; omega⟩⟩
section
variable (A : Ad)
def spGoes : Sp := fun vs H Q _ => ∃ (p0 : Pk) (k0 : Cq) (m0 : M) (lg0 : List Arv) (tl0 : List Cm.Row) (p : Pk) (k : Cq) (m : M) (lg : List Arv) (tl : List Cm.Row) (i0 i1 : Nat), vs = [.ref p0.o, .ref p.o] ∧ MAt A.c A.P H p0 k0 m0 lg0 tl0 ∧ MAt A.c A.P H p k m lg tl ∧ (∀ b, OwnM p0 k0 b → ¬ OwnM p k b) ∧ Path m0 lg0 tl0 m lg tl ∧ m.st ≠ .idle ∧ RI lg0.length i0 ⟨m0, lg0, tl0, []⟩ ∧ RI lg.length i1 ⟨m, lg, tl, []⟩ ∧ i0 ≤ 200 ∧ i1 ≤ 200 ∧ lg.length ≤ 100 ∧ ∀ p1 k1 H', MMv A.c A.P H p0 k0 H' p1 k1 m lg tl → Q (.bl true) H'
end
section
variable {P : Program} {w : World} {K : PySem.W.Frag} {mg : Str → Option Value} {base : Heap} {A : Ad}
theorem ok_goes {f : Addr} {fd : FuncData} (F : Fun K "_law_goes_on" "_law_goes_on" s_goes_on_L f fd) (T : Txt K mg A) (q_Core : CalEq P w K mg base 7 A.c.C (Alike A)) (c_PlainMachine_log : CalM P w K mg base CX0 6 A.P "log" (spMLog A)) (c_PlainMachine_trail : CalM P w K mg base CX0 6 A.P "trail" (spMTrail A)) (c_PlainMachine_time : CalM P w K mg base CX0 6 A.P "time" (spMTime A)) (c_PlainMachine_state : CalM P w K mg base CX0 6 A.P "state" (spMState A)) (c_PlainMachine_arrive : CalM P w K mg base (L2.CX P w) 6 A.P "arrive" (spMArr2 A)) (c_PlainMachine_step : CalM P w K mg base (L2.CX P w) 12 A.P "step" (spMStep2 A)) (c_PlainMachine_core : CalM P w K mg base (L2.CX P w) 11 A.P "core" (spMCore A)) : FnOk P w K mg base CX0 13 f fd ["_law_twin", "_law_machine"] (spGoes A) := by
  refine F.ok sc_goes_on_L (fun vs H Q E h => ?_) (fun cdv A' outer s H vs Q E hr h => have hu65 := units65 hr; have hu64 := hr.units; have hu := units1 hr; ⟨_, (pss_cons (ps_set (i := 2) sc_goes_on_L.nd rfl (.inl rfl) (pe_slice sl_list (pe_mth0 (pv 1) T.cl_PlainMachine c_PlainMachine_log hr (by decide) ps0) (po_some (pe_callB call_len_seq (by rfl) T.m_len (by decide +kernel) (pa_cons (pe_mth0 (pv 0) T.cl_PlainMachine c_PlainMachine_log hr (by decide) ps0) pa_nil))) po_none))
    (pss_cons (ps_for PassesOwn.never rfl (pi_range1 (by rfl) T.m_range (pa_cons pe_int pa_nil)) (pg_name (i := 3) sc_goes_on_L.nd rfl (.inl rfl))
      (C8.pss_cut (ps_while PassesOwn.never (PW.pt (pw_and (pt_cmpR (op_neD hu64) (pv 2) (pe_lstB pa_nil) (nomark _)) (pw_and (pt_cmpR op_le (pe_ix ix_tup (pe_ix ix_list (pv 2) pe_int (fun _ _ => rfl)) pe_int (fun _ _ => rfl)) (pe_mth0 (pv 0) T.cl_PlainMachine c_PlainMachine_time hr (by decide) ps0) (nomark _)) (pw_and1 (pt_cmpR op_in_seq (pe_mth0 (pv 0) T.cl_PlainMachine c_PlainMachine_state hr (by decide) ps0) (pe_tup (pa_cons pe_str (pa_cons pe_str pa_nil))) (by rfl))))))
      (pss_cons (ps_expr (pe_mth (pv 0) T.cl_PlainMachine c_PlainMachine_arrive hr (by decide) psY (pa_cons (pe_ix ix_tup (pe_ix ix_list (pv 2) pe_int (fun _ _ => rfl)) pe_int (fun _ _ => rfl)) (pa_cons (pe_ix ix_tup (pe_ix ix_list (pv 2) pe_int (fun _ _ => rfl)) pe_int (fun _ _ => rfl)) pa_nil))))
    (pss_one (ps_set (i := 2) sc_goes_on_L.nd rfl (.inl rfl) (pe_slice sl_list (pv 2) (po_some pe_int) po_none)))))
    (pss_cons (ps_if (PW.pt (pw_or (pt_cmpR op_ge (pe_callB call_len_seq (by rfl) T.m_len (by decide +kernel) (pa_cons (pe_mth0 (pv 0) T.cl_PlainMachine c_PlainMachine_trail hr (by decide) ps0) pa_nil)) (pe_callB call_len_seq (by rfl) T.m_len (by decide +kernel) (pa_cons (pe_mth0 (pv 1) T.cl_PlainMachine c_PlainMachine_trail hr (by decide) ps0) pa_nil)) (nomark _)) (pw_or1 (pt_cmpR op_notIn_seq (pe_mth0 (pv 0) T.cl_PlainMachine c_PlainMachine_state hr (by decide) ps0) (pe_tup (pa_cons pe_str pa_nil)) (by rfl))))) (pss_one ps_break) pss_nil)
    (pss_one (ps_expr (pe_mth0 (pv 0) T.cl_PlainMachine c_PlainMachine_step hr (by decide) psY))))))
    (pss_one (ps_ret (pe_and (pe_cmpR (op_ownEq q_Core hr (by decide)) (pe_mth0 (pv 0) T.cl_PlainMachine c_PlainMachine_core hr (by decide) psY) (pe_mth0 (pv 1) T.cl_PlainMachine c_PlainMachine_core hr (by decide) psY) (nomark _)) (pe_and (pe_cmpR (op_eqD hu64) (pe_mth0 (pv 0) T.cl_PlainMachine c_PlainMachine_trail hr (by decide) ps0) (pe_mth0 (pv 1) T.cl_PlainMachine c_PlainMachine_trail hr (by decide) ps0) (nomark _)) (pe_one (pe_cmpR (op_eqD hu64) (pe_mth0 (pv 0) T.cl_PlainMachine c_PlainMachine_log hr (by decide) ps0) (pe_mth0 (pv 1) T.cl_PlainMachine c_PlainMachine_log hr (by decide) ps0) (nomark _))))))))), ?_⟩)
  · obtain ⟨p0, k0, m0, lg0, tl0, p, k, m, lg, tl, i0, i1, rfl, _⟩ := h
    rfl
  · obtain ⟨p0, k0, m0, lg0, tl0, p, k, m, lg, tl, i0, i1, rfl, hM0, hM, dj, pth, hi, r0, r1, b0, b1, bl, q⟩ := h
    obtain ⟨more, kk, e1, e2, e3, e4⟩ := Path_get pth hi
    walk_at "go"
    refine ⟨p.o, p.dx, PF p k, rfl, hM.ob, rfl, ?_⟩
    walk_at "go"
    refine ⟨p, k, _, _, _, rfl, hM, fun a1 H1 n1 s1 ea1 => ?_⟩
    walk_at "go"
    refine ⟨p0.o, p0.dx, PF p0 k0, rfl, (hM0.same s1).ob, rfl, ?_⟩
    walk_at "go"
    refine ⟨p0, k0, _, _, _, rfl, hM0.same s1, fun a2 H2 n2 s2 ea2 => ?_⟩
    walk_at "go"
    refine ⟨a2, _, rfl, .inl (sqL ea2), ?_⟩
    rw [List.length_map, hM0.lv.1]
    have lle : lg0.length ≤ p.ls.length := by rw [hM.lv.1, e1, List.length_append]; omega
    walk_at "go"
    refine r_slL (ys := (p.ls.map V.ref).drop lg0.length) (sqL (s2 _ _ ea1)) (cut_from (by rw [List.length_map]; exact lle)) fun la H3 n3 s3 ea3 => ?_
    have s13 := s1.trans (s2.trans s3)
    rw [← List.map_drop] at ea3
    have eT : Tps arvV H3 (p.ls.drop lg0.length) more := by
      have := tps_drop (hM.lv.keep (Same.ts s13)) lg0.length
      rw [e1, List.drop_left] at this
      exact this
    have hM03 := hM0.same s13
    have nla : ¬ OwnM p0 k0 la := hM0.noneM (none_of (s1.trans s2) n3)
    have ri0 : RI lg.length i0 ⟨m0, lg0, tl0, more⟩ := by rw [e1] at r1 ⊢; exact RI_wide r0 r1
    have kk2 : kk ≤ 200 := by have := r1.tn; dsimp only at this; omega
    have mv0 : MMv A.c A.P H p0 k0 H3 p0 k0 m0 lg0 tl0 := MMv.same hM0 s13
    clear ea1 ea2 n1 n2 n3 s1 s2 s3 lle
    walk_at "go"
    refine ⟨_, rfl, by decide, by decide, ?_⟩
    refine forL_it (n := 400) walk_range (fun i σ G => ∃ (x3 : Option V) (s : Cm.Run) (p1 : Pk) (k1 : Cq) (la : Addr) (ts : List Addr), σ = [some (.ref p0.o), some (.ref p.o), some (.ref la), x3] ∧ MMv A.c A.P H p0 k0 G p1 k1 s.m s.lg s.tl ∧ s.come = itc i (Run.come ⟨m0, lg0, tl0, more⟩) ∧ i ≤ kk ∧ G la = some (.lst (ts.map V.ref)) ∧ Tps arvV G ts s.left ∧ ¬ OwnM p1 k1 la ∧ RI lg.length (i0 + i) s) ?_ (fun _ _ _ _ _ => trivial) (fun i x σ G G2 hi hPt hY => ?_) (fun σ G hPt => ?_)
    · exact ⟨none, ⟨m0, lg0, tl0, more⟩, p0, k0, la, _, rfl, mv0, rfl, Nat.zero_le _, ea3, eT, nla, ri0⟩
    · obtain ⟨x3, s, p1, k1, la, ts, rfl, mv, hco, hik, eL, tL, nL, rs⟩ := hPt
      obtain ⟨rfl, rfl⟩ := hY
      clear mv0 ri0 nla eT ea3 hM03
      have rsc := rs.come
      dsimp only
      walk_at "go"
      refine r_cut (fun σ G => ∃ (p2 : Pk) (k2 : Cq) (la : Addr) (ts : List Addr), σ = [some (.ref p0.o), some (.ref p.o), some (.ref la), some (.int (0 + (i : Int)))] ∧ MMv A.c A.P H p0 k0 G p2 k2 s.come.m s.come.lg s.come.tl ∧ G la = some (.lst (ts.map V.ref)) ∧ Tps arvV G ts s.come.left ∧ ¬ OwnM p2 k2 la) ?_ ?_
      · refine r_while (fun d σ G => ∃ (p2 : Pk) (k2 : Cq) (la : Addr) (ts : List Addr) (s2 : Cm.Run), σ = [some (.ref p0.o), some (.ref p.o), some (.ref la), some (.int (0 + (i : Int)))] ∧ MMv A.c A.P H p0 k0 G p2 k2 s2.m s2.lg s2.tl ∧ G la = some (.lst (ts.map V.ref)) ∧ Tps arvV G ts s2.left ∧ ¬ OwnM p2 k2 la ∧ s2.come = s.come ∧ d = s2.left.length ∧ RI lg.length (i0 + i) s2)
          ⟨_, p1, k1, la, ts, s, rfl, mv, eL, tL, nL, rfl, rfl, rs⟩ (fun d σ G hW => ?_)
        obtain ⟨p2, k2, la2, ts2, ⟨m2, lg2, tl2, lf2⟩, rfl, mv2, eL2, tL2, nL2, hc2, rfl, rs2⟩ := hW
        have done : Wtg m2 lf2 → s.come = ⟨m2, lg2, tl2, lf2⟩ := fun hw => by
          rw [← hc2]
          unfold Cm.Run.come
          dsimp only
          rw [arrM_of_wtg hw]
        walk_at "go"
        dsimp only at mv2 tL2 rs2
        refine newLB fun p8 G8 n8 _ s8 e8 => ?_
        have mv8 := mv2.trans (MMv.same mv2.at_ s8)
        have eL8 := s8 _ _ eL2
        have tL8 := tL2.keep (Same.ts s8)
        refine ⟨_, _, dp_arvs tL8 (sqL eL8), .lst (sqL e8) .nil, sh_arvs _, sh_nil, ?_⟩
        rw [eqv_nil]
        cases lf2 with
        | nil =>
          walk_at "go"
          have hd := done (fun a r e => nomatch e)
          exact ⟨p2, k2, la2, ts2, rfl, by rw [hd]; exact mv8, eL8, by rw [hd]; exact tL8, nL2⟩
        | cons z r =>
          obtain ⟨t, ts3, rfl⟩ : ∃ t ts3, ts2 = t :: ts3 := by
            have := tL8.1
            cases ts2 with
            | nil => exact nomatch this
            | cons t l => exact ⟨t, l, rfl⟩
          have etv : G8 t = some (.tup (arvV z)) := tL8.2 0 t z rfl rfl
          have eix : atI ((t :: ts3).map V.ref) 0 = some (.ref t) := atI_nat (j := 0) rfl
          rw [decide_eq_false (show ¬ List.map arvD (z :: r) = [] from fun y => nomatch y)]
          walk_at "go"
          refine r_ixL (sqL eL8) eix ?_
          walk_at "go"
          refine r_ixT (SqT.of etv) (v := .int (z.tm : Nat)) rfl ?_
          walk_at "go"
          refine ⟨p0.o, p2.dx, PF p2 k2, rfl, by rw [← mv8.oo]; exact mv8.at_.ob, rfl, ?_⟩
          walk_at "go"
          refine ⟨p2, k2, m2, lg2, _, by rw [mv8.oo], mv8.at_, ?_⟩
          walk_at "go"
          by_cases hdue : z.tm ≤ m2.tm
          · rw [decide_eq_true (show ((z.tm : Nat) : Int) ≤ (m2.tm : Nat) by omega)]
            walk_at "go"
            refine ⟨p0.o, p2.dx, PF p2 k2, rfl, by rw [← mv8.oo]; exact mv8.at_.ob, rfl, ?_⟩
            walk_at "go"
            refine ⟨p2, k2, m2, lg2, _, by rw [mv8.oo], mv8.at_, ?_⟩
            walk_at "go"
            refine newT fun tq Gq nq sq eq => ?_
            have mvq := mv8.trans (MMv.same mv8.at_ sq)
            have eLq := sq _ _ eL8
            have tLq := tL8.keep (Same.ts sq)
            have etq := sq _ _ etv
            refine ⟨tq, _, rfl, .inr (sqT eq), rfl, rfl, _, rfl, ?_⟩
            rw [if_neg Bool.false_ne_true, st_in]
            by_cases ha : m2.alive = true
            · rw [if_pos ha]
              have hst := st_alive ha
              have hw := rs2.wl z List.mem_cons_self
              have en : arrM m2 lg2 (z :: r) = arrM (comesM m2 z.net z.wd) (lg2 ++ [⟨m2.tm, z.net, z.wd⟩]) r := by rw [arrM, if_pos ⟨hdue, ha⟩]
              refine ⟨fun σ G => ∃ (p2 : Pk) (k2 : Cq) (la : Addr) (ts : List Addr), σ = [some (.ref p0.o), some (.ref p.o), some (.ref la), some (.int (0 + (i : Int)))] ∧ MMv A.c A.P H p0 k0 G p2 k2 (comesM m2 z.net z.wd) (lg2 ++ [⟨m2.tm, z.net, z.wd⟩]) tl2 ∧ G la = some (.lst (ts.map V.ref)) ∧ Tps arvV G ts r ∧ ¬ OwnM p2 k2 la, fun σ G hN => ?_, ?_⟩
              · obtain ⟨p3, k3, la3, ts4, e1', e2', e3', e4', e5'⟩ := hN
                refine ⟨r.length, by rw [List.length_cons]; omega, p3, k3, la3, ts4, ⟨comesM m2 z.net z.wd, lg2 ++ [⟨m2.tm, z.net, z.wd⟩], tl2, r⟩, e1', e2', e3', e4', e5', ?_, rfl, RI_one rs2⟩
                rw [← hc2]
                unfold Cm.Run.come
                dsimp only
                rw [en]
              walk_at "go"
              refine ⟨p0.o, p2.dx, PF p2 k2, rfl, by rw [← mv8.oo]; exact mvq.at_.ob, rfl, ?_⟩
              walk_at "go"
              refine r_ixL (sqL eLq) eix ?_
              walk_at "go"
              refine r_ixT (SqT.of etq) (v := .str (kq z.net)) rfl ?_
              walk_at "go"
              refine r_ixL (sqL eLq) eix ?_
              walk_at "go"
              refine r_ixT (SqT.of etq) (v := .int (z.wd : Nat)) rfl ?_
              walk_at "go"
              refine .inl ⟨p2, k2, m2, lg2, _, _, z.net, z.wd, by rw [mv8.oo], mvq.at_, rs2.lm, by dsimp only; omega, by have := rs2.sm; dsimp only at this; omega, hst, hw, fun p3 k3 G3 mv3 => ?_⟩
              have mv03 := mvq.trans mv3
              have eL3 := mv3.fr _ _ nL2 eLq
              have nL3 : ¬ OwnM p3 k3 la2 := fun y => (mv3.nw _ y).elim nL2 fun y => by rw [eLq] at y; exact nomatch y
              have tL3 := tLq.keep (mv3.ts mvq.at_)
              walk_at "go"
              refine r_slL (ys := (ts3.map V.ref)) (sqL eL3) (by rw [show (1 : Int) = ((1 : Nat) : Int) from rfl, cut_from (by rw [List.length_map, List.length_cons]; omega)]; rfl) fun lb G4 n4 s4 e4' => ?_
              walk_at "go"
              have tL4 := tps_drop (tL3.keep (Same.ts s4)) 1
              exact ⟨p3, k3, lb, ts3, rfl, mv03.trans (MMv.same mv3.at_ s4), e4', tL4, mv3.at_.noneM n4⟩
            · rw [if_neg ha]
              walk_at "go"
              have hd := done (fun a r' e => .inr (Bool.eq_false_iff.mpr ha))
              exact ⟨p2, k2, la2, _, rfl, by rw [hd]; exact mvq, eLq, by rw [hd]; exact tLq, nL2⟩
          · rw [decide_eq_false (show ¬ ((z.tm : Nat) : Int) ≤ (m2.tm : Nat) by omega)]
            walk_at "go"
            have hd := done (fun a r' e => .inl (by injection e with e1 e2; rw [← e1]; omega))
            exact ⟨p2, k2, la2, _, rfl, by rw [hd]; exact mv8, eL8, by rw [hd]; exact tL8, nL2⟩
      clear mv eL tL nL
      rintro σ G3 ⟨p2, k2, la2, ts2, rfl, mv, eL, tL, nL⟩
      have hMG : MAt A.c A.P G3 p k m lg tl := hM.keep (fun b u o e => mv.fr b u (fun z => dj b z o) e) (mv.ts hM0)
      rw [hco] at mv tL rsc
      walk_at "go"
      refine ⟨p0.o, p2.dx, PF p2 k2, rfl, by rw [← mv.oo]; exact mv.at_.ob, rfl, ?_⟩
      walk_at "go"
      refine ⟨p2, k2, _, _, _, by rw [mv.oo], mv.at_, fun a5 H5 n5 s5 ea5 => ?_⟩
      have mv5 := mv.trans (MMv.same mv.at_ s5)
      have hM5 := hMG.same s5
      have tL5 := tL.keep (Same.ts s5)
      walk_at "go"
      refine ⟨a5, _, rfl, .inl (sqL ea5), ?_⟩
      walk_at "go"
      refine ⟨p.o, p.dx, PF p k, rfl, hM5.ob, rfl, ?_⟩
      walk_at "go"
      refine ⟨p, k, m, lg, tl, rfl, hM5, fun a6 H6 n6 s6 ea6 => ?_⟩
      have mv6 := mv5.trans (MMv.same mv5.at_ s6)
      have hM6 := hM5.same s6
      have tL6 := tL5.keep (Same.ts s6)
      have eL6 := (s5.trans s6) _ _ eL
      walk_at "go"
      refine ⟨a6, _, rfl, .inl (sqL ea6), ?_⟩
      rw [hM6.tv.1, mv6.at_.tv.1]
      walk_at "go"
      by_cases hk : i < kk
      · obtain ⟨st, tn⟩ := e4 i hk
        rw [tn, e2, decide_eq_false (show ¬ ((tl0.length + kk : Nat) : Int) ≤ (tl0.length + i : Nat) by omega)]
        walk_at "go"
        refine ⟨p0.o, p2.dx, PF p2 k2, rfl, by rw [← mv6.oo]; exact mv6.at_.ob, rfl, ?_⟩
        walk_at "go"
        refine ⟨p2, k2, _, _, _, by rw [mv6.oo], mv6.at_, ?_⟩
        walk_at "go"
        rw [st]
        refine newT fun tq Gq nq sq eq => ?_
        refine ⟨tq, _, rfl, .inr (sqT eq), rfl, rfl, _, rfl, ?_⟩
        have mvq := mv6.trans (MMv.same mv6.at_ sq)
        have tLq := tL6.keep (Same.ts sq)
        have eLq := sq _ _ eL6
        walk_at "go"
        rw [if_pos rfl, (by decide +kernel : inV (V.str Cm.St.runs.s) [V.str (Str.ofString "runs")] = true)]
        walk_at "go"
        refine ⟨p0.o, p2.dx, PF p2 k2, rfl, by rw [← mvq.oo]; exact mvq.at_.ob, rfl, ?_⟩
        walk_at "go"
        have lt : tl.length ≤ 200 := by have := r1.tn; dsimp only at this; omega
        refine .inl ⟨p2, k2, _, _, _, _, by rw [mvq.oo], mvq.at_, rsc.lm, by omega, by rw [tn]; omega, .inl st, fun p3 k3 v H7 mv7 rv => ?_⟩
        have mvr := mvq.trans mv7
        walk_at "go"
        refine ⟨_, Cm.Run.step (itc i (Run.come ⟨m0, lg0, tl0, more⟩)), p3, k3, la2, ts2, rfl, mvr, rfl, hk, mv7.fr _ _ nL eLq, tLq.keep (mv7.ts mvq.at_), (fun y => (mv7.nw _ y).elim nL fun y => by rw [eLq] at y; exact nomatch y), RI.step rsc⟩
      · have hkk : i = kk := by omega
        subst hkk
        rw [e3] at mv6 rsc
        rw [e3, decide_eq_true (show ((tl.length : Nat) : Int) ≤ (tl.length : Nat) by omega)]
        walk_at "go"
        dsimp only at mv6 rsc
        unfold tBreak
        dsimp only
        walk_at "go"
        refine ⟨p0.o, p2.dx, PF p2 k2, rfl, by rw [← mv6.oo]; exact mv6.at_.ob, rfl, ?_⟩
        walk_at "go"
        refine ⟨p2, k2, m, lg, tl, _, by rw [mv6.oo], mv6.at_, rsc.lm, by dsimp only; omega, fun kA H7 s7 cA fA => ?_⟩
        have mv7 := mv6.trans (MMv.same mv6.at_ s7)
        have hM7 := hM6.same s7
        walk_at "go"
        refine ⟨p.o, p.dx, PF p k, rfl, hM7.ob, rfl, ?_⟩
        walk_at "go"
        refine ⟨p, k, m, lg, tl, _, rfl, hM7, rsc.lm, by dsimp only; omega, fun kB H8 s8 cB fB => ?_⟩
        have mv8 := mv7.trans (MMv.same mv7.at_ s8)
        have hM8 := hM7.same s8
        have cA8 := cA.same s8
        walk_at "go"
        have dA : DIns A.c.C (Alike A) (.ref kA.o) (.ref kB.o) H8 := ⟨kA.o, kB.o, _, _, _, _, rfl, rfl, cA8.nm 0 _ _ rfl, cB.nm 0 _ _ rfl, kA, kB, m, _, rfl, rfl, cA8, cB, rsc.lm, by dsimp only; omega⟩
        refine ⟨dA, fun H9 s9 => ?_⟩
        have s9 : Same H8 H9 := s9
        have mv9 := mv8.trans (MMv.same mv8.at_ s9)
        have hM9 := hM8.same s9
        walk_at "go"
        refine ⟨p0.o, p2.dx, PF p2 k2, rfl, by rw [← mv9.oo]; exact mv9.at_.ob, rfl, ?_⟩
        walk_at "go"
        refine ⟨p2, k2, m, lg, tl, by rw [mv9.oo], mv9.at_, fun b1 Ha na sa ea => ?_⟩
        have mva := mv9.trans (MMv.same mv9.at_ sa)
        have hMa := hM9.same sa
        walk_at "go"
        refine ⟨p.o, p.dx, PF p k, rfl, hMa.ob, rfl, ?_⟩
        walk_at "go"
        refine ⟨p, k, m, lg, tl, rfl, hMa, fun b2 Hb nb sb eb => ?_⟩
        have mvb := mva.trans (MMv.same mva.at_ sb)
        have hMb := hMa.same sb
        have sT := sh_tr fun z hz => (rsc.ro z hz).2
        walk_at "go"
        refine ⟨_, _, dp_of (dq_tr (sb _ _ ea) mvb.at_.tv), dp_of (dq_tr eb hMb.tv), sT, sT, ?_⟩
        rw [SeqAt.eqv_refl _ (SeqAt.canLay_of_shaped sT)]
        walk_at "go"
        refine ⟨p0.o, p2.dx, PF p2 k2, rfl, by rw [← mvb.oo]; exact mvb.at_.ob, rfl, ?_⟩
        walk_at "go"
        refine ⟨p2, k2, m, lg, tl, by rw [mvb.oo], mvb.at_, fun b3 Hc nc sc ec => ?_⟩
        have mvc := mvb.trans (MMv.same mvb.at_ sc)
        have hMc := hMb.same sc
        walk_at "go"
        refine ⟨p.o, p.dx, PF p k, rfl, hMc.ob, rfl, ?_⟩
        walk_at "go"
        refine ⟨p, k, m, lg, tl, rfl, hMc, fun b4 Hd nd sd ed => ?_⟩
        have mvd := mvc.trans (MMv.same mvc.at_ sd)
        have hMd := hMc.same sd
        walk_at "go"
        refine ⟨_, _, dp_of (dq_lg (sd _ _ ec) mvd.at_.lv), dp_of (dq_lg ed hMd.lv), sh_arvs lg, sh_arvs lg, ?_⟩
        rw [show lgD lg = .list (lg.map arvD) from rfl, SeqAt.eqv_refl _ (SeqAt.canLay_of_shaped (sh_arvs lg))]
        exact q p2 k2 Hd mvd
    · obtain ⟨x3, s, p1, k1, la, ts, rfl, mv, hco, hik, eL, tL, nL, rs⟩ := hPt
      omega
end
end K15

namespace K15
open PySem PySem.Spec PyProof.Rows L2 Bk Rm Cm
/-! ### the law's machine, and its twins beside it -/
theorem wait_busy {m : M} {f : Nat} (hs : m.st = .runs) (hn : m.nt ≠ []) : (Cm.wait m f).1.st ≠ .idle := by
  unfold Cm.wait
  rw [if_neg fun z => hn z.2.2]
  show m.st ≠ _
  rw [hs]
  exact fun z => nomatch z
theorem step_busy {m : M} (hr : m.st = .runs) (hn : m.nt ≠ []) : (Cm.step m).1.st ≠ .idle := by
  have ht : ∀ m : M, m.st = .runs → ∀ c, (trapM m c).1.st ≠ .idle := fun m h c => by
    unfold trapM
    split
    · exact fun z => nomatch z
    · show m.st ≠ _
      rw [h]
      exact fun z => nomatch z
  obtain ⟨m1, e1⟩ : ∃ m1 : M, m1 = { serve m with st := .runs } := ⟨_, rfl⟩
  have hs : m1.st = .runs := by rw [e1]
  have h1 : m1.nt ≠ [] := by
    rw [e1]
    exact hn
  obtain ⟨f, ef⟩ : ∃ f, f = (ready m).length := ⟨_, rfl⟩
  have hstep : Cm.step m = act m1 f := by rw [e1, ef]; rfl
  rw [hstep]
  unfold act
  split
  · exact ht _ hs _
  · dsimp only
    split
    · exact wait_busy hs h1
    · have ex : ∀ z : M × Out, z.1.st ≠ .idle → (onward m1 z).1.st ≠ .idle := fun z es => by
        unfold onward
        split
        · unfold trapM
          split
          · exact fun z => nomatch z
          · exact es
        · exact es
        · exact es
      exact ex _ (exec_go hs).2
theorem comes_tm {m : M} {b : Bool} {x : Nat} : (comesM m b x).tm = m.tm := by unfold comesM; split <;> rfl
theorem comes_runs {m : M} {b : Bool} {x : Nat} : (comesM m b x).st = .runs := by unfold comesM; split <;> rfl
theorem comes_busy {m : M} {x : Nat} : (comesM m true x).nt ≠ [] := by
  show m.nt ++ [x] ≠ []
  exact fun z => nomatch (List.append_eq_nil_iff.mp z).2
theorem step_le {m : M} : m.tm ≤ (Cm.step m).1.tm := by
  rcases step_tm (m := m) with ⟨h, _⟩ | ⟨h, _⟩ <;> omega
theorem RI_arrive {L i : Nat} {m : M} {lg : List Arv} {tl : List Cm.Row} (h : RI L i ⟨m, lg, tl, []⟩) {b : Bool} {x : Nat} (hx : x ≤ kmax b) : RI (L + 1) i ⟨comesM m b x, lg ++ [⟨m.tm, b, x⟩], tl, []⟩ := by
  have tm := h.lm.tm
  have sm := h.sm
  have lm := comesM_lim (b := b) (x := x) h.lm
  dsimp only at tm sm lm
  rw [List.length_nil] at tm sm lm
  refine ⟨comesM_ok h.ok hx, lm.mono (by dsimp only; rw [List.length_nil]; omega), h.tn, fun z hz => ⟨row_mono (h.ro z hz).1 (by omega), (h.ro z hz).2⟩, by dsimp only; rw [List.length_append]; simp only [List.length_cons, List.length_nil]; omega, fun z hz => (nomatch hz), fun z hz => ?_⟩
  rcases List.mem_append.mp hz with y | y
  · exact ⟨(h.wg z y).1, by have := (h.wg z y).2; omega⟩
  · rw [List.mem_singleton.mp y]
    exact ⟨hx, by show m.tm ≤ _; omega⟩
structure Tw where
  p : Pk
  k : Cq
  m : M
  lg : List Arv
  tl : List Cm.Row
  i : Nat
def Tw.own (t : Tw) (b : Addr) : Prop := OwnM t.p t.k b
/-- a twin as it was made -/
structure TwAt (A : Ad) (G : Hp) (p : Pk) (k : Cq) (m : M) (lg : List Arv) (tl : List Cm.Row) (t : Tw) : Prop where
  at_ : MAt A.c A.P G t.p t.k t.m t.lg t.tl
  dj : ∀ b, t.own b → ¬ OwnM p k b
  pa : Path t.m t.lg t.tl m lg tl
  ri : RI t.lg.length t.i ⟨t.m, t.lg, t.tl, []⟩
  le : t.i ≤ 200
structure Sg (A : Ad) (H0 G : Hp) (Lt : Addr) (ws : List Tw) (rows rms : List (List Nat)) (p : Pk) (k : Cq) (m : M) (lg : List Arv) (tl : List Cm.Row) (i : Nat) : Prop where
  kp : Same H0 G
  ma : MAt A.c A.P G p k m lg tl
  fz : ∀ b, OwnM p k b → H0 b = none
  el : G Lt = some (.lst (ws.map fun t => V.ref t.p.o))
  fl : H0 Lt = none
  nl : ¬ OwnM p k Lt
  nt : ∀ t ∈ ws, ¬ t.own Lt ∧ ∀ b, t.own b → H0 b = none
  tw : ∀ t ∈ ws, TwAt A G p k m lg tl t
  pw : ws.Pairwise fun s t => ∀ b, s.own b → ¬ t.own b
  re : Reach rows rms m lg tl
  ri : RI lg.length i ⟨m, lg, tl, []⟩
  so : lg.Pairwise fun x y => x.tm ≤ y.tm
  sl : ∀ z ∈ lg, z.tm ≤ m.tm
/-- no part of what stands here -/
def Sg.Out (Lt : Addr) (ws : List Tw) (p : Pk) (k : Cq) (b : Addr) : Prop := ¬ OwnM p k b ∧ (∀ t ∈ ws, ¬ t.own b) ∧ b ≠ Lt
section
variable {A : Ad} {H0 G G' : Hp} {Lt : Addr} {ws : List Tw} {rows rms : List (List Nat)} {p p' : Pk} {k k' : Cq} {m m' : M} {lg lg' : List Arv} {tl tl' : List Cm.Row} {i : Nat}
theorem Sg.out (h : Sg A H0 G Lt ws rows rms p k m lg tl i) {b : Addr} (e : G b = none) : Sg.Out Lt ws p k b :=
  ⟨h.ma.noneM e, fun t ht => (h.tw t ht).at_.noneM e, fun z => by rw [z, h.el] at e; exact nomatch e⟩
theorem Sg.keep (h : Sg A H0 G Lt ws rows rms p k m lg tl i) (kp : Same H0 G') (f : ∀ b u, (OwnM p k b ∨ (∃ t ∈ ws, t.own b) ∨ b = Lt) → G b = some u → G' b = some u) (ts : TS G G') : Sg A H0 G' Lt ws rows rms p k m lg tl i :=
  { h with kp := kp, ma := h.ma.keep (fun b u o => f b u (.inl o)) ts, el := f _ _ (.inr (.inr rfl)) h.el, tw := fun t ht => { h.tw t ht with at_ := (h.tw t ht).at_.keep (fun b u o => f b u (.inr (.inl ⟨t, ht, o⟩))) ts } }
theorem Sg.same (h : Sg A H0 G Lt ws rows rms p k m lg tl i) (s : Same G G') : Sg A H0 G' Lt ws rows rms p k m lg tl i := h.keep (h.kp.trans s) (fun b u _ e => s _ _ e) (Same.ts s)
theorem Sg.but (h : Sg A H0 G Lt ws rows rms p k m lg tl i) {x : Addr} (o : Sg.Out Lt ws p k x) (nx : H0 x = none) (b : But x G G') (ts : TS G G') : Sg A H0 G' Lt ws rows rms p k m lg tl i := by
  refine h.keep (fun c u e => b _ _ (fun z => by rw [z, nx] at e; exact nomatch e) (h.kp _ _ e)) (fun c u oc e => b _ _ (fun z => ?_) e) ts
  subst z
  rcases oc with oc | ⟨t, ht, oc⟩ | oc
  · exact o.1 oc
  · exact o.2.1 t ht oc
  · exact o.2.2 oc
theorem Sg.kpM (h : Sg A H0 G Lt ws rows rms p k m lg tl i) (mv : MMv A.c A.P G p k G' p' k' m' lg' tl') : Same H0 G' := fun c u e => mv.fr _ _ (fun z => by rw [h.fz c z] at e; exact nomatch e) (h.kp _ _ e)
theorem Sg.outM (h : Sg A H0 G Lt ws rows rms p k m lg tl i) (mv : MMv A.c A.P G p k G' p' k' m' lg' tl') {b : Addr} {u : HO} (o : Sg.Out Lt ws p k b) (e : G b = some u) : Sg.Out Lt ws p' k' b :=
  ⟨fun z => (mv.nw b z).elim o.1 (fun y => by rw [e] at y; exact nomatch y), o.2⟩
theorem Sg.move (h : Sg A H0 G Lt ws rows rms p k m lg tl i) (mv : MMv A.c A.P G p k G' p' k' m' lg' tl') (pa : ∀ {m0 : M} {lg0 : List Arv} {tl0 : List Cm.Row}, Path m0 lg0 tl0 m lg tl → Path m0 lg0 tl0 m' lg' tl') (re : Reach rows rms m' lg' tl') {i' : Nat} (ri : RI lg'.length i' ⟨m', lg', tl', []⟩) (so : lg'.Pairwise fun x y => x.tm ≤ y.tm) (sl : ∀ z ∈ lg', z.tm ≤ m'.tm) : Sg A H0 G' Lt ws rows rms p' k' m' lg' tl' i' := by
  have ts := mv.ts h.ma
  refine ⟨h.kpM mv, mv.at_, fun b hb => (mv.nw b hb).elim (h.fz b) fun z => none_of h.kp z, mv.fr _ _ h.nl h.el, h.fl, fun z => (mv.nw _ z).elim h.nl fun y => ?_, h.nt, fun t ht => ?_, h.pw, re, ri, so, sl⟩
  · rw [h.el] at y
    exact nomatch y
  · have a := h.tw t ht
    refine ⟨a.at_.keep (fun b u o e => mv.fr _ _ (a.dj b o) e) ts, fun b o z => (mv.nw b z).elim (a.dj b o) fun y => ?_, pa a.pa, a.ri, a.le⟩
    obtain ⟨u, e, _⟩ := a.at_.has o
    rw [y] at e
    exact nomatch e
theorem Sg.arrive (h : Sg A H0 G Lt ws rows rms p k m lg tl i) (hs : m.st = .runs ∨ m.st = .idle) {b : Bool} {x : Nat} (hx : x ≤ kmax b) (mv : MMv A.c A.P G p k G' p' k' (comesM m b x) (lg ++ [⟨m.tm, b, x⟩]) tl) : Sg A H0 G' Lt ws rows rms p' k' (comesM m b x) (lg ++ [⟨m.tm, b, x⟩]) tl i := by
  refine h.move mv (fun z => z.arrive hs b x) (h.re.arrive hs b x) (by rw [List.length_append]; exact RI_arrive h.ri hx) (List.pairwise_append.mpr ⟨h.so, List.pairwise_singleton _ _, fun z hz y hy => by rw [List.mem_singleton.mp hy]; exact h.sl z hz⟩) fun z hz => ?_
  rw [comes_tm]
  rcases List.mem_append.mp hz with y | y
  · exact h.sl z y
  · rw [List.mem_singleton.mp y]
    exact Nat.le_refl _
theorem Sg.step (h : Sg A H0 G Lt ws rows rms p k m lg tl i) (hs : m.st = .runs) (mv : MMv A.c A.P G p k G' p' k' (Cm.step m).1 lg (tl ++ (Cm.step m).2.toList)) : Sg A H0 G' Lt ws rows rms p' k' (Cm.step m).1 lg (tl ++ (Cm.step m).2.toList) (i + 1) :=
  h.move mv (fun z => z.step hs) (h.re.step hs) (RI.step h.ri) h.so fun z hz => Nat.le_trans (h.sl z hz) step_le
/-- a twin more -/
theorem Sg.twin (h : Sg A H0 G Lt ws rows rms p k m lg tl i) (hi : i ≤ 200) (s : Same G G') (ma : MAt A.c A.P G' p' k' m lg tl) (fr : ∀ b, OwnM p' k' b → G b = none) : Sg A H0 (upd G' Lt (.lst (ws.map (fun t => V.ref t.p.o) ++ [.ref p'.o]))) Lt (ws ++ [⟨p', k', m, lg, tl, i⟩]) rows rms p k m lg tl i := by
  have h' := h.same s
  have ts : TS G' (upd G' Lt (.lst (ws.map (fun t => V.ref t.p.o) ++ [.ref p'.o]))) := ts_upd h'.el
  have f : ∀ b u, b ≠ Lt → G' b = some u → upd G' Lt (.lst (ws.map (fun t => V.ref t.p.o) ++ [.ref p'.o])) b = some u := fun b u n e => by rw [upd_ne n]; exact e
  have nL : ¬ OwnM p' k' Lt := fun z => by have := fr _ z; rw [h.el] at this; exact nomatch this
  refine ⟨fun c u e => f _ _ (fun z => by rw [z, h.fl] at e; exact nomatch e) (h'.kp _ _ e), h'.ma.keep (fun b u o => f b u fun z => h.nl (z ▸ o)) ts, h.fz, by rw [upd_same, List.map_append]; rfl, h.fl, h.nl, fun t ht => ?_, fun t ht => ?_, ?_, h.re, h.ri, h.so, h.sl⟩
  · rcases List.mem_append.mp ht with z | z
    · exact h.nt t z
    · rw [List.mem_singleton.mp z]
      exact ⟨nL, fun b hb => none_of h.kp (fr b hb)⟩
  · rcases List.mem_append.mp ht with z | z
    · have a := h'.tw t z
      exact { a with at_ := a.at_.keep (fun b u o => f b u fun y => (h.nt t z).1 (y ▸ o)) ts }
    · rw [List.mem_singleton.mp z]
      refine ⟨ma.keep (fun b u o => f b u fun y => nL (y ▸ o)) ts, fun b hb o => ?_, Path.refl, h.ri, hi⟩
      obtain ⟨u, e, _⟩ := h.ma.has o
      rw [fr b hb] at e
      exact nomatch e
  · refine List.pairwise_append.mpr ⟨h.pw, List.pairwise_singleton _ _, fun t ht y hy b o o2 => ?_⟩
    rw [List.mem_singleton.mp hy] at o2
    obtain ⟨u, e, _⟩ := (h.tw t ht).at_.has o
    rw [fr b o2] at e
    exact nomatch e
theorem Sg.outW {b : Addr} (o : Sg.Out Lt ws p k b) (n : ¬ OwnM p' k' b) : Sg.Out Lt (ws ++ [⟨p', k', m, lg, tl, i⟩]) p k b :=
  ⟨o.1, fun t ht => (List.mem_append.mp ht).elim (o.2.1 t) (fun y => by rw [List.mem_singleton.mp y]; exact n), o.2.2⟩
end
end K15

namespace K15
open PySem PySem.Spec PyProof.Rows L2 Bk Rm Cm


def spLaw (K : PySem.W.Frag) : Sp := fun vs H Q _ => ∃ (a : Addr) (ns : List Int), vs = [.ref a] ∧ SqL K H a (ns.map V.int) ∧ ns.length ≤ 63 ∧ ∀ H', Q (.bl true) H'
/-- where the law is: how much came, was stepped, was made a twin of at most -/
def Lw (A : Ad) (H1 G : Hp) (Lt po : Addr) (rows rms : List (List Nat)) (L I J : Nat) : Prop := ∃ (p : Pk) (k : Cq) (m : M) (lg : List Arv) (tl : List Cm.Row) (ws : List Tw) (i : Nat), p.o = po ∧ Sg A H1 G Lt ws rows rms p k m lg tl i ∧ lg.length ≤ L ∧ i ≤ I ∧ ws.length ≤ J
def Lb (A : Ad) (H1 G : Hp) (Lt po bx : Addr) (rows rms : List (List Nat)) (L I J N : Nat) : Prop := ∃ (p : Pk) (k : Cq) (m : M) (lg : List Arv) (tl : List Cm.Row) (ws : List Tw) (i n : Nat), p.o = po ∧ Sg A H1 G Lt ws rows rms p k m lg tl i ∧ lg.length ≤ L ∧ i ≤ I ∧ ws.length ≤ J ∧ Box bx n G ∧ n ≤ N ∧ Sg.Out Lt ws p k bx
theorem dq_eight {K : PySem.W.Frag} {H : Hp} {a : Addr} {rows : List (List Nat)} (h : Eight H a rows) : Dq false K H (.ref a) (.tuple (rows.map fun r => .tuple (numsD r))) := by
  obtain ⟨ts, e, l, g⟩ := h
  exact .tup (SqT.of e) (dqa_rowsT l g)
theorem sh_eight (rows : List (List Nat)) : SeqAt.shaped (.tuple (rows.map fun r => PyData.tuple (numsD r))) = true := by
  obtain ⟨h1, h2⟩ := lay_rowsT rows
  unfold SeqAt.shaped
  generalize (rows.map fun r => PyData.tuple (numsD r)) = X at h1 h2
  rw [show PyData.canLay0 (.tuple X) = true from h1, Bool.true_and]
  exact decide_eq_true (show PyData.depthAll X + 1 ≤ 64 by omega)
theorem st_run {m : M} : decide (V.str m.st.s = V.str (Str.ofString "runs")) = decide (m.st = .runs) := by cases m.st <;> decide +kernel
theorem st_idl {m : M} : decide (V.str m.st.s = V.str (Str.ofString "idle")) = decide (m.st = .idle) := by cases m.st <;> decide +kernel
theorem box_mv {A : Ad} {G G' : Hp} {bx : Addr} {n : Nat} {p p' : Pk} {k k' : Cq} {m' : M} {lg' : List Arv} {tl' : List Cm.Row} (h : Box bx n G) (mv : MMv A.c A.P G p k G' p' k' m' lg' tl') (o : ¬ OwnM p k bx) : Box bx n G' := by
  obtain ⟨x, y, z, e, r⟩ := h
  exact ⟨x, y, z, mv.fr _ _ o e, r⟩
section
variable {P : Program} {w : World} {K : PySem.W.Frag} {mg : Str → Option Value} {base : Heap} {A : Ad}
theorem ok_law {f : Addr} {fd : FuncData} (F : Fun K "law" "law" s_law f fd) (T : Txt K mg A) (q_Core : CalEq P w K mg base 7 A.c.C (Alike A)) (c_cell_L : CalD P w K mg base CX0 1 "_law_cell" (Bk.spCell K) []) (c_box_L : CalD P w K mg base CX0 1 "_law_box" spBox []) (c_take_L : CalD P w K mg base CX0 1 "_law_take" spTake []) (c_image_L : CalD P w K mg base CX0 3 "_law_image" spImage []) (c_goes_on_L : CalD P w K mg base CX0 13 "_law_goes_on" (spGoes A) []) (k_run_alone_2_end : CalMX P w K mg base 14 2 ["end"] "run_alone" (spRunA A K) (fun vs zs => vs ++ zs))
    (c_PlainMachine_init : CalC P w K mg base (L2.CX P w) 9 A.P "PlainMachine" (spMI A)) (c_PlainMachine_twin : CalM P w K mg base (L2.CX P w) 12 A.P "twin" (spMTwin A)) (c_PlainMachine_log : CalM P w K mg base CX0 6 A.P "log" (spMLog A)) (c_PlainMachine_trail : CalM P w K mg base CX0 6 A.P "trail" (spMTrail A)) (c_PlainMachine_time : CalM P w K mg base CX0 6 A.P "time" (spMTime A)) (c_PlainMachine_state : CalM P w K mg base CX0 6 A.P "state" (spMState A)) (c_PlainMachine_arrive : CalM P w K mg base (L2.CX P w) 6 A.P "arrive" (spMArr2 A)) (c_PlainMachine_step : CalM P w K mg base (L2.CX P w) 12 A.P "step" (spMStep2 A)) (c_PlainMachine_core : CalM P w K mg base (L2.CX P w) 11 A.P "core" (spMCore A)) (c_PlainMachine_store : CalM P w K mg base (L2.CX P w) 9 A.P "store" (spMStore A)) (c_PlainStore_rooms : CalM P w K mg base CX0 5 A.c.S "rooms" (spRooms A)) : FnG P w K mg base CX0 15 f fd ["_law_script"] (spLaw K) := by
  refine fun_okG F sc_law (fun vs H Q E h => ?_) (fun cdv A' outer s H vs Q E ga hr h => have hu65 := units65 hr; have hu64 := hr.units; have hu := units1 hr; ⟨_, (pss_cons (ps_set (i := 1) sc_law.nd rfl (.inl rfl) (pe_cal c_image_L hr (by decide) (by rfl) (pa_cons (pe_cal c_box_L hr (by decide) (by rfl) (pa_cons (pe_cal c_cell_L hr (by decide) (by rfl) (pa_cons (pv 0) (pa_cons pe_int pa_nil))) pa_nil)) pa_nil)))
    (pss_cons (ps_set (i := 2) sc_law.nd rfl (.inr rfl) (pe_mk c_PlainMachine_init hr (by decide) (by rfl) psY (pa_cons (pv 1) pa_nil)))
    (pss_cons (ps_set (i := 3) sc_law.nd rfl (.inl rfl) (pe_lstB pa_nil))
    (pss_cons (ps_for PassesOwn.never rfl (pi_range2 (by rfl) T.m_range (pa_cons pe_int (pa_cons (pe_callB (call_max2 rfl) (by rfl) T.m_max (by decide +kernel) (pa_cons pe_int (pa_cons (pe_callB (call_min2 rfl) (by rfl) T.m_min (by decide +kernel) (pa_cons (pe_callB call_len_seq (by rfl) T.m_len (by decide +kernel) (pa_cons (pv 0) pa_nil)) (pa_cons pe_int pa_nil))) pa_nil))) pa_nil))) (pg_name (i := 4) sc_law.nd rfl (.inl rfl))
      (pss_cons (ps_set (i := 5) sc_law.nd rfl (.inl rfl) (pe_cal c_box_L hr (by decide) (by rfl) (pa_cons (pe_cal c_cell_L hr (by decide) (by rfl) (pa_cons (pv 0) (pa_cons (pv 4) pa_nil))) pa_nil)))
    (pss_cons (ps_expr (pe_bm PySem.F.plainAttrs_list PySem.F.slot_list_append PySem.F.type_list_append mt_append (pv 3) (pa_cons (pe_mth0 (pv 2) T.cl_PlainMachine c_PlainMachine_twin hr (by decide) psY) pa_nil)))
    (pss_cons (ps_for PassesOwn.never rfl (pi_range1 (by rfl) T.m_range (pa_cons (pe_cal c_take_L hr (by decide) (by rfl) (pa_cons (pv 5) (pa_cons pe_int pa_nil))) pa_nil)) (pg_name (i := 6) sc_law.nd rfl (.inl rfl))
      (pss_one (ps_if (pt_cmpR op_in_seq (pe_mth0 (pv 2) T.cl_PlainMachine c_PlainMachine_state hr (by decide) ps0) (pe_tup (pa_cons pe_str (pa_cons pe_str pa_nil))) (by rfl)) (pss_one (ps_expr (pe_mth (pv 2) T.cl_PlainMachine c_PlainMachine_arrive hr (by decide) psY (pa_cons (pe_ix ix_list (pe_lstB (pa_cons pe_str (pa_cons pe_str pa_nil))) (pe_cal c_take_L hr (by decide) (by rfl) (pa_cons (pv 5) (pa_cons pe_int pa_nil))) (fun _ _ => rfl)) (pa_cons (pe_cal c_take_L hr (by decide) (by rfl) (pa_cons (pv 5) (pa_cons pe_int pa_nil))) pa_nil))))) pss_nil)))
    (pss_one (ps_for PassesOwn.never rfl (pi_range1 (by rfl) T.m_range (pa_cons (pe_op op_add pe_int (pe_cal c_take_L hr (by decide) (by rfl) (pa_cons (pv 5) (pa_cons pe_int pa_nil)))) pa_nil)) (pg_name (i := 6) sc_law.nd rfl (.inl rfl))
      (pss_one (ps_if (pt_cmpR op_eq (pe_mth0 (pv 2) T.cl_PlainMachine c_PlainMachine_state hr (by decide) ps0) pe_str (nomark _)) (pss_one (ps_expr (pe_mth0 (pv 2) T.cl_PlainMachine c_PlainMachine_step hr (by decide) psY))) pss_nil))))))))
    (C8.pss_cut (ps_if (pt_cmpR op_eq (pe_mth0 (pv 2) T.cl_PlainMachine c_PlainMachine_state hr (by decide) ps0) pe_str (nomark _)) (pss_cons (ps_expr (pe_mth (pv 2) T.cl_PlainMachine c_PlainMachine_arrive hr (by decide) psY (pa_cons pe_str (pa_cons pe_int pa_nil))))
    (pss_one (ps_expr (pe_mth0 (pv 2) T.cl_PlainMachine c_PlainMachine_step hr (by decide) psY)))) pss_nil)
    (pss_cons (ps_set (i := 7) sc_law.nd rfl (.inl rfl) (pe_calMY k_run_alone_2_end hr (by decide) (by rfl) (pa_cons (pv 1) (pa_cons (pe_mth0 (pv 2) T.cl_PlainMachine c_PlainMachine_log hr (by decide) ps0) pa_nil)) (pk_cons (pe_mth0 (pv 2) T.cl_PlainMachine c_PlainMachine_time hr (by decide) ps0) pk_nil)))
    (pss_cons (ps_if (PW.pt (pw_or (pt_cmpR (op_ownNe q_Core hr (by decide)) (pe_mth0 (pv 7) T.cl_PlainMachine c_PlainMachine_core hr (by decide) psY) (pe_mth0 (pv 2) T.cl_PlainMachine c_PlainMachine_core hr (by decide) psY) (nomark _)) (pw_or1 (pt_cmpR (op_neD hu64) (pe_mth0 (pv 7) T.cl_PlainMachine c_PlainMachine_trail hr (by decide) ps0) (pe_mth0 (pv 2) T.cl_PlainMachine c_PlainMachine_trail hr (by decide) ps0) (nomark _))))) (pss_one (ps_ret pe_bl)) pss_nil)
    (pss_cons (ps_if (pt_cmpR (op_neD hu64) (pe_mth0 (pe_mth0 (pv 7) T.cl_PlainMachine c_PlainMachine_store hr (by decide) psY) T.cl_PlainStore c_PlainStore_rooms hr (by decide) ps0) (pe_mth0 (pe_mth0 (pv 2) T.cl_PlainMachine c_PlainMachine_store hr (by decide) psY) T.cl_PlainStore c_PlainStore_rooms hr (by decide) ps0) (nomark _)) (pss_one (ps_ret pe_bl)) pss_nil)
    (pss_cons (ps_set (i := 8) sc_law.nd rfl (.inl rfl) (pe_calMY k_run_alone_2_end hr (by decide) (by rfl) (pa_cons (pv 1) (pa_cons (pe_op op_cat (pe_mth0 (pv 2) T.cl_PlainMachine c_PlainMachine_log hr (by decide) ps0) (pe_lstB (pa_cons (pe_tup (pa_cons (pe_op op_add (pe_mth0 (pv 2) T.cl_PlainMachine c_PlainMachine_time hr (by decide) ps0) pe_int) (pa_cons pe_str (pa_cons pe_int pa_nil)))) pa_nil))) pa_nil)) (pk_cons (pe_op op_add (pe_mth0 (pv 2) T.cl_PlainMachine c_PlainMachine_time hr (by decide) ps0) pe_int) pk_nil)))
    (pss_cons (ps_if (pt_cmpR (op_neD hu64) (pe_slice sl_list (pe_mth0 (pv 8) T.cl_PlainMachine c_PlainMachine_trail hr (by decide) ps0) po_none (po_some (pe_callB call_len_seq (by rfl) T.m_len (by decide +kernel) (pa_cons (pe_mth0 (pv 2) T.cl_PlainMachine c_PlainMachine_trail hr (by decide) ps0) pa_nil)))) (pe_mth0 (pv 2) T.cl_PlainMachine c_PlainMachine_trail hr (by decide) ps0) (nomark _)) (pss_one (ps_ret pe_bl)) pss_nil)
    (pss_one (ps_ret (pe_cmpR (op_eqD hu64) (pe_lc (own := [("_law_twin", 9)]) rfl sc_law.nd (pi_list (pv 3)) (blkOk_by (N := ["_law_script", "_law_image_here", "_law_machine", "_law_twins", "_law_k", "_law_box_here", "_law_turn", "_law_whole", "_law_other", "_law_twin"]) (sc := defScope s_law) (by decide +kernel)) (fun _ _ _ _ _ => (pg_name (i := 9) sc_law.nd rfl (.inl rfl))) (fun _ _ _ _ _ => pts_one (pt_not (pt_val (pe_cal c_goes_on_L hr (by decide) (by rfl) (pa_cons (pv 9) (pa_cons (pv 2) pa_nil)))))) (fun _ _ _ _ _ => (pv 9))) (pe_lstB pa_nil) (nomark _)))))))))))))), ?_⟩)
  · obtain ⟨a, ns, rfl, _⟩ := h
    rfl
  · obtain ⟨a, ns, rfl, hS, hl, q⟩ := h
    walk_at "go"
    refine ⟨a, ns, 0, rfl, hS, by omega, fun c => ?_⟩
    walk_at "go"
    refine ⟨c, rfl, fun bx0 G0 nbx0 s0 hB0 => ?_⟩
    walk_at "go"
    refine ⟨bx0, 0, rfl, hB0, by decide, fun img aR aB rows rms H1 eI hA hBk okA okB hB1 b1 => ?_⟩
    have kp1 : Same H H1 := fun b u e => b1 _ _ (fun z => by rw [z, nbx0] at e; exact nomatch e) (s0 _ _ e)
    have hS := kp1.seq hS
    clear hB0 hB1 b1 s0 nbx0
    walk_at "go"
    intro x dx nx ndx nex
    have nx2 : upd H1 dx (.own x) x = none := by rw [upd_ne nex.symm]; exact nx
    have s0 := (same_upd (o := .own x) ndx).trans (same_upd (o := .ins A.P dx []) nx2)
    have sE := Same.ts s0
    refine ⟨x, dx, img, aR, aB, rows, rms, rfl, s0 _ _ eI, hA.keep sE, hBk.keep sE, okA, okB, upd_same, fun p k H2 b2 po pdx hM fr => ⟨rfl, ?_⟩⟩
    have s2 : Same H1 H2 := fun b u eb => b2 _ _ (fun z => by rw [z, nx] at eb; exact nomatch eb) (s0 _ _ eb)
    have fr2 : ∀ b, OwnM p k b → H1 b = none := fun b hb => (fr b hb).elim (fun z => by rw [z]; exact nx) fun z => none_of s0 z
    rw [← po]
    clear fr b2 s0 sE nx2 po pdx
    walk_at "go"
    refine newLB fun Lt H3 n3 _ s3 e3 => ?_
    have sg0 : Sg A H1 H3 Lt [] rows rms p k (m0 rows rms) [] [] 0 :=
      ⟨s2.trans s3, hM.same s3, fr2, e3, none_of s2 n3, hM.noneM n3, (fun _ z => nomatch z), (fun _ z => nomatch z), .nil, Reach.start, ⟨m0_ok okB okA, m0_lim.mono (Nat.zero_le _), Nat.le_refl _, (fun _ z => (nomatch z)), rfl, (fun _ z => (nomatch z)), (fun _ z => (nomatch z))⟩, .nil, (fun _ z => nomatch z)⟩
    clear fr2 s2 s3 e3 n3 hM
    walk_at "go"
    have lw0 : Lw A H1 H3 Lt p.o rows rms 0 0 0 := ⟨p, k, _, _, _, [], 0, rfl, sg0, Nat.le_refl _, Nat.le_refl _, Nat.le_refl _⟩
    have hS3 := sg0.kp.seq hS
    generalize p.o = po at lw0 ⊢
    clear sg0
    refine ⟨a, _, rfl, .inl hS3, ?_⟩
    walk_at "go"
    refine ⟨_, 11, rfl, ?_⟩
    walk_at "go"
    refine ⟨4, _, rfl, ?_⟩
    walk_at "go"
    have hj : ∀ l : Int, 0 ≤ l → 4 ≤ (if (if (11 : Int) < l then 11 else l) > 4 then (if (11 : Int) < l then 11 else l) else 4) ∧ (if (if (11 : Int) < l then 11 else l) > 4 then (if (11 : Int) < l then 11 else l) else 4) ≤ 11 := fun l _ => by
      split <;> split <;> omega
    have hj := hj ((ns.map V.int).length : Nat) (by omega)
    generalize (if (if (11 : Int) < ((ns.map V.int).length : Nat) then (11 : Int) else ((ns.map V.int).length : Nat)) > 4 then (if (11 : Int) < ((ns.map V.int).length : Nat) then (11 : Int) else ((ns.map V.int).length : Nat)) else 4) = z at hj ⊢
    refine ⟨1, z, rfl, ⟨by decide, by decide, by omega, by omega⟩, ?_⟩
    obtain ⟨n, hn⟩ : ∃ n, n = (z - 1).toNat := ⟨_, rfl⟩
    have n10 : n ≤ 10 := by omega
    rw [← hn]
    refine forL_it (n := n) walk_range (fun j σ G => ∃ x4 x5 x6 : Option V, σ = [some (.ref a), some (.ref img), some (.ref po), some (.ref Lt), x4, x5, x6, none, none, none] ∧ Lw A H1 G Lt po rows rms (2 * j) (9 * j) j) ?_ (fun _ _ _ _ _ => trivial) (fun j x σ G G2 hi hPt hY => ?_) (fun σ G hPt => ?_)
    · exact ⟨none, none, none, rfl, lw0⟩
    · obtain ⟨x4, x5, x6, rfl, p, k, m, lg, tl, ws, i, rfl, sg, hl1, hi1, hw1⟩ := hPt
      obtain ⟨rfl, rfl⟩ := hY
      dsimp only
      walk_at "go"
      refine ⟨a, ns, 1 + j, by rw [show ((1 + j : Nat) : Int) = 1 + (j : Int) by omega]; rfl, sg.kp.seq hS, by omega, fun c2 => ?_⟩
      walk_at "go"
      refine ⟨c2, rfl, fun bx G3 nbx s3 hB3 => ?_⟩
      have nbxH : H1 bx = none := none_of sg.kp nbx
      have ou := sg.out nbx
      have sg := sg.same s3
      walk_at "go"
      refine ⟨.inl ⟨rfl, _, sqL sg.el⟩, ?_⟩
      walk_at "go"
      refine ⟨p.o, p.dx, PF p k, rfl, sg.ma.ob, rfl, ?_⟩
      walk_at "go"
      refine ⟨p, k, m, lg, tl, _, rfl, sg.ma, sg.ri.lm, by dsimp only; omega, fun p' k' G4 s4 ma4 fr4 => ?_⟩
      walk_at "go"
      have el4 := s4 _ _ sg.el
      refine ⟨Lt, _, _, rfl, rfl, el4, by rw [List.length_map, sizeLine_eq]; omega, ?_⟩
      have sg5 := sg.twin (by omega) s4 ma4 fr4
      have hB5 : Box bx 0 (upd G4 Lt (.lst (ws.map (fun t => V.ref t.p.o) ++ [.ref p'.o]))) := box_upd (hB3.same s4) ou.2.2.symm
      have ou5 : Sg.Out Lt (ws ++ [⟨p', k', m, lg, tl, i⟩]) p k bx := Sg.outW ou fun o => by
        obtain ⟨x, y, z, e, _⟩ := hB3
        have := fr4 _ o
        rw [e] at this
        exact nomatch this
      generalize upd G4 Lt _ = G5 at sg5 hB5 ⊢
      have lb0 : Lb A H1 G5 Lt p.o bx rows rms (2 * j) (9 * j) (j + 1) 0 := ⟨p, k, m, lg, tl, _, i, 0, rfl, sg5, hl1, hi1, by rw [List.length_append]; simp only [List.length_cons, List.length_nil]; omega, hB5, Nat.le_refl _, ou5⟩
      generalize p.o = po at lb0 ⊢
      clear sg sg5 ou ou5 hB3 hB5 s3 s4 ma4 fr4 el4
      walk_at "go"
      obtain ⟨p, k, m, lg, tl, ws, i, n0, rfl, sg, hl1, hi1, hw1, hB, hn0, ou⟩ := lb0
      refine r_take hB (fun d1 G6 l6 u6 hB6 b6 => ?_)
      have sg6 := sg.but ou nbxH b6 (ts_but b6 hB)
      have lb1 : Lb A H1 G6 Lt p.o bx rows rms (2 * j) (9 * j) (j + 1) 1 := ⟨p, k, m, lg, tl, ws, i, n0 + 1, rfl, sg6, hl1, hi1, hw1, hB6, by omega, ou⟩
      generalize p.o = po at lb1 ⊢
      clear sg sg6 hl1 hi1 hw1 hB hB6 ou b6
      walk_at "go"
      refine ⟨d1, rfl, by omega, by omega, ?_⟩
      refine forL_it (n := d1.toNat) walk_range (fun h σ G => ∃ x6 : Option V, σ = [some (.ref a), some (.ref img), some (.ref po), some (.ref Lt), some (.int (1 + (j : Int))), some (.ref bx), x6, none, none, none] ∧ Lb A H1 G Lt po bx rows rms (2 * j + h) (9 * j) (j + 1) (1 + 2 * h)) ?_ (fun _ _ _ _ _ => trivial) (fun h x σ G G2 hh hPt hY => ?_) (fun σ G hPt => ?_)
      · exact ⟨_, rfl, lb1⟩
      · obtain ⟨x6, rfl, p, k, m, lg, tl, ws, i, n0, rfl, sg, hl1, hi1, hw1, hB, hn0, ou⟩ := hPt
        obtain ⟨rfl, rfl⟩ := hY
        dsimp only
        walk_at "go"
        refine ⟨p.o, p.dx, PF p k, rfl, sg.ma.ob, rfl, ?_⟩
        walk_at "go"
        refine ⟨p, k, m, lg, tl, rfl, sg.ma, ?_⟩
        walk_at "go"
        refine newT fun tq Gq nq sq eq => ?_
        refine ⟨tq, _, rfl, .inr (sqT eq), rfl, rfl, _, rfl, ?_⟩
        rw [if_neg Bool.false_ne_true, st_in]
        have sgq := sg.same sq
        have hBq := hB.same sq
        by_cases ha : m.alive = true
        · rw [if_pos ha]
          walk_at "go"
          refine ⟨p.o, p.dx, PF p k, rfl, sgq.ma.ob, rfl, ?_⟩
          walk_at "go"
          refine newLB fun lb G7 n7 _ s7 e7 => ?_
          have sg7 := sgq.same s7
          have hB7 := hBq.same s7
          have nb7 : lb ≠ bx := hBq.ne n7
          walk_at "go"
          refine r_take hB7 (fun d2 G8 l8 u8 hB8 b8 => ?_)
          have sg8 := sg7.but ou nbxH b8 (ts_but b8 hB7)
          obtain ⟨b, eb⟩ : ∃ b : Bool, atI [V.str (Str.ofString "line"), .str (Str.ofString "net")] d2 = some (.str (kq b)) := by
            obtain rfl | rfl : d2 = 0 ∨ d2 = 1 := by omega
            · exact ⟨false, rfl⟩
            · exact ⟨true, rfl⟩
          refine r_ixL (sqL (b8 _ _ nb7 e7)) eb ?_
          walk_at "go"
          refine r_take hB8 (fun d3 G9 l9 u9 hB9 b9 => ?_)
          have sg9 := sg8.but ou nbxH b9 (ts_but b9 hB8)
          obtain ⟨x, rfl⟩ := Int.eq_ofNat_of_zero_le l9
          walk_at "go"
          have hx : x ≤ kmax b := by cases b <;> (show x ≤ _; unfold kmax; simp; omega)
          refine .inl ⟨p, k, m, lg, tl, _, b, x, rfl, sg9.ma, sg9.ri.lm, by dsimp only; omega, by omega, st_alive ha, hx, fun p3 k3 Ga mv => ?_⟩
          walk_at "go"
          exact ⟨_, rfl, p3, k3, _, _, _, ws, i, _, mv.oo, sg9.arrive (st_alive ha) hx mv, by rw [List.length_append]; simp only [List.length_cons, List.length_nil]; omega, hi1, hw1, box_mv hB9 mv ou.1, by omega, by
            obtain ⟨_, _, _, e, _⟩ := hB9
            exact sg9.outM mv ou e⟩
        · rw [if_neg ha]
          walk_at "go"
          exact ⟨_, rfl, p, k, m, lg, tl, ws, i, n0, rfl, sgq, by omega, hi1, hw1, hBq, by omega, ou⟩
      · obtain ⟨x6, rfl, p, k, m, lg, tl, ws, i, n0, rfl, sg, hl1, hi1, hw1, hB, hn0, ou⟩ := hPt
        walk_at "go"
        refine r_take hB (fun d4 G7 l7 u7 hB7 b7 => ?_)
        have sg7 := sg.but ou nbxH b7 (ts_but b7 hB)
        obtain ⟨d4, rfl⟩ := Int.eq_ofNat_of_zero_le l7
        have lb2 : Lb A H1 G7 Lt p.o bx rows rms (2 * (j + 1)) (9 * j) (j + 1) 6 := ⟨p, k, m, lg, tl, ws, i, n0 + 1, rfl, sg7, by omega, hi1, hw1, hB7, by omega, ou⟩
        generalize p.o = po at lb2 ⊢
        clear lb1 sg sg7 hl1 hi1 hw1 hB hB7 hn0 ou b7
        walk_at "go"
        rw [show (1 : Int) + (d4 : Int) = ((1 + d4 : Nat) : Int) by omega]
        refine ⟨_, rfl, by omega, by omega, ?_⟩
        rw [Int.toNat_natCast]
        refine forL_it (n := 1 + d4) walk_range (fun h σ G => ∃ x6 : Option V, σ = [some (.ref a), some (.ref img), some (.ref po), some (.ref Lt), some (.int (1 + (j : Int))), some (.ref bx), x6, none, none, none] ∧ Lb A H1 G Lt po bx rows rms (2 * (j + 1)) (9 * j + h) (j + 1) 6) ?_ (fun _ _ _ _ _ => trivial) (fun h x σ G G2 hh hPt hY => ?_) (fun σ G hPt => ?_)
        · exact ⟨_, rfl, lb2⟩
        · obtain ⟨x6, rfl, p, k, m, lg, tl, ws, i, n0, rfl, sg, hl1, hi1, hw1, hB, hn0, ou⟩ := hPt
          obtain ⟨rfl, rfl⟩ := hY
          dsimp only
          walk_at "go"
          refine ⟨p.o, p.dx, PF p k, rfl, sg.ma.ob, rfl, ?_⟩
          walk_at "go"
          refine ⟨p, k, m, lg, tl, rfl, sg.ma, ?_⟩
          walk_at "go"
          rw [st_run]
          by_cases ha : m.st = .runs
          · rw [decide_eq_true ha]
            walk_at "go"
            refine ⟨p.o, p.dx, PF p k, rfl, sg.ma.ob, rfl, ?_⟩
            walk_at "go"
            have tn := sg.ri.tn
            dsimp only at tn
            refine .inl ⟨p, k, m, lg, tl, _, rfl, sg.ma, sg.ri.lm, by dsimp only; omega, by omega, .inl ha, fun p3 k3 v Ga mv rv => ?_⟩
            walk_at "go"
            exact ⟨_, rfl, p3, k3, _, lg, _, ws, i + 1, n0, mv.oo, sg.step ha mv, hl1, by omega, hw1, box_mv hB mv ou.1, hn0, by
              obtain ⟨_, _, _, e, _⟩ := hB
              exact sg.outM mv ou e⟩
          · rw [decide_eq_false ha]
            walk_at "go"
            exact ⟨_, rfl, p, k, m, lg, tl, ws, i, n0, rfl, sg, hl1, by omega, hw1, hB, hn0, ou⟩
        · obtain ⟨x6, rfl, p, k, m, lg, tl, ws, i, n0, rfl, sg, hl1, hi1, hw1, hB, hn0, ou⟩ := hPt
          walk_at "go"
          exact ⟨_, _, _, rfl, p, k, m, lg, tl, ws, i, rfl, sg, by omega, by omega, hw1⟩
    · clear lw0 hS3
      obtain ⟨x4, x5, x6, rfl, p, k, m, lg, tl, ws, i, rfl, sg, hl1, hi1, hw1⟩ := hPt
      walk_at "go"
      refine r_cut (fun σ G => σ = [some (.ref a), some (.ref img), some (.ref p.o), some (.ref Lt), x4, x5, x6, none, none, none] ∧ ∃ (p1 : Pk) (k : Cq) (m : M) (lg : List Arv) (tl : List Cm.Row) (i : Nat), p1.o = p.o ∧ Sg A H1 G Lt ws rows rms p1 k m lg tl i ∧ lg.length ≤ 21 ∧ i ≤ 91 ∧ ws.length ≤ 10 ∧ m.st ≠ .idle) ?_ ?_
      · walk_at "go"
        refine ⟨p.o, p.dx, PF p k, rfl, sg.ma.ob, rfl, ?_⟩
        walk_at "go"
        refine ⟨p, k, m, lg, tl, rfl, sg.ma, ?_⟩
        walk_at "go"
        rw [st_idl]
        by_cases ha : m.st = .idle
        · rw [decide_eq_true ha]
          walk_at "go"
          refine ⟨p.o, p.dx, PF p k, rfl, sg.ma.ob, rfl, ?_⟩
          walk_at "go"
          refine .inl ⟨p, k, m, lg, tl, _, true, 1, rfl, sg.ma, sg.ri.lm, by dsimp only; omega, by omega, .inr ha, (by decide), fun p3 k3 Ga mv => ?_⟩
          have sg3 := sg.arrive (.inr ha) (by decide) mv
          walk_at "go"
          refine ⟨p.o, p3.dx, PF p3 k3, rfl, by rw [← mv.oo]; exact sg3.ma.ob, rfl, ?_⟩
          walk_at "go"
          have tn := sg3.ri.tn
          dsimp only at tn
          refine .inl ⟨p3, k3, _, _, tl, _, by rw [mv.oo], sg3.ma, sg3.ri.lm, by dsimp only; rw [List.length_append]; simp only [List.length_cons, List.length_nil]; omega, by omega, .inl comes_runs, fun p4 k4 v Gb mv4 rv => ?_⟩
          walk_at "go"
          exact ⟨rfl, p4, k4, _, _, _, i + 1, mv4.oo.trans mv.oo, sg3.step comes_runs mv4, by rw [List.length_append]; simp only [List.length_cons, List.length_nil]; omega, by omega, by omega, step_busy comes_runs comes_busy⟩
        · rw [decide_eq_false ha]
          walk_at "go"
          exact ⟨rfl, p, k, m, lg, tl, i, rfl, sg, by omega, by omega, by omega, ha⟩
      clear sg hl1 hi1
      rintro σ G ⟨rfl, p1, k1, m1, lg1, tl1, i1, po, sg, hl1, hi1, hw1, hid⟩
      rw [← po]
      clear po
      walk_at "go"
      have wd : ∀ z ∈ lg1, z.wd ≤ kmax z.net := fun z hz => (sg.ri.wg z hz).1
      have lm := sg.ri.lm
      have tm := lm.tm
      dsimp only at lm tm
      rw [List.length_nil] at lm tm
      refine ⟨p1.o, p1.dx, PF p1 k1, rfl, sg.ma.ob, rfl, ?_⟩
      walk_at "go"
      refine ⟨p1, k1, m1, lg1, tl1, rfl, sg.ma, fun la Ga na sa ea => ?_⟩
      have sg := sg.same sa
      walk_at "go"
      refine ⟨p1.o, p1.dx, PF p1 k1, rfl, sg.ma.ob, rfl, ?_⟩
      walk_at "go"
      refine ⟨p1, k1, m1, lg1, tl1, rfl, sg.ma, ?_⟩
      walk_at "go"
      refine ⟨rfl, rfl, ?_⟩
      have eIa := sg.kp _ _ eI
      have hAa := hA.keep (Same.ts sg.kp)
      have hBa := hBk.keep (Same.ts sg.kp)
      refine ⟨img, aR, aB, la, rows, rms, p1.ls, lg1, m1.tm, rfl, eIa, hAa, hBa, okA, okB, ⟨.inl ea, sg.ma.lv, wd, by omega⟩, sg.so, by omega, fun p2 k2 Gb sb hM2 fr2 => ?_⟩
      rw [sg.re.done hid] at hM2
      dsimp only at hM2
      have sg := sg.same sb
      clear eIa hAa hBa ea na sa sb fr2
      walk_at "go"
      refine ⟨p2.o, p2.dx, PF p2 k2, rfl, hM2.ob, rfl, ?_⟩
      walk_at "go"
      refine ⟨p2, k2, m1, lg1, tl1, _, rfl, hM2, lm, by omega, fun kA Gc sc cA fA => ?_⟩
      have hM2 := hM2.same sc
      have sg := sg.same sc
      walk_at "go"
      refine ⟨p1.o, p1.dx, PF p1 k1, rfl, sg.ma.ob, rfl, ?_⟩
      walk_at "go"
      refine ⟨p1, k1, m1, lg1, tl1, _, rfl, sg.ma, lm, by omega, fun kB Gd sd cB fB => ?_⟩
      have hM2 := hM2.same sd
      have sg := sg.same sd
      have cA := cA.same sd
      have dA : DIns A.c.C (Alike A) (.ref kA.o) (.ref kB.o) Gd := ⟨kA.o, kB.o, _, _, _, _, rfl, rfl, cA.nm 0 _ _ rfl, cB.nm 0 _ _ rfl, kA, kB, m1, _, rfl, rfl, cA, cB, lm, by omega⟩
      walk_at "go"
      refine ⟨dA, fun Ge se => ?_⟩
      have se : Same Gd Ge := se
      have hM2 := hM2.same se
      have sg := sg.same se
      clear dA cA cB fA fB
      walk_at "go"
      refine ⟨p2.o, p2.dx, PF p2 k2, rfl, hM2.ob, rfl, ?_⟩
      walk_at "go"
      refine ⟨p2, k2, m1, lg1, tl1, rfl, hM2, fun b1 Gf nf sf ef => ?_⟩
      have hM2 := hM2.same sf
      have sg := sg.same sf
      walk_at "go"
      refine ⟨p1.o, p1.dx, PF p1 k1, rfl, sg.ma.ob, rfl, ?_⟩
      walk_at "go"
      refine ⟨p1, k1, m1, lg1, tl1, rfl, sg.ma, fun b2 Gg ng sgg eg => ?_⟩
      have hM2 := hM2.same sgg
      have sg := sg.same sgg
      have sT := sh_tr fun z hz => (sg.ri.ro z hz).2
      walk_at "go"
      refine ⟨_, _, dp_of (dq_tr (sgg _ _ ef) hM2.tv), dp_of (dq_tr eg sg.ma.tv), sT, sT, ?_⟩
      rw [SeqAt.eqv_refl _ (SeqAt.canLay_of_shaped sT)]
      walk_at "go"
      refine ⟨p2.o, p2.dx, PF p2 k2, rfl, hM2.ob, rfl, ?_⟩
      walk_at "go"
      refine ⟨p2, k2, m1, lg1, tl1, rfl, hM2, fun y dy rl rs Gh sh hS fr => ?_⟩
      have sg := sg.same sh
      walk_at "go"
      refine ⟨y, dy, _, rfl, hS.1, rfl, ?_⟩
      walk_at "go"
      refine ⟨y, dy, rl, rs, m1.rs, rfl, hS, sg.ma.qa.ok.ro, fun a5 Gi si e8 => ?_⟩
      have sg := sg.same si
      clear hS fr
      walk_at "go"
      refine ⟨p1.o, p1.dx, PF p1 k1, rfl, sg.ma.ob, rfl, ?_⟩
      walk_at "go"
      refine ⟨p1, k1, m1, lg1, tl1, rfl, sg.ma, fun y dy rl rs Gj sj hS fr => ?_⟩
      have sg := sg.same sj
      have e8 := e8.keep (Same.ts sj)
      walk_at "go"
      refine ⟨y, dy, _, rfl, hS.1, rfl, ?_⟩
      walk_at "go"
      refine ⟨y, dy, rl, rs, m1.rs, rfl, hS, sg.ma.qa.ok.ro, fun a6 Gk sk e9 => ?_⟩
      have sg := sg.same sk
      walk_at "go"
      refine ⟨_, _, dp_of (dq_eight (e8.keep (Same.ts sk))), dp_of (dq_eight e9), sh_eight _, sh_eight _, ?_⟩
      rw [SeqAt.eqv_refl _ (SeqAt.canLay_of_shaped (sh_eight m1.rs))]
      clear hS fr e8 e9 hM2 sk sj si sh sgg sf se sd sc
      walk_at "go"
      refine ⟨p1.o, p1.dx, PF p1 k1, rfl, sg.ma.ob, rfl, ?_⟩
      walk_at "go"
      refine ⟨p1, k1, m1, lg1, tl1, rfl, sg.ma, fun la Ga na sa ea => ?_⟩
      have sg := sg.same sa
      walk_at "go"
      refine ⟨p1.o, p1.dx, PF p1 k1, rfl, sg.ma.ob, rfl, ?_⟩
      walk_at "go"
      refine ⟨p1, k1, m1, lg1, tl1, rfl, sg.ma, ?_⟩
      walk_at "go"
      refine newT fun t Gb nb sb eb => ?_
      have eb : Gb t = some (.tup (arvV ⟨m1.tm + 1, true, 5⟩)) := eb
      walk_at "go"
      refine newLB fun lb Gc nc _ sc ec => ?_
      have sg := sg.same (sb.trans sc)
      refine ⟨la, lb, _, _, rfl, rfl, (sb.trans sc) _ _ ea, ec, by rw [List.length_map, sg.ma.lv.1, sizeLine_eq]; simp only [List.length_cons, List.length_nil]; omega, fun lc nlc => ?_⟩
      have sd := same_upd (o := .lst (p1.ls.map V.ref ++ [.ref t])) nlc
      have ed : upd Gc lc (.lst (p1.ls.map V.ref ++ [.ref t])) lc = some (.lst ((p1.ls ++ [t]).map V.ref)) := by rw [upd_same, List.map_append]; rfl
      generalize upd Gc lc _ = Gd at sd ed ⊢
      have sg := sg.same sd
      have et := (sc.trans sd) _ _ eb
      clear ea eb ec nc nlc na nb sa sb sc sd
      walk_at "go"
      refine ⟨p1.o, p1.dx, PF p1 k1, rfl, sg.ma.ob, rfl, ?_⟩
      walk_at "go"
      refine ⟨p1, k1, m1, lg1, tl1, rfl, sg.ma, ?_⟩
      walk_at "go"
      rw [show (m1.tm : Int) + 9 = ((m1.tm + 9 : Nat) : Int) by omega]
      refine ⟨rfl, rfl, ?_⟩
      have lv2 : Tps arvV Gd (p1.ls ++ [t]) (lg1 ++ [⟨m1.tm + 1, true, 5⟩]) := sg.ma.lv.push et
      have wd2 : ∀ z ∈ lg1 ++ [(⟨m1.tm + 1, true, 5⟩ : Arv)], z.wd ≤ kmax z.net := fun z hz => (List.mem_append.mp hz).elim (wd z) fun y => by rw [List.mem_singleton.mp y]; exact (by decide : 5 ≤ kmax true)
      have so2 : (lg1 ++ [(⟨m1.tm + 1, true, 5⟩ : Arv)]).Pairwise fun x y => x.tm ≤ y.tm := List.pairwise_append.mpr ⟨sg.so, List.pairwise_singleton _ _, fun z hz y hy => by rw [List.mem_singleton.mp hy]; exact Nat.le_succ_of_le (sg.sl z hz)⟩
      refine ⟨img, aR, aB, lc, rows, rms, _, _, m1.tm + 9, rfl, sg.kp _ _ eI, hA.keep (Same.ts sg.kp), hBk.keep (Same.ts sg.kp), okA, okB, ⟨.inl ed, lv2, wd2, by rw [List.length_append]; simp only [List.length_cons, List.length_nil]; omega⟩, so2, by omega, fun p3 k3 Ge se hM3 fr3 => ?_⟩
      have sg := sg.same se
      obtain ⟨xt, hxt⟩ : ∃ x, (runA rows rms (lg1 ++ [(⟨m1.tm + 1, true, 5⟩ : Arv)]) (m1.tm + 9)).tl = tl1 ++ x := by
        obtain ⟨f, _, hr⟩ := sg.re [⟨m1.tm + 1, true, 5⟩] (m1.tm + 9) (fun z hz => by rw [List.mem_singleton.mp hz]; exact Nat.le_succ _) (Nat.le_add_right _ _)
        rw [hr]
        exact run_ext
      have htv := hM3.tv
      rw [hxt] at htv
      clear fr3 se lv2 wd2 so2 et ed
      walk_at "go"
      refine ⟨p3.o, p3.dx, PF p3 k3, rfl, hM3.ob, rfl, ?_⟩
      walk_at "go"
      refine ⟨p3, k3, _, _, _, rfl, hM3, fun b3 Gf nf sf ef => ?_⟩
      have sg := sg.same sf
      walk_at "go"
      refine ⟨p1.o, p1.dx, PF p1 k1, rfl, sg.ma.ob, rfl, ?_⟩
      walk_at "go"
      refine ⟨p1, k1, m1, lg1, tl1, rfl, sg.ma, fun b4 Gg ng sgg eg => ?_⟩
      have sg := sg.same sgg
      walk_at "go"
      refine ⟨b4, _, rfl, .inl (sqL eg), ?_⟩
      have hlt := sg.ma.tv.1
      have hle2 : p1.tv.length ≤ p3.tv.length := by rw [hlt, htv.1, List.length_append]; omega
      walk_at "go"
      refine r_slL (ys := p3.tv.take p1.tv.length) (sqL (sgg _ _ ef)) (cut_to hle2) fun b5 Gh nh sh eh => ?_
      have sg := sg.same sh
      walk_at "go"
      refine ⟨p1.o, p1.dx, PF p1 k1, rfl, sg.ma.ob, rfl, ?_⟩
      walk_at "go"
      refine ⟨p1, k1, m1, lg1, tl1, rfl, sg.ma, fun b6 Gi ni si ei => ?_⟩
      have sg := sg.same si
      walk_at "go"
      have dqv : Dq false K Gi (.ref b5) (trD tl1) := dq_tr (si _ _ eh) (by rw [hlt]; exact (tlv_take htv).keep ((Same.ts sf).trans ((Same.ts sgg).trans ((Same.ts sh).trans (Same.ts si)))))
      refine r_neSame (dp_of dqv) (dp_of (dq_tr ei sg.ma.tv)) sT ?_
      clear dqv ei eh ef eg ni nh ng nf si sh sgg sf htv hM3
      walk_at "go"
      refine ⟨_, rfl, Lt, rfl, ⟨_, sqL sg.el⟩, fun D nD => ?_⟩
      have ou := sg.out nD
      have sD := same_upd (o := .lst []) nD
      refine lc_it (walk_list (xs := ws.map fun t => V.ref t.p.o)) (fun j G => G D = some (.lst []) ∧ G Lt = some (.lst (ws.map fun t => V.ref t.p.o)) ∧ MAt A.c A.P G p1 k1 m1 lg1 tl1 ∧ ∀ t ∈ ws.drop j, MAt A.c A.P G t.p t.k t.m t.lg t.tl) ⟨upd_same, sD _ _ sg.el, sg.ma.same sD, fun t ht => (sg.tw t ht).at_.same sD⟩ (fun j G _ hP => sqL hP.2.1) (fun j x G G2 hj hP hY => ?_) fun G hP => ?_
      · obtain ⟨rfl, hx⟩ := hY
        obtain ⟨eD, eL, hMm, hT⟩ := hP
        rw [List.getElem?_map] at hx
        obtain ⟨t, ht, rfl⟩ := Option.map_eq_some_iff.mp hx
        have hj' : j < ws.length := (List.getElem?_eq_some_iff.mp ht).1
        have ed : ws.drop j = t :: ws.drop (j + 1) := by rw [List.drop_eq_getElem_cons hj', (List.getElem?_eq_some_iff.mp ht).2]
        have hw := List.mem_of_getElem? ht
        have hMt := hT t (by rw [ed]; exact List.mem_cons_self)
        have tw := sg.tw t hw
        have pw := (sg.pw.sublist (List.drop_sublist j ws))
        rw [ed] at pw
        have pw := (List.pairwise_cons.mp pw).1
        walk_at "go"
        refine ⟨rfl, ?_⟩
        walk_at "go"
        refine ⟨t.p, t.k, t.m, t.lg, t.tl, p1, k1, m1, lg1, tl1, t.i, i1, rfl, hMt, hMm, tw.dj, tw.pa, hid, tw.ri, sg.ri, tw.le, by omega, by omega, fun p4 k4 G3 mv => ?_⟩
        walk_at "go"
        refine ⟨mv.fr _ _ (ou.2.1 t hw) eD, mv.fr _ _ (sg.nt t hw).1 eL, hMm.keep (fun b u o e => mv.fr _ _ (fun z => tw.dj b z o) e) (mv.ts hMt), fun t2 h2 => (hT t2 (by rw [ed]; exact List.mem_cons_of_mem _ h2)).keep (fun b u o e => mv.fr _ _ (fun z => pw t2 h2 b z o) e) (mv.ts hMt)⟩
      · obtain ⟨eD, eL, hMm, hT⟩ := hP
        walk_at "go"
        refine newLB fun v9 Gj n9 _ s9 e9 => ?_
        refine ⟨_, _, .lst (sqL (s9 _ _ eD)) .nil, .lst (sqL e9) .nil, sh_nil, sh_nil, ?_⟩
        rw [SeqAt.eqv_refl _ (SeqAt.canLay_of_shaped sh_nil)]
        exact q _
end
end K15

namespace K15
open PySem PySem.Spec PyProof.Rows L2 Bk Rm Cm
theorem alone_chain0 {T D : Addr} {doc pm : Value} {an : Option Addr} {cdv ct : Value} {us its ks : List Value} (h1 : us.length = 1) (h2 : its.length = 1) (h3 : ks.length = 1) :
    ∃ k, bindArgs (PySem.W.fnOf "run_alone" "run_alone" (defArgs s_run_alone) (defBody s_run_alone) (defScope s_run_alone) (.ref T) (.ref D) doc pm an cdv ct) ⟨us, []⟩ = seqItems? (.ref T) >>= k ∧ KwChain D ((["end"] : List Str).zip ks) (k (some its.toArray)) ((["image", "log", "end"] : List Str).zip (us ++ (its.drop 0 ++ ks))) := by
  match us, its, ks, h1, h2, h3 with
  | [u], [i], [m], _, _, _ => exact ⟨_, rfl, ⟨_, _, _, _, _, _, rfl, rfl, rfl⟩⟩
theorem alone_chain1 {T D : Addr} {doc pm : Value} {an : Option Addr} {cdv ct : Value} {us its mv ws : List Value} (h1 : us.length = 2) (h2 : its.length = 1) (h3 : mv.length = 0) (h4 : ws.length = 1) :
    ∃ k, bindArgs (PySem.W.fnOf "run_alone" "run_alone" (defArgs s_run_alone) (defBody s_run_alone) (defScope s_run_alone) (.ref T) (.ref D) doc pm an cdv ct) ⟨us, (["end"] : List Str).zip ws⟩ = seqItems? (.ref T) >>= k ∧ KwChain D (([] : List Str).zip mv) (k (some its.toArray)) ((["image", "log", "end"] : List Str).zip (us ++ ws)) := by
  match us, its, mv, ws, h1, h2, h3, h4 with
  | [u, v], [i], [], [a], _, _, _, _ => exact ⟨_, rfl, rfl⟩
theorem img_chain0 {T D : Addr} {doc pm : Value} {an : Option Addr} {cdv ct : Value} {us its ks : List Value} (h1 : us.length = 0) (h2 : its.length = 1) (h3 : ks.length = 1) :
    ∃ k, bindArgs (PySem.W.fnOf "image_of" "image_of" (defArgs s_image_of) (defBody s_image_of) (defScope s_image_of) (.ref T) (.ref D) doc pm an cdv ct) ⟨us, []⟩ = seqItems? (.ref T) >>= k ∧ KwChain D ((["blocks"] : List Str).zip ks) (k (some its.toArray)) ((["rooms", "blocks"] : List Str).zip (us ++ (its.drop 0 ++ ks))) := by
  match us, its, ks, h1, h2, h3 with
  | [], [i], [m], _, _, _ => exact ⟨_, rfl, ⟨_, _, _, _, _, _, rfl, rfl, rfl⟩⟩
section
variable {P : Program} {w : World} {K : PySem.W.Frag} {mg : Str → Option Value} {base : Heap} {sp : Sp} {f aD : Addr} {fd : FuncData}
theorem alone_cal (D : FunD K "run_alone" "run_alone" (defArgs s_run_alone) (defBody s_run_alone) (defScope s_run_alone) [.ref aD] [("end", .int 100)] f fd) (a : mg "run_alone" = some (.ref f)) (kp : PySem.W.keepIn K (.ref f) = true) (o : FnOk P w K mg base (L2.CX P w) 14 f fd ["image", "log", "end"] sp) : CalXD P w K mg base 14 "run_alone" sp [.ref aD, .int 100] := by
  obtain ⟨ds, v, b⟩ := D.binds (ps := ["image", "log", "end"]) 1 0 (by simp) rfl (fun _ _ _ _ _ _ _ us its ks h1 h2 h3 => alone_chain0 h1 h2 h3) (by simp)
  exact ⟨_, _, _, ds, a, kp, o, b, v⟩
theorem alone_kw (D : FunD K "run_alone" "run_alone" (defArgs s_run_alone) (defBody s_run_alone) (defScope s_run_alone) [.ref aD] [("end", .int 100)] f fd) (a : mg "run_alone" = some (.ref f)) (kp : PySem.W.keepIn K (.ref f) = true) (o : FnOk P w K mg base (L2.CX P w) 14 f fd ["image", "log", "end"] sp) : CalMX P w K mg base 14 2 ["end"] "run_alone" sp (fun vs zs => vs ++ zs) := by
  obtain ⟨its, mv, b⟩ := D.kbinds (ps := ["image", "log", "end"]) 2 ["end"] [] (fun us _ _ ws => us ++ ws) (by simp) (by simp) (by simp) (fun a _ _ d => a.append d) fun _ _ _ _ _ _ _ us its mv ws h1 h2 h3 h4 => alone_chain1 h1 h2 h3 h4
  exact CalMX.mk' a kp o b
theorem img_cal (D : FunD K "image_of" "image_of" (defArgs s_image_of) (defBody s_image_of) (defScope s_image_of) [.non] [("blocks", .non)] f fd) (a : mg "image_of" = some (.ref f)) (kp : PySem.W.keepIn K (.ref f) = true) (o : FnOk P w K mg base (L2.CX P w) 4 f fd ["rooms", "blocks"] sp) : CalXD P w K mg base 4 "image_of" sp [.non, .non] := by
  obtain ⟨ds, v, b⟩ := D.binds (ps := ["rooms", "blocks"]) 0 0 (by simp) rfl (fun _ _ _ _ _ _ _ us its ks h1 h2 h3 => img_chain0 h1 h2 h3) (by simp)
  exact ⟨_, _, _, ds, a, kp, o, b, v⟩
end
section
variable {P : Program} {w : World} {K : PySem.W.Frag} {mg : Str → Option Value} {base : Heap} {A : Ad}
/-- what is never called -/
theorem ok_told {f : Addr} {fd : FuncData} (F : Fun K "_is_told" "_is_told" s_is_told f fd) (T : Txt K mg A) : FnOk P w K mg base CX0 3 f fd ["thing"] (fun _ _ _ _ => False) := by
  exact F.ok sc_is_told (fun _ _ _ _ h => h.elim) fun _ _ _ _ _ _ _ _ _ h => h.elim
end
end K15

/-! these names are taken, so that the head lays no second copy of the largest heaps: the compiled file stays small -/
def PySem.W.Fast.tw15484291157242020249 : Unit := ()
def PySem.W.Fast.tw15601867299760640594 : Unit := ()
def PySem.W.Fast.tw7278575414425450176 : Unit := ()
def PySem.W.Fast.tw510054731854354986 : Unit := ()
def PySem.W.Fast.tw16271322322486280960 : Unit := ()
def PySem.W.Fast.tw18343186615210706098 : Unit := ()
def PySem.W.Fast.tw4046328627776569213 : Unit := ()
def PySem.W.Fast.tw12569797339861549796 : Unit := ()
def PySem.W.Fast.tw18247712716446031338 : Unit := ()
def PySem.W.Fast.tw7504128401153739843 : Unit := ()
def PySem.W.Fast.tw2130572255309055151 : Unit := ()
def PySem.W.Fast.tw2451886342332971554 : Unit := ()
def PySem.W.Fast.tw13094541112922303012 : Unit := ()
def PySem.W.Fast.tw8452104150574833323 : Unit := ()
namespace K15
open PySem PySem.Spec PyProof.Rows L2 Bk Rm Cm
theorem all_mk {l : PySem.W.OpenLaw} {w : World} {K : PySem.W.Frag} {h : Heap} {mg : Str → Option Value} {fa C_GuestError C_Barred C_NoNumber C_NoWord C_Nought C_NoImage C_NoKind C_NoLog C_Ended C_Disk C_Core C_PlainStore C_PlainMachine f_GuestError_init f_Barred_init f_NoNumber_init f_NoWord_init f_Nought_init f_NoImage_init f_NoKind_init f_NoLog_init f_Ended_init f_is_count f_is_whole f_is_word f_check_number f_check_word f_parts_of f_entry_parts f_sum_of f_difference f_divided f_check_words f_Disk_init f_Disk_ask f_Disk_serve f_Disk_do f_Disk_blocks f_Disk_asks f_Disk_asks_made f_Disk_asks_done f_disk_of f_is_eight f_is_image f_image_of f_is_row f_is_told f_filled f_is_kind f_may_arrive f_way f_loaded f_saved f_halt f_set f_load f_save f_from f_into f_add f_sub f_part f_jump f_base f_trap f_clock f_out f_in f_Core_init f_Core_step f_Core_act f_Core_wait f_Core_trap_by f_Core_arrive f_Core_registers f_Core_counter f_Core_table f_Core_time f_Core_handler f_Core_cause f_Core_state f_Core_queue f_Core_told f_Core_sent f_Core_blocks f_Core_asks f_Core_due f_Core_asks_made f_Core_asks_done f_Core_stands f_Core_twin f_Core_eq f_core_of f_PlainStore_init f_PlainStore_read_cell f_PlainStore_write_cell f_PlainStore_rooms f_PlainStore_twin f_PlainMachine_init f_PlainMachine_step f_PlainMachine_arrive f_PlainMachine_core f_PlainMachine_store f_PlainMachine_time f_PlainMachine_state f_PlainMachine_log f_PlainMachine_trail f_PlainMachine_twin f_is_log f_run_alone f_machine_of f_check_end f_run_by f_arrived f_is_arrival f_cell_L f_box_L f_take_L f_order_L f_image_L f_goes_on_L f_law : Addr} (X : K.In h) (G : h.Ns mainGlobals mg) (hfa : mg "law" = some (.ref fa))
    {od_GuestError_init an_GuestError_init : Option Addr} {sl_GuestError_init : Array (Option Value)} {oc_GuestError_init kV_GuestError_init dc_GuestError_init pm_GuestError_init cd_GuestError_init ct_GuestError_init : Value}
    {od_Barred_init an_Barred_init : Option Addr} {sl_Barred_init : Array (Option Value)} {oc_Barred_init kV_Barred_init dc_Barred_init pm_Barred_init cd_Barred_init ct_Barred_init : Value}
    {od_NoNumber_init an_NoNumber_init : Option Addr} {sl_NoNumber_init : Array (Option Value)} {oc_NoNumber_init kV_NoNumber_init dc_NoNumber_init pm_NoNumber_init cd_NoNumber_init ct_NoNumber_init : Value}
    {od_NoWord_init an_NoWord_init : Option Addr} {sl_NoWord_init : Array (Option Value)} {oc_NoWord_init kV_NoWord_init dc_NoWord_init pm_NoWord_init cd_NoWord_init ct_NoWord_init : Value}
    {od_Nought_init an_Nought_init : Option Addr} {sl_Nought_init : Array (Option Value)} {oc_Nought_init kV_Nought_init dc_Nought_init pm_Nought_init cd_Nought_init ct_Nought_init : Value}
    {od_NoImage_init an_NoImage_init : Option Addr} {sl_NoImage_init : Array (Option Value)} {oc_NoImage_init kV_NoImage_init dc_NoImage_init pm_NoImage_init cd_NoImage_init ct_NoImage_init : Value}
    {od_NoKind_init an_NoKind_init : Option Addr} {sl_NoKind_init : Array (Option Value)} {oc_NoKind_init kV_NoKind_init dc_NoKind_init pm_NoKind_init cd_NoKind_init ct_NoKind_init : Value}
    {od_NoLog_init an_NoLog_init : Option Addr} {sl_NoLog_init : Array (Option Value)} {oc_NoLog_init kV_NoLog_init dc_NoLog_init pm_NoLog_init cd_NoLog_init ct_NoLog_init : Value}
    {od_Ended_init an_Ended_init : Option Addr} {sl_Ended_init : Array (Option Value)} {oc_Ended_init kV_Ended_init dc_Ended_init pm_Ended_init cd_Ended_init ct_Ended_init : Value}
    {od_is_count an_is_count : Option Addr} {sl_is_count : Array (Option Value)} {oc_is_count kV_is_count dc_is_count pm_is_count cd_is_count ct_is_count : Value}
    {od_is_whole an_is_whole : Option Addr} {sl_is_whole : Array (Option Value)} {oc_is_whole kV_is_whole dc_is_whole pm_is_whole cd_is_whole ct_is_whole : Value}
    {od_is_word an_is_word : Option Addr} {sl_is_word : Array (Option Value)} {oc_is_word kV_is_word dc_is_word pm_is_word cd_is_word ct_is_word : Value}
    {od_check_number an_check_number : Option Addr} {sl_check_number : Array (Option Value)} {oc_check_number kV_check_number dc_check_number pm_check_number cd_check_number ct_check_number : Value}
    {od_check_word an_check_word : Option Addr} {sl_check_word : Array (Option Value)} {oc_check_word kV_check_word dc_check_word pm_check_word cd_check_word ct_check_word : Value}
    {od_parts_of an_parts_of : Option Addr} {sl_parts_of : Array (Option Value)} {oc_parts_of kV_parts_of dc_parts_of pm_parts_of cd_parts_of ct_parts_of : Value}
    {od_entry_parts an_entry_parts : Option Addr} {sl_entry_parts : Array (Option Value)} {oc_entry_parts kV_entry_parts dc_entry_parts pm_entry_parts cd_entry_parts ct_entry_parts : Value}
    {od_sum_of an_sum_of : Option Addr} {sl_sum_of : Array (Option Value)} {oc_sum_of kV_sum_of dc_sum_of pm_sum_of cd_sum_of ct_sum_of : Value}
    {od_difference an_difference : Option Addr} {sl_difference : Array (Option Value)} {oc_difference kV_difference dc_difference pm_difference cd_difference ct_difference : Value}
    {od_divided an_divided : Option Addr} {sl_divided : Array (Option Value)} {oc_divided kV_divided dc_divided pm_divided cd_divided ct_divided : Value}
    {od_check_words an_check_words : Option Addr} {sl_check_words : Array (Option Value)} {oc_check_words kV_check_words dc_check_words pm_check_words cd_check_words ct_check_words : Value}
    {od_Disk_init an_Disk_init : Option Addr} {sl_Disk_init : Array (Option Value)} {oc_Disk_init kV_Disk_init dc_Disk_init pm_Disk_init cd_Disk_init ct_Disk_init : Value}
    {od_Disk_ask an_Disk_ask : Option Addr} {sl_Disk_ask : Array (Option Value)} {oc_Disk_ask kV_Disk_ask dc_Disk_ask pm_Disk_ask cd_Disk_ask ct_Disk_ask : Value}
    {od_Disk_serve an_Disk_serve : Option Addr} {sl_Disk_serve : Array (Option Value)} {oc_Disk_serve kV_Disk_serve dc_Disk_serve pm_Disk_serve cd_Disk_serve ct_Disk_serve : Value}
    {od_Disk_do an_Disk_do : Option Addr} {sl_Disk_do : Array (Option Value)} {oc_Disk_do kV_Disk_do dc_Disk_do pm_Disk_do cd_Disk_do ct_Disk_do : Value}
    {od_Disk_blocks an_Disk_blocks : Option Addr} {sl_Disk_blocks : Array (Option Value)} {oc_Disk_blocks kV_Disk_blocks dc_Disk_blocks pm_Disk_blocks cd_Disk_blocks ct_Disk_blocks : Value}
    {od_Disk_asks an_Disk_asks : Option Addr} {sl_Disk_asks : Array (Option Value)} {oc_Disk_asks kV_Disk_asks dc_Disk_asks pm_Disk_asks cd_Disk_asks ct_Disk_asks : Value}
    {od_Disk_asks_made an_Disk_asks_made : Option Addr} {sl_Disk_asks_made : Array (Option Value)} {oc_Disk_asks_made kV_Disk_asks_made dc_Disk_asks_made pm_Disk_asks_made cd_Disk_asks_made ct_Disk_asks_made : Value}
    {od_Disk_asks_done an_Disk_asks_done : Option Addr} {sl_Disk_asks_done : Array (Option Value)} {oc_Disk_asks_done kV_Disk_asks_done dc_Disk_asks_done pm_Disk_asks_done cd_Disk_asks_done ct_Disk_asks_done : Value}
    {od_disk_of an_disk_of : Option Addr} {sl_disk_of : Array (Option Value)} {oc_disk_of kV_disk_of dc_disk_of pm_disk_of cd_disk_of ct_disk_of : Value}
    {od_is_eight an_is_eight : Option Addr} {sl_is_eight : Array (Option Value)} {oc_is_eight kV_is_eight dc_is_eight pm_is_eight cd_is_eight ct_is_eight : Value}
    {od_is_image an_is_image : Option Addr} {sl_is_image : Array (Option Value)} {oc_is_image kV_is_image dc_is_image pm_is_image cd_is_image ct_is_image : Value}
    {od_image_of an_image_of : Option Addr} {sl_image_of : Array (Option Value)} {oc_image_of  dc_image_of pm_image_of cd_image_of ct_image_of : Value} {D_image_of : Addr}
    {DV_image_of : Addr} {uD_image_of_0 oDc_image_of : Value} {oDd_image_of : Option Addr} {nD_image_of : Nat} {slD_image_of : Array (Option Value)}
    {u_image_of_blocks : Value}
    {od_is_row an_is_row : Option Addr} {sl_is_row : Array (Option Value)} {oc_is_row kV_is_row dc_is_row pm_is_row cd_is_row ct_is_row : Value}
    {od_is_told an_is_told : Option Addr} {sl_is_told : Array (Option Value)} {oc_is_told kV_is_told dc_is_told pm_is_told cd_is_told ct_is_told : Value}
    {od_filled an_filled : Option Addr} {sl_filled : Array (Option Value)} {oc_filled kV_filled dc_filled pm_filled cd_filled ct_filled : Value}
    {od_is_kind an_is_kind : Option Addr} {sl_is_kind : Array (Option Value)} {oc_is_kind kV_is_kind dc_is_kind pm_is_kind cd_is_kind ct_is_kind : Value}
    {od_may_arrive an_may_arrive : Option Addr} {sl_may_arrive : Array (Option Value)} {oc_may_arrive kV_may_arrive dc_may_arrive pm_may_arrive cd_may_arrive ct_may_arrive : Value}
    {od_way an_way : Option Addr} {sl_way : Array (Option Value)} {oc_way kV_way dc_way pm_way cd_way ct_way : Value}
    {od_loaded an_loaded : Option Addr} {sl_loaded : Array (Option Value)} {oc_loaded kV_loaded dc_loaded pm_loaded cd_loaded ct_loaded : Value}
    {od_saved an_saved : Option Addr} {sl_saved : Array (Option Value)} {oc_saved kV_saved dc_saved pm_saved cd_saved ct_saved : Value}
    {od_halt an_halt : Option Addr} {sl_halt : Array (Option Value)} {oc_halt kV_halt dc_halt pm_halt cd_halt ct_halt : Value}
    {od_set an_set : Option Addr} {sl_set : Array (Option Value)} {oc_set kV_set dc_set pm_set cd_set ct_set : Value}
    {od_load an_load : Option Addr} {sl_load : Array (Option Value)} {oc_load kV_load dc_load pm_load cd_load ct_load : Value}
    {od_save an_save : Option Addr} {sl_save : Array (Option Value)} {oc_save kV_save dc_save pm_save cd_save ct_save : Value}
    {od_from an_from : Option Addr} {sl_from : Array (Option Value)} {oc_from kV_from dc_from pm_from cd_from ct_from : Value}
    {od_into an_into : Option Addr} {sl_into : Array (Option Value)} {oc_into kV_into dc_into pm_into cd_into ct_into : Value}
    {od_add an_add : Option Addr} {sl_add : Array (Option Value)} {oc_add kV_add dc_add pm_add cd_add ct_add : Value}
    {od_sub an_sub : Option Addr} {sl_sub : Array (Option Value)} {oc_sub kV_sub dc_sub pm_sub cd_sub ct_sub : Value}
    {od_part an_part : Option Addr} {sl_part : Array (Option Value)} {oc_part kV_part dc_part pm_part cd_part ct_part : Value}
    {od_jump an_jump : Option Addr} {sl_jump : Array (Option Value)} {oc_jump kV_jump dc_jump pm_jump cd_jump ct_jump : Value}
    {od_base an_base : Option Addr} {sl_base : Array (Option Value)} {oc_base kV_base dc_base pm_base cd_base ct_base : Value}
    {od_trap an_trap : Option Addr} {sl_trap : Array (Option Value)} {oc_trap kV_trap dc_trap pm_trap cd_trap ct_trap : Value}
    {od_clock an_clock : Option Addr} {sl_clock : Array (Option Value)} {oc_clock kV_clock dc_clock pm_clock cd_clock ct_clock : Value}
    {od_out an_out : Option Addr} {sl_out : Array (Option Value)} {oc_out kV_out dc_out pm_out cd_out ct_out : Value}
    {od_in an_in : Option Addr} {sl_in : Array (Option Value)} {oc_in kV_in dc_in pm_in cd_in ct_in : Value}
    {od_Core_init an_Core_init : Option Addr} {sl_Core_init : Array (Option Value)} {oc_Core_init kV_Core_init dc_Core_init pm_Core_init cd_Core_init ct_Core_init : Value}
    {od_Core_step an_Core_step : Option Addr} {sl_Core_step : Array (Option Value)} {oc_Core_step kV_Core_step dc_Core_step pm_Core_step cd_Core_step ct_Core_step : Value}
    {od_Core_act an_Core_act : Option Addr} {sl_Core_act : Array (Option Value)} {oc_Core_act kV_Core_act dc_Core_act pm_Core_act cd_Core_act ct_Core_act : Value}
    {od_Core_wait an_Core_wait : Option Addr} {sl_Core_wait : Array (Option Value)} {oc_Core_wait kV_Core_wait dc_Core_wait pm_Core_wait cd_Core_wait ct_Core_wait : Value}
    {od_Core_trap_by an_Core_trap_by : Option Addr} {sl_Core_trap_by : Array (Option Value)} {oc_Core_trap_by kV_Core_trap_by dc_Core_trap_by pm_Core_trap_by cd_Core_trap_by ct_Core_trap_by : Value}
    {od_Core_arrive an_Core_arrive : Option Addr} {sl_Core_arrive : Array (Option Value)} {oc_Core_arrive kV_Core_arrive dc_Core_arrive pm_Core_arrive cd_Core_arrive ct_Core_arrive : Value}
    {od_Core_registers an_Core_registers : Option Addr} {sl_Core_registers : Array (Option Value)} {oc_Core_registers kV_Core_registers dc_Core_registers pm_Core_registers cd_Core_registers ct_Core_registers : Value}
    {od_Core_counter an_Core_counter : Option Addr} {sl_Core_counter : Array (Option Value)} {oc_Core_counter kV_Core_counter dc_Core_counter pm_Core_counter cd_Core_counter ct_Core_counter : Value}
    {od_Core_table an_Core_table : Option Addr} {sl_Core_table : Array (Option Value)} {oc_Core_table kV_Core_table dc_Core_table pm_Core_table cd_Core_table ct_Core_table : Value}
    {od_Core_time an_Core_time : Option Addr} {sl_Core_time : Array (Option Value)} {oc_Core_time kV_Core_time dc_Core_time pm_Core_time cd_Core_time ct_Core_time : Value}
    {od_Core_handler an_Core_handler : Option Addr} {sl_Core_handler : Array (Option Value)} {oc_Core_handler kV_Core_handler dc_Core_handler pm_Core_handler cd_Core_handler ct_Core_handler : Value}
    {od_Core_cause an_Core_cause : Option Addr} {sl_Core_cause : Array (Option Value)} {oc_Core_cause kV_Core_cause dc_Core_cause pm_Core_cause cd_Core_cause ct_Core_cause : Value}
    {od_Core_state an_Core_state : Option Addr} {sl_Core_state : Array (Option Value)} {oc_Core_state kV_Core_state dc_Core_state pm_Core_state cd_Core_state ct_Core_state : Value}
    {od_Core_queue an_Core_queue : Option Addr} {sl_Core_queue : Array (Option Value)} {oc_Core_queue kV_Core_queue dc_Core_queue pm_Core_queue cd_Core_queue ct_Core_queue : Value}
    {od_Core_told an_Core_told : Option Addr} {sl_Core_told : Array (Option Value)} {oc_Core_told kV_Core_told dc_Core_told pm_Core_told cd_Core_told ct_Core_told : Value}
    {od_Core_sent an_Core_sent : Option Addr} {sl_Core_sent : Array (Option Value)} {oc_Core_sent kV_Core_sent dc_Core_sent pm_Core_sent cd_Core_sent ct_Core_sent : Value}
    {od_Core_blocks an_Core_blocks : Option Addr} {sl_Core_blocks : Array (Option Value)} {oc_Core_blocks kV_Core_blocks dc_Core_blocks pm_Core_blocks cd_Core_blocks ct_Core_blocks : Value}
    {od_Core_asks an_Core_asks : Option Addr} {sl_Core_asks : Array (Option Value)} {oc_Core_asks kV_Core_asks dc_Core_asks pm_Core_asks cd_Core_asks ct_Core_asks : Value}
    {od_Core_due an_Core_due : Option Addr} {sl_Core_due : Array (Option Value)} {oc_Core_due kV_Core_due dc_Core_due pm_Core_due cd_Core_due ct_Core_due : Value}
    {od_Core_asks_made an_Core_asks_made : Option Addr} {sl_Core_asks_made : Array (Option Value)} {oc_Core_asks_made kV_Core_asks_made dc_Core_asks_made pm_Core_asks_made cd_Core_asks_made ct_Core_asks_made : Value}
    {od_Core_asks_done an_Core_asks_done : Option Addr} {sl_Core_asks_done : Array (Option Value)} {oc_Core_asks_done kV_Core_asks_done dc_Core_asks_done pm_Core_asks_done cd_Core_asks_done ct_Core_asks_done : Value}
    {od_Core_stands an_Core_stands : Option Addr} {sl_Core_stands : Array (Option Value)} {oc_Core_stands kV_Core_stands dc_Core_stands pm_Core_stands cd_Core_stands ct_Core_stands : Value}
    {od_Core_twin an_Core_twin : Option Addr} {sl_Core_twin : Array (Option Value)} {oc_Core_twin kV_Core_twin dc_Core_twin pm_Core_twin cd_Core_twin ct_Core_twin : Value}
    {od_Core_eq an_Core_eq : Option Addr} {sl_Core_eq : Array (Option Value)} {oc_Core_eq kV_Core_eq dc_Core_eq pm_Core_eq cd_Core_eq ct_Core_eq : Value}
    {od_core_of an_core_of : Option Addr} {sl_core_of : Array (Option Value)} {oc_core_of kV_core_of dc_core_of pm_core_of cd_core_of ct_core_of : Value}
    {od_PlainStore_init an_PlainStore_init : Option Addr} {sl_PlainStore_init : Array (Option Value)} {oc_PlainStore_init kV_PlainStore_init dc_PlainStore_init pm_PlainStore_init cd_PlainStore_init ct_PlainStore_init : Value}
    {od_PlainStore_read_cell an_PlainStore_read_cell : Option Addr} {sl_PlainStore_read_cell : Array (Option Value)} {oc_PlainStore_read_cell kV_PlainStore_read_cell dc_PlainStore_read_cell pm_PlainStore_read_cell cd_PlainStore_read_cell ct_PlainStore_read_cell : Value}
    {od_PlainStore_write_cell an_PlainStore_write_cell : Option Addr} {sl_PlainStore_write_cell : Array (Option Value)} {oc_PlainStore_write_cell kV_PlainStore_write_cell dc_PlainStore_write_cell pm_PlainStore_write_cell cd_PlainStore_write_cell ct_PlainStore_write_cell : Value}
    {od_PlainStore_rooms an_PlainStore_rooms : Option Addr} {sl_PlainStore_rooms : Array (Option Value)} {oc_PlainStore_rooms kV_PlainStore_rooms dc_PlainStore_rooms pm_PlainStore_rooms cd_PlainStore_rooms ct_PlainStore_rooms : Value}
    {od_PlainStore_twin an_PlainStore_twin : Option Addr} {sl_PlainStore_twin : Array (Option Value)} {oc_PlainStore_twin kV_PlainStore_twin dc_PlainStore_twin pm_PlainStore_twin cd_PlainStore_twin ct_PlainStore_twin : Value}
    {od_PlainMachine_init an_PlainMachine_init : Option Addr} {sl_PlainMachine_init : Array (Option Value)} {oc_PlainMachine_init kV_PlainMachine_init dc_PlainMachine_init pm_PlainMachine_init cd_PlainMachine_init ct_PlainMachine_init : Value}
    {od_PlainMachine_step an_PlainMachine_step : Option Addr} {sl_PlainMachine_step : Array (Option Value)} {oc_PlainMachine_step kV_PlainMachine_step dc_PlainMachine_step pm_PlainMachine_step cd_PlainMachine_step ct_PlainMachine_step : Value}
    {od_PlainMachine_arrive an_PlainMachine_arrive : Option Addr} {sl_PlainMachine_arrive : Array (Option Value)} {oc_PlainMachine_arrive kV_PlainMachine_arrive dc_PlainMachine_arrive pm_PlainMachine_arrive cd_PlainMachine_arrive ct_PlainMachine_arrive : Value}
    {od_PlainMachine_core an_PlainMachine_core : Option Addr} {sl_PlainMachine_core : Array (Option Value)} {oc_PlainMachine_core kV_PlainMachine_core dc_PlainMachine_core pm_PlainMachine_core cd_PlainMachine_core ct_PlainMachine_core : Value}
    {od_PlainMachine_store an_PlainMachine_store : Option Addr} {sl_PlainMachine_store : Array (Option Value)} {oc_PlainMachine_store kV_PlainMachine_store dc_PlainMachine_store pm_PlainMachine_store cd_PlainMachine_store ct_PlainMachine_store : Value}
    {od_PlainMachine_time an_PlainMachine_time : Option Addr} {sl_PlainMachine_time : Array (Option Value)} {oc_PlainMachine_time kV_PlainMachine_time dc_PlainMachine_time pm_PlainMachine_time cd_PlainMachine_time ct_PlainMachine_time : Value}
    {od_PlainMachine_state an_PlainMachine_state : Option Addr} {sl_PlainMachine_state : Array (Option Value)} {oc_PlainMachine_state kV_PlainMachine_state dc_PlainMachine_state pm_PlainMachine_state cd_PlainMachine_state ct_PlainMachine_state : Value}
    {od_PlainMachine_log an_PlainMachine_log : Option Addr} {sl_PlainMachine_log : Array (Option Value)} {oc_PlainMachine_log kV_PlainMachine_log dc_PlainMachine_log pm_PlainMachine_log cd_PlainMachine_log ct_PlainMachine_log : Value}
    {od_PlainMachine_trail an_PlainMachine_trail : Option Addr} {sl_PlainMachine_trail : Array (Option Value)} {oc_PlainMachine_trail kV_PlainMachine_trail dc_PlainMachine_trail pm_PlainMachine_trail cd_PlainMachine_trail ct_PlainMachine_trail : Value}
    {od_PlainMachine_twin an_PlainMachine_twin : Option Addr} {sl_PlainMachine_twin : Array (Option Value)} {oc_PlainMachine_twin kV_PlainMachine_twin dc_PlainMachine_twin pm_PlainMachine_twin cd_PlainMachine_twin ct_PlainMachine_twin : Value}
    {od_is_log an_is_log : Option Addr} {sl_is_log : Array (Option Value)} {oc_is_log kV_is_log dc_is_log pm_is_log cd_is_log ct_is_log : Value}
    {od_run_alone an_run_alone : Option Addr} {sl_run_alone : Array (Option Value)} {oc_run_alone  dc_run_alone pm_run_alone cd_run_alone ct_run_alone : Value} {D_run_alone : Addr}
    {DV_run_alone : Addr} {uD_run_alone_0 oDc_run_alone : Value} {oDd_run_alone : Option Addr} {nD_run_alone : Nat} {slD_run_alone : Array (Option Value)}
    {u_run_alone_end : Value}
    {od_machine_of an_machine_of : Option Addr} {sl_machine_of : Array (Option Value)} {oc_machine_of kV_machine_of dc_machine_of pm_machine_of cd_machine_of ct_machine_of : Value}
    {od_check_end an_check_end : Option Addr} {sl_check_end : Array (Option Value)} {oc_check_end kV_check_end dc_check_end pm_check_end cd_check_end ct_check_end : Value}
    {od_run_by an_run_by : Option Addr} {sl_run_by : Array (Option Value)} {oc_run_by kV_run_by dc_run_by pm_run_by cd_run_by ct_run_by : Value}
    {od_arrived an_arrived : Option Addr} {sl_arrived : Array (Option Value)} {oc_arrived kV_arrived dc_arrived pm_arrived cd_arrived ct_arrived : Value}
    {od_is_arrival an_is_arrival : Option Addr} {sl_is_arrival : Array (Option Value)} {oc_is_arrival kV_is_arrival dc_is_arrival pm_is_arrival cd_is_arrival ct_is_arrival : Value}
    {od_cell_L an_cell_L : Option Addr} {sl_cell_L : Array (Option Value)} {oc_cell_L kV_cell_L dc_cell_L pm_cell_L cd_cell_L ct_cell_L : Value}
    {od_box_L an_box_L : Option Addr} {sl_box_L : Array (Option Value)} {oc_box_L kV_box_L dc_box_L pm_box_L cd_box_L ct_box_L : Value}
    {od_take_L an_take_L : Option Addr} {sl_take_L : Array (Option Value)} {oc_take_L kV_take_L dc_take_L pm_take_L cd_take_L ct_take_L : Value}
    {od_order_L an_order_L : Option Addr} {sl_order_L : Array (Option Value)} {oc_order_L kV_order_L dc_order_L pm_order_L cd_order_L ct_order_L : Value}
    {od_image_L an_image_L : Option Addr} {sl_image_L : Array (Option Value)} {oc_image_L kV_image_L dc_image_L pm_image_L cd_image_L ct_image_L : Value}
    {od_goes_on_L an_goes_on_L : Option Addr} {sl_goes_on_L : Array (Option Value)} {oc_goes_on_L kV_goes_on_L dc_goes_on_L pm_goes_on_L cd_goes_on_L ct_goes_on_L : Value}
    {od_law an_law : Option Addr} {sl_law : Array (Option Value)} {oc_law kV_law dc_law pm_law cd_law ct_law : Value}
    {t_c0 t_c1 t_c2 t_c3 t_c4 t_c5 t_c6 t_c7 t_c8 t_c9 t_c10 t_c11 t_c12 tO0 tO1 tO2 tO3 tO4 tO5 tO6 tO7 tO8 tO9 tO10 tO11 tO12 tO13 tO14 tO15 : Tok} {aOPS aACT aKND : Addr} {nK : Nat} {tkl tkn tk1 tk2 : Tok} {nO nA : Nat} {slO slA : Array (Option Value)}
    {nmM qM : Str} {NM : Addr} {bsM : List Value} {snM : List Str} {subM : List Value} {abM : Bool} {colM : Option Bool} {ddM : Option Addr} {wM0 wM1 wM2 wM3 wM5 : Option Value}
    {nmW qW : Str} {NW : Addr} {bsW : List Value} {snW : List Str} {subW : List Value} {abW : Bool} {colW : Option Bool} {ddW : Option Addr} {wW0 wW1 wW2 wW3 wW5 : Option Value}
    {nmU qU : Str} {NU : Addr} {bsU : List Value} {snU : List Str} {subU : List Value} {abU : Bool} {colU : Option Bool} {ddU : Option Addr} {wU0 wU1 wU2 wU3 wU5 : Option Value}
    {nmI qI : Str} {NI : Addr} {bsI : List Value} {snI : List Str} {subI : List Value} {abI : Bool} {colI : Option Bool} {ddI : Option Addr} {wI0 wI1 wI2 wI3 wI5 : Option Value}
    {nmE qE : Str} {NE : Addr} {bsE : List Value} {snE : List Str} {subE : List Value} {abE : Bool} {colE : Option Bool} {ddE : Option Addr} {wE0 wE1 wE2 wE3 wE5 : Option Value}
    {nmK qK : Str} {NK : Addr} {bsK : List Value} {snK : List Str} {subK : List Value} {abK : Bool} {colK : Option Bool} {ddK : Option Addr} {wK0 wK1 wK2 wK3 wK5 : Option Value}
    {nmL qL : Str} {NL : Addr} {bsL : List Value} {snL : List Str} {subL : List Value} {abL : Bool} {colL : Option Bool} {ddL : Option Addr} {wL0 wL1 wL2 wL3 wL5 : Option Value}
    {aLOG0 : Addr} {oLOG0 : Option Addr} {nLOG0 : Nat} {slLOG0 : Array (Option Value)}
    (aC_GuestError : PySem.W.nsIn K mainGlobals "GuestError" = some (some (.ref C_GuestError)))
    (aC_Barred : PySem.W.nsIn K mainGlobals "Barred" = some (some (.ref C_Barred)))
    (aC_NoNumber : PySem.W.nsIn K mainGlobals "NoNumber" = some (some (.ref C_NoNumber)))
    (aC_NoWord : PySem.W.nsIn K mainGlobals "NoWord" = some (some (.ref C_NoWord)))
    (aC_Nought : PySem.W.nsIn K mainGlobals "Nought" = some (some (.ref C_Nought)))
    (aC_NoImage : PySem.W.nsIn K mainGlobals "NoImage" = some (some (.ref C_NoImage)))
    (aC_NoKind : PySem.W.nsIn K mainGlobals "NoKind" = some (some (.ref C_NoKind)))
    (aC_NoLog : PySem.W.nsIn K mainGlobals "NoLog" = some (some (.ref C_NoLog)))
    (aC_Ended : PySem.W.nsIn K mainGlobals "Ended" = some (some (.ref C_Ended)))
    (aC_Disk : PySem.W.nsIn K mainGlobals "Disk" = some (some (.ref C_Disk)))
    (aC_Core : PySem.W.nsIn K mainGlobals "Core" = some (some (.ref C_Core)))
    (aC_PlainStore : PySem.W.nsIn K mainGlobals "PlainStore" = some (some (.ref C_PlainStore)))
    (aC_PlainMachine : PySem.W.nsIn K mainGlobals "PlainMachine" = some (some (.ref C_PlainMachine)))
    (a_GuestError_init : PySem.W.findIn K (.ref C_GuestError) "__init__" = some (some (.ref f_GuestError_init)))
    (l_GuestError_init : K.lookup f_GuestError_init = some ⟨oc_GuestError_init, od_GuestError_init, .func (PySem.W.fnOf "__init__" "GuestError.__init__" (defArgs s_GuestError_init) (defBody s_GuestError_init) (defScope s_GuestError_init) .none kV_GuestError_init dc_GuestError_init pm_GuestError_init an_GuestError_init cd_GuestError_init ct_GuestError_init), sl_GuestError_init⟩)
    (c_GuestError_init : PySem.W.codeIn K cd_GuestError_init "GuestError.__init__" = true)
    (k_GuestError_init : PySem.W.keepIn K (.ref f_GuestError_init) = true)
    (a_Barred_init : PySem.W.findIn K (.ref C_Barred) "__init__" = some (some (.ref f_Barred_init)))
    (l_Barred_init : K.lookup f_Barred_init = some ⟨oc_Barred_init, od_Barred_init, .func (PySem.W.fnOf "__init__" "Barred.__init__" (defArgs s_Barred_init) (defBody s_Barred_init) (defScope s_Barred_init) .none kV_Barred_init dc_Barred_init pm_Barred_init an_Barred_init cd_Barred_init ct_Barred_init), sl_Barred_init⟩)
    (c_Barred_init : PySem.W.codeIn K cd_Barred_init "Barred.__init__" = true)
    (k_Barred_init : PySem.W.keepIn K (.ref f_Barred_init) = true)
    (a_NoNumber_init : PySem.W.findIn K (.ref C_NoNumber) "__init__" = some (some (.ref f_NoNumber_init)))
    (l_NoNumber_init : K.lookup f_NoNumber_init = some ⟨oc_NoNumber_init, od_NoNumber_init, .func (PySem.W.fnOf "__init__" "NoNumber.__init__" (defArgs s_NoNumber_init) (defBody s_NoNumber_init) (defScope s_NoNumber_init) .none kV_NoNumber_init dc_NoNumber_init pm_NoNumber_init an_NoNumber_init cd_NoNumber_init ct_NoNumber_init), sl_NoNumber_init⟩)
    (c_NoNumber_init : PySem.W.codeIn K cd_NoNumber_init "NoNumber.__init__" = true)
    (k_NoNumber_init : PySem.W.keepIn K (.ref f_NoNumber_init) = true)
    (a_NoWord_init : PySem.W.findIn K (.ref C_NoWord) "__init__" = some (some (.ref f_NoWord_init)))
    (l_NoWord_init : K.lookup f_NoWord_init = some ⟨oc_NoWord_init, od_NoWord_init, .func (PySem.W.fnOf "__init__" "NoWord.__init__" (defArgs s_NoWord_init) (defBody s_NoWord_init) (defScope s_NoWord_init) .none kV_NoWord_init dc_NoWord_init pm_NoWord_init an_NoWord_init cd_NoWord_init ct_NoWord_init), sl_NoWord_init⟩)
    (c_NoWord_init : PySem.W.codeIn K cd_NoWord_init "NoWord.__init__" = true)
    (k_NoWord_init : PySem.W.keepIn K (.ref f_NoWord_init) = true)
    (a_Nought_init : PySem.W.findIn K (.ref C_Nought) "__init__" = some (some (.ref f_Nought_init)))
    (l_Nought_init : K.lookup f_Nought_init = some ⟨oc_Nought_init, od_Nought_init, .func (PySem.W.fnOf "__init__" "Nought.__init__" (defArgs s_Nought_init) (defBody s_Nought_init) (defScope s_Nought_init) .none kV_Nought_init dc_Nought_init pm_Nought_init an_Nought_init cd_Nought_init ct_Nought_init), sl_Nought_init⟩)
    (c_Nought_init : PySem.W.codeIn K cd_Nought_init "Nought.__init__" = true)
    (k_Nought_init : PySem.W.keepIn K (.ref f_Nought_init) = true)
    (a_NoImage_init : PySem.W.findIn K (.ref C_NoImage) "__init__" = some (some (.ref f_NoImage_init)))
    (l_NoImage_init : K.lookup f_NoImage_init = some ⟨oc_NoImage_init, od_NoImage_init, .func (PySem.W.fnOf "__init__" "NoImage.__init__" (defArgs s_NoImage_init) (defBody s_NoImage_init) (defScope s_NoImage_init) .none kV_NoImage_init dc_NoImage_init pm_NoImage_init an_NoImage_init cd_NoImage_init ct_NoImage_init), sl_NoImage_init⟩)
    (c_NoImage_init : PySem.W.codeIn K cd_NoImage_init "NoImage.__init__" = true)
    (k_NoImage_init : PySem.W.keepIn K (.ref f_NoImage_init) = true)
    (a_NoKind_init : PySem.W.findIn K (.ref C_NoKind) "__init__" = some (some (.ref f_NoKind_init)))
    (l_NoKind_init : K.lookup f_NoKind_init = some ⟨oc_NoKind_init, od_NoKind_init, .func (PySem.W.fnOf "__init__" "NoKind.__init__" (defArgs s_NoKind_init) (defBody s_NoKind_init) (defScope s_NoKind_init) .none kV_NoKind_init dc_NoKind_init pm_NoKind_init an_NoKind_init cd_NoKind_init ct_NoKind_init), sl_NoKind_init⟩)
    (c_NoKind_init : PySem.W.codeIn K cd_NoKind_init "NoKind.__init__" = true)
    (k_NoKind_init : PySem.W.keepIn K (.ref f_NoKind_init) = true)
    (a_NoLog_init : PySem.W.findIn K (.ref C_NoLog) "__init__" = some (some (.ref f_NoLog_init)))
    (l_NoLog_init : K.lookup f_NoLog_init = some ⟨oc_NoLog_init, od_NoLog_init, .func (PySem.W.fnOf "__init__" "NoLog.__init__" (defArgs s_NoLog_init) (defBody s_NoLog_init) (defScope s_NoLog_init) .none kV_NoLog_init dc_NoLog_init pm_NoLog_init an_NoLog_init cd_NoLog_init ct_NoLog_init), sl_NoLog_init⟩)
    (c_NoLog_init : PySem.W.codeIn K cd_NoLog_init "NoLog.__init__" = true)
    (k_NoLog_init : PySem.W.keepIn K (.ref f_NoLog_init) = true)
    (a_Ended_init : PySem.W.findIn K (.ref C_Ended) "__init__" = some (some (.ref f_Ended_init)))
    (l_Ended_init : K.lookup f_Ended_init = some ⟨oc_Ended_init, od_Ended_init, .func (PySem.W.fnOf "__init__" "Ended.__init__" (defArgs s_Ended_init) (defBody s_Ended_init) (defScope s_Ended_init) .none kV_Ended_init dc_Ended_init pm_Ended_init an_Ended_init cd_Ended_init ct_Ended_init), sl_Ended_init⟩)
    (c_Ended_init : PySem.W.codeIn K cd_Ended_init "Ended.__init__" = true)
    (k_Ended_init : PySem.W.keepIn K (.ref f_Ended_init) = true)
    (a_is_count : PySem.W.nsIn K mainGlobals "is_count" = some (some (.ref f_is_count)))
    (l_is_count : K.lookup f_is_count = some ⟨oc_is_count, od_is_count, .func (PySem.W.fnOf "is_count" "is_count" (defArgs s_is_count) (defBody s_is_count) (defScope s_is_count) .none kV_is_count dc_is_count pm_is_count an_is_count cd_is_count ct_is_count), sl_is_count⟩)
    (c_is_count : PySem.W.codeIn K cd_is_count "is_count" = true)
    (k_is_count : PySem.W.keepIn K (.ref f_is_count) = true)
    (a_is_whole : PySem.W.nsIn K mainGlobals "is_whole" = some (some (.ref f_is_whole)))
    (l_is_whole : K.lookup f_is_whole = some ⟨oc_is_whole, od_is_whole, .func (PySem.W.fnOf "is_whole" "is_whole" (defArgs s_is_whole) (defBody s_is_whole) (defScope s_is_whole) .none kV_is_whole dc_is_whole pm_is_whole an_is_whole cd_is_whole ct_is_whole), sl_is_whole⟩)
    (c_is_whole : PySem.W.codeIn K cd_is_whole "is_whole" = true)
    (k_is_whole : PySem.W.keepIn K (.ref f_is_whole) = true)
    (a_is_word : PySem.W.nsIn K mainGlobals "is_word" = some (some (.ref f_is_word)))
    (l_is_word : K.lookup f_is_word = some ⟨oc_is_word, od_is_word, .func (PySem.W.fnOf "is_word" "is_word" (defArgs s_is_word) (defBody s_is_word) (defScope s_is_word) .none kV_is_word dc_is_word pm_is_word an_is_word cd_is_word ct_is_word), sl_is_word⟩)
    (c_is_word : PySem.W.codeIn K cd_is_word "is_word" = true)
    (k_is_word : PySem.W.keepIn K (.ref f_is_word) = true)
    (a_check_number : PySem.W.nsIn K mainGlobals "check_number" = some (some (.ref f_check_number)))
    (l_check_number : K.lookup f_check_number = some ⟨oc_check_number, od_check_number, .func (PySem.W.fnOf "check_number" "check_number" (defArgs s_check_number) (defBody s_check_number) (defScope s_check_number) .none kV_check_number dc_check_number pm_check_number an_check_number cd_check_number ct_check_number), sl_check_number⟩)
    (c_check_number : PySem.W.codeIn K cd_check_number "check_number" = true)
    (k_check_number : PySem.W.keepIn K (.ref f_check_number) = true)
    (a_check_word : PySem.W.nsIn K mainGlobals "check_word" = some (some (.ref f_check_word)))
    (l_check_word : K.lookup f_check_word = some ⟨oc_check_word, od_check_word, .func (PySem.W.fnOf "check_word" "check_word" (defArgs s_check_word) (defBody s_check_word) (defScope s_check_word) .none kV_check_word dc_check_word pm_check_word an_check_word cd_check_word ct_check_word), sl_check_word⟩)
    (c_check_word : PySem.W.codeIn K cd_check_word "check_word" = true)
    (k_check_word : PySem.W.keepIn K (.ref f_check_word) = true)
    (a_parts_of : PySem.W.nsIn K mainGlobals "parts_of" = some (some (.ref f_parts_of)))
    (l_parts_of : K.lookup f_parts_of = some ⟨oc_parts_of, od_parts_of, .func (PySem.W.fnOf "parts_of" "parts_of" (defArgs s_parts_of) (defBody s_parts_of) (defScope s_parts_of) .none kV_parts_of dc_parts_of pm_parts_of an_parts_of cd_parts_of ct_parts_of), sl_parts_of⟩)
    (c_parts_of : PySem.W.codeIn K cd_parts_of "parts_of" = true)
    (k_parts_of : PySem.W.keepIn K (.ref f_parts_of) = true)
    (a_entry_parts : PySem.W.nsIn K mainGlobals "entry_parts" = some (some (.ref f_entry_parts)))
    (l_entry_parts : K.lookup f_entry_parts = some ⟨oc_entry_parts, od_entry_parts, .func (PySem.W.fnOf "entry_parts" "entry_parts" (defArgs s_entry_parts) (defBody s_entry_parts) (defScope s_entry_parts) .none kV_entry_parts dc_entry_parts pm_entry_parts an_entry_parts cd_entry_parts ct_entry_parts), sl_entry_parts⟩)
    (c_entry_parts : PySem.W.codeIn K cd_entry_parts "entry_parts" = true)
    (k_entry_parts : PySem.W.keepIn K (.ref f_entry_parts) = true)
    (a_sum_of : PySem.W.nsIn K mainGlobals "sum_of" = some (some (.ref f_sum_of)))
    (l_sum_of : K.lookup f_sum_of = some ⟨oc_sum_of, od_sum_of, .func (PySem.W.fnOf "sum_of" "sum_of" (defArgs s_sum_of) (defBody s_sum_of) (defScope s_sum_of) .none kV_sum_of dc_sum_of pm_sum_of an_sum_of cd_sum_of ct_sum_of), sl_sum_of⟩)
    (c_sum_of : PySem.W.codeIn K cd_sum_of "sum_of" = true)
    (k_sum_of : PySem.W.keepIn K (.ref f_sum_of) = true)
    (a_difference : PySem.W.nsIn K mainGlobals "difference" = some (some (.ref f_difference)))
    (l_difference : K.lookup f_difference = some ⟨oc_difference, od_difference, .func (PySem.W.fnOf "difference" "difference" (defArgs s_difference) (defBody s_difference) (defScope s_difference) .none kV_difference dc_difference pm_difference an_difference cd_difference ct_difference), sl_difference⟩)
    (c_difference : PySem.W.codeIn K cd_difference "difference" = true)
    (k_difference : PySem.W.keepIn K (.ref f_difference) = true)
    (a_divided : PySem.W.nsIn K mainGlobals "divided" = some (some (.ref f_divided)))
    (l_divided : K.lookup f_divided = some ⟨oc_divided, od_divided, .func (PySem.W.fnOf "divided" "divided" (defArgs s_divided) (defBody s_divided) (defScope s_divided) .none kV_divided dc_divided pm_divided an_divided cd_divided ct_divided), sl_divided⟩)
    (c_divided : PySem.W.codeIn K cd_divided "divided" = true)
    (k_divided : PySem.W.keepIn K (.ref f_divided) = true)
    (a_check_words : PySem.W.nsIn K mainGlobals "_check_words" = some (some (.ref f_check_words)))
    (l_check_words : K.lookup f_check_words = some ⟨oc_check_words, od_check_words, .func (PySem.W.fnOf "_check_words" "_check_words" (defArgs s_check_words) (defBody s_check_words) (defScope s_check_words) .none kV_check_words dc_check_words pm_check_words an_check_words cd_check_words ct_check_words), sl_check_words⟩)
    (c_check_words : PySem.W.codeIn K cd_check_words "_check_words" = true)
    (k_check_words : PySem.W.keepIn K (.ref f_check_words) = true)
    (a_Disk_init : PySem.W.findIn K (.ref C_Disk) "__init__" = some (some (.ref f_Disk_init)))
    (l_Disk_init : K.lookup f_Disk_init = some ⟨oc_Disk_init, od_Disk_init, .func (PySem.W.fnOf "__init__" "Disk.__init__" (defArgs s_Disk_init) (defBody s_Disk_init) (defScope s_Disk_init) .none kV_Disk_init dc_Disk_init pm_Disk_init an_Disk_init cd_Disk_init ct_Disk_init), sl_Disk_init⟩)
    (c_Disk_init : PySem.W.codeIn K cd_Disk_init "Disk.__init__" = true)
    (k_Disk_init : PySem.W.keepIn K (.ref f_Disk_init) = true)
    (a_Disk_ask : PySem.W.findIn K (.ref C_Disk) "ask" = some (some (.ref f_Disk_ask)))
    (l_Disk_ask : K.lookup f_Disk_ask = some ⟨oc_Disk_ask, od_Disk_ask, .func (PySem.W.fnOf "ask" "Disk.ask" (defArgs s_Disk_ask) (defBody s_Disk_ask) (defScope s_Disk_ask) .none kV_Disk_ask dc_Disk_ask pm_Disk_ask an_Disk_ask cd_Disk_ask ct_Disk_ask), sl_Disk_ask⟩)
    (c_Disk_ask : PySem.W.codeIn K cd_Disk_ask "Disk.ask" = true)
    (k_Disk_ask : PySem.W.keepIn K (.ref f_Disk_ask) = true)
    (a_Disk_serve : PySem.W.findIn K (.ref C_Disk) "serve" = some (some (.ref f_Disk_serve)))
    (l_Disk_serve : K.lookup f_Disk_serve = some ⟨oc_Disk_serve, od_Disk_serve, .func (PySem.W.fnOf "serve" "Disk.serve" (defArgs s_Disk_serve) (defBody s_Disk_serve) (defScope s_Disk_serve) .none kV_Disk_serve dc_Disk_serve pm_Disk_serve an_Disk_serve cd_Disk_serve ct_Disk_serve), sl_Disk_serve⟩)
    (c_Disk_serve : PySem.W.codeIn K cd_Disk_serve "Disk.serve" = true)
    (k_Disk_serve : PySem.W.keepIn K (.ref f_Disk_serve) = true)
    (a_Disk_do : PySem.W.findIn K (.ref C_Disk) "_do" = some (some (.ref f_Disk_do)))
    (l_Disk_do : K.lookup f_Disk_do = some ⟨oc_Disk_do, od_Disk_do, .func (PySem.W.fnOf "_do" "Disk._do" (defArgs s_Disk_do) (defBody s_Disk_do) (defScope s_Disk_do) .none kV_Disk_do dc_Disk_do pm_Disk_do an_Disk_do cd_Disk_do ct_Disk_do), sl_Disk_do⟩)
    (c_Disk_do : PySem.W.codeIn K cd_Disk_do "Disk._do" = true)
    (k_Disk_do : PySem.W.keepIn K (.ref f_Disk_do) = true)
    (a_Disk_blocks : PySem.W.findIn K (.ref C_Disk) "blocks" = some (some (.ref f_Disk_blocks)))
    (l_Disk_blocks : K.lookup f_Disk_blocks = some ⟨oc_Disk_blocks, od_Disk_blocks, .func (PySem.W.fnOf "blocks" "Disk.blocks" (defArgs s_Disk_blocks) (defBody s_Disk_blocks) (defScope s_Disk_blocks) .none kV_Disk_blocks dc_Disk_blocks pm_Disk_blocks an_Disk_blocks cd_Disk_blocks ct_Disk_blocks), sl_Disk_blocks⟩)
    (c_Disk_blocks : PySem.W.codeIn K cd_Disk_blocks "Disk.blocks" = true)
    (k_Disk_blocks : PySem.W.keepIn K (.ref f_Disk_blocks) = true)
    (a_Disk_asks : PySem.W.findIn K (.ref C_Disk) "asks" = some (some (.ref f_Disk_asks)))
    (l_Disk_asks : K.lookup f_Disk_asks = some ⟨oc_Disk_asks, od_Disk_asks, .func (PySem.W.fnOf "asks" "Disk.asks" (defArgs s_Disk_asks) (defBody s_Disk_asks) (defScope s_Disk_asks) .none kV_Disk_asks dc_Disk_asks pm_Disk_asks an_Disk_asks cd_Disk_asks ct_Disk_asks), sl_Disk_asks⟩)
    (c_Disk_asks : PySem.W.codeIn K cd_Disk_asks "Disk.asks" = true)
    (k_Disk_asks : PySem.W.keepIn K (.ref f_Disk_asks) = true)
    (a_Disk_asks_made : PySem.W.findIn K (.ref C_Disk) "asks_made" = some (some (.ref f_Disk_asks_made)))
    (l_Disk_asks_made : K.lookup f_Disk_asks_made = some ⟨oc_Disk_asks_made, od_Disk_asks_made, .func (PySem.W.fnOf "asks_made" "Disk.asks_made" (defArgs s_Disk_asks_made) (defBody s_Disk_asks_made) (defScope s_Disk_asks_made) .none kV_Disk_asks_made dc_Disk_asks_made pm_Disk_asks_made an_Disk_asks_made cd_Disk_asks_made ct_Disk_asks_made), sl_Disk_asks_made⟩)
    (c_Disk_asks_made : PySem.W.codeIn K cd_Disk_asks_made "Disk.asks_made" = true)
    (k_Disk_asks_made : PySem.W.keepIn K (.ref f_Disk_asks_made) = true)
    (a_Disk_asks_done : PySem.W.findIn K (.ref C_Disk) "asks_done" = some (some (.ref f_Disk_asks_done)))
    (l_Disk_asks_done : K.lookup f_Disk_asks_done = some ⟨oc_Disk_asks_done, od_Disk_asks_done, .func (PySem.W.fnOf "asks_done" "Disk.asks_done" (defArgs s_Disk_asks_done) (defBody s_Disk_asks_done) (defScope s_Disk_asks_done) .none kV_Disk_asks_done dc_Disk_asks_done pm_Disk_asks_done an_Disk_asks_done cd_Disk_asks_done ct_Disk_asks_done), sl_Disk_asks_done⟩)
    (c_Disk_asks_done : PySem.W.codeIn K cd_Disk_asks_done "Disk.asks_done" = true)
    (k_Disk_asks_done : PySem.W.keepIn K (.ref f_Disk_asks_done) = true)
    (a_disk_of : PySem.W.nsIn K mainGlobals "disk_of" = some (some (.ref f_disk_of)))
    (l_disk_of : K.lookup f_disk_of = some ⟨oc_disk_of, od_disk_of, .func (PySem.W.fnOf "disk_of" "disk_of" (defArgs s_disk_of) (defBody s_disk_of) (defScope s_disk_of) .none kV_disk_of dc_disk_of pm_disk_of an_disk_of cd_disk_of ct_disk_of), sl_disk_of⟩)
    (c_disk_of : PySem.W.codeIn K cd_disk_of "disk_of" = true)
    (k_disk_of : PySem.W.keepIn K (.ref f_disk_of) = true)
    (a_is_eight : PySem.W.nsIn K mainGlobals "is_eight" = some (some (.ref f_is_eight)))
    (l_is_eight : K.lookup f_is_eight = some ⟨oc_is_eight, od_is_eight, .func (PySem.W.fnOf "is_eight" "is_eight" (defArgs s_is_eight) (defBody s_is_eight) (defScope s_is_eight) .none kV_is_eight dc_is_eight pm_is_eight an_is_eight cd_is_eight ct_is_eight), sl_is_eight⟩)
    (c_is_eight : PySem.W.codeIn K cd_is_eight "is_eight" = true)
    (k_is_eight : PySem.W.keepIn K (.ref f_is_eight) = true)
    (a_is_image : PySem.W.nsIn K mainGlobals "is_image" = some (some (.ref f_is_image)))
    (l_is_image : K.lookup f_is_image = some ⟨oc_is_image, od_is_image, .func (PySem.W.fnOf "is_image" "is_image" (defArgs s_is_image) (defBody s_is_image) (defScope s_is_image) .none kV_is_image dc_is_image pm_is_image an_is_image cd_is_image ct_is_image), sl_is_image⟩)
    (c_is_image : PySem.W.codeIn K cd_is_image "is_image" = true)
    (k_is_image : PySem.W.keepIn K (.ref f_is_image) = true)
    (a_image_of : PySem.W.nsIn K mainGlobals "image_of" = some (some (.ref f_image_of)))
    (l_image_of : K.lookup f_image_of = some ⟨oc_image_of, od_image_of, .func (PySem.W.fnOf "image_of" "image_of" (defArgs s_image_of) (defBody s_image_of) (defScope s_image_of) (.ref DV_image_of) (.ref D_image_of) dc_image_of pm_image_of an_image_of cd_image_of ct_image_of), sl_image_of⟩)
    (c_image_of : PySem.W.codeIn K cd_image_of "image_of" = true)
    (lD_image_of : K.lookup DV_image_of = some ⟨oDc_image_of, oDd_image_of, .seq #[uD_image_of_0] nD_image_of, slD_image_of⟩)
    (k_image_of : PySem.W.keepIn K (.ref f_image_of) = true)
    (kd_image_of_blocks : PySem.W.nsIn K D_image_of "blocks" = some (some u_image_of_blocks))
    (a_is_row : PySem.W.nsIn K mainGlobals "_is_row" = some (some (.ref f_is_row)))
    (l_is_row : K.lookup f_is_row = some ⟨oc_is_row, od_is_row, .func (PySem.W.fnOf "_is_row" "_is_row" (defArgs s_is_row) (defBody s_is_row) (defScope s_is_row) .none kV_is_row dc_is_row pm_is_row an_is_row cd_is_row ct_is_row), sl_is_row⟩)
    (c_is_row : PySem.W.codeIn K cd_is_row "_is_row" = true)
    (k_is_row : PySem.W.keepIn K (.ref f_is_row) = true)
    (a_is_told : PySem.W.nsIn K mainGlobals "_is_told" = some (some (.ref f_is_told)))
    (l_is_told : K.lookup f_is_told = some ⟨oc_is_told, od_is_told, .func (PySem.W.fnOf "_is_told" "_is_told" (defArgs s_is_told) (defBody s_is_told) (defScope s_is_told) .none kV_is_told dc_is_told pm_is_told an_is_told cd_is_told ct_is_told), sl_is_told⟩)
    (c_is_told : PySem.W.codeIn K cd_is_told "_is_told" = true)
    (k_is_told : PySem.W.keepIn K (.ref f_is_told) = true)
    (a_filled : PySem.W.nsIn K mainGlobals "_filled" = some (some (.ref f_filled)))
    (l_filled : K.lookup f_filled = some ⟨oc_filled, od_filled, .func (PySem.W.fnOf "_filled" "_filled" (defArgs s_filled) (defBody s_filled) (defScope s_filled) .none kV_filled dc_filled pm_filled an_filled cd_filled ct_filled), sl_filled⟩)
    (c_filled : PySem.W.codeIn K cd_filled "_filled" = true)
    (k_filled : PySem.W.keepIn K (.ref f_filled) = true)
    (a_is_kind : PySem.W.nsIn K mainGlobals "is_kind" = some (some (.ref f_is_kind)))
    (l_is_kind : K.lookup f_is_kind = some ⟨oc_is_kind, od_is_kind, .func (PySem.W.fnOf "is_kind" "is_kind" (defArgs s_is_kind) (defBody s_is_kind) (defScope s_is_kind) .none kV_is_kind dc_is_kind pm_is_kind an_is_kind cd_is_kind ct_is_kind), sl_is_kind⟩)
    (c_is_kind : PySem.W.codeIn K cd_is_kind "is_kind" = true)
    (k_is_kind : PySem.W.keepIn K (.ref f_is_kind) = true)
    (a_may_arrive : PySem.W.nsIn K mainGlobals "may_arrive" = some (some (.ref f_may_arrive)))
    (l_may_arrive : K.lookup f_may_arrive = some ⟨oc_may_arrive, od_may_arrive, .func (PySem.W.fnOf "may_arrive" "may_arrive" (defArgs s_may_arrive) (defBody s_may_arrive) (defScope s_may_arrive) .none kV_may_arrive dc_may_arrive pm_may_arrive an_may_arrive cd_may_arrive ct_may_arrive), sl_may_arrive⟩)
    (c_may_arrive : PySem.W.codeIn K cd_may_arrive "may_arrive" = true)
    (k_may_arrive : PySem.W.keepIn K (.ref f_may_arrive) = true)
    (a_way : PySem.W.nsIn K mainGlobals "_way" = some (some (.ref f_way)))
    (l_way : K.lookup f_way = some ⟨oc_way, od_way, .func (PySem.W.fnOf "_way" "_way" (defArgs s_way) (defBody s_way) (defScope s_way) .none kV_way dc_way pm_way an_way cd_way ct_way), sl_way⟩)
    (c_way : PySem.W.codeIn K cd_way "_way" = true)
    (k_way : PySem.W.keepIn K (.ref f_way) = true)
    (a_loaded : PySem.W.nsIn K mainGlobals "_loaded" = some (some (.ref f_loaded)))
    (l_loaded : K.lookup f_loaded = some ⟨oc_loaded, od_loaded, .func (PySem.W.fnOf "_loaded" "_loaded" (defArgs s_loaded) (defBody s_loaded) (defScope s_loaded) .none kV_loaded dc_loaded pm_loaded an_loaded cd_loaded ct_loaded), sl_loaded⟩)
    (c_loaded : PySem.W.codeIn K cd_loaded "_loaded" = true)
    (k_loaded : PySem.W.keepIn K (.ref f_loaded) = true)
    (a_saved : PySem.W.nsIn K mainGlobals "_saved" = some (some (.ref f_saved)))
    (l_saved : K.lookup f_saved = some ⟨oc_saved, od_saved, .func (PySem.W.fnOf "_saved" "_saved" (defArgs s_saved) (defBody s_saved) (defScope s_saved) .none kV_saved dc_saved pm_saved an_saved cd_saved ct_saved), sl_saved⟩)
    (c_saved : PySem.W.codeIn K cd_saved "_saved" = true)
    (k_saved : PySem.W.keepIn K (.ref f_saved) = true)
    (a_halt : PySem.W.nsIn K mainGlobals "_halt" = some (some (.ref f_halt)))
    (l_halt : K.lookup f_halt = some ⟨oc_halt, od_halt, .func (PySem.W.fnOf "_halt" "_halt" (defArgs s_halt) (defBody s_halt) (defScope s_halt) .none kV_halt dc_halt pm_halt an_halt cd_halt ct_halt), sl_halt⟩)
    (c_halt : PySem.W.codeIn K cd_halt "_halt" = true)
    (k_halt : PySem.W.keepIn K (.ref f_halt) = true)
    (a_set : PySem.W.nsIn K mainGlobals "_set" = some (some (.ref f_set)))
    (l_set : K.lookup f_set = some ⟨oc_set, od_set, .func (PySem.W.fnOf "_set" "_set" (defArgs s_set) (defBody s_set) (defScope s_set) .none kV_set dc_set pm_set an_set cd_set ct_set), sl_set⟩)
    (c_set : PySem.W.codeIn K cd_set "_set" = true)
    (k_set : PySem.W.keepIn K (.ref f_set) = true)
    (a_load : PySem.W.nsIn K mainGlobals "_load" = some (some (.ref f_load)))
    (l_load : K.lookup f_load = some ⟨oc_load, od_load, .func (PySem.W.fnOf "_load" "_load" (defArgs s_load) (defBody s_load) (defScope s_load) .none kV_load dc_load pm_load an_load cd_load ct_load), sl_load⟩)
    (c_load : PySem.W.codeIn K cd_load "_load" = true)
    (k_load : PySem.W.keepIn K (.ref f_load) = true)
    (a_save : PySem.W.nsIn K mainGlobals "_save" = some (some (.ref f_save)))
    (l_save : K.lookup f_save = some ⟨oc_save, od_save, .func (PySem.W.fnOf "_save" "_save" (defArgs s_save) (defBody s_save) (defScope s_save) .none kV_save dc_save pm_save an_save cd_save ct_save), sl_save⟩)
    (c_save : PySem.W.codeIn K cd_save "_save" = true)
    (k_save : PySem.W.keepIn K (.ref f_save) = true)
    (a_from : PySem.W.nsIn K mainGlobals "_from" = some (some (.ref f_from)))
    (l_from : K.lookup f_from = some ⟨oc_from, od_from, .func (PySem.W.fnOf "_from" "_from" (defArgs s_from) (defBody s_from) (defScope s_from) .none kV_from dc_from pm_from an_from cd_from ct_from), sl_from⟩)
    (c_from : PySem.W.codeIn K cd_from "_from" = true)
    (k_from : PySem.W.keepIn K (.ref f_from) = true)
    (a_into : PySem.W.nsIn K mainGlobals "_into" = some (some (.ref f_into)))
    (l_into : K.lookup f_into = some ⟨oc_into, od_into, .func (PySem.W.fnOf "_into" "_into" (defArgs s_into) (defBody s_into) (defScope s_into) .none kV_into dc_into pm_into an_into cd_into ct_into), sl_into⟩)
    (c_into : PySem.W.codeIn K cd_into "_into" = true)
    (k_into : PySem.W.keepIn K (.ref f_into) = true)
    (a_add : PySem.W.nsIn K mainGlobals "_add" = some (some (.ref f_add)))
    (l_add : K.lookup f_add = some ⟨oc_add, od_add, .func (PySem.W.fnOf "_add" "_add" (defArgs s_add) (defBody s_add) (defScope s_add) .none kV_add dc_add pm_add an_add cd_add ct_add), sl_add⟩)
    (c_add : PySem.W.codeIn K cd_add "_add" = true)
    (k_add : PySem.W.keepIn K (.ref f_add) = true)
    (a_sub : PySem.W.nsIn K mainGlobals "_sub" = some (some (.ref f_sub)))
    (l_sub : K.lookup f_sub = some ⟨oc_sub, od_sub, .func (PySem.W.fnOf "_sub" "_sub" (defArgs s_sub) (defBody s_sub) (defScope s_sub) .none kV_sub dc_sub pm_sub an_sub cd_sub ct_sub), sl_sub⟩)
    (c_sub : PySem.W.codeIn K cd_sub "_sub" = true)
    (k_sub : PySem.W.keepIn K (.ref f_sub) = true)
    (a_part : PySem.W.nsIn K mainGlobals "_part" = some (some (.ref f_part)))
    (l_part : K.lookup f_part = some ⟨oc_part, od_part, .func (PySem.W.fnOf "_part" "_part" (defArgs s_part) (defBody s_part) (defScope s_part) .none kV_part dc_part pm_part an_part cd_part ct_part), sl_part⟩)
    (c_part : PySem.W.codeIn K cd_part "_part" = true)
    (k_part : PySem.W.keepIn K (.ref f_part) = true)
    (a_jump : PySem.W.nsIn K mainGlobals "_jump" = some (some (.ref f_jump)))
    (l_jump : K.lookup f_jump = some ⟨oc_jump, od_jump, .func (PySem.W.fnOf "_jump" "_jump" (defArgs s_jump) (defBody s_jump) (defScope s_jump) .none kV_jump dc_jump pm_jump an_jump cd_jump ct_jump), sl_jump⟩)
    (c_jump : PySem.W.codeIn K cd_jump "_jump" = true)
    (k_jump : PySem.W.keepIn K (.ref f_jump) = true)
    (a_base : PySem.W.nsIn K mainGlobals "_base" = some (some (.ref f_base)))
    (l_base : K.lookup f_base = some ⟨oc_base, od_base, .func (PySem.W.fnOf "_base" "_base" (defArgs s_base) (defBody s_base) (defScope s_base) .none kV_base dc_base pm_base an_base cd_base ct_base), sl_base⟩)
    (c_base : PySem.W.codeIn K cd_base "_base" = true)
    (k_base : PySem.W.keepIn K (.ref f_base) = true)
    (a_trap : PySem.W.nsIn K mainGlobals "_trap" = some (some (.ref f_trap)))
    (l_trap : K.lookup f_trap = some ⟨oc_trap, od_trap, .func (PySem.W.fnOf "_trap" "_trap" (defArgs s_trap) (defBody s_trap) (defScope s_trap) .none kV_trap dc_trap pm_trap an_trap cd_trap ct_trap), sl_trap⟩)
    (c_trap : PySem.W.codeIn K cd_trap "_trap" = true)
    (k_trap : PySem.W.keepIn K (.ref f_trap) = true)
    (a_clock : PySem.W.nsIn K mainGlobals "_clock" = some (some (.ref f_clock)))
    (l_clock : K.lookup f_clock = some ⟨oc_clock, od_clock, .func (PySem.W.fnOf "_clock" "_clock" (defArgs s_clock) (defBody s_clock) (defScope s_clock) .none kV_clock dc_clock pm_clock an_clock cd_clock ct_clock), sl_clock⟩)
    (c_clock : PySem.W.codeIn K cd_clock "_clock" = true)
    (k_clock : PySem.W.keepIn K (.ref f_clock) = true)
    (a_out : PySem.W.nsIn K mainGlobals "_out" = some (some (.ref f_out)))
    (l_out : K.lookup f_out = some ⟨oc_out, od_out, .func (PySem.W.fnOf "_out" "_out" (defArgs s_out) (defBody s_out) (defScope s_out) .none kV_out dc_out pm_out an_out cd_out ct_out), sl_out⟩)
    (c_out : PySem.W.codeIn K cd_out "_out" = true)
    (k_out : PySem.W.keepIn K (.ref f_out) = true)
    (a_in : PySem.W.nsIn K mainGlobals "_in" = some (some (.ref f_in)))
    (l_in : K.lookup f_in = some ⟨oc_in, od_in, .func (PySem.W.fnOf "_in" "_in" (defArgs s_in) (defBody s_in) (defScope s_in) .none kV_in dc_in pm_in an_in cd_in ct_in), sl_in⟩)
    (c_in : PySem.W.codeIn K cd_in "_in" = true)
    (k_in : PySem.W.keepIn K (.ref f_in) = true)
    (a_Core_init : PySem.W.findIn K (.ref C_Core) "__init__" = some (some (.ref f_Core_init)))
    (l_Core_init : K.lookup f_Core_init = some ⟨oc_Core_init, od_Core_init, .func (PySem.W.fnOf "__init__" "Core.__init__" (defArgs s_Core_init) (defBody s_Core_init) (defScope s_Core_init) .none kV_Core_init dc_Core_init pm_Core_init an_Core_init cd_Core_init ct_Core_init), sl_Core_init⟩)
    (c_Core_init : PySem.W.codeIn K cd_Core_init "Core.__init__" = true)
    (k_Core_init : PySem.W.keepIn K (.ref f_Core_init) = true)
    (a_Core_step : PySem.W.findIn K (.ref C_Core) "step" = some (some (.ref f_Core_step)))
    (l_Core_step : K.lookup f_Core_step = some ⟨oc_Core_step, od_Core_step, .func (PySem.W.fnOf "step" "Core.step" (defArgs s_Core_step) (defBody s_Core_step) (defScope s_Core_step) .none kV_Core_step dc_Core_step pm_Core_step an_Core_step cd_Core_step ct_Core_step), sl_Core_step⟩)
    (c_Core_step : PySem.W.codeIn K cd_Core_step "Core.step" = true)
    (k_Core_step : PySem.W.keepIn K (.ref f_Core_step) = true)
    (a_Core_act : PySem.W.findIn K (.ref C_Core) "_act" = some (some (.ref f_Core_act)))
    (l_Core_act : K.lookup f_Core_act = some ⟨oc_Core_act, od_Core_act, .func (PySem.W.fnOf "_act" "Core._act" (defArgs s_Core_act) (defBody s_Core_act) (defScope s_Core_act) .none kV_Core_act dc_Core_act pm_Core_act an_Core_act cd_Core_act ct_Core_act), sl_Core_act⟩)
    (c_Core_act : PySem.W.codeIn K cd_Core_act "Core._act" = true)
    (k_Core_act : PySem.W.keepIn K (.ref f_Core_act) = true)
    (a_Core_wait : PySem.W.findIn K (.ref C_Core) "_wait" = some (some (.ref f_Core_wait)))
    (l_Core_wait : K.lookup f_Core_wait = some ⟨oc_Core_wait, od_Core_wait, .func (PySem.W.fnOf "_wait" "Core._wait" (defArgs s_Core_wait) (defBody s_Core_wait) (defScope s_Core_wait) .none kV_Core_wait dc_Core_wait pm_Core_wait an_Core_wait cd_Core_wait ct_Core_wait), sl_Core_wait⟩)
    (c_Core_wait : PySem.W.codeIn K cd_Core_wait "Core._wait" = true)
    (k_Core_wait : PySem.W.keepIn K (.ref f_Core_wait) = true)
    (a_Core_trap_by : PySem.W.findIn K (.ref C_Core) "_trap_by" = some (some (.ref f_Core_trap_by)))
    (l_Core_trap_by : K.lookup f_Core_trap_by = some ⟨oc_Core_trap_by, od_Core_trap_by, .func (PySem.W.fnOf "_trap_by" "Core._trap_by" (defArgs s_Core_trap_by) (defBody s_Core_trap_by) (defScope s_Core_trap_by) .none kV_Core_trap_by dc_Core_trap_by pm_Core_trap_by an_Core_trap_by cd_Core_trap_by ct_Core_trap_by), sl_Core_trap_by⟩)
    (c_Core_trap_by : PySem.W.codeIn K cd_Core_trap_by "Core._trap_by" = true)
    (k_Core_trap_by : PySem.W.keepIn K (.ref f_Core_trap_by) = true)
    (a_Core_arrive : PySem.W.findIn K (.ref C_Core) "arrive" = some (some (.ref f_Core_arrive)))
    (l_Core_arrive : K.lookup f_Core_arrive = some ⟨oc_Core_arrive, od_Core_arrive, .func (PySem.W.fnOf "arrive" "Core.arrive" (defArgs s_Core_arrive) (defBody s_Core_arrive) (defScope s_Core_arrive) .none kV_Core_arrive dc_Core_arrive pm_Core_arrive an_Core_arrive cd_Core_arrive ct_Core_arrive), sl_Core_arrive⟩)
    (c_Core_arrive : PySem.W.codeIn K cd_Core_arrive "Core.arrive" = true)
    (k_Core_arrive : PySem.W.keepIn K (.ref f_Core_arrive) = true)
    (a_Core_registers : PySem.W.findIn K (.ref C_Core) "registers" = some (some (.ref f_Core_registers)))
    (l_Core_registers : K.lookup f_Core_registers = some ⟨oc_Core_registers, od_Core_registers, .func (PySem.W.fnOf "registers" "Core.registers" (defArgs s_Core_registers) (defBody s_Core_registers) (defScope s_Core_registers) .none kV_Core_registers dc_Core_registers pm_Core_registers an_Core_registers cd_Core_registers ct_Core_registers), sl_Core_registers⟩)
    (c_Core_registers : PySem.W.codeIn K cd_Core_registers "Core.registers" = true)
    (k_Core_registers : PySem.W.keepIn K (.ref f_Core_registers) = true)
    (a_Core_counter : PySem.W.findIn K (.ref C_Core) "counter" = some (some (.ref f_Core_counter)))
    (l_Core_counter : K.lookup f_Core_counter = some ⟨oc_Core_counter, od_Core_counter, .func (PySem.W.fnOf "counter" "Core.counter" (defArgs s_Core_counter) (defBody s_Core_counter) (defScope s_Core_counter) .none kV_Core_counter dc_Core_counter pm_Core_counter an_Core_counter cd_Core_counter ct_Core_counter), sl_Core_counter⟩)
    (c_Core_counter : PySem.W.codeIn K cd_Core_counter "Core.counter" = true)
    (k_Core_counter : PySem.W.keepIn K (.ref f_Core_counter) = true)
    (a_Core_table : PySem.W.findIn K (.ref C_Core) "table" = some (some (.ref f_Core_table)))
    (l_Core_table : K.lookup f_Core_table = some ⟨oc_Core_table, od_Core_table, .func (PySem.W.fnOf "table" "Core.table" (defArgs s_Core_table) (defBody s_Core_table) (defScope s_Core_table) .none kV_Core_table dc_Core_table pm_Core_table an_Core_table cd_Core_table ct_Core_table), sl_Core_table⟩)
    (c_Core_table : PySem.W.codeIn K cd_Core_table "Core.table" = true)
    (k_Core_table : PySem.W.keepIn K (.ref f_Core_table) = true)
    (a_Core_time : PySem.W.findIn K (.ref C_Core) "time" = some (some (.ref f_Core_time)))
    (l_Core_time : K.lookup f_Core_time = some ⟨oc_Core_time, od_Core_time, .func (PySem.W.fnOf "time" "Core.time" (defArgs s_Core_time) (defBody s_Core_time) (defScope s_Core_time) .none kV_Core_time dc_Core_time pm_Core_time an_Core_time cd_Core_time ct_Core_time), sl_Core_time⟩)
    (c_Core_time : PySem.W.codeIn K cd_Core_time "Core.time" = true)
    (k_Core_time : PySem.W.keepIn K (.ref f_Core_time) = true)
    (a_Core_handler : PySem.W.findIn K (.ref C_Core) "handler" = some (some (.ref f_Core_handler)))
    (l_Core_handler : K.lookup f_Core_handler = some ⟨oc_Core_handler, od_Core_handler, .func (PySem.W.fnOf "handler" "Core.handler" (defArgs s_Core_handler) (defBody s_Core_handler) (defScope s_Core_handler) .none kV_Core_handler dc_Core_handler pm_Core_handler an_Core_handler cd_Core_handler ct_Core_handler), sl_Core_handler⟩)
    (c_Core_handler : PySem.W.codeIn K cd_Core_handler "Core.handler" = true)
    (k_Core_handler : PySem.W.keepIn K (.ref f_Core_handler) = true)
    (a_Core_cause : PySem.W.findIn K (.ref C_Core) "cause" = some (some (.ref f_Core_cause)))
    (l_Core_cause : K.lookup f_Core_cause = some ⟨oc_Core_cause, od_Core_cause, .func (PySem.W.fnOf "cause" "Core.cause" (defArgs s_Core_cause) (defBody s_Core_cause) (defScope s_Core_cause) .none kV_Core_cause dc_Core_cause pm_Core_cause an_Core_cause cd_Core_cause ct_Core_cause), sl_Core_cause⟩)
    (c_Core_cause : PySem.W.codeIn K cd_Core_cause "Core.cause" = true)
    (k_Core_cause : PySem.W.keepIn K (.ref f_Core_cause) = true)
    (a_Core_state : PySem.W.findIn K (.ref C_Core) "state" = some (some (.ref f_Core_state)))
    (l_Core_state : K.lookup f_Core_state = some ⟨oc_Core_state, od_Core_state, .func (PySem.W.fnOf "state" "Core.state" (defArgs s_Core_state) (defBody s_Core_state) (defScope s_Core_state) .none kV_Core_state dc_Core_state pm_Core_state an_Core_state cd_Core_state ct_Core_state), sl_Core_state⟩)
    (c_Core_state : PySem.W.codeIn K cd_Core_state "Core.state" = true)
    (k_Core_state : PySem.W.keepIn K (.ref f_Core_state) = true)
    (a_Core_queue : PySem.W.findIn K (.ref C_Core) "queue" = some (some (.ref f_Core_queue)))
    (l_Core_queue : K.lookup f_Core_queue = some ⟨oc_Core_queue, od_Core_queue, .func (PySem.W.fnOf "queue" "Core.queue" (defArgs s_Core_queue) (defBody s_Core_queue) (defScope s_Core_queue) .none kV_Core_queue dc_Core_queue pm_Core_queue an_Core_queue cd_Core_queue ct_Core_queue), sl_Core_queue⟩)
    (c_Core_queue : PySem.W.codeIn K cd_Core_queue "Core.queue" = true)
    (k_Core_queue : PySem.W.keepIn K (.ref f_Core_queue) = true)
    (a_Core_told : PySem.W.findIn K (.ref C_Core) "told" = some (some (.ref f_Core_told)))
    (l_Core_told : K.lookup f_Core_told = some ⟨oc_Core_told, od_Core_told, .func (PySem.W.fnOf "told" "Core.told" (defArgs s_Core_told) (defBody s_Core_told) (defScope s_Core_told) .none kV_Core_told dc_Core_told pm_Core_told an_Core_told cd_Core_told ct_Core_told), sl_Core_told⟩)
    (c_Core_told : PySem.W.codeIn K cd_Core_told "Core.told" = true)
    (k_Core_told : PySem.W.keepIn K (.ref f_Core_told) = true)
    (a_Core_sent : PySem.W.findIn K (.ref C_Core) "sent" = some (some (.ref f_Core_sent)))
    (l_Core_sent : K.lookup f_Core_sent = some ⟨oc_Core_sent, od_Core_sent, .func (PySem.W.fnOf "sent" "Core.sent" (defArgs s_Core_sent) (defBody s_Core_sent) (defScope s_Core_sent) .none kV_Core_sent dc_Core_sent pm_Core_sent an_Core_sent cd_Core_sent ct_Core_sent), sl_Core_sent⟩)
    (c_Core_sent : PySem.W.codeIn K cd_Core_sent "Core.sent" = true)
    (k_Core_sent : PySem.W.keepIn K (.ref f_Core_sent) = true)
    (a_Core_blocks : PySem.W.findIn K (.ref C_Core) "blocks" = some (some (.ref f_Core_blocks)))
    (l_Core_blocks : K.lookup f_Core_blocks = some ⟨oc_Core_blocks, od_Core_blocks, .func (PySem.W.fnOf "blocks" "Core.blocks" (defArgs s_Core_blocks) (defBody s_Core_blocks) (defScope s_Core_blocks) .none kV_Core_blocks dc_Core_blocks pm_Core_blocks an_Core_blocks cd_Core_blocks ct_Core_blocks), sl_Core_blocks⟩)
    (c_Core_blocks : PySem.W.codeIn K cd_Core_blocks "Core.blocks" = true)
    (k_Core_blocks : PySem.W.keepIn K (.ref f_Core_blocks) = true)
    (a_Core_asks : PySem.W.findIn K (.ref C_Core) "asks" = some (some (.ref f_Core_asks)))
    (l_Core_asks : K.lookup f_Core_asks = some ⟨oc_Core_asks, od_Core_asks, .func (PySem.W.fnOf "asks" "Core.asks" (defArgs s_Core_asks) (defBody s_Core_asks) (defScope s_Core_asks) .none kV_Core_asks dc_Core_asks pm_Core_asks an_Core_asks cd_Core_asks ct_Core_asks), sl_Core_asks⟩)
    (c_Core_asks : PySem.W.codeIn K cd_Core_asks "Core.asks" = true)
    (k_Core_asks : PySem.W.keepIn K (.ref f_Core_asks) = true)
    (a_Core_due : PySem.W.findIn K (.ref C_Core) "due" = some (some (.ref f_Core_due)))
    (l_Core_due : K.lookup f_Core_due = some ⟨oc_Core_due, od_Core_due, .func (PySem.W.fnOf "due" "Core.due" (defArgs s_Core_due) (defBody s_Core_due) (defScope s_Core_due) .none kV_Core_due dc_Core_due pm_Core_due an_Core_due cd_Core_due ct_Core_due), sl_Core_due⟩)
    (c_Core_due : PySem.W.codeIn K cd_Core_due "Core.due" = true)
    (k_Core_due : PySem.W.keepIn K (.ref f_Core_due) = true)
    (a_Core_asks_made : PySem.W.findIn K (.ref C_Core) "asks_made" = some (some (.ref f_Core_asks_made)))
    (l_Core_asks_made : K.lookup f_Core_asks_made = some ⟨oc_Core_asks_made, od_Core_asks_made, .func (PySem.W.fnOf "asks_made" "Core.asks_made" (defArgs s_Core_asks_made) (defBody s_Core_asks_made) (defScope s_Core_asks_made) .none kV_Core_asks_made dc_Core_asks_made pm_Core_asks_made an_Core_asks_made cd_Core_asks_made ct_Core_asks_made), sl_Core_asks_made⟩)
    (c_Core_asks_made : PySem.W.codeIn K cd_Core_asks_made "Core.asks_made" = true)
    (k_Core_asks_made : PySem.W.keepIn K (.ref f_Core_asks_made) = true)
    (a_Core_asks_done : PySem.W.findIn K (.ref C_Core) "asks_done" = some (some (.ref f_Core_asks_done)))
    (l_Core_asks_done : K.lookup f_Core_asks_done = some ⟨oc_Core_asks_done, od_Core_asks_done, .func (PySem.W.fnOf "asks_done" "Core.asks_done" (defArgs s_Core_asks_done) (defBody s_Core_asks_done) (defScope s_Core_asks_done) .none kV_Core_asks_done dc_Core_asks_done pm_Core_asks_done an_Core_asks_done cd_Core_asks_done ct_Core_asks_done), sl_Core_asks_done⟩)
    (c_Core_asks_done : PySem.W.codeIn K cd_Core_asks_done "Core.asks_done" = true)
    (k_Core_asks_done : PySem.W.keepIn K (.ref f_Core_asks_done) = true)
    (a_Core_stands : PySem.W.findIn K (.ref C_Core) "stands" = some (some (.ref f_Core_stands)))
    (l_Core_stands : K.lookup f_Core_stands = some ⟨oc_Core_stands, od_Core_stands, .func (PySem.W.fnOf "stands" "Core.stands" (defArgs s_Core_stands) (defBody s_Core_stands) (defScope s_Core_stands) .none kV_Core_stands dc_Core_stands pm_Core_stands an_Core_stands cd_Core_stands ct_Core_stands), sl_Core_stands⟩)
    (c_Core_stands : PySem.W.codeIn K cd_Core_stands "Core.stands" = true)
    (k_Core_stands : PySem.W.keepIn K (.ref f_Core_stands) = true)
    (a_Core_twin : PySem.W.findIn K (.ref C_Core) "twin" = some (some (.ref f_Core_twin)))
    (l_Core_twin : K.lookup f_Core_twin = some ⟨oc_Core_twin, od_Core_twin, .func (PySem.W.fnOf "twin" "Core.twin" (defArgs s_Core_twin) (defBody s_Core_twin) (defScope s_Core_twin) .none kV_Core_twin dc_Core_twin pm_Core_twin an_Core_twin cd_Core_twin ct_Core_twin), sl_Core_twin⟩)
    (c_Core_twin : PySem.W.codeIn K cd_Core_twin "Core.twin" = true)
    (k_Core_twin : PySem.W.keepIn K (.ref f_Core_twin) = true)
    (a_Core_eq : PySem.W.findIn K (.ref C_Core) "__eq__" = some (some (.ref f_Core_eq)))
    (l_Core_eq : K.lookup f_Core_eq = some ⟨oc_Core_eq, od_Core_eq, .func (PySem.W.fnOf "__eq__" "Core.__eq__" (defArgs s_Core_eq) (defBody s_Core_eq) (defScope s_Core_eq) .none kV_Core_eq dc_Core_eq pm_Core_eq an_Core_eq cd_Core_eq ct_Core_eq), sl_Core_eq⟩)
    (c_Core_eq : PySem.W.codeIn K cd_Core_eq "Core.__eq__" = true)
    (k_Core_eq : PySem.W.keepIn K (.ref f_Core_eq) = true)
    (a_core_of : PySem.W.nsIn K mainGlobals "core_of" = some (some (.ref f_core_of)))
    (l_core_of : K.lookup f_core_of = some ⟨oc_core_of, od_core_of, .func (PySem.W.fnOf "core_of" "core_of" (defArgs s_core_of) (defBody s_core_of) (defScope s_core_of) .none kV_core_of dc_core_of pm_core_of an_core_of cd_core_of ct_core_of), sl_core_of⟩)
    (c_core_of : PySem.W.codeIn K cd_core_of "core_of" = true)
    (k_core_of : PySem.W.keepIn K (.ref f_core_of) = true)
    (a_PlainStore_init : PySem.W.findIn K (.ref C_PlainStore) "__init__" = some (some (.ref f_PlainStore_init)))
    (l_PlainStore_init : K.lookup f_PlainStore_init = some ⟨oc_PlainStore_init, od_PlainStore_init, .func (PySem.W.fnOf "__init__" "PlainStore.__init__" (defArgs s_PlainStore_init) (defBody s_PlainStore_init) (defScope s_PlainStore_init) .none kV_PlainStore_init dc_PlainStore_init pm_PlainStore_init an_PlainStore_init cd_PlainStore_init ct_PlainStore_init), sl_PlainStore_init⟩)
    (c_PlainStore_init : PySem.W.codeIn K cd_PlainStore_init "PlainStore.__init__" = true)
    (k_PlainStore_init : PySem.W.keepIn K (.ref f_PlainStore_init) = true)
    (a_PlainStore_read_cell : PySem.W.findIn K (.ref C_PlainStore) "read_cell" = some (some (.ref f_PlainStore_read_cell)))
    (l_PlainStore_read_cell : K.lookup f_PlainStore_read_cell = some ⟨oc_PlainStore_read_cell, od_PlainStore_read_cell, .func (PySem.W.fnOf "read_cell" "PlainStore.read_cell" (defArgs s_PlainStore_read_cell) (defBody s_PlainStore_read_cell) (defScope s_PlainStore_read_cell) .none kV_PlainStore_read_cell dc_PlainStore_read_cell pm_PlainStore_read_cell an_PlainStore_read_cell cd_PlainStore_read_cell ct_PlainStore_read_cell), sl_PlainStore_read_cell⟩)
    (c_PlainStore_read_cell : PySem.W.codeIn K cd_PlainStore_read_cell "PlainStore.read_cell" = true)
    (k_PlainStore_read_cell : PySem.W.keepIn K (.ref f_PlainStore_read_cell) = true)
    (a_PlainStore_write_cell : PySem.W.findIn K (.ref C_PlainStore) "write_cell" = some (some (.ref f_PlainStore_write_cell)))
    (l_PlainStore_write_cell : K.lookup f_PlainStore_write_cell = some ⟨oc_PlainStore_write_cell, od_PlainStore_write_cell, .func (PySem.W.fnOf "write_cell" "PlainStore.write_cell" (defArgs s_PlainStore_write_cell) (defBody s_PlainStore_write_cell) (defScope s_PlainStore_write_cell) .none kV_PlainStore_write_cell dc_PlainStore_write_cell pm_PlainStore_write_cell an_PlainStore_write_cell cd_PlainStore_write_cell ct_PlainStore_write_cell), sl_PlainStore_write_cell⟩)
    (c_PlainStore_write_cell : PySem.W.codeIn K cd_PlainStore_write_cell "PlainStore.write_cell" = true)
    (k_PlainStore_write_cell : PySem.W.keepIn K (.ref f_PlainStore_write_cell) = true)
    (a_PlainStore_rooms : PySem.W.findIn K (.ref C_PlainStore) "rooms" = some (some (.ref f_PlainStore_rooms)))
    (l_PlainStore_rooms : K.lookup f_PlainStore_rooms = some ⟨oc_PlainStore_rooms, od_PlainStore_rooms, .func (PySem.W.fnOf "rooms" "PlainStore.rooms" (defArgs s_PlainStore_rooms) (defBody s_PlainStore_rooms) (defScope s_PlainStore_rooms) .none kV_PlainStore_rooms dc_PlainStore_rooms pm_PlainStore_rooms an_PlainStore_rooms cd_PlainStore_rooms ct_PlainStore_rooms), sl_PlainStore_rooms⟩)
    (c_PlainStore_rooms : PySem.W.codeIn K cd_PlainStore_rooms "PlainStore.rooms" = true)
    (k_PlainStore_rooms : PySem.W.keepIn K (.ref f_PlainStore_rooms) = true)
    (a_PlainStore_twin : PySem.W.findIn K (.ref C_PlainStore) "twin" = some (some (.ref f_PlainStore_twin)))
    (l_PlainStore_twin : K.lookup f_PlainStore_twin = some ⟨oc_PlainStore_twin, od_PlainStore_twin, .func (PySem.W.fnOf "twin" "PlainStore.twin" (defArgs s_PlainStore_twin) (defBody s_PlainStore_twin) (defScope s_PlainStore_twin) .none kV_PlainStore_twin dc_PlainStore_twin pm_PlainStore_twin an_PlainStore_twin cd_PlainStore_twin ct_PlainStore_twin), sl_PlainStore_twin⟩)
    (c_PlainStore_twin : PySem.W.codeIn K cd_PlainStore_twin "PlainStore.twin" = true)
    (k_PlainStore_twin : PySem.W.keepIn K (.ref f_PlainStore_twin) = true)
    (a_PlainMachine_init : PySem.W.findIn K (.ref C_PlainMachine) "__init__" = some (some (.ref f_PlainMachine_init)))
    (l_PlainMachine_init : K.lookup f_PlainMachine_init = some ⟨oc_PlainMachine_init, od_PlainMachine_init, .func (PySem.W.fnOf "__init__" "PlainMachine.__init__" (defArgs s_PlainMachine_init) (defBody s_PlainMachine_init) (defScope s_PlainMachine_init) .none kV_PlainMachine_init dc_PlainMachine_init pm_PlainMachine_init an_PlainMachine_init cd_PlainMachine_init ct_PlainMachine_init), sl_PlainMachine_init⟩)
    (c_PlainMachine_init : PySem.W.codeIn K cd_PlainMachine_init "PlainMachine.__init__" = true)
    (k_PlainMachine_init : PySem.W.keepIn K (.ref f_PlainMachine_init) = true)
    (a_PlainMachine_step : PySem.W.findIn K (.ref C_PlainMachine) "step" = some (some (.ref f_PlainMachine_step)))
    (l_PlainMachine_step : K.lookup f_PlainMachine_step = some ⟨oc_PlainMachine_step, od_PlainMachine_step, .func (PySem.W.fnOf "step" "PlainMachine.step" (defArgs s_PlainMachine_step) (defBody s_PlainMachine_step) (defScope s_PlainMachine_step) .none kV_PlainMachine_step dc_PlainMachine_step pm_PlainMachine_step an_PlainMachine_step cd_PlainMachine_step ct_PlainMachine_step), sl_PlainMachine_step⟩)
    (c_PlainMachine_step : PySem.W.codeIn K cd_PlainMachine_step "PlainMachine.step" = true)
    (k_PlainMachine_step : PySem.W.keepIn K (.ref f_PlainMachine_step) = true)
    (a_PlainMachine_arrive : PySem.W.findIn K (.ref C_PlainMachine) "arrive" = some (some (.ref f_PlainMachine_arrive)))
    (l_PlainMachine_arrive : K.lookup f_PlainMachine_arrive = some ⟨oc_PlainMachine_arrive, od_PlainMachine_arrive, .func (PySem.W.fnOf "arrive" "PlainMachine.arrive" (defArgs s_PlainMachine_arrive) (defBody s_PlainMachine_arrive) (defScope s_PlainMachine_arrive) .none kV_PlainMachine_arrive dc_PlainMachine_arrive pm_PlainMachine_arrive an_PlainMachine_arrive cd_PlainMachine_arrive ct_PlainMachine_arrive), sl_PlainMachine_arrive⟩)
    (c_PlainMachine_arrive : PySem.W.codeIn K cd_PlainMachine_arrive "PlainMachine.arrive" = true)
    (k_PlainMachine_arrive : PySem.W.keepIn K (.ref f_PlainMachine_arrive) = true)
    (a_PlainMachine_core : PySem.W.findIn K (.ref C_PlainMachine) "core" = some (some (.ref f_PlainMachine_core)))
    (l_PlainMachine_core : K.lookup f_PlainMachine_core = some ⟨oc_PlainMachine_core, od_PlainMachine_core, .func (PySem.W.fnOf "core" "PlainMachine.core" (defArgs s_PlainMachine_core) (defBody s_PlainMachine_core) (defScope s_PlainMachine_core) .none kV_PlainMachine_core dc_PlainMachine_core pm_PlainMachine_core an_PlainMachine_core cd_PlainMachine_core ct_PlainMachine_core), sl_PlainMachine_core⟩)
    (c_PlainMachine_core : PySem.W.codeIn K cd_PlainMachine_core "PlainMachine.core" = true)
    (k_PlainMachine_core : PySem.W.keepIn K (.ref f_PlainMachine_core) = true)
    (a_PlainMachine_store : PySem.W.findIn K (.ref C_PlainMachine) "store" = some (some (.ref f_PlainMachine_store)))
    (l_PlainMachine_store : K.lookup f_PlainMachine_store = some ⟨oc_PlainMachine_store, od_PlainMachine_store, .func (PySem.W.fnOf "store" "PlainMachine.store" (defArgs s_PlainMachine_store) (defBody s_PlainMachine_store) (defScope s_PlainMachine_store) .none kV_PlainMachine_store dc_PlainMachine_store pm_PlainMachine_store an_PlainMachine_store cd_PlainMachine_store ct_PlainMachine_store), sl_PlainMachine_store⟩)
    (c_PlainMachine_store : PySem.W.codeIn K cd_PlainMachine_store "PlainMachine.store" = true)
    (k_PlainMachine_store : PySem.W.keepIn K (.ref f_PlainMachine_store) = true)
    (a_PlainMachine_time : PySem.W.findIn K (.ref C_PlainMachine) "time" = some (some (.ref f_PlainMachine_time)))
    (l_PlainMachine_time : K.lookup f_PlainMachine_time = some ⟨oc_PlainMachine_time, od_PlainMachine_time, .func (PySem.W.fnOf "time" "PlainMachine.time" (defArgs s_PlainMachine_time) (defBody s_PlainMachine_time) (defScope s_PlainMachine_time) .none kV_PlainMachine_time dc_PlainMachine_time pm_PlainMachine_time an_PlainMachine_time cd_PlainMachine_time ct_PlainMachine_time), sl_PlainMachine_time⟩)
    (c_PlainMachine_time : PySem.W.codeIn K cd_PlainMachine_time "PlainMachine.time" = true)
    (k_PlainMachine_time : PySem.W.keepIn K (.ref f_PlainMachine_time) = true)
    (a_PlainMachine_state : PySem.W.findIn K (.ref C_PlainMachine) "state" = some (some (.ref f_PlainMachine_state)))
    (l_PlainMachine_state : K.lookup f_PlainMachine_state = some ⟨oc_PlainMachine_state, od_PlainMachine_state, .func (PySem.W.fnOf "state" "PlainMachine.state" (defArgs s_PlainMachine_state) (defBody s_PlainMachine_state) (defScope s_PlainMachine_state) .none kV_PlainMachine_state dc_PlainMachine_state pm_PlainMachine_state an_PlainMachine_state cd_PlainMachine_state ct_PlainMachine_state), sl_PlainMachine_state⟩)
    (c_PlainMachine_state : PySem.W.codeIn K cd_PlainMachine_state "PlainMachine.state" = true)
    (k_PlainMachine_state : PySem.W.keepIn K (.ref f_PlainMachine_state) = true)
    (a_PlainMachine_log : PySem.W.findIn K (.ref C_PlainMachine) "log" = some (some (.ref f_PlainMachine_log)))
    (l_PlainMachine_log : K.lookup f_PlainMachine_log = some ⟨oc_PlainMachine_log, od_PlainMachine_log, .func (PySem.W.fnOf "log" "PlainMachine.log" (defArgs s_PlainMachine_log) (defBody s_PlainMachine_log) (defScope s_PlainMachine_log) .none kV_PlainMachine_log dc_PlainMachine_log pm_PlainMachine_log an_PlainMachine_log cd_PlainMachine_log ct_PlainMachine_log), sl_PlainMachine_log⟩)
    (c_PlainMachine_log : PySem.W.codeIn K cd_PlainMachine_log "PlainMachine.log" = true)
    (k_PlainMachine_log : PySem.W.keepIn K (.ref f_PlainMachine_log) = true)
    (a_PlainMachine_trail : PySem.W.findIn K (.ref C_PlainMachine) "trail" = some (some (.ref f_PlainMachine_trail)))
    (l_PlainMachine_trail : K.lookup f_PlainMachine_trail = some ⟨oc_PlainMachine_trail, od_PlainMachine_trail, .func (PySem.W.fnOf "trail" "PlainMachine.trail" (defArgs s_PlainMachine_trail) (defBody s_PlainMachine_trail) (defScope s_PlainMachine_trail) .none kV_PlainMachine_trail dc_PlainMachine_trail pm_PlainMachine_trail an_PlainMachine_trail cd_PlainMachine_trail ct_PlainMachine_trail), sl_PlainMachine_trail⟩)
    (c_PlainMachine_trail : PySem.W.codeIn K cd_PlainMachine_trail "PlainMachine.trail" = true)
    (k_PlainMachine_trail : PySem.W.keepIn K (.ref f_PlainMachine_trail) = true)
    (a_PlainMachine_twin : PySem.W.findIn K (.ref C_PlainMachine) "twin" = some (some (.ref f_PlainMachine_twin)))
    (l_PlainMachine_twin : K.lookup f_PlainMachine_twin = some ⟨oc_PlainMachine_twin, od_PlainMachine_twin, .func (PySem.W.fnOf "twin" "PlainMachine.twin" (defArgs s_PlainMachine_twin) (defBody s_PlainMachine_twin) (defScope s_PlainMachine_twin) .none kV_PlainMachine_twin dc_PlainMachine_twin pm_PlainMachine_twin an_PlainMachine_twin cd_PlainMachine_twin ct_PlainMachine_twin), sl_PlainMachine_twin⟩)
    (c_PlainMachine_twin : PySem.W.codeIn K cd_PlainMachine_twin "PlainMachine.twin" = true)
    (k_PlainMachine_twin : PySem.W.keepIn K (.ref f_PlainMachine_twin) = true)
    (a_is_log : PySem.W.nsIn K mainGlobals "is_log" = some (some (.ref f_is_log)))
    (l_is_log : K.lookup f_is_log = some ⟨oc_is_log, od_is_log, .func (PySem.W.fnOf "is_log" "is_log" (defArgs s_is_log) (defBody s_is_log) (defScope s_is_log) .none kV_is_log dc_is_log pm_is_log an_is_log cd_is_log ct_is_log), sl_is_log⟩)
    (c_is_log : PySem.W.codeIn K cd_is_log "is_log" = true)
    (k_is_log : PySem.W.keepIn K (.ref f_is_log) = true)
    (a_run_alone : PySem.W.nsIn K mainGlobals "run_alone" = some (some (.ref f_run_alone)))
    (l_run_alone : K.lookup f_run_alone = some ⟨oc_run_alone, od_run_alone, .func (PySem.W.fnOf "run_alone" "run_alone" (defArgs s_run_alone) (defBody s_run_alone) (defScope s_run_alone) (.ref DV_run_alone) (.ref D_run_alone) dc_run_alone pm_run_alone an_run_alone cd_run_alone ct_run_alone), sl_run_alone⟩)
    (c_run_alone : PySem.W.codeIn K cd_run_alone "run_alone" = true)
    (lD_run_alone : K.lookup DV_run_alone = some ⟨oDc_run_alone, oDd_run_alone, .seq #[uD_run_alone_0] nD_run_alone, slD_run_alone⟩)
    (k_run_alone : PySem.W.keepIn K (.ref f_run_alone) = true)
    (kd_run_alone_end : PySem.W.nsIn K D_run_alone "end" = some (some u_run_alone_end))
    (a_machine_of : PySem.W.nsIn K mainGlobals "machine_of" = some (some (.ref f_machine_of)))
    (l_machine_of : K.lookup f_machine_of = some ⟨oc_machine_of, od_machine_of, .func (PySem.W.fnOf "machine_of" "machine_of" (defArgs s_machine_of) (defBody s_machine_of) (defScope s_machine_of) .none kV_machine_of dc_machine_of pm_machine_of an_machine_of cd_machine_of ct_machine_of), sl_machine_of⟩)
    (c_machine_of : PySem.W.codeIn K cd_machine_of "machine_of" = true)
    (k_machine_of : PySem.W.keepIn K (.ref f_machine_of) = true)
    (a_check_end : PySem.W.nsIn K mainGlobals "check_end" = some (some (.ref f_check_end)))
    (l_check_end : K.lookup f_check_end = some ⟨oc_check_end, od_check_end, .func (PySem.W.fnOf "check_end" "check_end" (defArgs s_check_end) (defBody s_check_end) (defScope s_check_end) .none kV_check_end dc_check_end pm_check_end an_check_end cd_check_end ct_check_end), sl_check_end⟩)
    (c_check_end : PySem.W.codeIn K cd_check_end "check_end" = true)
    (k_check_end : PySem.W.keepIn K (.ref f_check_end) = true)
    (a_run_by : PySem.W.nsIn K mainGlobals "run_by" = some (some (.ref f_run_by)))
    (l_run_by : K.lookup f_run_by = some ⟨oc_run_by, od_run_by, .func (PySem.W.fnOf "run_by" "run_by" (defArgs s_run_by) (defBody s_run_by) (defScope s_run_by) .none kV_run_by dc_run_by pm_run_by an_run_by cd_run_by ct_run_by), sl_run_by⟩)
    (c_run_by : PySem.W.codeIn K cd_run_by "run_by" = true)
    (k_run_by : PySem.W.keepIn K (.ref f_run_by) = true)
    (a_arrived : PySem.W.nsIn K mainGlobals "arrived" = some (some (.ref f_arrived)))
    (l_arrived : K.lookup f_arrived = some ⟨oc_arrived, od_arrived, .func (PySem.W.fnOf "arrived" "arrived" (defArgs s_arrived) (defBody s_arrived) (defScope s_arrived) .none kV_arrived dc_arrived pm_arrived an_arrived cd_arrived ct_arrived), sl_arrived⟩)
    (c_arrived : PySem.W.codeIn K cd_arrived "arrived" = true)
    (k_arrived : PySem.W.keepIn K (.ref f_arrived) = true)
    (a_is_arrival : PySem.W.nsIn K mainGlobals "is_arrival" = some (some (.ref f_is_arrival)))
    (l_is_arrival : K.lookup f_is_arrival = some ⟨oc_is_arrival, od_is_arrival, .func (PySem.W.fnOf "is_arrival" "is_arrival" (defArgs s_is_arrival) (defBody s_is_arrival) (defScope s_is_arrival) .none kV_is_arrival dc_is_arrival pm_is_arrival an_is_arrival cd_is_arrival ct_is_arrival), sl_is_arrival⟩)
    (c_is_arrival : PySem.W.codeIn K cd_is_arrival "is_arrival" = true)
    (k_is_arrival : PySem.W.keepIn K (.ref f_is_arrival) = true)
    (a_cell_L : PySem.W.nsIn K mainGlobals "_law_cell" = some (some (.ref f_cell_L)))
    (l_cell_L : K.lookup f_cell_L = some ⟨oc_cell_L, od_cell_L, .func (PySem.W.fnOf "_law_cell" "_law_cell" (defArgs s_cell_L) (defBody s_cell_L) (defScope s_cell_L) .none kV_cell_L dc_cell_L pm_cell_L an_cell_L cd_cell_L ct_cell_L), sl_cell_L⟩)
    (c_cell_L : PySem.W.codeIn K cd_cell_L "_law_cell" = true)
    (k_cell_L : PySem.W.keepIn K (.ref f_cell_L) = true)
    (a_box_L : PySem.W.nsIn K mainGlobals "_law_box" = some (some (.ref f_box_L)))
    (l_box_L : K.lookup f_box_L = some ⟨oc_box_L, od_box_L, .func (PySem.W.fnOf "_law_box" "_law_box" (defArgs s_box_L) (defBody s_box_L) (defScope s_box_L) .none kV_box_L dc_box_L pm_box_L an_box_L cd_box_L ct_box_L), sl_box_L⟩)
    (c_box_L : PySem.W.codeIn K cd_box_L "_law_box" = true)
    (k_box_L : PySem.W.keepIn K (.ref f_box_L) = true)
    (a_take_L : PySem.W.nsIn K mainGlobals "_law_take" = some (some (.ref f_take_L)))
    (l_take_L : K.lookup f_take_L = some ⟨oc_take_L, od_take_L, .func (PySem.W.fnOf "_law_take" "_law_take" (defArgs s_take_L) (defBody s_take_L) (defScope s_take_L) .none kV_take_L dc_take_L pm_take_L an_take_L cd_take_L ct_take_L), sl_take_L⟩)
    (c_take_L : PySem.W.codeIn K cd_take_L "_law_take" = true)
    (k_take_L : PySem.W.keepIn K (.ref f_take_L) = true)
    (a_order_L : PySem.W.nsIn K mainGlobals "_law_order" = some (some (.ref f_order_L)))
    (l_order_L : K.lookup f_order_L = some ⟨oc_order_L, od_order_L, .func (PySem.W.fnOf "_law_order" "_law_order" (defArgs s_order_L) (defBody s_order_L) (defScope s_order_L) .none kV_order_L dc_order_L pm_order_L an_order_L cd_order_L ct_order_L), sl_order_L⟩)
    (c_order_L : PySem.W.codeIn K cd_order_L "_law_order" = true)
    (k_order_L : PySem.W.keepIn K (.ref f_order_L) = true)
    (a_image_L : PySem.W.nsIn K mainGlobals "_law_image" = some (some (.ref f_image_L)))
    (l_image_L : K.lookup f_image_L = some ⟨oc_image_L, od_image_L, .func (PySem.W.fnOf "_law_image" "_law_image" (defArgs s_image_L) (defBody s_image_L) (defScope s_image_L) .none kV_image_L dc_image_L pm_image_L an_image_L cd_image_L ct_image_L), sl_image_L⟩)
    (c_image_L : PySem.W.codeIn K cd_image_L "_law_image" = true)
    (k_image_L : PySem.W.keepIn K (.ref f_image_L) = true)
    (a_goes_on_L : PySem.W.nsIn K mainGlobals "_law_goes_on" = some (some (.ref f_goes_on_L)))
    (l_goes_on_L : K.lookup f_goes_on_L = some ⟨oc_goes_on_L, od_goes_on_L, .func (PySem.W.fnOf "_law_goes_on" "_law_goes_on" (defArgs s_goes_on_L) (defBody s_goes_on_L) (defScope s_goes_on_L) .none kV_goes_on_L dc_goes_on_L pm_goes_on_L an_goes_on_L cd_goes_on_L ct_goes_on_L), sl_goes_on_L⟩)
    (c_goes_on_L : PySem.W.codeIn K cd_goes_on_L "_law_goes_on" = true)
    (k_goes_on_L : PySem.W.keepIn K (.ref f_goes_on_L) = true)
    (a_law : PySem.W.nsIn K mainGlobals "law" = some (some (.ref f_law)))
    (l_law : K.lookup f_law = some ⟨oc_law, od_law, .func (PySem.W.fnOf "law" "law" (defArgs s_law) (defBody s_law) (defScope s_law) .none kV_law dc_law pm_law an_law cd_law ct_law), sl_law⟩)
    (c_law : PySem.W.codeIn K cd_law "law" = true)
    (k_law : PySem.W.keepIn K (.ref f_law) = true)
    (cC_MOST : PySem.W.nsIn K mainGlobals "MOST" = some (some (.int 4095 t_c0)))
    (cC_EIGHT : PySem.W.nsIn K mainGlobals "EIGHT" = some (some (.int 8 t_c1)))
    (cC_MOST_ASKS : PySem.W.nsIn K mainGlobals "MOST_ASKS" = some (some (.int 8 t_c2)))
    (cC_LATENCY : PySem.W.nsIn K mainGlobals "LATENCY" = some (some (.int 6 t_c3)))
    (cC_PLACES : PySem.W.nsIn K mainGlobals "PLACES" = some (some (.int 64 t_c4)))
    (cC_WORDS : PySem.W.nsIn K mainGlobals "WORDS" = some (some (.int 4096 t_c5)))
    (cC_NOTHING : PySem.W.nsIn K mainGlobals "NOTHING" = some (some (.int 4095 t_c6)))
    (cC_LEADS_NOWHERE : PySem.W.nsIn K mainGlobals "LEADS_NOWHERE" = some (some (.int 1 t_c7)))
    (cC_MAY_NOT_WRITE : PySem.W.nsIn K mainGlobals "MAY_NOT_WRITE" = some (some (.int 2 t_c8)))
    (cC_BY_NOUGHT : PySem.W.nsIn K mainGlobals "BY_NOUGHT" = some (some (.int 3 t_c9)))
    (cC_CALLED : PySem.W.nsIn K mainGlobals "CALLED" = some (some (.int 4 t_c10)))
    (cC_LONGEST_LOG : PySem.W.nsIn K mainGlobals "LONGEST_LOG" = some (some (.int 2400 t_c11)))
    (cC_LAST_END : PySem.W.nsIn K mainGlobals "LAST_END" = some (some (.int 20000 t_c12)))
    (cOPS : PySem.W.nsIn K mainGlobals "OPS" = some (some (.ref aOPS)))
    (cKND : PySem.W.nsIn K mainGlobals "KINDS" = some (some (.ref aKND)))
    (cACT : PySem.W.nsIn K mainGlobals "ACTIONS" = some (some (.ref aACT)))
    (lOPS : K.lookup aOPS = some ⟨.type "tuple", none, .seq #[.str "halt" tO0, .str "set" tO1, .str "load" tO2, .str "save" tO3, .str "from" tO4, .str "into" tO5, .str "add" tO6, .str "sub" tO7, .str "part" tO8, .str "jump" tO9, .str "base" tO10, .str "trap" tO11, .str "time" tO12, .str "out" tO13, .str "in" tO14, .str "wait" tO15] nO, slO⟩)
    (lACT : K.lookup aACT = some ⟨.type "tuple", none, .seq #[.ref f_halt, .ref f_set, .ref f_load, .ref f_save, .ref f_from, .ref f_into, .ref f_add, .ref f_sub, .ref f_part, .ref f_jump, .ref f_base, .ref f_trap, .ref f_clock, .ref f_out, .ref f_in] nA, slA⟩)
    (lKND : List.lookup aKND K = some { cls := .type "dict", data := .dict #[⟨PySem.PyData.keyHash w.params "line", .str "line" tkl, .int 127 tk1⟩, ⟨PySem.PyData.keyHash w.params "net", .str "net" tkn, .int 4095 tk2⟩] nK })
    (rd_GuestError : PySem.W.readsIn K C_GuestError (.type "type") = true)
    (ga_GuestError : PySem.W.specialIn K (.ref C_GuestError) "__getattribute__" = some (some (.builtin "type.__getattribute__")))
    (at_GuestError : PySem.W.findCls K (.ref C_GuestError) (.type "type") "__init__" = some (.val (.ref f_GuestError_init)))
    (v_ValueError : PySem.W.findCls K (.type "ValueError") (.type "type") "__init__" = some (.val (.builtin "ValueError.__init__")))
    (rd_Barred : PySem.W.readsIn K C_Barred (.type "type") = true)
    (ga_Barred : PySem.W.specialIn K (.ref C_Barred) "__getattribute__" = some (some (.builtin "type.__getattribute__")))
    (at_Barred : PySem.W.findCls K (.ref C_Barred) (.type "type") "__init__" = some (.val (.ref f_Barred_init)))
    (v_LookupError : PySem.W.findCls K (.type "LookupError") (.type "type") "__init__" = some (.val (.builtin "LookupError.__init__")))
    (xL_M : K.lookup C_NoNumber = some (excClassObj nmM qM C_NoNumber NM bsM [.ref C_GuestError, .type "ValueError", .type "Exception", .type "BaseException", .type "object"] true snM subM abM colM ddM wM0 wM1 wM2 wM3 wM5 "ValueError.__new__"))
    (sa_M : PySem.W.findIn K (.ref C_NoNumber) "__setattr__" = some (some (.builtin "object.__setattr__")))
    (ex_M : PySem.W.subIn K (.ref C_NoNumber) (.type "BaseException") = some true)
    (ty_M : PySem.W.typeIn K (.ref C_NoNumber) = some (.type "type"))
    (kp_M : PySem.W.keepIn K (.ref C_NoNumber) = true)
    (tf_M : PySem.W.typeIn K (.ref f_NoNumber_init) = some (.type "function"))
    (nf_M : PySem.W.findIn K (.ref C_NoNumber) "found" = some none)
    (hg_M : PySem.W.findIn K (.ref C_NoNumber) "__getattribute__" = some (some (.builtin "BaseException.__getattribute__")))
    (hk_M : PySem.W.findIn K (.ref C_NoNumber) "__getattr__" = some none)
    (hd_M : PySem.W.hasDictIn K C_NoNumber = true)
    (ha_M : PySem.W.findIn K (.ref C_NoNumber) "__class__" = some (some (.builtin "object.__class__")))
    (hm_M : PySem.W.mroIn K C_NoNumber (.type "object") = some true)
    (xL_W : K.lookup C_NoWord = some (excClassObj nmW qW C_NoWord NW bsW [.ref C_GuestError, .type "ValueError", .type "Exception", .type "BaseException", .type "object"] true snW subW abW colW ddW wW0 wW1 wW2 wW3 wW5 "ValueError.__new__"))
    (sa_W : PySem.W.findIn K (.ref C_NoWord) "__setattr__" = some (some (.builtin "object.__setattr__")))
    (ex_W : PySem.W.subIn K (.ref C_NoWord) (.type "BaseException") = some true)
    (ty_W : PySem.W.typeIn K (.ref C_NoWord) = some (.type "type"))
    (kp_W : PySem.W.keepIn K (.ref C_NoWord) = true)
    (tf_W : PySem.W.typeIn K (.ref f_NoWord_init) = some (.type "function"))
    (nf_W : PySem.W.findIn K (.ref C_NoWord) "found" = some none)
    (hg_W : PySem.W.findIn K (.ref C_NoWord) "__getattribute__" = some (some (.builtin "BaseException.__getattribute__")))
    (hk_W : PySem.W.findIn K (.ref C_NoWord) "__getattr__" = some none)
    (hd_W : PySem.W.hasDictIn K C_NoWord = true)
    (ha_W : PySem.W.findIn K (.ref C_NoWord) "__class__" = some (some (.builtin "object.__class__")))
    (hm_W : PySem.W.mroIn K C_NoWord (.type "object") = some true)
    (xL_U : K.lookup C_Nought = some (excClassObj nmU qU C_Nought NU bsU [.ref C_GuestError, .type "ValueError", .type "Exception", .type "BaseException", .type "object"] true snU subU abU colU ddU wU0 wU1 wU2 wU3 wU5 "ValueError.__new__"))
    (sa_U : PySem.W.findIn K (.ref C_Nought) "__setattr__" = some (some (.builtin "object.__setattr__")))
    (ex_U : PySem.W.subIn K (.ref C_Nought) (.type "BaseException") = some true)
    (ty_U : PySem.W.typeIn K (.ref C_Nought) = some (.type "type"))
    (kp_U : PySem.W.keepIn K (.ref C_Nought) = true)
    (tf_U : PySem.W.typeIn K (.ref f_Nought_init) = some (.type "function"))
    (nf_U : PySem.W.findIn K (.ref C_Nought) "found" = some none)
    (hg_U : PySem.W.findIn K (.ref C_Nought) "__getattribute__" = some (some (.builtin "BaseException.__getattribute__")))
    (hk_U : PySem.W.findIn K (.ref C_Nought) "__getattr__" = some none)
    (hd_U : PySem.W.hasDictIn K C_Nought = true)
    (ha_U : PySem.W.findIn K (.ref C_Nought) "__class__" = some (some (.builtin "object.__class__")))
    (hm_U : PySem.W.mroIn K C_Nought (.type "object") = some true)
    (xL_I : K.lookup C_NoImage = some (excClassObj nmI qI C_NoImage NI bsI [.ref C_GuestError, .type "ValueError", .type "Exception", .type "BaseException", .type "object"] true snI subI abI colI ddI wI0 wI1 wI2 wI3 wI5 "ValueError.__new__"))
    (sa_I : PySem.W.findIn K (.ref C_NoImage) "__setattr__" = some (some (.builtin "object.__setattr__")))
    (ex_I : PySem.W.subIn K (.ref C_NoImage) (.type "BaseException") = some true)
    (ty_I : PySem.W.typeIn K (.ref C_NoImage) = some (.type "type"))
    (kp_I : PySem.W.keepIn K (.ref C_NoImage) = true)
    (tf_I : PySem.W.typeIn K (.ref f_NoImage_init) = some (.type "function"))
    (nf_I : PySem.W.findIn K (.ref C_NoImage) "found" = some none)
    (hg_I : PySem.W.findIn K (.ref C_NoImage) "__getattribute__" = some (some (.builtin "BaseException.__getattribute__")))
    (hk_I : PySem.W.findIn K (.ref C_NoImage) "__getattr__" = some none)
    (hd_I : PySem.W.hasDictIn K C_NoImage = true)
    (ha_I : PySem.W.findIn K (.ref C_NoImage) "__class__" = some (some (.builtin "object.__class__")))
    (hm_I : PySem.W.mroIn K C_NoImage (.type "object") = some true)
    (xL_E : K.lookup C_Ended = some (excClassObj nmE qE C_Ended NE bsE [.ref C_Barred, .type "LookupError", .type "Exception", .type "BaseException", .type "object"] true snE subE abE colE ddE wE0 wE1 wE2 wE3 wE5 "LookupError.__new__"))
    (sa_E : PySem.W.findIn K (.ref C_Ended) "__setattr__" = some (some (.builtin "object.__setattr__")))
    (ex_E : PySem.W.subIn K (.ref C_Ended) (.type "BaseException") = some true)
    (ty_E : PySem.W.typeIn K (.ref C_Ended) = some (.type "type"))
    (kp_E : PySem.W.keepIn K (.ref C_Ended) = true)
    (tf_E : PySem.W.typeIn K (.ref f_Ended_init) = some (.type "function"))
    (nf_E : PySem.W.findIn K (.ref C_Ended) "found" = some none)
    (hg_E : PySem.W.findIn K (.ref C_Ended) "__getattribute__" = some (some (.builtin "BaseException.__getattribute__")))
    (hk_E : PySem.W.findIn K (.ref C_Ended) "__getattr__" = some none)
    (hd_E : PySem.W.hasDictIn K C_Ended = true)
    (ha_E : PySem.W.findIn K (.ref C_Ended) "__class__" = some (some (.builtin "object.__class__")))
    (hm_E : PySem.W.mroIn K C_Ended (.type "object") = some true)
    (xL_K : K.lookup C_NoKind = some (excClassObj nmK qK C_NoKind NK bsK [.ref C_GuestError, .type "ValueError", .type "Exception", .type "BaseException", .type "object"] true snK subK abK colK ddK wK0 wK1 wK2 wK3 wK5 "ValueError.__new__"))
    (sa_K : PySem.W.findIn K (.ref C_NoKind) "__setattr__" = some (some (.builtin "object.__setattr__")))
    (ex_K : PySem.W.subIn K (.ref C_NoKind) (.type "BaseException") = some true)
    (ty_K : PySem.W.typeIn K (.ref C_NoKind) = some (.type "type"))
    (kp_K : PySem.W.keepIn K (.ref C_NoKind) = true)
    (tf_K : PySem.W.typeIn K (.ref f_NoKind_init) = some (.type "function"))
    (nf_K : PySem.W.findIn K (.ref C_NoKind) "found" = some none)
    (hg_K : PySem.W.findIn K (.ref C_NoKind) "__getattribute__" = some (some (.builtin "BaseException.__getattribute__")))
    (hk_K : PySem.W.findIn K (.ref C_NoKind) "__getattr__" = some none)
    (hd_K : PySem.W.hasDictIn K C_NoKind = true)
    (ha_K : PySem.W.findIn K (.ref C_NoKind) "__class__" = some (some (.builtin "object.__class__")))
    (hm_K : PySem.W.mroIn K C_NoKind (.type "object") = some true)
    (xL_L : K.lookup C_NoLog = some (excClassObj nmL qL C_NoLog NL bsL [.ref C_GuestError, .type "ValueError", .type "Exception", .type "BaseException", .type "object"] true snL subL abL colL ddL wL0 wL1 wL2 wL3 wL5 "ValueError.__new__"))
    (sa_L : PySem.W.findIn K (.ref C_NoLog) "__setattr__" = some (some (.builtin "object.__setattr__")))
    (ex_L : PySem.W.subIn K (.ref C_NoLog) (.type "BaseException") = some true)
    (ty_L : PySem.W.typeIn K (.ref C_NoLog) = some (.type "type"))
    (kp_L : PySem.W.keepIn K (.ref C_NoLog) = true)
    (tf_L : PySem.W.typeIn K (.ref f_NoLog_init) = some (.type "function"))
    (nf_L : PySem.W.findIn K (.ref C_NoLog) "found" = some none)
    (hg_L : PySem.W.findIn K (.ref C_NoLog) "__getattribute__" = some (some (.builtin "BaseException.__getattribute__")))
    (hk_L : PySem.W.findIn K (.ref C_NoLog) "__getattr__" = some none)
    (hd_L : PySem.W.hasDictIn K C_NoLog = true)
    (ha_L : PySem.W.findIn K (.ref C_NoLog) "__class__" = some (some (.builtin "object.__class__")))
    (hm_L : PySem.W.mroIn K C_NoLog (.type "object") = some true)
    (s_M_M : PySem.W.subIn K (.ref C_NoNumber) (.ref C_NoNumber) = some true)
    (s_W_M : PySem.W.subIn K (.ref C_NoWord) (.ref C_NoNumber) = some false)
    (s_W_W : PySem.W.subIn K (.ref C_NoWord) (.ref C_NoWord) = some true)
    (s_U_M : PySem.W.subIn K (.ref C_Nought) (.ref C_NoNumber) = some false)
    (s_U_W : PySem.W.subIn K (.ref C_Nought) (.ref C_NoWord) = some false)
    (s_U_U : PySem.W.subIn K (.ref C_Nought) (.ref C_Nought) = some true)
    (s_I_M : PySem.W.subIn K (.ref C_NoImage) (.ref C_NoNumber) = some false)
    (s_I_W : PySem.W.subIn K (.ref C_NoImage) (.ref C_NoWord) = some false)
    (s_I_U : PySem.W.subIn K (.ref C_NoImage) (.ref C_Nought) = some false)
    (s_I_I : PySem.W.subIn K (.ref C_NoImage) (.ref C_NoImage) = some true)
    (s_E_M : PySem.W.subIn K (.ref C_Ended) (.ref C_NoNumber) = some false)
    (s_E_W : PySem.W.subIn K (.ref C_Ended) (.ref C_NoWord) = some false)
    (s_E_U : PySem.W.subIn K (.ref C_Ended) (.ref C_Nought) = some false)
    (s_E_I : PySem.W.subIn K (.ref C_Ended) (.ref C_NoImage) = some false)
    (s_E_E : PySem.W.subIn K (.ref C_Ended) (.ref C_Ended) = some true)
    (s_K_M : PySem.W.subIn K (.ref C_NoKind) (.ref C_NoNumber) = some false)
    (s_K_W : PySem.W.subIn K (.ref C_NoKind) (.ref C_NoWord) = some false)
    (s_K_U : PySem.W.subIn K (.ref C_NoKind) (.ref C_Nought) = some false)
    (s_K_I : PySem.W.subIn K (.ref C_NoKind) (.ref C_NoImage) = some false)
    (s_K_E : PySem.W.subIn K (.ref C_NoKind) (.ref C_Ended) = some false)
    (s_K_K : PySem.W.subIn K (.ref C_NoKind) (.ref C_NoKind) = some true)
    (s_L_M : PySem.W.subIn K (.ref C_NoLog) (.ref C_NoNumber) = some false)
    (s_L_W : PySem.W.subIn K (.ref C_NoLog) (.ref C_NoWord) = some false)
    (s_L_U : PySem.W.subIn K (.ref C_NoLog) (.ref C_Nought) = some false)
    (s_L_I : PySem.W.subIn K (.ref C_NoLog) (.ref C_NoImage) = some false)
    (s_L_E : PySem.W.subIn K (.ref C_NoLog) (.ref C_Ended) = some false)
    (s_L_K : PySem.W.subIn K (.ref C_NoLog) (.ref C_NoKind) = some false)
    (s_L_L : PySem.W.subIn K (.ref C_NoLog) (.ref C_NoLog) = some true)
    (hn : PySem.W.specialIn K (.builtin "object.__class__") "__get__" = some (some (.builtin "getset_descriptor.__get__")))
    (htk : PySem.W.takesIn K (.builtin "object.__class__") = some true)
    (pg_Core : PySem.W.plainGet K C_Core Str.empty = true)
    (hdd_Core : PySem.W.hasDictIn K C_Core = true)
    (po_Core : PySem.W.plainOver K C_Core = true)
    (saa_Core : PySem.W.findIn K (.ref C_Core) "__setattr__" = some (some (.builtin "object.__setattr__")))
    (mk_Core : PySem.W.makesIn K C_Core = true)
    (kc_Core : PySem.W.keepIn K (.ref C_Core) = true)
    (na_Core_registers : PySem.W.findIn K (.ref C_Core) "_registers" = some none)
    (na_Core_counter : PySem.W.findIn K (.ref C_Core) "_counter" = some none)
    (na_Core_table : PySem.W.findIn K (.ref C_Core) "_table" = some none)
    (na_Core_time : PySem.W.findIn K (.ref C_Core) "_time" = some none)
    (na_Core_handler : PySem.W.findIn K (.ref C_Core) "_handler" = some none)
    (na_Core_back_to : PySem.W.findIn K (.ref C_Core) "_back_to" = some none)
    (na_Core_cause : PySem.W.findIn K (.ref C_Core) "_cause" = some none)
    (na_Core_trapped : PySem.W.findIn K (.ref C_Core) "_trapped" = some none)
    (na_Core_state : PySem.W.findIn K (.ref C_Core) "_state" = some none)
    (na_Core_queues : PySem.W.findIn K (.ref C_Core) "_queues" = some none)
    (na_Core_told : PySem.W.findIn K (.ref C_Core) "_told" = some none)
    (na_Core_sent : PySem.W.findIn K (.ref C_Core) "_sent" = some none)
    (na_Core_disk : PySem.W.findIn K (.ref C_Core) "_disk" = some none)
    (fn_Core_init : PySem.W.isFn K (.ref f_Core_init) = true)
    (fn_Core_step : PySem.W.isFn K (.ref f_Core_step) = true)
    (fn_Core_act : PySem.W.isFn K (.ref f_Core_act) = true)
    (fn_Core_wait : PySem.W.isFn K (.ref f_Core_wait) = true)
    (fn_Core_trap_by : PySem.W.isFn K (.ref f_Core_trap_by) = true)
    (fn_Core_registers : PySem.W.isFn K (.ref f_Core_registers) = true)
    (fn_Core_counter : PySem.W.isFn K (.ref f_Core_counter) = true)
    (fn_Core_table : PySem.W.isFn K (.ref f_Core_table) = true)
    (fn_Core_time : PySem.W.isFn K (.ref f_Core_time) = true)
    (fn_Core_handler : PySem.W.isFn K (.ref f_Core_handler) = true)
    (fn_Core_cause : PySem.W.isFn K (.ref f_Core_cause) = true)
    (fn_Core_state : PySem.W.isFn K (.ref f_Core_state) = true)
    (fn_Core_arrive : PySem.W.isFn K (.ref f_Core_arrive) = true)
    (fn_Core_queue : PySem.W.isFn K (.ref f_Core_queue) = true)
    (fn_Core_told : PySem.W.isFn K (.ref f_Core_told) = true)
    (fn_Core_sent : PySem.W.isFn K (.ref f_Core_sent) = true)
    (fn_Core_blocks : PySem.W.isFn K (.ref f_Core_blocks) = true)
    (fn_Core_asks : PySem.W.isFn K (.ref f_Core_asks) = true)
    (fn_Core_asks_made : PySem.W.isFn K (.ref f_Core_asks_made) = true)
    (fn_Core_asks_done : PySem.W.isFn K (.ref f_Core_asks_done) = true)
    (fn_Core_due : PySem.W.isFn K (.ref f_Core_due) = true)
    (fn_Core_stands : PySem.W.isFn K (.ref f_Core_stands) = true)
    (fn_Core_twin : PySem.W.isFn K (.ref f_Core_twin) = true)
    (fn_Core_eq : PySem.W.isFn K (.ref f_Core_eq) = true)
    (pg_Disk : PySem.W.plainGet K C_Disk Str.empty = true)
    (hdd_Disk : PySem.W.hasDictIn K C_Disk = true)
    (po_Disk : PySem.W.plainOver K C_Disk = true)
    (saa_Disk : PySem.W.findIn K (.ref C_Disk) "__setattr__" = some (some (.builtin "object.__setattr__")))
    (mk_Disk : PySem.W.makesIn K C_Disk = true)
    (kc_Disk : PySem.W.keepIn K (.ref C_Disk) = true)
    (na_Disk_blocks : PySem.W.findIn K (.ref C_Disk) "_blocks" = some none)
    (na_Disk_asks : PySem.W.findIn K (.ref C_Disk) "_asks" = some none)
    (na_Disk_made : PySem.W.findIn K (.ref C_Disk) "_made" = some none)
    (na_Disk_done : PySem.W.findIn K (.ref C_Disk) "_done" = some none)
    (fn_Disk_init : PySem.W.isFn K (.ref f_Disk_init) = true)
    (fn_Disk_ask : PySem.W.isFn K (.ref f_Disk_ask) = true)
    (fn_Disk_serve : PySem.W.isFn K (.ref f_Disk_serve) = true)
    (fn_Disk_do : PySem.W.isFn K (.ref f_Disk_do) = true)
    (fn_Disk_asks : PySem.W.isFn K (.ref f_Disk_asks) = true)
    (fn_Disk_asks_done : PySem.W.isFn K (.ref f_Disk_asks_done) = true)
    (fn_Disk_blocks : PySem.W.isFn K (.ref f_Disk_blocks) = true)
    (fn_Disk_asks_made : PySem.W.isFn K (.ref f_Disk_asks_made) = true)
    (pg_PlainStore : PySem.W.plainGet K C_PlainStore Str.empty = true)
    (hdd_PlainStore : PySem.W.hasDictIn K C_PlainStore = true)
    (po_PlainStore : PySem.W.plainOver K C_PlainStore = true)
    (saa_PlainStore : PySem.W.findIn K (.ref C_PlainStore) "__setattr__" = some (some (.builtin "object.__setattr__")))
    (mk_PlainStore : PySem.W.makesIn K C_PlainStore = true)
    (kc_PlainStore : PySem.W.keepIn K (.ref C_PlainStore) = true)
    (na_PlainStore_rooms : PySem.W.findIn K (.ref C_PlainStore) "_rooms" = some none)
    (fn_PlainStore_init : PySem.W.isFn K (.ref f_PlainStore_init) = true)
    (fn_PlainStore_read_cell : PySem.W.isFn K (.ref f_PlainStore_read_cell) = true)
    (fn_PlainStore_write_cell : PySem.W.isFn K (.ref f_PlainStore_write_cell) = true)
    (fn_PlainStore_rooms : PySem.W.isFn K (.ref f_PlainStore_rooms) = true)
    (fn_PlainStore_twin : PySem.W.isFn K (.ref f_PlainStore_twin) = true)
    (ha_CO : PySem.W.findIn K (.ref C_Core) "__class__" = some (some (.builtin "object.__class__")))
    (hm_CO : PySem.W.mroIn K C_Core (.type "object") = some true)
    (ne_CO : PySem.W.findIn K (.ref C_Core) "__ne__" = some (some (.builtin "object.__ne__")))
    (ob_CO : PySem.W.subIn K (.ref C_Core) (.type "object") = some true)
    (pg_PlainMachine : PySem.W.plainGet K C_PlainMachine Str.empty = true)
    (hdd_PlainMachine : PySem.W.hasDictIn K C_PlainMachine = true)
    (po_PlainMachine : PySem.W.plainOver K C_PlainMachine = true)
    (saa_PlainMachine : PySem.W.findIn K (.ref C_PlainMachine) "__setattr__" = some (some (.builtin "object.__setattr__")))
    (mk_PlainMachine : PySem.W.makesIn K C_PlainMachine = true)
    (kc_PlainMachine : PySem.W.keepIn K (.ref C_PlainMachine) = true)
    (na_PlainMachine_core : PySem.W.findIn K (.ref C_PlainMachine) "_core" = some none)
    (na_PlainMachine_store : PySem.W.findIn K (.ref C_PlainMachine) "_store" = some none)
    (na_PlainMachine_log : PySem.W.findIn K (.ref C_PlainMachine) "_log" = some none)
    (na_PlainMachine_trail : PySem.W.findIn K (.ref C_PlainMachine) "_trail" = some none)
    (fn_PlainMachine_init : PySem.W.isFn K (.ref f_PlainMachine_init) = true)
    (fn_PlainMachine_step : PySem.W.isFn K (.ref f_PlainMachine_step) = true)
    (fn_PlainMachine_arrive : PySem.W.isFn K (.ref f_PlainMachine_arrive) = true)
    (fn_PlainMachine_core : PySem.W.isFn K (.ref f_PlainMachine_core) = true)
    (fn_PlainMachine_store : PySem.W.isFn K (.ref f_PlainMachine_store) = true)
    (fn_PlainMachine_time : PySem.W.isFn K (.ref f_PlainMachine_time) = true)
    (fn_PlainMachine_state : PySem.W.isFn K (.ref f_PlainMachine_state) = true)
    (fn_PlainMachine_log : PySem.W.isFn K (.ref f_PlainMachine_log) = true)
    (fn_PlainMachine_trail : PySem.W.isFn K (.ref f_PlainMachine_trail) = true)
    (fn_PlainMachine_twin : PySem.W.isFn K (.ref f_PlainMachine_twin) = true)
    (sysKND : (aKND == PySem.sysModules) = false)
    (uNON0 : RelV .non uD_image_of_0)
    (uNON1 : RelV .non u_image_of_blocks)
    (uLOG : RelV (.ref aLOG0) uD_run_alone_0)
    (uEND : RelV (.int 100) u_run_alone_end)
    (lLOG0 : K.lookup aLOG0 = some ⟨.type "tuple", oLOG0, .seq #[] nLOG0, slLOG0⟩)
    (z_isinstance : PySem.W.nsIn K mainGlobals "isinstance" = some none)
    (z_int : PySem.W.nsIn K mainGlobals "int" = some none)
    (z_bool : PySem.W.nsIn K mainGlobals "bool" = some none)
    (z_str : PySem.W.nsIn K mainGlobals "str" = some none)
    (z_list : PySem.W.nsIn K mainGlobals "list" = some none)
    (z_tuple : PySem.W.nsIn K mainGlobals "tuple" = some none)
    (z_len : PySem.W.nsIn K mainGlobals "len" = some none)
    (z_max : PySem.W.nsIn K mainGlobals "max" = some none)
    (z_min : PySem.W.nsIn K mainGlobals "min" = some none)
    (z_range : PySem.W.nsIn K mainGlobals "range" = some none)
    (z_all : PySem.W.nsIn K mainGlobals "all" = some none)
    (z_enumerate : PySem.W.nsIn K mainGlobals "enumerate" = some none)
    (z_repr : PySem.W.nsIn K mainGlobals "repr" = some none)
    (z_sorted : PySem.W.nsIn K mainGlobals "sorted" = some none)
    (z_ValueError : PySem.W.nsIn K mainGlobals "ValueError" = some none)
    (z_LookupError : PySem.W.nsIn K mainGlobals "LookupError" = some none) :
    ∃ fd : FuncData, (∀ (s : Shared) (v : Value), BindsTo s fd ⟨[v], []⟩ [("_law_script", v)]) ∧ ∀ base : Heap, K.In base → base.Ns mainGlobals mg → FnG l.prog w K mg base CX0 15 fa fd ["_law_script"] (spLaw K) := by
  have e := hfa.symm.trans (PySem.W.mg_of X G a_law)
  cases e
  have mo : ∀ {x : Str} {u : Value}, PySem.W.nsIn K mainGlobals x = some (some u) → mg x = some u := fun q => PySem.W.mg_of X G q
  have mz : ∀ {x : Str}, PySem.W.nsIn K mainGlobals x = some none → mg x = none := fun q => PySem.W.mg_none_of X G q
  have F_GuestError_init := fun_mk (st := s_GuestError_init) l_GuestError_init c_GuestError_init k_GuestError_init
  have b_GuestError_init := F_GuestError_init.binds (ps := ["self", "text"]) fun _ _ _ _ _ _ us hl => match us, hl with | [_, _], _ => rfl
  have F_Barred_init := fun_mk (st := s_Barred_init) l_Barred_init c_Barred_init k_Barred_init
  have b_Barred_init := F_Barred_init.binds (ps := ["self", "text"]) fun _ _ _ _ _ _ us hl => match us, hl with | [_, _], _ => rfl
  have F_NoNumber_init := fun_mk (st := s_NoNumber_init) l_NoNumber_init c_NoNumber_init k_NoNumber_init
  have b_NoNumber_init := F_NoNumber_init.binds (ps := ["self", "found"]) fun _ _ _ _ _ _ us hl => match us, hl with | [_, _], _ => rfl
  have F_NoWord_init := fun_mk (st := s_NoWord_init) l_NoWord_init c_NoWord_init k_NoWord_init
  have b_NoWord_init := F_NoWord_init.binds (ps := ["self", "found"]) fun _ _ _ _ _ _ us hl => match us, hl with | [_, _], _ => rfl
  have F_Nought_init := fun_mk (st := s_Nought_init) l_Nought_init c_Nought_init k_Nought_init
  have b_Nought_init := F_Nought_init.binds (ps := ["self", "found"]) fun _ _ _ _ _ _ us hl => match us, hl with | [_, _], _ => rfl
  have F_NoImage_init := fun_mk (st := s_NoImage_init) l_NoImage_init c_NoImage_init k_NoImage_init
  have b_NoImage_init := F_NoImage_init.binds (ps := ["self", "found"]) fun _ _ _ _ _ _ us hl => match us, hl with | [_, _], _ => rfl
  have F_NoKind_init := fun_mk (st := s_NoKind_init) l_NoKind_init c_NoKind_init k_NoKind_init
  have b_NoKind_init := F_NoKind_init.binds (ps := ["self", "found"]) fun _ _ _ _ _ _ us hl => match us, hl with | [_, _], _ => rfl
  have F_NoLog_init := fun_mk (st := s_NoLog_init) l_NoLog_init c_NoLog_init k_NoLog_init
  have b_NoLog_init := F_NoLog_init.binds (ps := ["self", "found"]) fun _ _ _ _ _ _ us hl => match us, hl with | [_, _], _ => rfl
  have F_Ended_init := fun_mk (st := s_Ended_init) l_Ended_init c_Ended_init k_Ended_init
  have b_Ended_init := F_Ended_init.binds (ps := ["self", "found"]) fun _ _ _ _ _ _ us hl => match us, hl with | [_, _], _ => rfl
  have F_is_count := fun_mk (st := s_is_count) l_is_count c_is_count k_is_count
  have b_is_count := F_is_count.binds (ps := ["thing"]) fun _ _ _ _ _ _ us hl => match us, hl with | [_], _ => rfl
  have F_is_whole := fun_mk (st := s_is_whole) l_is_whole c_is_whole k_is_whole
  have b_is_whole := F_is_whole.binds (ps := ["thing", "low", "high"]) fun _ _ _ _ _ _ us hl => match us, hl with | [_, _, _], _ => rfl
  have F_is_word := fun_mk (st := s_is_word) l_is_word c_is_word k_is_word
  have b_is_word := F_is_word.binds (ps := ["thing"]) fun _ _ _ _ _ _ us hl => match us, hl with | [_], _ => rfl
  have F_check_number := fun_mk (st := s_check_number) l_check_number c_check_number k_check_number
  have b_check_number := F_check_number.binds (ps := ["thing", "low", "high"]) fun _ _ _ _ _ _ us hl => match us, hl with | [_, _, _], _ => rfl
  have F_check_word := fun_mk (st := s_check_word) l_check_word c_check_word k_check_word
  have b_check_word := F_check_word.binds (ps := ["thing"]) fun _ _ _ _ _ _ us hl => match us, hl with | [_], _ => rfl
  have F_parts_of := fun_mk (st := s_parts_of) l_parts_of c_parts_of k_parts_of
  have b_parts_of := F_parts_of.binds (ps := ["word"]) fun _ _ _ _ _ _ us hl => match us, hl with | [_], _ => rfl
  have F_entry_parts := fun_mk (st := s_entry_parts) l_entry_parts c_entry_parts k_entry_parts
  have b_entry_parts := F_entry_parts.binds (ps := ["word"]) fun _ _ _ _ _ _ us hl => match us, hl with | [_], _ => rfl
  have F_sum_of := fun_mk (st := s_sum_of) l_sum_of c_sum_of k_sum_of
  have b_sum_of := F_sum_of.binds (ps := ["one", "other"]) fun _ _ _ _ _ _ us hl => match us, hl with | [_, _], _ => rfl
  have F_difference := fun_mk (st := s_difference) l_difference c_difference k_difference
  have b_difference := F_difference.binds (ps := ["one", "other"]) fun _ _ _ _ _ _ us hl => match us, hl with | [_, _], _ => rfl
  have F_divided := fun_mk (st := s_divided) l_divided c_divided k_divided
  have b_divided := F_divided.binds (ps := ["one", "other"]) fun _ _ _ _ _ _ us hl => match us, hl with | [_, _], _ => rfl
  have F_check_words := fun_mk (st := s_check_words) l_check_words c_check_words k_check_words
  have b_check_words := F_check_words.binds (ps := ["one", "other"]) fun _ _ _ _ _ _ us hl => match us, hl with | [_, _], _ => rfl
  have F_Disk_init := fun_mk (st := s_Disk_init) l_Disk_init c_Disk_init k_Disk_init
  have b_Disk_init := F_Disk_init.binds (ps := ["self", "blocks"]) fun _ _ _ _ _ _ us hl => match us, hl with | [_, _], _ => rfl
  have F_Disk_ask := fun_mk (st := s_Disk_ask) l_Disk_ask c_Disk_ask k_Disk_ask
  have b_Disk_ask := F_Disk_ask.binds (ps := ["self", "kind", "block", "room", "due"]) fun _ _ _ _ _ _ us hl => match us, hl with | [_, _, _, _, _], _ => rfl
  have F_Disk_serve := fun_mk (st := s_Disk_serve) l_Disk_serve c_Disk_serve k_Disk_serve
  have b_Disk_serve := F_Disk_serve.binds (ps := ["self", "time", "store"]) fun _ _ _ _ _ _ us hl => match us, hl with | [_, _, _], _ => rfl
  have F_Disk_do := fun_mk (st := s_Disk_do) l_Disk_do c_Disk_do k_Disk_do
  have b_Disk_do := F_Disk_do.binds (ps := ["self", "kind", "block", "room", "store"]) fun _ _ _ _ _ _ us hl => match us, hl with | [_, _, _, _, _], _ => rfl
  have F_Disk_blocks := fun_mk (st := s_Disk_blocks) l_Disk_blocks c_Disk_blocks k_Disk_blocks
  have b_Disk_blocks := F_Disk_blocks.binds (ps := ["self"]) fun _ _ _ _ _ _ us hl => match us, hl with | [_], _ => rfl
  have F_Disk_asks := fun_mk (st := s_Disk_asks) l_Disk_asks c_Disk_asks k_Disk_asks
  have b_Disk_asks := F_Disk_asks.binds (ps := ["self"]) fun _ _ _ _ _ _ us hl => match us, hl with | [_], _ => rfl
  have F_Disk_asks_made := fun_mk (st := s_Disk_asks_made) l_Disk_asks_made c_Disk_asks_made k_Disk_asks_made
  have b_Disk_asks_made := F_Disk_asks_made.binds (ps := ["self"]) fun _ _ _ _ _ _ us hl => match us, hl with | [_], _ => rfl
  have F_Disk_asks_done := fun_mk (st := s_Disk_asks_done) l_Disk_asks_done c_Disk_asks_done k_Disk_asks_done
  have b_Disk_asks_done := F_Disk_asks_done.binds (ps := ["self"]) fun _ _ _ _ _ _ us hl => match us, hl with | [_], _ => rfl
  have F_disk_of := fun_mk (st := s_disk_of) l_disk_of c_disk_of k_disk_of
  have b_disk_of := F_disk_of.binds (ps := ["blocks", "asks", "made", "done"]) fun _ _ _ _ _ _ us hl => match us, hl with | [_, _, _, _], _ => rfl
  have F_is_eight := fun_mk (st := s_is_eight) l_is_eight c_is_eight k_is_eight
  have b_is_eight := F_is_eight.binds (ps := ["thing"]) fun _ _ _ _ _ _ us hl => match us, hl with | [_], _ => rfl
  have F_is_image := fun_mk (st := s_is_image) l_is_image c_is_image k_is_image
  have b_is_image := F_is_image.binds (ps := ["thing"]) fun _ _ _ _ _ _ us hl => match us, hl with | [_], _ => rfl
  have F_is_row := fun_mk (st := s_is_row) l_is_row c_is_row k_is_row
  have b_is_row := F_is_row.binds (ps := ["thing"]) fun _ _ _ _ _ _ us hl => match us, hl with | [_], _ => rfl
  have F_is_told := fun_mk (st := s_is_told) l_is_told c_is_told k_is_told
  have b_is_told := F_is_told.binds (ps := ["thing"]) fun _ _ _ _ _ _ us hl => match us, hl with | [_], _ => rfl
  have F_filled := fun_mk (st := s_filled) l_filled c_filled k_filled
  have b_filled := F_filled.binds (ps := ["told"]) fun _ _ _ _ _ _ us hl => match us, hl with | [_], _ => rfl
  have F_is_kind := fun_mk (st := s_is_kind) l_is_kind c_is_kind k_is_kind
  have b_is_kind := F_is_kind.binds (ps := ["thing"]) fun _ _ _ _ _ _ us hl => match us, hl with | [_], _ => rfl
  have F_may_arrive := fun_mk (st := s_may_arrive) l_may_arrive c_may_arrive k_may_arrive
  have b_may_arrive := F_may_arrive.binds (ps := ["kind", "word"]) fun _ _ _ _ _ _ us hl => match us, hl with | [_, _], _ => rfl
  have F_way := fun_mk (st := s_way) l_way c_way k_way
  have b_way := F_way.binds (ps := ["core", "store", "place", "write"]) fun _ _ _ _ _ _ us hl => match us, hl with | [_, _, _, _], _ => rfl
  have F_loaded := fun_mk (st := s_loaded) l_loaded c_loaded k_loaded
  have b_loaded := F_loaded.binds (ps := ["core", "store", "which", "place"]) fun _ _ _ _ _ _ us hl => match us, hl with | [_, _, _, _], _ => rfl
  have F_saved := fun_mk (st := s_saved) l_saved c_saved k_saved
  have b_saved := F_saved.binds (ps := ["core", "store", "which", "place"]) fun _ _ _ _ _ _ us hl => match us, hl with | [_, _, _, _], _ => rfl
  have F_halt := fun_mk (st := s_halt) l_halt c_halt k_halt
  have b_halt := F_halt.binds (ps := ["core", "store", "which", "rest"]) fun _ _ _ _ _ _ us hl => match us, hl with | [_, _, _, _], _ => rfl
  have F_set := fun_mk (st := s_set) l_set c_set k_set
  have b_set := F_set.binds (ps := ["core", "store", "which", "rest"]) fun _ _ _ _ _ _ us hl => match us, hl with | [_, _, _, _], _ => rfl
  have F_load := fun_mk (st := s_load) l_load c_load k_load
  have b_load := F_load.binds (ps := ["core", "store", "which", "rest"]) fun _ _ _ _ _ _ us hl => match us, hl with | [_, _, _, _], _ => rfl
  have F_save := fun_mk (st := s_save) l_save c_save k_save
  have b_save := F_save.binds (ps := ["core", "store", "which", "rest"]) fun _ _ _ _ _ _ us hl => match us, hl with | [_, _, _, _], _ => rfl
  have F_from := fun_mk (st := s_from) l_from c_from k_from
  have b_from := F_from.binds (ps := ["core", "store", "which", "rest"]) fun _ _ _ _ _ _ us hl => match us, hl with | [_, _, _, _], _ => rfl
  have F_into := fun_mk (st := s_into) l_into c_into k_into
  have b_into := F_into.binds (ps := ["core", "store", "which", "rest"]) fun _ _ _ _ _ _ us hl => match us, hl with | [_, _, _, _], _ => rfl
  have F_add := fun_mk (st := s_add) l_add c_add k_add
  have b_add := F_add.binds (ps := ["core", "store", "which", "rest"]) fun _ _ _ _ _ _ us hl => match us, hl with | [_, _, _, _], _ => rfl
  have F_sub := fun_mk (st := s_sub) l_sub c_sub k_sub
  have b_sub := F_sub.binds (ps := ["core", "store", "which", "rest"]) fun _ _ _ _ _ _ us hl => match us, hl with | [_, _, _, _], _ => rfl
  have F_part := fun_mk (st := s_part) l_part c_part k_part
  have b_part := F_part.binds (ps := ["core", "store", "which", "rest"]) fun _ _ _ _ _ _ us hl => match us, hl with | [_, _, _, _], _ => rfl
  have F_jump := fun_mk (st := s_jump) l_jump c_jump k_jump
  have b_jump := F_jump.binds (ps := ["core", "store", "which", "rest"]) fun _ _ _ _ _ _ us hl => match us, hl with | [_, _, _, _], _ => rfl
  have F_base := fun_mk (st := s_base) l_base c_base k_base
  have b_base := F_base.binds (ps := ["core", "store", "which", "rest"]) fun _ _ _ _ _ _ us hl => match us, hl with | [_, _, _, _], _ => rfl
  have F_trap := fun_mk (st := s_trap) l_trap c_trap k_trap
  have b_trap := F_trap.binds (ps := ["core", "store", "which", "rest"]) fun _ _ _ _ _ _ us hl => match us, hl with | [_, _, _, _], _ => rfl
  have F_clock := fun_mk (st := s_clock) l_clock c_clock k_clock
  have b_clock := F_clock.binds (ps := ["core", "store", "which", "rest"]) fun _ _ _ _ _ _ us hl => match us, hl with | [_, _, _, _], _ => rfl
  have F_out := fun_mk (st := s_out) l_out c_out k_out
  have b_out := F_out.binds (ps := ["core", "store", "which", "rest"]) fun _ _ _ _ _ _ us hl => match us, hl with | [_, _, _, _], _ => rfl
  have F_in := fun_mk (st := s_in) l_in c_in k_in
  have b_in := F_in.binds (ps := ["core", "store", "which", "rest"]) fun _ _ _ _ _ _ us hl => match us, hl with | [_, _, _, _], _ => rfl
  have F_Core_init := fun_mk (st := s_Core_init) l_Core_init c_Core_init k_Core_init
  have b_Core_init := F_Core_init.binds (ps := ["self", "blocks"]) fun _ _ _ _ _ _ us hl => match us, hl with | [_, _], _ => rfl
  have F_Core_step := fun_mk (st := s_Core_step) l_Core_step c_Core_step k_Core_step
  have b_Core_step := F_Core_step.binds (ps := ["self", "store"]) fun _ _ _ _ _ _ us hl => match us, hl with | [_, _], _ => rfl
  have F_Core_act := fun_mk (st := s_Core_act) l_Core_act c_Core_act k_Core_act
  have b_Core_act := F_Core_act.binds (ps := ["self", "store", "served"]) fun _ _ _ _ _ _ us hl => match us, hl with | [_, _, _], _ => rfl
  have F_Core_wait := fun_mk (st := s_Core_wait) l_Core_wait c_Core_wait k_Core_wait
  have b_Core_wait := F_Core_wait.binds (ps := ["self", "served"]) fun _ _ _ _ _ _ us hl => match us, hl with | [_, _], _ => rfl
  have F_Core_trap_by := fun_mk (st := s_Core_trap_by) l_Core_trap_by c_Core_trap_by k_Core_trap_by
  have b_Core_trap_by := F_Core_trap_by.binds (ps := ["self", "cause"]) fun _ _ _ _ _ _ us hl => match us, hl with | [_, _], _ => rfl
  have F_Core_arrive := fun_mk (st := s_Core_arrive) l_Core_arrive c_Core_arrive k_Core_arrive
  have b_Core_arrive := F_Core_arrive.binds (ps := ["self", "kind", "word"]) fun _ _ _ _ _ _ us hl => match us, hl with | [_, _, _], _ => rfl
  have F_Core_registers := fun_mk (st := s_Core_registers) l_Core_registers c_Core_registers k_Core_registers
  have b_Core_registers := F_Core_registers.binds (ps := ["self"]) fun _ _ _ _ _ _ us hl => match us, hl with | [_], _ => rfl
  have F_Core_counter := fun_mk (st := s_Core_counter) l_Core_counter c_Core_counter k_Core_counter
  have b_Core_counter := F_Core_counter.binds (ps := ["self"]) fun _ _ _ _ _ _ us hl => match us, hl with | [_], _ => rfl
  have F_Core_table := fun_mk (st := s_Core_table) l_Core_table c_Core_table k_Core_table
  have b_Core_table := F_Core_table.binds (ps := ["self"]) fun _ _ _ _ _ _ us hl => match us, hl with | [_], _ => rfl
  have F_Core_time := fun_mk (st := s_Core_time) l_Core_time c_Core_time k_Core_time
  have b_Core_time := F_Core_time.binds (ps := ["self"]) fun _ _ _ _ _ _ us hl => match us, hl with | [_], _ => rfl
  have F_Core_handler := fun_mk (st := s_Core_handler) l_Core_handler c_Core_handler k_Core_handler
  have b_Core_handler := F_Core_handler.binds (ps := ["self"]) fun _ _ _ _ _ _ us hl => match us, hl with | [_], _ => rfl
  have F_Core_cause := fun_mk (st := s_Core_cause) l_Core_cause c_Core_cause k_Core_cause
  have b_Core_cause := F_Core_cause.binds (ps := ["self"]) fun _ _ _ _ _ _ us hl => match us, hl with | [_], _ => rfl
  have F_Core_state := fun_mk (st := s_Core_state) l_Core_state c_Core_state k_Core_state
  have b_Core_state := F_Core_state.binds (ps := ["self"]) fun _ _ _ _ _ _ us hl => match us, hl with | [_], _ => rfl
  have F_Core_queue := fun_mk (st := s_Core_queue) l_Core_queue c_Core_queue k_Core_queue
  have b_Core_queue := F_Core_queue.binds (ps := ["self", "kind"]) fun _ _ _ _ _ _ us hl => match us, hl with | [_, _], _ => rfl
  have F_Core_told := fun_mk (st := s_Core_told) l_Core_told c_Core_told k_Core_told
  have b_Core_told := F_Core_told.binds (ps := ["self"]) fun _ _ _ _ _ _ us hl => match us, hl with | [_], _ => rfl
  have F_Core_sent := fun_mk (st := s_Core_sent) l_Core_sent c_Core_sent k_Core_sent
  have b_Core_sent := F_Core_sent.binds (ps := ["self"]) fun _ _ _ _ _ _ us hl => match us, hl with | [_], _ => rfl
  have F_Core_blocks := fun_mk (st := s_Core_blocks) l_Core_blocks c_Core_blocks k_Core_blocks
  have b_Core_blocks := F_Core_blocks.binds (ps := ["self"]) fun _ _ _ _ _ _ us hl => match us, hl with | [_], _ => rfl
  have F_Core_asks := fun_mk (st := s_Core_asks) l_Core_asks c_Core_asks k_Core_asks
  have b_Core_asks := F_Core_asks.binds (ps := ["self"]) fun _ _ _ _ _ _ us hl => match us, hl with | [_], _ => rfl
  have F_Core_due := fun_mk (st := s_Core_due) l_Core_due c_Core_due k_Core_due
  have b_Core_due := F_Core_due.binds (ps := ["self"]) fun _ _ _ _ _ _ us hl => match us, hl with | [_], _ => rfl
  have F_Core_asks_made := fun_mk (st := s_Core_asks_made) l_Core_asks_made c_Core_asks_made k_Core_asks_made
  have b_Core_asks_made := F_Core_asks_made.binds (ps := ["self"]) fun _ _ _ _ _ _ us hl => match us, hl with | [_], _ => rfl
  have F_Core_asks_done := fun_mk (st := s_Core_asks_done) l_Core_asks_done c_Core_asks_done k_Core_asks_done
  have b_Core_asks_done := F_Core_asks_done.binds (ps := ["self"]) fun _ _ _ _ _ _ us hl => match us, hl with | [_], _ => rfl
  have F_Core_stands := fun_mk (st := s_Core_stands) l_Core_stands c_Core_stands k_Core_stands
  have b_Core_stands := F_Core_stands.binds (ps := ["self"]) fun _ _ _ _ _ _ us hl => match us, hl with | [_], _ => rfl
  have F_Core_twin := fun_mk (st := s_Core_twin) l_Core_twin c_Core_twin k_Core_twin
  have b_Core_twin := F_Core_twin.binds (ps := ["self"]) fun _ _ _ _ _ _ us hl => match us, hl with | [_], _ => rfl
  have F_Core_eq := fun_mk (st := s_Core_eq) l_Core_eq c_Core_eq k_Core_eq
  have b_Core_eq := F_Core_eq.binds (ps := ["self", "other"]) fun _ _ _ _ _ _ us hl => match us, hl with | [_, _], _ => rfl
  have F_core_of := fun_mk (st := s_core_of) l_core_of c_core_of k_core_of
  have b_core_of := F_core_of.binds (ps := ["stands", "told", "sent"]) fun _ _ _ _ _ _ us hl => match us, hl with | [_, _, _], _ => rfl
  have F_PlainStore_init := fun_mk (st := s_PlainStore_init) l_PlainStore_init c_PlainStore_init k_PlainStore_init
  have b_PlainStore_init := F_PlainStore_init.binds (ps := ["self", "rooms"]) fun _ _ _ _ _ _ us hl => match us, hl with | [_, _], _ => rfl
  have F_PlainStore_read_cell := fun_mk (st := s_PlainStore_read_cell) l_PlainStore_read_cell c_PlainStore_read_cell k_PlainStore_read_cell
  have b_PlainStore_read_cell := F_PlainStore_read_cell.binds (ps := ["self", "room", "cell"]) fun _ _ _ _ _ _ us hl => match us, hl with | [_, _, _], _ => rfl
  have F_PlainStore_write_cell := fun_mk (st := s_PlainStore_write_cell) l_PlainStore_write_cell c_PlainStore_write_cell k_PlainStore_write_cell
  have b_PlainStore_write_cell := F_PlainStore_write_cell.binds (ps := ["self", "room", "cell", "word"]) fun _ _ _ _ _ _ us hl => match us, hl with | [_, _, _, _], _ => rfl
  have F_PlainStore_rooms := fun_mk (st := s_PlainStore_rooms) l_PlainStore_rooms c_PlainStore_rooms k_PlainStore_rooms
  have b_PlainStore_rooms := F_PlainStore_rooms.binds (ps := ["self"]) fun _ _ _ _ _ _ us hl => match us, hl with | [_], _ => rfl
  have F_PlainStore_twin := fun_mk (st := s_PlainStore_twin) l_PlainStore_twin c_PlainStore_twin k_PlainStore_twin
  have b_PlainStore_twin := F_PlainStore_twin.binds (ps := ["self"]) fun _ _ _ _ _ _ us hl => match us, hl with | [_], _ => rfl
  have F_PlainMachine_init := fun_mk (st := s_PlainMachine_init) l_PlainMachine_init c_PlainMachine_init k_PlainMachine_init
  have b_PlainMachine_init := F_PlainMachine_init.binds (ps := ["self", "image"]) fun _ _ _ _ _ _ us hl => match us, hl with | [_, _], _ => rfl
  have F_PlainMachine_step := fun_mk (st := s_PlainMachine_step) l_PlainMachine_step c_PlainMachine_step k_PlainMachine_step
  have b_PlainMachine_step := F_PlainMachine_step.binds (ps := ["self"]) fun _ _ _ _ _ _ us hl => match us, hl with | [_], _ => rfl
  have F_PlainMachine_arrive := fun_mk (st := s_PlainMachine_arrive) l_PlainMachine_arrive c_PlainMachine_arrive k_PlainMachine_arrive
  have b_PlainMachine_arrive := F_PlainMachine_arrive.binds (ps := ["self", "kind", "word"]) fun _ _ _ _ _ _ us hl => match us, hl with | [_, _, _], _ => rfl
  have F_PlainMachine_core := fun_mk (st := s_PlainMachine_core) l_PlainMachine_core c_PlainMachine_core k_PlainMachine_core
  have b_PlainMachine_core := F_PlainMachine_core.binds (ps := ["self"]) fun _ _ _ _ _ _ us hl => match us, hl with | [_], _ => rfl
  have F_PlainMachine_store := fun_mk (st := s_PlainMachine_store) l_PlainMachine_store c_PlainMachine_store k_PlainMachine_store
  have b_PlainMachine_store := F_PlainMachine_store.binds (ps := ["self"]) fun _ _ _ _ _ _ us hl => match us, hl with | [_], _ => rfl
  have F_PlainMachine_time := fun_mk (st := s_PlainMachine_time) l_PlainMachine_time c_PlainMachine_time k_PlainMachine_time
  have b_PlainMachine_time := F_PlainMachine_time.binds (ps := ["self"]) fun _ _ _ _ _ _ us hl => match us, hl with | [_], _ => rfl
  have F_PlainMachine_state := fun_mk (st := s_PlainMachine_state) l_PlainMachine_state c_PlainMachine_state k_PlainMachine_state
  have b_PlainMachine_state := F_PlainMachine_state.binds (ps := ["self"]) fun _ _ _ _ _ _ us hl => match us, hl with | [_], _ => rfl
  have F_PlainMachine_log := fun_mk (st := s_PlainMachine_log) l_PlainMachine_log c_PlainMachine_log k_PlainMachine_log
  have b_PlainMachine_log := F_PlainMachine_log.binds (ps := ["self"]) fun _ _ _ _ _ _ us hl => match us, hl with | [_], _ => rfl
  have F_PlainMachine_trail := fun_mk (st := s_PlainMachine_trail) l_PlainMachine_trail c_PlainMachine_trail k_PlainMachine_trail
  have b_PlainMachine_trail := F_PlainMachine_trail.binds (ps := ["self"]) fun _ _ _ _ _ _ us hl => match us, hl with | [_], _ => rfl
  have F_PlainMachine_twin := fun_mk (st := s_PlainMachine_twin) l_PlainMachine_twin c_PlainMachine_twin k_PlainMachine_twin
  have b_PlainMachine_twin := F_PlainMachine_twin.binds (ps := ["self"]) fun _ _ _ _ _ _ us hl => match us, hl with | [_], _ => rfl
  have F_is_log := fun_mk (st := s_is_log) l_is_log c_is_log k_is_log
  have b_is_log := F_is_log.binds (ps := ["thing"]) fun _ _ _ _ _ _ us hl => match us, hl with | [_], _ => rfl
  have F_machine_of := fun_mk (st := s_machine_of) l_machine_of c_machine_of k_machine_of
  have b_machine_of := F_machine_of.binds (ps := ["core", "rooms", "log", "trail"]) fun _ _ _ _ _ _ us hl => match us, hl with | [_, _, _, _], _ => rfl
  have F_check_end := fun_mk (st := s_check_end) l_check_end c_check_end k_check_end
  have b_check_end := F_check_end.binds (ps := ["thing"]) fun _ _ _ _ _ _ us hl => match us, hl with | [_], _ => rfl
  have F_run_by := fun_mk (st := s_run_by) l_run_by c_run_by k_run_by
  have b_run_by := F_run_by.binds (ps := ["machine", "log", "end"]) fun _ _ _ _ _ _ us hl => match us, hl with | [_, _, _], _ => rfl
  have F_arrived := fun_mk (st := s_arrived) l_arrived c_arrived k_arrived
  have b_arrived := F_arrived.binds (ps := ["machine", "log", "come"]) fun _ _ _ _ _ _ us hl => match us, hl with | [_, _, _], _ => rfl
  have F_is_arrival := fun_mk (st := s_is_arrival) l_is_arrival c_is_arrival k_is_arrival
  have b_is_arrival := F_is_arrival.binds (ps := ["thing"]) fun _ _ _ _ _ _ us hl => match us, hl with | [_], _ => rfl
  have F_cell_L := fun_mk (st := s_cell_L) l_cell_L c_cell_L k_cell_L
  have b_cell_L := F_cell_L.binds (ps := ["_law_script", "_law_k"]) fun _ _ _ _ _ _ us hl => match us, hl with | [_, _], _ => rfl
  have F_box_L := fun_mk (st := s_box_L) l_box_L c_box_L k_box_L
  have b_box_L := F_box_L.binds (ps := ["_law_cell_here"]) fun _ _ _ _ _ _ us hl => match us, hl with | [_], _ => rfl
  have F_take_L := fun_mk (st := s_take_L) l_take_L c_take_L k_take_L
  have b_take_L := F_take_L.binds (ps := ["_law_box_here", "_law_many"]) fun _ _ _ _ _ _ us hl => match us, hl with | [_, _], _ => rfl
  have F_order_L := fun_mk (st := s_order_L) l_order_L c_order_L k_order_L
  have b_order_L := F_order_L.binds (ps := ["_law_box_here"]) fun _ _ _ _ _ _ us hl => match us, hl with | [_], _ => rfl
  have F_image_L := fun_mk (st := s_image_L) l_image_L c_image_L k_image_L
  have b_image_L := F_image_L.binds (ps := ["_law_box_here"]) fun _ _ _ _ _ _ us hl => match us, hl with | [_], _ => rfl
  have F_goes_on_L := fun_mk (st := s_goes_on_L) l_goes_on_L c_goes_on_L k_goes_on_L
  have b_goes_on_L := F_goes_on_L.binds (ps := ["_law_twin", "_law_machine"]) fun _ _ _ _ _ _ us hl => match us, hl with | [_, _], _ => rfl
  have F_law := fun_mk (st := s_law) l_law c_law k_law
  have oex : ∀ {b : Bs} {C : Addr} {nm q : Str} {N : Addr} {bs bm : List Value} {sn : List Str} {sub : List Value} {ab : Bool} {col : Option Bool} {dd : Option Addr} {k0 k1 k2 k3 k5 : Option Value}, K.lookup C = some (excClassObj nm q C N bs bm true sn sub ab col dd k0 k1 k2 k3 k5 b.new) → Tail b bm →
      PySem.W.findIn K (.ref C) "__setattr__" = some (some (.builtin "object.__setattr__")) → PySem.W.subIn K (.ref C) (.type "BaseException") = some true → PySem.W.typeIn K (.ref C) = some (.type "type") → PySem.W.keepIn K (.ref C) = true → OexT K b C :=
    fun l t a b c d => ⟨⟨_, _, _, _, _, _, _, _, _, _, _, _, _, _, _, l, t⟩, a, b, c, d⟩
  have T : Txt K mg { CG := C_GuestError, fG := f_GuestError_init, CB := C_Barred, fB := f_Barred_init, CM := C_NoNumber, fM := f_NoNumber_init, CW := C_NoWord, fW := f_NoWord_init, CU := C_Nought, fU := f_Nought_init, CI := C_NoImage, fI := f_NoImage_init, CE := C_Ended, fE := f_Ended_init, CK := C_NoKind, fK := f_NoKind_init, CL := C_NoLog, fL := f_NoLog_init, c := czP C_Core C_Disk C_PlainStore, P := C_PlainMachine, aO := aOPS, aA := aACT, aK := aKND, act := fun i => ([f_halt, f_set, f_load, f_save, f_from, f_into, f_add, f_sub, f_part, f_jump, f_base, f_trap, f_clock, f_out, f_in] : List Addr).getD i 0 } :=
    { m_isinstance := mz z_isinstance, m_int := mz z_int, m_bool := mz z_bool, m_str := mz z_str, m_list := mz z_list, m_tuple := mz z_tuple, m_len := mz z_len, m_max := mz z_max, m_min := mz z_min, m_range := mz z_range, m_all := mz z_all, m_enumerate := mz z_enumerate, m_repr := mz z_repr, m_sorted := mz z_sorted, m_ValueError := mz z_ValueError, m_LookupError := mz z_LookupError,
      c_MOST := ⟨_, mo cC_MOST, ⟨_, rfl⟩⟩, c_EIGHT := ⟨_, mo cC_EIGHT, ⟨_, rfl⟩⟩, c_MOST_ASKS := ⟨_, mo cC_MOST_ASKS, ⟨_, rfl⟩⟩, c_LATENCY := ⟨_, mo cC_LATENCY, ⟨_, rfl⟩⟩, c_PLACES := ⟨_, mo cC_PLACES, ⟨_, rfl⟩⟩, c_WORDS := ⟨_, mo cC_WORDS, ⟨_, rfl⟩⟩, c_NOTHING := ⟨_, mo cC_NOTHING, ⟨_, rfl⟩⟩, c_LEADS_NOWHERE := ⟨_, mo cC_LEADS_NOWHERE, ⟨_, rfl⟩⟩, c_MAY_NOT_WRITE := ⟨_, mo cC_MAY_NOT_WRITE, ⟨_, rfl⟩⟩, c_BY_NOUGHT := ⟨_, mo cC_BY_NOUGHT, ⟨_, rfl⟩⟩, c_CALLED := ⟨_, mo cC_CALLED, ⟨_, rfl⟩⟩, c_LONGEST_LOG := ⟨_, mo cC_LONGEST_LOG, ⟨_, rfl⟩⟩, c_LAST_END := ⟨_, mo cC_LAST_END, ⟨_, rfl⟩⟩, c_OPS := ⟨_, mo cOPS, rfl⟩, c_ACTIONS := ⟨_, mo cACT, rfl⟩, c_KINDS := ⟨_, mo cKND, rfl⟩,
      ops := fun H => .inr ⟨_, _, _, lOPS, rfl, rfl, (by show (16 : Nat) ≤ sizeLine; decide), .cons ⟨_, rfl⟩ (.cons ⟨_, rfl⟩ (.cons ⟨_, rfl⟩ (.cons ⟨_, rfl⟩ (.cons ⟨_, rfl⟩ (.cons ⟨_, rfl⟩ (.cons ⟨_, rfl⟩ (.cons ⟨_, rfl⟩ (.cons ⟨_, rfl⟩ (.cons ⟨_, rfl⟩ (.cons ⟨_, rfl⟩ (.cons ⟨_, rfl⟩ (.cons ⟨_, rfl⟩ (.cons ⟨_, rfl⟩ (.cons ⟨_, rfl⟩ (.cons ⟨_, rfl⟩ (.nil))))))))))))))))⟩,
      acts := fun H => .inr ⟨_, _, _, lACT, rfl, rfl, (by show (15 : Nat) ≤ sizeLine; decide), .cons rfl (.cons rfl (.cons rfl (.cons rfl (.cons rfl (.cons rfl (.cons rfl (.cons rfl (.cons rfl (.cons rfl (.cons rfl (.cons rfl (.cons rfl (.cons rfl (.cons rfl (.nil)))))))))))))))⟩,
      g_GuestError := mo aC_GuestError, rd_GuestError := rd_GuestError, ga_GuestError := ga_GuestError, at_GuestError := at_GuestError, g_Barred := mo aC_Barred, rd_Barred := rd_Barred, ga_Barred := ga_Barred, at_Barred := at_Barred, vV := v_ValueError, vL := v_LookupError,
      g_NoNumber := mo aC_NoNumber, g_NoWord := mo aC_NoWord, g_Nought := mo aC_Nought, g_NoImage := mo aC_NoImage, g_Ended := mo aC_Ended, g_NoKind := mo aC_NoKind, g_NoLog := mo aC_NoLog,
      xM := ⟨oex (b := .ve) xL_M (.own _ .here) sa_M ex_M ty_M kp_M, a_NoNumber_init, tf_M, nf_M, ⟨hg_M, hk_M, ex_M, hd_M⟩, ⟨hg_M, hk_M, ex_M, hd_M, ha_M, hn, htk, hm_M⟩⟩,
      xW := ⟨oex (b := .ve) xL_W (.own _ .here) sa_W ex_W ty_W kp_W, a_NoWord_init, tf_W, nf_W, ⟨hg_W, hk_W, ex_W, hd_W⟩, ⟨hg_W, hk_W, ex_W, hd_W, ha_W, hn, htk, hm_W⟩⟩,
      xU := ⟨oex (b := .ve) xL_U (.own _ .here) sa_U ex_U ty_U kp_U, a_Nought_init, tf_U, nf_U, ⟨hg_U, hk_U, ex_U, hd_U⟩, ⟨hg_U, hk_U, ex_U, hd_U, ha_U, hn, htk, hm_U⟩⟩,
      xI := ⟨oex (b := .ve) xL_I (.own _ .here) sa_I ex_I ty_I kp_I, a_NoImage_init, tf_I, nf_I, ⟨hg_I, hk_I, ex_I, hd_I⟩, ⟨hg_I, hk_I, ex_I, hd_I, ha_I, hn, htk, hm_I⟩⟩,
      xE := ⟨oex (b := .le) xL_E (.own _ .here) sa_E ex_E ty_E kp_E, a_Ended_init, tf_E, nf_E, ⟨hg_E, hk_E, ex_E, hd_E⟩, ⟨hg_E, hk_E, ex_E, hd_E, ha_E, hn, htk, hm_E⟩⟩,
      xK := ⟨oex (b := .ve) xL_K (.own _ .here) sa_K ex_K ty_K kp_K, a_NoKind_init, tf_K, nf_K, ⟨hg_K, hk_K, ex_K, hd_K⟩, ⟨hg_K, hk_K, ex_K, hd_K, ha_K, hn, htk, hm_K⟩⟩,
      xL := ⟨oex (b := .ve) xL_L (.own _ .here) sa_L ex_L ty_L kp_L, a_NoLog_init, tf_L, nf_L, ⟨hg_L, hk_L, ex_L, hd_L⟩, ⟨hg_L, hk_L, ex_L, hd_L, ha_L, hn, htk, hm_L⟩⟩,
      g_Core := mo aC_Core, cl_Core := ⟨pg_Core, hdd_Core, po_Core, saa_Core⟩, na_Core_registers := na_Core_registers, na_Core_counter := na_Core_counter, na_Core_table := na_Core_table, na_Core_time := na_Core_time, na_Core_handler := na_Core_handler, na_Core_back_to := na_Core_back_to, na_Core_cause := na_Core_cause, na_Core_trapped := na_Core_trapped, na_Core_state := na_Core_state, na_Core_queues := na_Core_queues, na_Core_told := na_Core_told, na_Core_sent := na_Core_sent, na_Core_disk := na_Core_disk,
      g_Disk := mo aC_Disk, cl_Disk := ⟨pg_Disk, hdd_Disk, po_Disk, saa_Disk⟩, na_Disk_blocks := na_Disk_blocks, na_Disk_asks := na_Disk_asks, na_Disk_made := na_Disk_made, na_Disk_done := na_Disk_done,
      g_PlainStore := mo aC_PlainStore, cl_PlainStore := ⟨pg_PlainStore, hdd_PlainStore, po_PlainStore, saa_PlainStore⟩, na_PlainStore_rooms := na_PlainStore_rooms,
      g_PlainMachine := mo aC_PlainMachine, cl_PlainMachine := ⟨pg_PlainMachine, hdd_PlainMachine, po_PlainMachine, saa_PlainMachine⟩, na_PlainMachine_core := na_PlainMachine_core, na_PlainMachine_store := na_PlainMachine_store, na_PlainMachine_log := na_PlainMachine_log, na_PlainMachine_trail := na_PlainMachine_trail }
  have kt : KT K aLOG0 [] := ⟨_, #[], _, lLOG0, rfl, rfl, Nat.zero_le _, .nil⟩
  have io : IsOwn K C_Core := fun H a dx fs e => .base (.ins e ⟨pg_Core, hdd_Core, po_Core, saa_Core⟩ ha_CO hn htk hm_CO)
  have pk : (czP C_Core C_Disk C_PlainStore).kd = kdP C_PlainStore := rfl
  have KD : Kinds K w aKND _ _ := ⟨⟨lKND, ⟨⟨_, _, rfl, rfl⟩, ⟨_, _, rfl, rfl⟩, trivial⟩, sysKND⟩, ⟨_, _, _, _, rfl⟩⟩
  refine ⟨PySem.W.fnOf "law" "law" (defArgs s_law) (defBody s_law) (defScope s_law) .none kV_law dc_law pm_law an_law cd_law ct_law, fun s v => .of_eq rfl, fun base _ _ => ?_⟩
  have c_cell_L := CalD.mk' (P := l.prog) (w := w) (base := base) (mo a_cell_L) k_cell_L (ok_cell F_cell_L T) b_cell_L
  have c_box_L := CalD.mk' (P := l.prog) (w := w) (base := base) (mo a_box_L) k_box_L (ok_box F_box_L T) b_box_L
  have c_take_L := CalD.mk' (P := l.prog) (w := w) (base := base) (mo a_take_L) k_take_L (ok_take F_take_L T) b_take_L
  have c_GuestError_init : Own l.prog w K mg base CX0 1 f_GuestError_init _ ["self", "text"] (spGT K .ve) := ⟨ok_GE F_GuestError_init T, b_GuestError_init, k_GuestError_init⟩
  have c_Barred_init : Own l.prog w K mg base CX0 1 f_Barred_init _ ["self", "text"] (spGT K .le) := ⟨ok_BB F_Barred_init T, b_Barred_init, k_Barred_init⟩
  have c_NoNumber_init : Own l.prog w K mg base CX0 2 f_NoNumber_init _ ["self", "found"] (spInitN "found" C_NoNumber) := ⟨ok_iM F_NoNumber_init T c_GuestError_init, b_NoNumber_init, k_NoNumber_init⟩
  have c_NoWord_init : Own l.prog w K mg base CX0 2 f_NoWord_init _ ["self", "found"] (spInitN "found" C_NoWord) := ⟨ok_iW F_NoWord_init T c_GuestError_init, b_NoWord_init, k_NoWord_init⟩
  have c_Nought_init : Own l.prog w K mg base CX0 2 f_Nought_init _ ["self", "found"] (spInitN "found" C_Nought) := ⟨ok_iU F_Nought_init T c_GuestError_init, b_Nought_init, k_Nought_init⟩
  have c_NoImage_init : Own l.prog w K mg base CX0 2 f_NoImage_init _ ["self", "found"] (spInitN "found" C_NoImage) := ⟨ok_iI F_NoImage_init T c_GuestError_init, b_NoImage_init, k_NoImage_init⟩
  have c_Ended_init : Own l.prog w K mg base CX0 2 f_Ended_init _ ["self", "found"] (spInitN "found" C_Ended) := ⟨ok_iE F_Ended_init T c_Barred_init, b_Ended_init, k_Ended_init⟩
  have c_NoKind_init : Own l.prog w K mg base CX0 2 f_NoKind_init _ ["self", "found"] (spInitN "found" C_NoKind) := ⟨ok_iK F_NoKind_init T c_GuestError_init, b_NoKind_init, k_NoKind_init⟩
  have c_NoLog_init : Own l.prog w K mg base CX0 2 f_NoLog_init _ ["self", "found"] (spInitN "found" C_NoLog) := ⟨ok_iL F_NoLog_init T c_GuestError_init, b_NoLog_init, k_NoLog_init⟩
  have c_is_whole := CalD.mk' (P := l.prog) (w := w) (base := base) (mo a_is_whole) k_is_whole (ok_whole F_is_whole T) b_is_whole
  have c_check_number := CalX.mk' (P := l.prog) (w := w) (base := base) (mo a_check_number) k_check_number (ok_cknum F_check_number T c_is_whole c_NoNumber_init) b_check_number
  have c_is_word := CalD.mk' (P := l.prog) (w := w) (base := base) (mo a_is_word) k_is_word (ok_word F_is_word T c_is_whole) b_is_word
  have c_check_word := CalX.mk' (P := l.prog) (w := w) (base := base) (mo a_check_word) k_check_word (ok_ckw F_check_word T c_is_word c_NoWord_init) b_check_word
  have c_is_row := CalD.mk' (P := l.prog) (w := w) (base := base) (mo a_is_row) k_is_row (ok_rowI F_is_row T c_is_word) b_is_row
  have c_is_eight := CalD.mk' (P := l.prog) (w := w) (base := base) (mo a_is_eight) k_is_eight (ok_eight F_is_eight T c_is_row) b_is_eight
  have c_parts_of := CalX.mk' (P := l.prog) (w := w) (base := base) (mo a_parts_of) k_parts_of (ok_parts F_parts_of T c_check_word) b_parts_of
  have c_entry_parts := CalX.mk' (P := l.prog) (w := w) (base := base) (mo a_entry_parts) k_entry_parts (ok_entry F_entry_parts T c_check_word) b_entry_parts
  have c_check_words := CalX.mk' (P := l.prog) (w := w) (base := base) (mo a_check_words) k_check_words (ok_ckws F_check_words T c_check_word) b_check_words
  have c_sum_of := CalX.mk' (P := l.prog) (w := w) (base := base) (mo a_sum_of) k_sum_of (ok_sum F_sum_of T c_check_words) b_sum_of
  have c_difference := CalX.mk' (P := l.prog) (w := w) (base := base) (mo a_difference) k_difference (ok_diff F_difference T c_check_words) b_difference
  have c_divided := CalX.mk' (P := l.prog) (w := w) (base := base) (mo a_divided) k_divided (ok_divd F_divided T c_check_words c_Nought_init) b_divided
  have c_Disk_ask : CalM l.prog w K mg base CX0 5 C_Disk "ask" (spDAsk _) := ⟨_, _, _, ⟨a_Disk_ask, fn_Disk_ask, k_Disk_ask⟩, ok_dask F_Disk_ask T, b_Disk_ask⟩
  have c_Disk_asks : CalM l.prog w K mg base CX0 5 C_Disk "asks" (spAsks _) := ⟨_, _, _, ⟨a_Disk_asks, fn_Disk_asks, k_Disk_asks⟩, ok_dasks F_Disk_asks T, b_Disk_asks⟩
  have c_Disk_asks_done : CalM l.prog w K mg base CX0 5 C_Disk "asks_done" (spDone _) := ⟨_, _, _, ⟨a_Disk_asks_done, fn_Disk_asks_done, k_Disk_asks_done⟩, ok_ddone F_Disk_asks_done T, b_Disk_asks_done⟩
  have c_Disk_init : CalC l.prog w K mg base CX0 5 C_Disk "Disk" (spDI _) := ⟨_, _, _, ⟨mk_Disk, a_Disk_init, fn_Disk_init, kc_Disk⟩, ok_dinit F_Disk_init T, b_Disk_init, mo aC_Disk⟩
  have c_Core_init : CalC l.prog w K mg base (L2.CX l.prog w) 7 C_Core "Core" (spCI _) := ⟨_, _, _, ⟨mk_Core, a_Core_init, fn_Core_init, kc_Core⟩, ok_cinit F_Core_init T c_is_eight c_Disk_init c_NoImage_init, b_Core_init, mo aC_Core⟩
  have c_Core_counter : CalM l.prog w K mg base CX0 5 C_Core "counter" (spGN _ fun m => m.at_) := ⟨_, _, _, ⟨a_Core_counter, fn_Core_counter, k_Core_counter⟩, ok_g_at_ F_Core_counter T, b_Core_counter⟩
  have c_Core_cause : CalM l.prog w K mg base CX0 5 C_Core "cause" (spGN _ fun m => m.cs) := ⟨_, _, _, ⟨a_Core_cause, fn_Core_cause, k_Core_cause⟩, ok_g_cs F_Core_cause T, b_Core_cause⟩
  have c_Core_time : CalM l.prog w K mg base CX0 5 C_Core "time" (spGN _ fun m => m.tm) := ⟨_, _, _, ⟨a_Core_time, fn_Core_time, k_Core_time⟩, ok_g_tm F_Core_time T, b_Core_time⟩
  have c_Core_state : CalM l.prog w K mg base CX0 5 C_Core "state" (spGS _) := ⟨_, _, _, ⟨a_Core_state, fn_Core_state, k_Core_state⟩, ok_g_st F_Core_state T, b_Core_state⟩
  have c_Core_wait : CalM l.prog w K mg base CX0 6 C_Core "_wait" (spWait _) := ⟨_, _, _, ⟨a_Core_wait, fn_Core_wait, k_Core_wait⟩, ok_wait F_Core_wait T c_Disk_asks, b_Core_wait⟩
  have c_Core_trap_by : CalM l.prog w K mg base CX0 5 C_Core "_trap_by" (spTrapBy _) := ⟨_, _, _, ⟨a_Core_trap_by, fn_Core_trap_by, k_Core_trap_by⟩, ok_trapby F_Core_trap_by T, b_Core_trap_by⟩
  have c_PlainStore_read_cell : CalM l.prog w K mg base (L2.CX l.prog w) 5 C_PlainStore "read_cell" (spRdC _) := ⟨_, _, _, ⟨a_PlainStore_read_cell, fn_PlainStore_read_cell, k_PlainStore_read_cell⟩, ok_rdc F_PlainStore_read_cell T pk c_check_number, b_PlainStore_read_cell⟩
  have c_PlainStore_write_cell : CalM l.prog w K mg base (L2.CX l.prog w) 5 C_PlainStore "write_cell" (spWrC _) := ⟨_, _, _, ⟨a_PlainStore_write_cell, fn_PlainStore_write_cell, k_PlainStore_write_cell⟩, ok_wrc F_PlainStore_write_cell T pk c_check_number c_check_word, b_PlainStore_write_cell⟩
  have c_PlainStore_init : CalC l.prog w K mg base (L2.CX l.prog w) 6 C_PlainStore "PlainStore" (spSI _) := ⟨_, _, _, ⟨mk_PlainStore, a_PlainStore_init, fn_PlainStore_init, kc_PlainStore⟩, ok_sinit F_PlainStore_init T c_is_eight c_NoImage_init, b_PlainStore_init, mo aC_PlainStore⟩
  have c_PlainStore_rooms : CalM l.prog w K mg base CX0 5 C_PlainStore "rooms" (spRooms _) := ⟨_, _, _, ⟨a_PlainStore_rooms, fn_PlainStore_rooms, k_PlainStore_rooms⟩, ok_rooms F_PlainStore_rooms T, b_PlainStore_rooms⟩
  have c_is_kind := CalD.mk' (P := l.prog) (w := w) (base := base) (mo a_is_kind) k_is_kind (ok_iskind F_is_kind T KD) b_is_kind
  have c_may_arrive := CalD.mk' (P := l.prog) (w := w) (base := base) (mo a_may_arrive) k_may_arrive (ok_may F_may_arrive T KD c_is_whole) b_may_arrive
  have c_Core_queue : CalM l.prog w K mg base (L2.CX l.prog w) 5 C_Core "queue" (spQueue _) := ⟨_, _, _, ⟨a_Core_queue, fn_Core_queue, k_Core_queue⟩, ok_queue F_Core_queue T c_is_kind c_NoKind_init, b_Core_queue⟩
  have c_Core_told : CalM l.prog w K mg base CX0 5 C_Core "told" (spGL _ fun _ m => nv m.td) := ⟨_, _, _, ⟨a_Core_told, fn_Core_told, k_Core_told⟩, ok_g_td F_Core_told T, b_Core_told⟩
  have c_Core_sent : CalM l.prog w K mg base CX0 5 C_Core "sent" (spGL _ fun k _ => k.ss.map V.ref) := ⟨_, _, _, ⟨a_Core_sent, fn_Core_sent, k_Core_sent⟩, ok_g_sn F_Core_sent T, b_Core_sent⟩
  have c_Core_asks : CalM l.prog w K mg base CX0 6 C_Core "asks" (spGL _ fun k _ => k.ts.map V.ref) := ⟨_, _, _, ⟨a_Core_asks, fn_Core_asks, k_Core_asks⟩, ok_g_as F_Core_asks T c_Disk_asks, b_Core_asks⟩
  have c_Disk_asks_made : CalM l.prog w K mg base CX0 5 C_Disk "asks_made" (spMade _) := ⟨_, _, _, ⟨a_Disk_asks_made, fn_Disk_asks_made, k_Disk_asks_made⟩, ok_dmade F_Disk_asks_made T, b_Disk_asks_made⟩
  have c_Core_asks_made : CalM l.prog w K mg base CX0 6 C_Core "asks_made" (spGN _ fun m => m.mq) := ⟨_, _, _, ⟨a_Core_asks_made, fn_Core_asks_made, k_Core_asks_made⟩, ok_g_mq F_Core_asks_made T c_Disk_asks_made, b_Core_asks_made⟩
  have c_Core_asks_done : CalM l.prog w K mg base CX0 6 C_Core "asks_done" (spGN _ fun m => m.dn) := ⟨_, _, _, ⟨a_Core_asks_done, fn_Core_asks_done, k_Core_asks_done⟩, ok_g_dn F_Core_asks_done T c_Disk_asks_done, b_Core_asks_done⟩
  have c_Disk_blocks : CalM l.prog w K mg base CX0 5 C_Disk "blocks" (spBlk _ Cq.dk) := ⟨_, _, _, ⟨a_Disk_blocks, fn_Disk_blocks, k_Disk_blocks⟩, ok_dblocks F_Disk_blocks T, b_Disk_blocks⟩
  have c_Core_blocks : CalM l.prog w K mg base CX0 6 C_Core "blocks" (spBlk _ Cq.o) := ⟨_, _, _, ⟨a_Core_blocks, fn_Core_blocks, k_Core_blocks⟩, ok_g_bs F_Core_blocks T c_Disk_blocks, b_Core_blocks⟩
  have c_order_L := CalD.mk' (P := l.prog) (w := w) (base := base) (mo a_order_L) k_order_L (ok_order F_order_L T c_take_L) b_order_L
  have c_image_L := CalD.mk' (P := l.prog) (w := w) (base := base) (mo a_image_L) k_image_L (ok_image F_image_L T c_take_L c_order_L) b_image_L
  have c_Core_due : CalM l.prog w K mg base CX0 6 C_Core "due" (spGL _ fun _ m => nv (dueL m)) := ⟨_, _, _, ⟨a_Core_due, fn_Core_due, k_Core_due⟩, ok_g_due F_Core_due T c_Disk_asks, b_Core_due⟩
  have c_Core_arrive : CalM l.prog w K mg base (L2.CX l.prog w) 5 C_Core "arrive" (spArrive2 _) := ⟨_, _, _, ⟨a_Core_arrive, fn_Core_arrive, k_Core_arrive⟩, ok_arrive2 F_Core_arrive T c_is_kind c_may_arrive c_NoKind_init c_NoWord_init c_Ended_init, b_Core_arrive⟩
  have c_Core_stands : CalM l.prog w K mg base CX0 6 C_Core "stands" (spStands _) := ⟨_, _, _, ⟨a_Core_stands, fn_Core_stands, k_Core_stands⟩, ok_stands F_Core_stands T c_Disk_blocks c_Disk_asks c_Disk_asks_made c_Disk_asks_done, b_Core_stands⟩
  have c_disk_of := CalD.mk' (P := l.prog) (w := w) (base := base) (mo a_disk_of) k_disk_of (ok_diskof F_disk_of T c_Disk_init) b_disk_of
  have c_core_of := CalX.mk' (P := l.prog) (w := w) (base := base) (mo a_core_of) k_core_of (ok_coreof F_core_of T c_Core_init c_disk_of) b_core_of
  have c_Core_twin : CalM l.prog w K mg base (L2.CX l.prog w) 10 C_Core "twin" (spTwin _) := ⟨_, _, _, ⟨a_Core_twin, fn_Core_twin, k_Core_twin⟩, ok_ctwin F_Core_twin T c_Core_stands c_core_of, b_Core_twin⟩
  have c_PlainMachine_time : CalM l.prog w K mg base CX0 6 C_PlainMachine "time" (spMTime _) := ⟨_, _, _, ⟨a_PlainMachine_time, fn_PlainMachine_time, k_PlainMachine_time⟩, ok_mtime F_PlainMachine_time T c_Core_time, b_PlainMachine_time⟩
  have c_PlainMachine_state : CalM l.prog w K mg base CX0 6 C_PlainMachine "state" (spMState _) := ⟨_, _, _, ⟨a_PlainMachine_state, fn_PlainMachine_state, k_PlainMachine_state⟩, ok_mstate F_PlainMachine_state T c_Core_state, b_PlainMachine_state⟩
  have c_PlainMachine_log : CalM l.prog w K mg base CX0 6 C_PlainMachine "log" (spMLog _) := ⟨_, _, _, ⟨a_PlainMachine_log, fn_PlainMachine_log, k_PlainMachine_log⟩, ok_mlog F_PlainMachine_log T, b_PlainMachine_log⟩
  have c_PlainMachine_trail : CalM l.prog w K mg base CX0 6 C_PlainMachine "trail" (spMTrail _) := ⟨_, _, _, ⟨a_PlainMachine_trail, fn_PlainMachine_trail, k_PlainMachine_trail⟩, ok_mtrail F_PlainMachine_trail T, b_PlainMachine_trail⟩
  have c_PlainMachine_core : CalM l.prog w K mg base (L2.CX l.prog w) 11 C_PlainMachine "core" (spMCore _) := ⟨_, _, _, ⟨a_PlainMachine_core, fn_PlainMachine_core, k_PlainMachine_core⟩, ok_mcore F_PlainMachine_core T c_Core_twin, b_PlainMachine_core⟩
  have c_PlainStore_twin : CalM l.prog w K mg base (L2.CX l.prog w) 8 C_PlainStore "twin" (spSTwin _) := ⟨_, _, _, ⟨a_PlainStore_twin, fn_PlainStore_twin, k_PlainStore_twin⟩, ok_stwin F_PlainStore_twin T c_PlainStore_init c_PlainStore_rooms, b_PlainStore_twin⟩
  have c_PlainMachine_store : CalM l.prog w K mg base (L2.CX l.prog w) 9 C_PlainMachine "store" (spMStore _) := ⟨_, _, _, ⟨a_PlainMachine_store, fn_PlainMachine_store, k_PlainMachine_store⟩, ok_mstore F_PlainMachine_store T pk c_PlainStore_twin, b_PlainMachine_store⟩
  have c_PlainMachine_arrive : CalM l.prog w K mg base (L2.CX l.prog w) 6 C_PlainMachine "arrive" (spMArr2 _) := ⟨_, _, _, ⟨a_PlainMachine_arrive, fn_PlainMachine_arrive, k_PlainMachine_arrive⟩, ok_marr F_PlainMachine_arrive T c_Core_arrive c_Core_time, b_PlainMachine_arrive⟩
  have c_is_count := CalD.mk' (P := l.prog) (w := w) (base := base) (mo a_is_count) k_is_count (ok_count F_is_count T) b_is_count
  have c_is_image := CalD.mk' (P := l.prog) (w := w) (base := base) (mo a_is_image) k_is_image (ok_isimage F_is_image T c_is_eight) b_is_image
  have c_is_arrival := CalD.mk' (P := l.prog) (w := w) (base := base) (mo a_is_arrival) k_is_arrival (ok_isarr F_is_arrival T c_is_count c_is_kind c_may_arrive) b_is_arrival
  have c_is_log := CalD.mk' (P := l.prog) (w := w) (base := base) (mo a_is_log) k_is_log (ok_islog F_is_log T c_is_arrival) b_is_log
  have c_check_end := CalX.mk' (P := l.prog) (w := w) (base := base) (mo a_check_end) k_check_end (ok_ckend F_check_end T c_check_number) b_check_end
  have c_PlainMachine_init : CalC l.prog w K mg base (L2.CX l.prog w) 9 C_PlainMachine "PlainMachine" (spMI _) := ⟨_, _, _, ⟨mk_PlainMachine, a_PlainMachine_init, fn_PlainMachine_init, kc_PlainMachine⟩, ok_minit F_PlainMachine_init T pk c_is_image c_Core_init c_PlainStore_init c_NoImage_init, b_PlainMachine_init, mo aC_PlainMachine⟩
  have c_arrived := CalX.mk' (P := l.prog) (w := w) (base := base) (mo a_arrived) k_arrived (ok_arrived F_arrived T c_PlainMachine_time c_PlainMachine_state c_PlainMachine_arrive) b_arrived
  have c_filled := CalD.mk' (P := l.prog) (w := w) (base := base) (mo a_filled) k_filled (ok_filled F_filled T) b_filled
  have c_is_told := CalD.mk' (P := l.prog) (w := w) (base := base) (mo a_is_told) k_is_told (ok_told F_is_told T) b_is_told
  have c_way := CalX.mk' (P := l.prog) (w := w) (base := base) (mo a_way) k_way (ok_wayC F_way T c_entry_parts c_PlainStore_read_cell) b_way
  have c_loaded := CalX.mk' (P := l.prog) (w := w) (base := base) (mo a_loaded) k_loaded (ok_loaded F_loaded T c_way c_PlainStore_read_cell) b_loaded
  have c_saved := CalX.mk' (P := l.prog) (w := w) (base := base) (mo a_saved) k_saved (ok_saved F_saved T c_way c_PlainStore_write_cell) b_saved
  have c_Disk_do : CalM l.prog w K mg base (L2.CX l.prog w) 6 C_Disk "_do" (spDo _) := ⟨_, _, _, ⟨a_Disk_do, fn_Disk_do, k_Disk_do⟩, ok_ddo F_Disk_do T c_PlainStore_read_cell c_PlainStore_write_cell, b_Disk_do⟩
  have c_Disk_serve : CalM l.prog w K mg base (L2.CX l.prog w) 7 C_Disk "serve" (spServe _) := ⟨_, _, _, ⟨a_Disk_serve, fn_Disk_serve, k_Disk_serve⟩, ok_serve F_Disk_serve T c_Disk_do, b_Disk_serve⟩
  have acts : ∀ i, i < 15 → ∃ fd, PySem.W.keepIn K (.ref (([f_halt, f_set, f_load, f_save, f_from, f_into, f_add, f_sub, f_part, f_jump, f_base, f_trap, f_clock, f_out, f_in] : List Addr).getD i 0)) = true ∧ FnOk l.prog w K mg base (L2.CX l.prog w) 9 (([f_halt, f_set, f_load, f_save, f_from, f_into, f_add, f_sub, f_part, f_jump, f_base, f_trap, f_clock, f_out, f_in] : List Addr).getD i 0) fd ["core", "store", "which", "rest"] (spAct _ i) ∧ Binds K fd ["core", "store", "which", "rest"] [] := fun i hi => match i, hi with
    | 0, _ => ⟨_, k_halt, ok_halt F_halt T, b_halt⟩
    | 1, _ => ⟨_, k_set, ok_set F_set T, b_set⟩
    | 2, _ => ⟨_, k_load, ok_load F_load T c_loaded, b_load⟩
    | 3, _ => ⟨_, k_save, ok_save F_save T c_saved, b_save⟩
    | 4, _ => ⟨_, k_from, ok_from F_from T c_loaded, b_from⟩
    | 5, _ => ⟨_, k_into, ok_into F_into T c_saved, b_into⟩
    | 6, _ => ⟨_, k_add, ok_add F_add T c_sum_of, b_add⟩
    | 7, _ => ⟨_, k_sub, ok_sub F_sub T c_difference, b_sub⟩
    | 8, _ => ⟨_, k_part, ok_part F_part T c_divided, b_part⟩
    | 9, _ => ⟨_, k_jump, ok_jump F_jump T, b_jump⟩
    | 10, _ => ⟨_, k_base, ok_base F_base T, b_base⟩
    | 11, _ => ⟨_, k_trap, ok_trap F_trap T, b_trap⟩
    | 12, _ => ⟨_, k_clock, ok_clock F_clock T, b_clock⟩
    | 13, _ => ⟨_, k_out, ok_out F_out T c_Disk_ask, b_out⟩
    | 14, _ => ⟨_, k_in, ok_in F_in T c_Disk_asks c_Disk_asks_done, b_in⟩
    | n + 15, h => absurd h (by omega)
  have D_im : FunD K "image_of" "image_of" (defArgs s_image_of) (defBody s_image_of) (defScope s_image_of) [.non] [("blocks", .non)] f_image_of _ := ⟨⟨_, _, _, _, _, _, _, _, _, _, rfl, l_image_of, c_image_of, .inr ⟨by simp, DV_image_of, _, [uD_image_of_0], _, rfl, lD_image_of, rfl, .cons uNON0 .nil⟩, .inr ⟨D_image_of, rfl, fun q hq => by
    rcases List.mem_cons.mp hq with e | hq
    · subst e; exact ⟨_, kd_image_of_blocks, uNON1⟩
    · cases hq⟩⟩, k_image_of⟩
  have c_image_of := img_cal D_im (mo a_image_of) k_image_of (ok_imageof (P := l.prog) (w := w) (base := base) D_im T c_filled c_is_told c_NoImage_init)
  have q_Core : CalEq l.prog w K mg base 7 C_Core (Alike _) := ⟨⟨f_Core_eq, _, _, ok_eq F_Core_eq T io c_Core_stands, a_Core_eq, fn_Core_eq, b_Core_eq⟩, ne_CO, ob_CO⟩
  have c_Core_act : CalM l.prog w K mg base (L2.CX l.prog w) 10 C_Core "_act" (spActm _) := ⟨_, _, _, ⟨a_Core_act, fn_Core_act, k_Core_act⟩, ok_act F_Core_act T c_way c_parts_of c_PlainStore_read_cell c_Core_wait acts, b_Core_act⟩
  have c_Core_step : CalM l.prog w K mg base (L2.CX l.prog w) 11 C_Core "step" (spStep2 _) := ⟨_, _, _, ⟨a_Core_step, fn_Core_step, k_Core_step⟩, ok_step2 F_Core_step T c_Disk_serve c_Core_act c_Core_trap_by c_Ended_init, b_Core_step⟩
  have c_PlainMachine_step : CalM l.prog w K mg base (L2.CX l.prog w) 12 C_PlainMachine "step" (spMStep2 _) := ⟨_, _, _, ⟨a_PlainMachine_step, fn_PlainMachine_step, k_PlainMachine_step⟩, ok_mstep F_PlainMachine_step T c_Core_step, b_PlainMachine_step⟩
  have c_run_by := CalX.mk' (P := l.prog) (w := w) (base := base) (mo a_run_by) k_run_by (ok_runby F_run_by T c_arrived c_PlainMachine_time c_PlainMachine_state c_PlainMachine_step) b_run_by
  have c_machine_of := CalX.mk' (P := l.prog) (w := w) (base := base) (mo a_machine_of) k_machine_of (ok_machineof F_machine_of T pk c_image_of c_PlainMachine_init c_Core_twin c_PlainStore_init) b_machine_of
  have c_PlainMachine_twin : CalM l.prog w K mg base (L2.CX l.prog w) 12 C_PlainMachine "twin" (spMTwin _) := ⟨_, _, _, ⟨a_PlainMachine_twin, fn_PlainMachine_twin, k_PlainMachine_twin⟩, ok_mtwin F_PlainMachine_twin T pk c_machine_of c_PlainStore_rooms, b_PlainMachine_twin⟩
  have c_goes_on_L := CalD.mk' (P := l.prog) (w := w) (base := base) (mo a_goes_on_L) k_goes_on_L (ok_goes F_goes_on_L T q_Core c_PlainMachine_log c_PlainMachine_trail c_PlainMachine_time c_PlainMachine_state c_PlainMachine_arrive c_PlainMachine_step c_PlainMachine_core) b_goes_on_L
  have D_al : FunD K "run_alone" "run_alone" (defArgs s_run_alone) (defBody s_run_alone) (defScope s_run_alone) [.ref aLOG0] [("end", .int 100)] f_run_alone _ := ⟨⟨_, _, _, _, _, _, _, _, _, _, rfl, l_run_alone, c_run_alone, .inr ⟨by simp, DV_run_alone, _, [uD_run_alone_0], _, rfl, lD_run_alone, rfl, .cons uLOG .nil⟩, .inr ⟨D_run_alone, rfl, fun q hq => by
    rcases List.mem_cons.mp hq with e | hq
    · subst e; exact ⟨_, kd_run_alone_end, uEND⟩
    · cases hq⟩⟩, k_run_alone⟩
  have o_al := ok_runalone (P := l.prog) (w := w) (base := base) D_al T c_PlainMachine_init c_is_log c_check_end c_run_by c_NoLog_init
  have k_run_alone_2_end := alone_kw D_al (mo a_run_alone) k_run_alone o_al
  have c_run_alone := alone_cal D_al (mo a_run_alone) k_run_alone o_al
  exact ok_law F_law T q_Core c_cell_L c_box_L c_take_L c_image_L c_goes_on_L k_run_alone_2_end c_PlainMachine_init c_PlainMachine_twin c_PlainMachine_log c_PlainMachine_trail c_PlainMachine_time c_PlainMachine_state c_PlainMachine_arrive c_PlainMachine_step c_PlainMachine_core c_PlainMachine_store c_PlainStore_rooms
end K15
open PySem PySem.W PyProof.Rows
set_option maxHeartbeats 0 in
theorem PySem.Challenge.cw_guestsalone_k15_whole_runs_cut_in_two_holds : PySem.Challenge.rw_guestsalone_k15_whole_runs_cut_in_two.Holds := by
  w_on; o_law; k_head; (case hw => w_witness2)
  k_fill
  refine Bk.walk_ofG (l := PySem.Challenge.rw_guestsalone_k15_whole_runs_cut_in_two) (n := 63) (k := 15) (x := "_law_script") (sp := fun w => K15.spLaw _) rfl (by decide) rfl ⟨rfl, by decide, by decide⟩ (fun w h Y => PySem.W.kIn_of Y) ?F (fun _ _ a ns hl _ hS => ⟨a, ns, rfl, hS, hl, fun _ => rfl⟩)
  case F =>
    intro w mg fa h KX G hmg
    refine' K15.all_mk KX G hmg ?aC_GuestError ?aC_Barred ?aC_NoNumber ?aC_NoWord ?aC_Nought ?aC_NoImage ?aC_NoKind ?aC_NoLog ?aC_Ended ?aC_Disk ?aC_Core ?aC_PlainStore ?aC_PlainMachine ?a_GuestError_init ?l_GuestError_init ?c_GuestError_init ?k_GuestError_init ?a_Barred_init ?l_Barred_init ?c_Barred_init ?k_Barred_init ?a_NoNumber_init ?l_NoNumber_init ?c_NoNumber_init ?k_NoNumber_init ?a_NoWord_init ?l_NoWord_init ?c_NoWord_init ?k_NoWord_init ?a_Nought_init ?l_Nought_init ?c_Nought_init ?k_Nought_init ?a_NoImage_init ?l_NoImage_init ?c_NoImage_init ?k_NoImage_init ?a_NoKind_init ?l_NoKind_init ?c_NoKind_init ?k_NoKind_init ?a_NoLog_init ?l_NoLog_init ?c_NoLog_init ?k_NoLog_init ?a_Ended_init ?l_Ended_init ?c_Ended_init ?k_Ended_init ?a_is_count ?l_is_count ?c_is_count ?k_is_count ?a_is_whole ?l_is_whole ?c_is_whole ?k_is_whole ?a_is_word ?l_is_word ?c_is_word ?k_is_word ?a_check_number ?l_check_number ?c_check_number ?k_check_number ?a_check_word ?l_check_word ?c_check_word ?k_check_word ?a_parts_of ?l_parts_of ?c_parts_of ?k_parts_of ?a_entry_parts ?l_entry_parts ?c_entry_parts ?k_entry_parts ?a_sum_of ?l_sum_of ?c_sum_of ?k_sum_of ?a_difference ?l_difference ?c_difference ?k_difference ?a_divided ?l_divided ?c_divided ?k_divided ?a_check_words ?l_check_words ?c_check_words ?k_check_words ?a_Disk_init ?l_Disk_init ?c_Disk_init ?k_Disk_init ?a_Disk_ask ?l_Disk_ask ?c_Disk_ask ?k_Disk_ask ?a_Disk_serve ?l_Disk_serve ?c_Disk_serve ?k_Disk_serve ?a_Disk_do ?l_Disk_do ?c_Disk_do ?k_Disk_do ?a_Disk_blocks ?l_Disk_blocks ?c_Disk_blocks ?k_Disk_blocks ?a_Disk_asks ?l_Disk_asks ?c_Disk_asks ?k_Disk_asks ?a_Disk_asks_made ?l_Disk_asks_made ?c_Disk_asks_made ?k_Disk_asks_made ?a_Disk_asks_done ?l_Disk_asks_done ?c_Disk_asks_done ?k_Disk_asks_done ?a_disk_of ?l_disk_of ?c_disk_of ?k_disk_of ?a_is_eight ?l_is_eight ?c_is_eight ?k_is_eight ?a_is_image ?l_is_image ?c_is_image ?k_is_image ?a_image_of ?l_image_of ?c_image_of ?lD_image_of ?k_image_of ?kd_image_of_blocks ?a_is_row ?l_is_row ?c_is_row ?k_is_row ?a_is_told ?l_is_told ?c_is_told ?k_is_told ?a_filled ?l_filled ?c_filled ?k_filled ?a_is_kind ?l_is_kind ?c_is_kind ?k_is_kind ?a_may_arrive ?l_may_arrive ?c_may_arrive ?k_may_arrive ?a_way ?l_way ?c_way ?k_way ?a_loaded ?l_loaded ?c_loaded ?k_loaded ?a_saved ?l_saved ?c_saved ?k_saved ?a_halt ?l_halt ?c_halt ?k_halt ?a_set ?l_set ?c_set ?k_set ?a_load ?l_load ?c_load ?k_load ?a_save ?l_save ?c_save ?k_save ?a_from ?l_from ?c_from ?k_from ?a_into ?l_into ?c_into ?k_into ?a_add ?l_add ?c_add ?k_add ?a_sub ?l_sub ?c_sub ?k_sub ?a_part ?l_part ?c_part ?k_part ?a_jump ?l_jump ?c_jump ?k_jump ?a_base ?l_base ?c_base ?k_base ?a_trap ?l_trap ?c_trap ?k_trap ?a_clock ?l_clock ?c_clock ?k_clock ?a_out ?l_out ?c_out ?k_out ?a_in ?l_in ?c_in ?k_in ?a_Core_init ?l_Core_init ?c_Core_init ?k_Core_init ?a_Core_step ?l_Core_step ?c_Core_step ?k_Core_step ?a_Core_act ?l_Core_act ?c_Core_act ?k_Core_act ?a_Core_wait ?l_Core_wait ?c_Core_wait ?k_Core_wait ?a_Core_trap_by ?l_Core_trap_by ?c_Core_trap_by ?k_Core_trap_by ?a_Core_arrive ?l_Core_arrive ?c_Core_arrive ?k_Core_arrive ?a_Core_registers ?l_Core_registers ?c_Core_registers ?k_Core_registers ?a_Core_counter ?l_Core_counter ?c_Core_counter ?k_Core_counter ?a_Core_table ?l_Core_table ?c_Core_table ?k_Core_table ?a_Core_time ?l_Core_time ?c_Core_time ?k_Core_time ?a_Core_handler ?l_Core_handler ?c_Core_handler ?k_Core_handler ?a_Core_cause ?l_Core_cause ?c_Core_cause ?k_Core_cause ?a_Core_state ?l_Core_state ?c_Core_state ?k_Core_state ?a_Core_queue ?l_Core_queue ?c_Core_queue ?k_Core_queue ?a_Core_told ?l_Core_told ?c_Core_told ?k_Core_told ?a_Core_sent ?l_Core_sent ?c_Core_sent ?k_Core_sent ?a_Core_blocks ?l_Core_blocks ?c_Core_blocks ?k_Core_blocks ?a_Core_asks ?l_Core_asks ?c_Core_asks ?k_Core_asks ?a_Core_due ?l_Core_due ?c_Core_due ?k_Core_due ?a_Core_asks_made ?l_Core_asks_made ?c_Core_asks_made ?k_Core_asks_made ?a_Core_asks_done ?l_Core_asks_done ?c_Core_asks_done ?k_Core_asks_done ?a_Core_stands ?l_Core_stands ?c_Core_stands ?k_Core_stands ?a_Core_twin ?l_Core_twin ?c_Core_twin ?k_Core_twin ?a_Core_eq ?l_Core_eq ?c_Core_eq ?k_Core_eq ?a_core_of ?l_core_of ?c_core_of ?k_core_of ?a_PlainStore_init ?l_PlainStore_init ?c_PlainStore_init ?k_PlainStore_init ?a_PlainStore_read_cell ?l_PlainStore_read_cell ?c_PlainStore_read_cell ?k_PlainStore_read_cell ?a_PlainStore_write_cell ?l_PlainStore_write_cell ?c_PlainStore_write_cell ?k_PlainStore_write_cell ?a_PlainStore_rooms ?l_PlainStore_rooms ?c_PlainStore_rooms ?k_PlainStore_rooms ?a_PlainStore_twin ?l_PlainStore_twin ?c_PlainStore_twin ?k_PlainStore_twin ?a_PlainMachine_init ?l_PlainMachine_init ?c_PlainMachine_init ?k_PlainMachine_init ?a_PlainMachine_step ?l_PlainMachine_step ?c_PlainMachine_step ?k_PlainMachine_step ?a_PlainMachine_arrive ?l_PlainMachine_arrive ?c_PlainMachine_arrive ?k_PlainMachine_arrive ?a_PlainMachine_core ?l_PlainMachine_core ?c_PlainMachine_core ?k_PlainMachine_core ?a_PlainMachine_store ?l_PlainMachine_store ?c_PlainMachine_store ?k_PlainMachine_store ?a_PlainMachine_time ?l_PlainMachine_time ?c_PlainMachine_time ?k_PlainMachine_time ?a_PlainMachine_state ?l_PlainMachine_state ?c_PlainMachine_state ?k_PlainMachine_state ?a_PlainMachine_log ?l_PlainMachine_log ?c_PlainMachine_log ?k_PlainMachine_log ?a_PlainMachine_trail ?l_PlainMachine_trail ?c_PlainMachine_trail ?k_PlainMachine_trail ?a_PlainMachine_twin ?l_PlainMachine_twin ?c_PlainMachine_twin ?k_PlainMachine_twin ?a_is_log ?l_is_log ?c_is_log ?k_is_log ?a_run_alone ?l_run_alone ?c_run_alone ?lD_run_alone ?k_run_alone ?kd_run_alone_end ?a_machine_of ?l_machine_of ?c_machine_of ?k_machine_of ?a_check_end ?l_check_end ?c_check_end ?k_check_end ?a_run_by ?l_run_by ?c_run_by ?k_run_by ?a_arrived ?l_arrived ?c_arrived ?k_arrived ?a_is_arrival ?l_is_arrival ?c_is_arrival ?k_is_arrival ?a_cell_L ?l_cell_L ?c_cell_L ?k_cell_L ?a_box_L ?l_box_L ?c_box_L ?k_box_L ?a_take_L ?l_take_L ?c_take_L ?k_take_L ?a_order_L ?l_order_L ?c_order_L ?k_order_L ?a_image_L ?l_image_L ?c_image_L ?k_image_L ?a_goes_on_L ?l_goes_on_L ?c_goes_on_L ?k_goes_on_L ?a_law ?l_law ?c_law ?k_law ?cC_MOST ?cC_EIGHT ?cC_MOST_ASKS ?cC_LATENCY ?cC_PLACES ?cC_WORDS ?cC_NOTHING ?cC_LEADS_NOWHERE ?cC_MAY_NOT_WRITE ?cC_BY_NOUGHT ?cC_CALLED ?cC_LONGEST_LOG ?cC_LAST_END ?cOPS ?cKND ?cACT ?lOPS ?lACT ?lKND ?rd_GuestError ?ga_GuestError ?at_GuestError ?v_ValueError ?rd_Barred ?ga_Barred ?at_Barred ?v_LookupError ?xL_M ?sa_M ?ex_M ?ty_M ?kp_M ?tf_M ?nf_M ?hg_M ?hk_M ?hd_M ?ha_M ?hm_M ?xL_W ?sa_W ?ex_W ?ty_W ?kp_W ?tf_W ?nf_W ?hg_W ?hk_W ?hd_W ?ha_W ?hm_W ?xL_U ?sa_U ?ex_U ?ty_U ?kp_U ?tf_U ?nf_U ?hg_U ?hk_U ?hd_U ?ha_U ?hm_U ?xL_I ?sa_I ?ex_I ?ty_I ?kp_I ?tf_I ?nf_I ?hg_I ?hk_I ?hd_I ?ha_I ?hm_I ?xL_E ?sa_E ?ex_E ?ty_E ?kp_E ?tf_E ?nf_E ?hg_E ?hk_E ?hd_E ?ha_E ?hm_E ?xL_K ?sa_K ?ex_K ?ty_K ?kp_K ?tf_K ?nf_K ?hg_K ?hk_K ?hd_K ?ha_K ?hm_K ?xL_L ?sa_L ?ex_L ?ty_L ?kp_L ?tf_L ?nf_L ?hg_L ?hk_L ?hd_L ?ha_L ?hm_L ?s_M_M ?s_W_M ?s_W_W ?s_U_M ?s_U_W ?s_U_U ?s_I_M ?s_I_W ?s_I_U ?s_I_I ?s_E_M ?s_E_W ?s_E_U ?s_E_I ?s_E_E ?s_K_M ?s_K_W ?s_K_U ?s_K_I ?s_K_E ?s_K_K ?s_L_M ?s_L_W ?s_L_U ?s_L_I ?s_L_E ?s_L_K ?s_L_L ?hn ?htk ?pg_Core ?hdd_Core ?po_Core ?saa_Core ?mk_Core ?kc_Core ?na_Core_registers ?na_Core_counter ?na_Core_table ?na_Core_time ?na_Core_handler ?na_Core_back_to ?na_Core_cause ?na_Core_trapped ?na_Core_state ?na_Core_queues ?na_Core_told ?na_Core_sent ?na_Core_disk ?fn_Core_init ?fn_Core_step ?fn_Core_act ?fn_Core_wait ?fn_Core_trap_by ?fn_Core_registers ?fn_Core_counter ?fn_Core_table ?fn_Core_time ?fn_Core_handler ?fn_Core_cause ?fn_Core_state ?fn_Core_arrive ?fn_Core_queue ?fn_Core_told ?fn_Core_sent ?fn_Core_blocks ?fn_Core_asks ?fn_Core_asks_made ?fn_Core_asks_done ?fn_Core_due ?fn_Core_stands ?fn_Core_twin ?fn_Core_eq ?pg_Disk ?hdd_Disk ?po_Disk ?saa_Disk ?mk_Disk ?kc_Disk ?na_Disk_blocks ?na_Disk_asks ?na_Disk_made ?na_Disk_done ?fn_Disk_init ?fn_Disk_ask ?fn_Disk_serve ?fn_Disk_do ?fn_Disk_asks ?fn_Disk_asks_done ?fn_Disk_blocks ?fn_Disk_asks_made ?pg_PlainStore ?hdd_PlainStore ?po_PlainStore ?saa_PlainStore ?mk_PlainStore ?kc_PlainStore ?na_PlainStore_rooms ?fn_PlainStore_init ?fn_PlainStore_read_cell ?fn_PlainStore_write_cell ?fn_PlainStore_rooms ?fn_PlainStore_twin ?ha_CO ?hm_CO ?ne_CO ?ob_CO ?pg_PlainMachine ?hdd_PlainMachine ?po_PlainMachine ?saa_PlainMachine ?mk_PlainMachine ?kc_PlainMachine ?na_PlainMachine_core ?na_PlainMachine_store ?na_PlainMachine_log ?na_PlainMachine_trail ?fn_PlainMachine_init ?fn_PlainMachine_step ?fn_PlainMachine_arrive ?fn_PlainMachine_core ?fn_PlainMachine_store ?fn_PlainMachine_time ?fn_PlainMachine_state ?fn_PlainMachine_log ?fn_PlainMachine_trail ?fn_PlainMachine_twin ?sysKND ?uNON0 ?uNON1 ?uLOG ?uEND ?lLOG0 ?z_isinstance ?z_int ?z_bool ?z_str ?z_list ?z_tuple ?z_len ?z_max ?z_min ?z_range ?z_all ?z_enumerate ?z_repr ?z_sorted ?z_ValueError ?z_LookupError
    (case aC_GuestError => k_is)
    (case aC_Barred => k_is)
    (case aC_NoNumber => k_is)
    (case aC_NoWord => k_is)
    (case aC_Nought => k_is)
    (case aC_NoImage => k_is)
    (case aC_NoKind => k_is)
    (case aC_NoLog => k_is)
    (case aC_Ended => k_is)
    (case aC_Disk => k_is)
    (case aC_Core => k_is)
    (case aC_PlainStore => k_is)
    (case aC_PlainMachine => k_is)
    (case a_GuestError_init => k_is)
    (case l_GuestError_init => k_is)
    (case c_GuestError_init => k_is)
    (case k_GuestError_init => k_is)
    (case a_Barred_init => k_is)
    (case l_Barred_init => k_is)
    (case c_Barred_init => k_is)
    (case k_Barred_init => k_is)
    (case a_NoNumber_init => k_is)
    (case l_NoNumber_init => k_is)
    (case c_NoNumber_init => k_is)
    (case k_NoNumber_init => k_is)
    (case a_NoWord_init => k_is)
    (case l_NoWord_init => k_is)
    (case c_NoWord_init => k_is)
    (case k_NoWord_init => k_is)
    (case a_Nought_init => k_is)
    (case l_Nought_init => k_is)
    (case c_Nought_init => k_is)
    (case k_Nought_init => k_is)
    (case a_NoImage_init => k_is)
    (case l_NoImage_init => k_is)
    (case c_NoImage_init => k_is)
    (case k_NoImage_init => k_is)
    (case a_NoKind_init => k_is)
    (case l_NoKind_init => k_is)
    (case c_NoKind_init => k_is)
    (case k_NoKind_init => k_is)
    (case a_NoLog_init => k_is)
    (case l_NoLog_init => k_is)
    (case c_NoLog_init => k_is)
    (case k_NoLog_init => k_is)
    (case a_Ended_init => k_is)
    (case l_Ended_init => k_is)
    (case c_Ended_init => k_is)
    (case k_Ended_init => k_is)
    (case a_is_count => k_is)
    (case l_is_count => k_is)
    (case c_is_count => k_is)
    (case k_is_count => k_is)
    (case a_is_whole => k_is)
    (case l_is_whole => k_is)
    (case c_is_whole => k_is)
    (case k_is_whole => k_is)
    (case a_is_word => k_is)
    (case l_is_word => k_is)
    (case c_is_word => k_is)
    (case k_is_word => k_is)
    (case a_check_number => k_is)
    (case l_check_number => k_is)
    (case c_check_number => k_is)
    (case k_check_number => k_is)
    (case a_check_word => k_is)
    (case l_check_word => k_is)
    (case c_check_word => k_is)
    (case k_check_word => k_is)
    (case a_parts_of => k_is)
    (case l_parts_of => k_is)
    (case c_parts_of => k_is)
    (case k_parts_of => k_is)
    (case a_entry_parts => k_is)
    (case l_entry_parts => k_is)
    (case c_entry_parts => k_is)
    (case k_entry_parts => k_is)
    (case a_sum_of => k_is)
    (case l_sum_of => k_is)
    (case c_sum_of => k_is)
    (case k_sum_of => k_is)
    (case a_difference => k_is)
    (case l_difference => k_is)
    (case c_difference => k_is)
    (case k_difference => k_is)
    (case a_divided => k_is)
    (case l_divided => k_is)
    (case c_divided => k_is)
    (case k_divided => k_is)
    (case a_check_words => k_is)
    (case l_check_words => k_is)
    (case c_check_words => k_is)
    (case k_check_words => k_is)
    (case a_Disk_init => k_is)
    (case l_Disk_init => k_is)
    (case c_Disk_init => k_is)
    (case k_Disk_init => k_is)
    (case a_Disk_ask => k_is)
    (case l_Disk_ask => k_is)
    (case c_Disk_ask => k_is)
    (case k_Disk_ask => k_is)
    (case a_Disk_serve => k_is)
    (case l_Disk_serve => k_is)
    (case c_Disk_serve => k_is)
    (case k_Disk_serve => k_is)
    (case a_Disk_do => k_is)
    (case l_Disk_do => k_is)
    (case c_Disk_do => k_is)
    (case k_Disk_do => k_is)
    (case a_Disk_blocks => k_is)
    (case l_Disk_blocks => k_is)
    (case c_Disk_blocks => k_is)
    (case k_Disk_blocks => k_is)
    (case a_Disk_asks => k_is)
    (case l_Disk_asks => k_is)
    (case c_Disk_asks => k_is)
    (case k_Disk_asks => k_is)
    (case a_Disk_asks_made => k_is)
    (case l_Disk_asks_made => k_is)
    (case c_Disk_asks_made => k_is)
    (case k_Disk_asks_made => k_is)
    (case a_Disk_asks_done => k_is)
    (case l_Disk_asks_done => k_is)
    (case c_Disk_asks_done => k_is)
    (case k_Disk_asks_done => k_is)
    (case a_disk_of => k_is)
    (case l_disk_of => k_is)
    (case c_disk_of => k_is)
    (case k_disk_of => k_is)
    (case a_is_eight => k_is)
    (case l_is_eight => k_is)
    (case c_is_eight => k_is)
    (case k_is_eight => k_is)
    (case a_is_image => k_is)
    (case l_is_image => k_is)
    (case c_is_image => k_is)
    (case k_is_image => k_is)
    (case a_image_of => k_is)
    (case l_image_of => k_is)
    (case c_image_of => k_is)
    (case lD_image_of => k_is)
    (case k_image_of => k_is)
    (case kd_image_of_blocks => k_is)
    (case a_is_row => k_is)
    (case l_is_row => k_is)
    (case c_is_row => k_is)
    (case k_is_row => k_is)
    (case a_is_told => k_is)
    (case l_is_told => k_is)
    (case c_is_told => k_is)
    (case k_is_told => k_is)
    (case a_filled => k_is)
    (case l_filled => k_is)
    (case c_filled => k_is)
    (case k_filled => k_is)
    (case a_is_kind => k_is)
    (case l_is_kind => k_is)
    (case c_is_kind => k_is)
    (case k_is_kind => k_is)
    (case a_may_arrive => k_is)
    (case l_may_arrive => k_is)
    (case c_may_arrive => k_is)
    (case k_may_arrive => k_is)
    (case a_way => k_is)
    (case l_way => k_is)
    (case c_way => k_is)
    (case k_way => k_is)
    (case a_loaded => k_is)
    (case l_loaded => k_is)
    (case c_loaded => k_is)
    (case k_loaded => k_is)
    (case a_saved => k_is)
    (case l_saved => k_is)
    (case c_saved => k_is)
    (case k_saved => k_is)
    (case a_halt => k_is)
    (case l_halt => k_is)
    (case c_halt => k_is)
    (case k_halt => k_is)
    (case a_set => k_is)
    (case l_set => k_is)
    (case c_set => k_is)
    (case k_set => k_is)
    (case a_load => k_is)
    (case l_load => k_is)
    (case c_load => k_is)
    (case k_load => k_is)
    (case a_save => k_is)
    (case l_save => k_is)
    (case c_save => k_is)
    (case k_save => k_is)
    (case a_from => k_is)
    (case l_from => k_is)
    (case c_from => k_is)
    (case k_from => k_is)
    (case a_into => k_is)
    (case l_into => k_is)
    (case c_into => k_is)
    (case k_into => k_is)
    (case a_add => k_is)
    (case l_add => k_is)
    (case c_add => k_is)
    (case k_add => k_is)
    (case a_sub => k_is)
    (case l_sub => k_is)
    (case c_sub => k_is)
    (case k_sub => k_is)
    (case a_part => k_is)
    (case l_part => k_is)
    (case c_part => k_is)
    (case k_part => k_is)
    (case a_jump => k_is)
    (case l_jump => k_is)
    (case c_jump => k_is)
    (case k_jump => k_is)
    (case a_base => k_is)
    (case l_base => k_is)
    (case c_base => k_is)
    (case k_base => k_is)
    (case a_trap => k_is)
    (case l_trap => k_is)
    (case c_trap => k_is)
    (case k_trap => k_is)
    (case a_clock => k_is)
    (case l_clock => k_is)
    (case c_clock => k_is)
    (case k_clock => k_is)
    (case a_out => k_is)
    (case l_out => k_is)
    (case c_out => k_is)
    (case k_out => k_is)
    (case a_in => k_is)
    (case l_in => k_is)
    (case c_in => k_is)
    (case k_in => k_is)
    (case a_Core_init => k_is)
    (case l_Core_init => k_is)
    (case c_Core_init => k_is)
    (case k_Core_init => k_is)
    (case a_Core_step => k_is)
    (case l_Core_step => k_is)
    (case c_Core_step => k_is)
    (case k_Core_step => k_is)
    (case a_Core_act => k_is)
    (case l_Core_act => k_is)
    (case c_Core_act => k_is)
    (case k_Core_act => k_is)
    (case a_Core_wait => k_is)
    (case l_Core_wait => k_is)
    (case c_Core_wait => k_is)
    (case k_Core_wait => k_is)
    (case a_Core_trap_by => k_is)
    (case l_Core_trap_by => k_is)
    (case c_Core_trap_by => k_is)
    (case k_Core_trap_by => k_is)
    (case a_Core_arrive => k_is)
    (case l_Core_arrive => k_is)
    (case c_Core_arrive => k_is)
    (case k_Core_arrive => k_is)
    (case a_Core_registers => k_is)
    (case l_Core_registers => k_is)
    (case c_Core_registers => k_is)
    (case k_Core_registers => k_is)
    (case a_Core_counter => k_is)
    (case l_Core_counter => k_is)
    (case c_Core_counter => k_is)
    (case k_Core_counter => k_is)
    (case a_Core_table => k_is)
    (case l_Core_table => k_is)
    (case c_Core_table => k_is)
    (case k_Core_table => k_is)
    (case a_Core_time => k_is)
    (case l_Core_time => k_is)
    (case c_Core_time => k_is)
    (case k_Core_time => k_is)
    (case a_Core_handler => k_is)
    (case l_Core_handler => k_is)
    (case c_Core_handler => k_is)
    (case k_Core_handler => k_is)
    (case a_Core_cause => k_is)
    (case l_Core_cause => k_is)
    (case c_Core_cause => k_is)
    (case k_Core_cause => k_is)
    (case a_Core_state => k_is)
    (case l_Core_state => k_is)
    (case c_Core_state => k_is)
    (case k_Core_state => k_is)
    (case a_Core_queue => k_is)
    (case l_Core_queue => k_is)
    (case c_Core_queue => k_is)
    (case k_Core_queue => k_is)
    (case a_Core_told => k_is)
    (case l_Core_told => k_is)
    (case c_Core_told => k_is)
    (case k_Core_told => k_is)
    (case a_Core_sent => k_is)
    (case l_Core_sent => k_is)
    (case c_Core_sent => k_is)
    (case k_Core_sent => k_is)
    (case a_Core_blocks => k_is)
    (case l_Core_blocks => k_is)
    (case c_Core_blocks => k_is)
    (case k_Core_blocks => k_is)
    (case a_Core_asks => k_is)
    (case l_Core_asks => k_is)
    (case c_Core_asks => k_is)
    (case k_Core_asks => k_is)
    (case a_Core_due => k_is)
    (case l_Core_due => k_is)
    (case c_Core_due => k_is)
    (case k_Core_due => k_is)
    (case a_Core_asks_made => k_is)
    (case l_Core_asks_made => k_is)
    (case c_Core_asks_made => k_is)
    (case k_Core_asks_made => k_is)
    (case a_Core_asks_done => k_is)
    (case l_Core_asks_done => k_is)
    (case c_Core_asks_done => k_is)
    (case k_Core_asks_done => k_is)
    (case a_Core_stands => k_is)
    (case l_Core_stands => k_is)
    (case c_Core_stands => k_is)
    (case k_Core_stands => k_is)
    (case a_Core_twin => k_is)
    (case l_Core_twin => k_is)
    (case c_Core_twin => k_is)
    (case k_Core_twin => k_is)
    (case a_Core_eq => k_is)
    (case l_Core_eq => k_is)
    (case c_Core_eq => k_is)
    (case k_Core_eq => k_is)
    (case a_core_of => k_is)
    (case l_core_of => k_is)
    (case c_core_of => k_is)
    (case k_core_of => k_is)
    (case a_PlainStore_init => k_is)
    (case l_PlainStore_init => k_is)
    (case c_PlainStore_init => k_is)
    (case k_PlainStore_init => k_is)
    (case a_PlainStore_read_cell => k_is)
    (case l_PlainStore_read_cell => k_is)
    (case c_PlainStore_read_cell => k_is)
    (case k_PlainStore_read_cell => k_is)
    (case a_PlainStore_write_cell => k_is)
    (case l_PlainStore_write_cell => k_is)
    (case c_PlainStore_write_cell => k_is)
    (case k_PlainStore_write_cell => k_is)
    (case a_PlainStore_rooms => k_is)
    (case l_PlainStore_rooms => k_is)
    (case c_PlainStore_rooms => k_is)
    (case k_PlainStore_rooms => k_is)
    (case a_PlainStore_twin => k_is)
    (case l_PlainStore_twin => k_is)
    (case c_PlainStore_twin => k_is)
    (case k_PlainStore_twin => k_is)
    (case a_PlainMachine_init => k_is)
    (case l_PlainMachine_init => k_is)
    (case c_PlainMachine_init => k_is)
    (case k_PlainMachine_init => k_is)
    (case a_PlainMachine_step => k_is)
    (case l_PlainMachine_step => k_is)
    (case c_PlainMachine_step => k_is)
    (case k_PlainMachine_step => k_is)
    (case a_PlainMachine_arrive => k_is)
    (case l_PlainMachine_arrive => k_is)
    (case c_PlainMachine_arrive => k_is)
    (case k_PlainMachine_arrive => k_is)
    (case a_PlainMachine_core => k_is)
    (case l_PlainMachine_core => k_is)
    (case c_PlainMachine_core => k_is)
    (case k_PlainMachine_core => k_is)
    (case a_PlainMachine_store => k_is)
    (case l_PlainMachine_store => k_is)
    (case c_PlainMachine_store => k_is)
    (case k_PlainMachine_store => k_is)
    (case a_PlainMachine_time => k_is)
    (case l_PlainMachine_time => k_is)
    (case c_PlainMachine_time => k_is)
    (case k_PlainMachine_time => k_is)
    (case a_PlainMachine_state => k_is)
    (case l_PlainMachine_state => k_is)
    (case c_PlainMachine_state => k_is)
    (case k_PlainMachine_state => k_is)
    (case a_PlainMachine_log => k_is)
    (case l_PlainMachine_log => k_is)
    (case c_PlainMachine_log => k_is)
    (case k_PlainMachine_log => k_is)
    (case a_PlainMachine_trail => k_is)
    (case l_PlainMachine_trail => k_is)
    (case c_PlainMachine_trail => k_is)
    (case k_PlainMachine_trail => k_is)
    (case a_PlainMachine_twin => k_is)
    (case l_PlainMachine_twin => k_is)
    (case c_PlainMachine_twin => k_is)
    (case k_PlainMachine_twin => k_is)
    (case a_is_log => k_is)
    (case l_is_log => k_is)
    (case c_is_log => k_is)
    (case k_is_log => k_is)
    (case a_run_alone => k_is)
    (case l_run_alone => k_is)
    (case c_run_alone => k_is)
    (case lD_run_alone => k_is)
    (case k_run_alone => k_is)
    (case kd_run_alone_end => k_is)
    (case a_machine_of => k_is)
    (case l_machine_of => k_is)
    (case c_machine_of => k_is)
    (case k_machine_of => k_is)
    (case a_check_end => k_is)
    (case l_check_end => k_is)
    (case c_check_end => k_is)
    (case k_check_end => k_is)
    (case a_run_by => k_is)
    (case l_run_by => k_is)
    (case c_run_by => k_is)
    (case k_run_by => k_is)
    (case a_arrived => k_is)
    (case l_arrived => k_is)
    (case c_arrived => k_is)
    (case k_arrived => k_is)
    (case a_is_arrival => k_is)
    (case l_is_arrival => k_is)
    (case c_is_arrival => k_is)
    (case k_is_arrival => k_is)
    (case a_cell_L => k_is)
    (case l_cell_L => k_is)
    (case c_cell_L => k_is)
    (case k_cell_L => k_is)
    (case a_box_L => k_is)
    (case l_box_L => k_is)
    (case c_box_L => k_is)
    (case k_box_L => k_is)
    (case a_take_L => k_is)
    (case l_take_L => k_is)
    (case c_take_L => k_is)
    (case k_take_L => k_is)
    (case a_order_L => k_is)
    (case l_order_L => k_is)
    (case c_order_L => k_is)
    (case k_order_L => k_is)
    (case a_image_L => k_is)
    (case l_image_L => k_is)
    (case c_image_L => k_is)
    (case k_image_L => k_is)
    (case a_goes_on_L => k_is)
    (case l_goes_on_L => k_is)
    (case c_goes_on_L => k_is)
    (case k_goes_on_L => k_is)
    (case a_law => k_is)
    (case l_law => k_is)
    (case c_law => k_is)
    (case k_law => k_is)
    (case cC_MOST => k_is)
    (case cC_EIGHT => k_is)
    (case cC_MOST_ASKS => k_is)
    (case cC_LATENCY => k_is)
    (case cC_PLACES => k_is)
    (case cC_WORDS => k_is)
    (case cC_NOTHING => k_is)
    (case cC_LEADS_NOWHERE => k_is)
    (case cC_MAY_NOT_WRITE => k_is)
    (case cC_BY_NOUGHT => k_is)
    (case cC_CALLED => k_is)
    (case cC_LONGEST_LOG => k_is)
    (case cC_LAST_END => k_is)
    (case cOPS => k_is)
    (case cKND => k_is)
    (case cACT => k_is)
    (case lOPS => k_is)
    (case lACT => k_is)
    (case lKND => k_is)
    (case rd_GuestError => k_is)
    (case ga_GuestError => k_is)
    (case at_GuestError => k_is)
    (case v_ValueError => k_is)
    (case rd_Barred => k_is)
    (case ga_Barred => k_is)
    (case at_Barred => k_is)
    (case v_LookupError => k_is)
    (case xL_M => k_is)
    (case sa_M => k_is)
    (case ex_M => k_is)
    (case ty_M => k_is)
    (case kp_M => k_is)
    (case tf_M => k_is)
    (case nf_M => k_is)
    (case hg_M => k_is)
    (case hk_M => k_is)
    (case hd_M => k_is)
    (case ha_M => k_is)
    (case hm_M => k_is)
    (case xL_W => k_is)
    (case sa_W => k_is)
    (case ex_W => k_is)
    (case ty_W => k_is)
    (case kp_W => k_is)
    (case tf_W => k_is)
    (case nf_W => k_is)
    (case hg_W => k_is)
    (case hk_W => k_is)
    (case hd_W => k_is)
    (case ha_W => k_is)
    (case hm_W => k_is)
    (case xL_U => k_is)
    (case sa_U => k_is)
    (case ex_U => k_is)
    (case ty_U => k_is)
    (case kp_U => k_is)
    (case tf_U => k_is)
    (case nf_U => k_is)
    (case hg_U => k_is)
    (case hk_U => k_is)
    (case hd_U => k_is)
    (case ha_U => k_is)
    (case hm_U => k_is)
    (case xL_I => k_is)
    (case sa_I => k_is)
    (case ex_I => k_is)
    (case ty_I => k_is)
    (case kp_I => k_is)
    (case tf_I => k_is)
    (case nf_I => k_is)
    (case hg_I => k_is)
    (case hk_I => k_is)
    (case hd_I => k_is)
    (case ha_I => k_is)
    (case hm_I => k_is)
    (case xL_E => k_is)
    (case sa_E => k_is)
    (case ex_E => k_is)
    (case ty_E => k_is)
    (case kp_E => k_is)
    (case tf_E => k_is)
    (case nf_E => k_is)
    (case hg_E => k_is)
    (case hk_E => k_is)
    (case hd_E => k_is)
    (case ha_E => k_is)
    (case hm_E => k_is)
    (case xL_K => k_is)
    (case sa_K => k_is)
    (case ex_K => k_is)
    (case ty_K => k_is)
    (case kp_K => k_is)
    (case tf_K => k_is)
    (case nf_K => k_is)
    (case hg_K => k_is)
    (case hk_K => k_is)
    (case hd_K => k_is)
    (case ha_K => k_is)
    (case hm_K => k_is)
    (case xL_L => k_is)
    (case sa_L => k_is)
    (case ex_L => k_is)
    (case ty_L => k_is)
    (case kp_L => k_is)
    (case tf_L => k_is)
    (case nf_L => k_is)
    (case hg_L => k_is)
    (case hk_L => k_is)
    (case hd_L => k_is)
    (case ha_L => k_is)
    (case hm_L => k_is)
    (case s_M_M => k_is)
    (case s_W_M => k_is)
    (case s_W_W => k_is)
    (case s_U_M => k_is)
    (case s_U_W => k_is)
    (case s_U_U => k_is)
    (case s_I_M => k_is)
    (case s_I_W => k_is)
    (case s_I_U => k_is)
    (case s_I_I => k_is)
    (case s_E_M => k_is)
    (case s_E_W => k_is)
    (case s_E_U => k_is)
    (case s_E_I => k_is)
    (case s_E_E => k_is)
    (case s_K_M => k_is)
    (case s_K_W => k_is)
    (case s_K_U => k_is)
    (case s_K_I => k_is)
    (case s_K_E => k_is)
    (case s_K_K => k_is)
    (case s_L_M => k_is)
    (case s_L_W => k_is)
    (case s_L_U => k_is)
    (case s_L_I => k_is)
    (case s_L_E => k_is)
    (case s_L_K => k_is)
    (case s_L_L => k_is)
    (case hn => k_is)
    (case htk => k_is)
    (case pg_Core => k_is)
    (case hdd_Core => k_is)
    (case po_Core => k_is)
    (case saa_Core => k_is)
    (case mk_Core => k_is)
    (case kc_Core => k_is)
    (case na_Core_registers => k_is)
    (case na_Core_counter => k_is)
    (case na_Core_table => k_is)
    (case na_Core_time => k_is)
    (case na_Core_handler => k_is)
    (case na_Core_back_to => k_is)
    (case na_Core_cause => k_is)
    (case na_Core_trapped => k_is)
    (case na_Core_state => k_is)
    (case na_Core_queues => k_is)
    (case na_Core_told => k_is)
    (case na_Core_sent => k_is)
    (case na_Core_disk => k_is)
    (case fn_Core_init => k_is)
    (case fn_Core_step => k_is)
    (case fn_Core_act => k_is)
    (case fn_Core_wait => k_is)
    (case fn_Core_trap_by => k_is)
    (case fn_Core_registers => k_is)
    (case fn_Core_counter => k_is)
    (case fn_Core_table => k_is)
    (case fn_Core_time => k_is)
    (case fn_Core_handler => k_is)
    (case fn_Core_cause => k_is)
    (case fn_Core_state => k_is)
    (case fn_Core_arrive => k_is)
    (case fn_Core_queue => k_is)
    (case fn_Core_told => k_is)
    (case fn_Core_sent => k_is)
    (case fn_Core_blocks => k_is)
    (case fn_Core_asks => k_is)
    (case fn_Core_asks_made => k_is)
    (case fn_Core_asks_done => k_is)
    (case fn_Core_due => k_is)
    (case fn_Core_stands => k_is)
    (case fn_Core_twin => k_is)
    (case fn_Core_eq => k_is)
    (case pg_Disk => k_is)
    (case hdd_Disk => k_is)
    (case po_Disk => k_is)
    (case saa_Disk => k_is)
    (case mk_Disk => k_is)
    (case kc_Disk => k_is)
    (case na_Disk_blocks => k_is)
    (case na_Disk_asks => k_is)
    (case na_Disk_made => k_is)
    (case na_Disk_done => k_is)
    (case fn_Disk_init => k_is)
    (case fn_Disk_ask => k_is)
    (case fn_Disk_serve => k_is)
    (case fn_Disk_do => k_is)
    (case fn_Disk_asks => k_is)
    (case fn_Disk_asks_done => k_is)
    (case fn_Disk_blocks => k_is)
    (case fn_Disk_asks_made => k_is)
    (case pg_PlainStore => k_is)
    (case hdd_PlainStore => k_is)
    (case po_PlainStore => k_is)
    (case saa_PlainStore => k_is)
    (case mk_PlainStore => k_is)
    (case kc_PlainStore => k_is)
    (case na_PlainStore_rooms => k_is)
    (case fn_PlainStore_init => k_is)
    (case fn_PlainStore_read_cell => k_is)
    (case fn_PlainStore_write_cell => k_is)
    (case fn_PlainStore_rooms => k_is)
    (case fn_PlainStore_twin => k_is)
    (case ha_CO => k_is)
    (case hm_CO => k_is)
    (case ne_CO => k_is)
    (case ob_CO => k_is)
    (case pg_PlainMachine => k_is)
    (case hdd_PlainMachine => k_is)
    (case po_PlainMachine => k_is)
    (case saa_PlainMachine => k_is)
    (case mk_PlainMachine => k_is)
    (case kc_PlainMachine => k_is)
    (case na_PlainMachine_core => k_is)
    (case na_PlainMachine_store => k_is)
    (case na_PlainMachine_log => k_is)
    (case na_PlainMachine_trail => k_is)
    (case fn_PlainMachine_init => k_is)
    (case fn_PlainMachine_step => k_is)
    (case fn_PlainMachine_arrive => k_is)
    (case fn_PlainMachine_core => k_is)
    (case fn_PlainMachine_store => k_is)
    (case fn_PlainMachine_time => k_is)
    (case fn_PlainMachine_state => k_is)
    (case fn_PlainMachine_log => k_is)
    (case fn_PlainMachine_trail => k_is)
    (case fn_PlainMachine_twin => k_is)
    (case sysKND => exact rfl)
    (case uNON0 => exact rfl)
    (case uNON1 => exact rfl)
    (case uLOG => exact rfl)
    (case uEND => exact ⟨_, rfl⟩)
    (case lLOG0 => k_is)
    (case z_isinstance => k_is)
    (case z_int => k_is)
    (case z_bool => k_is)
    (case z_str => k_is)
    (case z_list => k_is)
    (case z_tuple => k_is)
    (case z_len => k_is)
    (case z_max => k_is)
    (case z_min => k_is)
    (case z_range => k_is)
    (case z_all => k_is)
    (case z_enumerate => k_is)
    (case z_repr => k_is)
    (case z_sorted => k_is)
    (case z_ValueError => k_is)
    (case z_LookupError => k_is)
