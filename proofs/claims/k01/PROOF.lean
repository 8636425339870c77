import PyProof.Rows.All
import Wide.All
import OpenK.AllK
import Wide.FinOn
import HandS.Base
import HandS.Call
import HandS.Exc
import KE.KExcIs
import HandS.List
import HandS.Comp
import HandS.Ends
import HandS.ExcOwn
import HandS.ExcInit
import HandS.IsInst
import HandS.Defaults
import HandS.HeadHook2
import HandS.Words
import HandS.WordsExc
import HandS.DeepEq
import KE.KStateDown
import HandS.Head0
import HandS.Head1
import HandS.Head2
import HandS.HeadEnd
import HandS.ExcValue
import HandS.Conv
import HandS.More
import HandS.WordsList
import HandS.ExcBuiltin
import PySem.Challenge.RW_lotmarks_k01_errors_made
set_option Elab.async false
set_option linter.all false
set_option maxRecDepth 100000
set_option maxHeartbeats 4000000
namespace PySem
namespace KwNew
open HandSPX Builtin Builtin.ObjectAttr
section
variable {M : Model} {A : Around} {E : Value → Shared → Prop} {h : Heap} {g : Array GenState} {d : Drawn} {t : Nat} {os : OsState}
variable {nmC q : Str} {C N : Addr} {bss bm tl : List Value} {dct : Bool} {sns : List Str} {sbs : List Value} {abs0 : Bool} {clc : Option Bool} {dct2 : Option Addr} {k0 k1 k2 k3 k5 : Option Value} {B idN idI : String}
theorem check_new_kw (F : ExcBaseFacts B idN idI tl) (mem : ∀ X : String, bm.contains (.type X) = tl.contains (.type X)) {more : List Value} {kw : List (Str × Value)} {Q : Unit → Shared → Prop}
    (atC : h.get? C = some (excClassObj nmC q C N bss bm dct sns sbs abs0 clc dct2 k0 k1 k2 k3 k5 idN)) (go : Q () ⟨h, g, d, t, os⟩) : wpAny M A (checkBuiltinCall idN ⟨.ref C :: more, kw⟩) Q E ⟨h, g, d, t, os⟩ := by
  have inB : (Value.ref C :: bm).contains (.type B) = true := by rw [List.contains_cons, mem, F.hasB, Bool.or_true]
  have st := F.noStar
  simp only [checkBuiltinCall, F.newKind, F.newSplit, F.newRow]
  repeat (first | refine wpAny_loadPart_at atC ?_ | (refine wpAny_isSubtype_exc atC ?_; rw [inB]) | refine wpAny_staticBase_exc atC ?_ | refine wpAny_madeBy_exc atC ?_ | simp only [bne_self_eq_false, Bool.false_eq_true, if_false] | wp_step)
  exact go
end
section
variable {prog : Program} {w : World} {A : Around} {E : Value → Shared → Prop} {R : Result → Shared → Prop} {h : Heap} {g : Array GenState} {d : Drawn} {t : Nat} {os : OsState}
variable {nmC q : Str} {C N : Addr} {bss bm tl : List Value} {dct : Bool} {sns : List Str} {sbs : List Value} {abs0 : Bool} {clc : Option Bool} {dct2 : Option Addr} {k0 k1 k2 k3 k5 : Option Value} {B idN idI : String}
theorem new_kw (F : ExcBaseFacts B idN idI tl) (mem : ∀ X : String, bm.contains (.type X) = tl.contains (.type X)) {more : List Value} {kw : List (Str × Value)}
    (atC : h.get? C = some (excClassObj nmC q C N bss bm dct sns sbs abs0 clc dct2 k0 k1 k2 k3 k5 idN))
    (go : R (.ok (.ret (.ref (h.objs.size + 1)))) ⟨(h.push { cls := .type "tuple", data := .seq more.toArray }).push
      { cls := .ref C, data := .fields #[.ref h.objs.size, .none, .none, .none, .bool false, .none] }, g, d, t, os⟩) (few : more.length ≤ sizeLine) :
    codeAny (model prog w) A (.builtin idN ⟨.ref C :: more, kw⟩) R ⟨h, g, d, t, os⟩ := by
  have en := F.ends
  have inB : (Value.ref C :: bm).contains (.type B) = true := by rw [List.contains_cons, mem, F.hasB, Bool.or_true]
  have noA : (Value.ref C :: bm).contains (.type "AttributeError") = false := by rw [List.contains_cons, mem, F.noAttr]; rfl
  have noN : (Value.ref C :: bm).contains (.type "NameError") = false := by rw [List.contains_cons, mem, F.noName]; rfl
  refine codeAny_builtinAt F.entry ?_
  unfold Builtin.«BaseException.__new__»
  refine wpAt_bind ?_
  show wpAt _ _ _ (stack >>= _) _ _ _
  refine wpAt_bind (wpAt_stack fun p below => wpAt_of_wpAny ?_)
  wp_walk
  refine wpAt_of_wpAny ?_
  rw [F.owner]
  repeat (first | with_reducible refine wpAny_madeHere_exc F.canon atC ?_ | with_reducible refine wpAny_loadPart_at atC ?_ | (with_reducible refine wpAny_isSubtype_exc atC ?_; first | rw [inB] | rw [noA] | rw [noN]) | wp_step)
  show R _ _
  rw [Heap.size_push]
  exact go
theorem check_call_kw {M : Model} {more : List Value} {kw : List (Str × Value)} {Q : Unit → Shared → Prop} (atC : h.get? C = some (excClassObj nmC q C N bss bm dct sns sbs abs0 clc dct2 k0 k1 k2 k3 k5 idN))
    (go : Q () ⟨h, g, d, t, os⟩) : wpAny M A (checkBuiltinCall "type.__call__" ⟨.ref C :: more, kw⟩) Q E ⟨h, g, d, t, os⟩ := by
  have f3 := tc_sub
  have mem : (⟨h, g, d, t, os⟩ : Shared).TypeIs (.ref C) "type" := ⟨_, atC, rfl⟩
  simp only [checkBuiltinCall, tc_kind, tc_split]
  repeat (any_goals (first | assumption | with_reducible refine wpAny_loadPart_at atC ?_ | with_reducible refine wpAny_onRaise ?_ | with_reducible refine wpAny_map ?_ | wp_step))
theorem type_call_kw (F : ExcBaseFacts B idN idI tl) (mem : ∀ X : String, bm.contains (.type X) = tl.contains (.type X)) {more : List Value} {kw : List (Str × Value)} {fI : Addr} {Q : Fin → Shared → Prop}
    (atC : h.get? C = some (excClassObj nmC q C N bss bm dct sns sbs abs0 clc dct2 k0 k1 k2 k3 k5 idN))
    (iLook : W.Looks (model prog w) h (typeLookup (.ref C) "__init__") (some (.ref fI))) (bLook : ∀ self, W.Looks (model prog w) h (bindSpecial (.ref fI) self) (.ref fI, [self])) (few : more.length ≤ sizeLine)
    (go : codeAny (model prog w) A (.call (.ref fI) ⟨.ref (h.objs.size + 1) :: more, kw⟩)
      (fun r s' => match r with | .ok (.ret v) => v = .none ∧ Q (.done (.ret (.ref (h.objs.size + 1)))) s' | .ok _ => False | .error e => E e s')
      ⟨(h.push (W.kdv_tup more)).push (excO C h.objs.size), g, d, t, os⟩) :
    wpAny (model prog w) A (Builtin.«type.__call__» ⟨.ref C :: more, kw⟩) Q E ⟨h, g, d, t, os⟩ := by
  repeat (first | with_reducible refine wpAny_loadPart_at atC ?_ | with_reducible refine wpAny_madeBy_exc atC ?_ | wp_step)
  refine codeAny_call_builtin_code (Code.quiet_builtin _ F.quiet) (check_new_kw F mem atC ?_)
  refine new_kw F mem atC ?_ few
  show wpAny _ _ _ _ _ _
  have k : ∀ b o, h.get? b = some o → ((h.push (W.kdv_tup more)).push (excO C h.objs.size)).get? b = some o := fun b o e => Heap.get?_push_of_some _ (Heap.get?_push_of_some _ e)
  have atC1 := k _ _ atC
  have eAt : ((h.push (W.kdv_tup more)).push (excO C h.objs.size)).get? (h.objs.size + 1) = some (excO C h.objs.size) := by heap_get
  have inC : (Value.ref C :: bm).contains (.ref C) = true := by simp
  have j1 := iLook.keeps k
  have j2 := (bLook (.ref (h.objs.size + 1))).keeps k
  unfold isInstance
  repeat (first | with_reducible refine wpAny_loadPart_at eAt ?_ | (with_reducible refine wpAny_isSubtype_exc atC1 ?_; rw [inC]) | wp_step)
  show wpAny _ _ (typeLookup (.ref C) _) _ _ _
  refine j1.at ?_
  refine wpAny_holding (wpAny_bind (j2.at ?_))
  refine wpAny_bind (wpAny_call (codeAny_mono go fun r s' z => ?_))
  rcases r with e | (v | _ | _ | _) <;> first | exact z | exact z.elim | skip
  obtain ⟨rfl, z⟩ := z
  first
    | exact wpAny_pure (wpAny_pure z)
    | (wp_walk; exact z)
theorem call_kw (F : ExcBaseFacts B idN idI tl) (mem : ∀ X : String, bm.contains (.type X) = tl.contains (.type X)) {more : List Value} {kw : List (Str × Value)} {fI : Addr}
    (atC : h.get? C = some (excClassObj nmC q C N bss bm dct sns sbs abs0 clc dct2 k0 k1 k2 k3 k5 idN))
    (iLook : W.Looks (model prog w) h (typeLookup (.ref C) "__init__") (some (.ref fI))) (bLook : ∀ self, W.Looks (model prog w) h (bindSpecial (.ref fI) self) (.ref fI, [self])) (few : more.length ≤ sizeLine)
    (go : codeAny (model prog w) (A.under (.builtin "type.__call__" ⟨.ref C :: more, kw⟩)) (.call (.ref fI) ⟨.ref (h.objs.size + 1) :: more, kw⟩) (W.InitBack (h.objs.size + 1) R)
      ⟨(h.push (W.kdv_tup more)).push (excO C h.objs.size), g, d, t, os⟩) :
    codeAny (model prog w) A (.call (.ref C) ⟨more, kw⟩) R ⟨h, g, d, t, os⟩ := by
  have f1 := tc_lookup
  have f2 := tc_bind (.ref C)
  have isT : (⟨h, g, d, t, os⟩ : Shared).TypeIs (.ref C) "type" := ⟨_, atC, rfl⟩
  refine codeAny_of_tree ?_
  show wpAny _ _ (callAny (.ref C) _) _ _ _
  repeat (any_goals (first | assumption | with_reducible refine wpAny_loadPart_at atC ?_ | wp_step))
  refine ⟨rfl, ?_⟩
  refine codeAny_call_builtin_at (Code.quiet_builtin _ (by decide +kernel)) entry_typeCall (check_call_kw atC (type_call_kw F mem atC iLook bLook few ?_))
  refine codeAny_mono go fun r s' z => ?_
  rcases r with e | (v | _ | _ | _) <;> exact z
end
end KwNew
end PySem

set_option Elab.async false
set_option linter.all false
set_option maxRecDepth 100000
set_option maxHeartbeats 4000000
namespace L2
namespace K1
open PySem PySem.Spec PyProof.Rows

/-! ### what is asked of the class of an error -/
structure XC (K : PySem.W.Frag) (C : Addr) : Prop where
  ox : OexC K C
  ga : PySem.W.findIn K (.ref C) "__getattribute__" = some (some (.builtin "BaseException.__getattribute__"))
  gg : PySem.W.findIn K (.ref C) "__getattr__" = some none
  hd : PySem.W.hasDictIn K C = true
  ha : PySem.W.findIn K (.ref C) "__class__" = some (some (.builtin "object.__class__"))
  hn : PySem.W.specialIn K (.builtin "object.__class__") "__get__" = some (some (.builtin "getset_descriptor.__get__"))
  ht : PySem.W.takesIn K (.builtin "object.__class__") = some true
  hm : PySem.W.mroIn K C (.type "object") = some true
def oexB (K : PySem.W.Frag) (C : Addr) : Bool := match K.lookup C with
  | some ⟨.type "type", _, .cls cd, sl⟩ => (match cd.mro, sl.toList with
    | .ref C' :: bm, [_, _, _, _, some (.builtin n), _] => decide (C' = C) && (decide (n = "ValueError.__new__") && (!cd.hasDel && (cd.hasDict && PySem.HandSPX.refsVE bm)))
    | _, _ => false)
  | _ => false
theorem oexB_ok {K : PySem.W.Frag} {C : Addr} (q : oexB K C = true) : ∃ nm q N bs bm sn sub ab col dd k0 k1 k2 k3 k5, K.lookup C = some (excClassObj nm q C N bs bm true sn sub ab col dd k0 k1 k2 k3 k5 "ValueError.__new__") ∧ PySem.HandSPX.refsVE bm = true := by
  unfold oexB at q
  split at q
  · rename_i dd cd sl ho
    split at q
    · rename_i C' bm k0 k1 k2 k3 n k5 hm hs
      simp only [Bool.and_eq_true, decide_eq_true_eq, Bool.not_eq_true'] at q
      obtain ⟨rfl, rfl, hdel, hdict, ht⟩ := q
      obtain ⟨nm, bs, mro, ns, qn, hd, sn, sub, ab, col, del⟩ := cd
      dsimp only at hm hdel hdict
      subst hm hdel hdict
      have hsl : sl = #[k0, k1, k2, k3, some (.builtin "ValueError.__new__"), k5] := by
        obtain ⟨l⟩ := sl
        simp only at hs
        rw [hs]
      subst hsl
      exact ⟨nm, qn, ns, bs, bm, sn, sub, ab, col, dd, k0, k1, k2, k3, k5, ho, ht⟩
    · cases q
  · cases q
def xcB (K : PySem.W.Frag) (C : Addr) : Bool :=
  oexB K C && (He.eqO (PySem.W.findIn K (.ref C) "__setattr__") (some (some (.builtin "object.__setattr__"))) && (decide (PySem.W.subIn K (.ref C) (.type "BaseException") = some true) && (decide (PySem.W.typeIn K (.ref C) = some (.type "type")) && (PySem.W.keepIn K (.ref C) &&
  (He.eqO (PySem.W.findIn K (.ref C) "__getattribute__") (some (some (.builtin "BaseException.__getattribute__"))) && (He.eqO (PySem.W.findIn K (.ref C) "__getattr__") (some none) && (PySem.W.hasDictIn K C && (He.eqO (PySem.W.findIn K (.ref C) "__class__") (some (some (.builtin "object.__class__"))) &&
  (He.eqO (PySem.W.specialIn K (.builtin "object.__class__") "__get__") (some (some (.builtin "getset_descriptor.__get__"))) && (decide (PySem.W.takesIn K (.builtin "object.__class__") = some true) && decide (PySem.W.mroIn K C (.type "object") = some true)))))))))))
theorem xcB_ok {K : PySem.W.Frag} {C : Addr} (h : xcB K C = true) : XC K C := by
  obtain ⟨h1, h⟩ := He.ba h
  obtain ⟨h2, h⟩ := He.ba h
  obtain ⟨h3, h⟩ := He.ba h
  obtain ⟨h4, h⟩ := He.ba h
  obtain ⟨h5, h⟩ := He.ba h
  obtain ⟨h6, h⟩ := He.ba h
  obtain ⟨h7, h⟩ := He.ba h
  obtain ⟨h8, h⟩ := He.ba h
  obtain ⟨h9, h⟩ := He.ba h
  obtain ⟨h10, h⟩ := He.ba h
  obtain ⟨h11, h12⟩ := He.ba h
  exact ⟨⟨oexB_ok h1, He.eqO_ok h2, of_decide_eq_true h3, of_decide_eq_true h4, h5⟩, He.eqO_ok h6, He.eqO_ok h7, h8, He.eqO_ok h9, He.eqO_ok h10, of_decide_eq_true h11, of_decide_eq_true h12⟩
theorem cls_some {K : PySem.W.Frag} {C : Addr} (h : PySem.W.hasDictIn K C = true) : (PySem.W.clsIn K C).isSome = true := by
  obtain ⟨cd, hc, _⟩ := PySem.W.any_some h
  rw [hc] <;> rfl

/-! ### an error in the heap: of the class at C, with the fields fs -/
def ErrAt (H : Hp) (C : Addr) (fs : List (Str × V)) (a : Addr) : Prop :=
  (fs = [] ∧ H a = some (exo a C none)) ∨ ∃ d, H a = some (exo a C (some d)) ∧ H d = some (exd d fs)
theorem ErrAt.same {H H' : Hp} {C : Addr} {fs : List (Str × V)} {a : Addr} (e : ErrAt H C fs a) (s : Same H H') : ErrAt H' C fs a := by
  rcases e with ⟨e1, e2⟩ | ⟨d, e1, e2⟩
  · exact .inl ⟨e1, s _ _ e2⟩
  · exact .inr ⟨d, s _ _ e1, s _ _ e2⟩
theorem same_upd {H : Hp} {a : Addr} {o : HO} (h : H a = none) : Same H (upd H a o) := fun b u e => by
  rw [upd_ne (ne_of_none e h)]
  exact e
section
variable {X : Cx} {pins : List (Addr × Obj)} {σ : St} {H : Hp} {s : Shared} {a C : Addr} {fs : List (Str × V)}
theorem err_inst (I : Inv X pins σ H s) (e : ErrAt H C fs a) : ∃ ox od, PySem.W.InstAt s.heap a ox C od ∧ ∀ f v, fs.lookup f = some v → ∃ oD u, od = some oD ∧ PySem.W.lookIn f oD = some (some u) ∧ RelV v u := by
  rcases e with ⟨rfl, e⟩ | ⟨d, e1, e2⟩
  · obtain ⟨t1, ho⟩ := exo_at I.hok e
    exact ⟨_, none, ⟨ho, rfl, rfl, trivial⟩, fun f v h => nomatch h⟩
  · obtain ⟨t1, ho⟩ := exo_at I.hok e1
    obtain ⟨mA, hns, rel⟩ := exd_at I.hok e2
    obtain ⟨od, ho', hl⟩ := lookIn_ns hns
    refine ⟨_, some od, ⟨ho, rfl, rfl, ho'⟩, fun f v h => ?_⟩
    obtain ⟨u, hu, ru⟩ := RelO.some_of (v := v) (o := mA f) (by rw [← h]; exact rel f)
    exact ⟨od, u, rfl, by rw [hl, hu], ru⟩
end
/-! ### isinstance of a held error -/
def rIsX (K : PySem.W.Frag) : List V → Hp → VK → Prop := fun xs H Q => ∃ (a : Addr) (c : V) (D : Addr) (fs : List (Str × V)) (u : Value) (b : Bool), xs = [.ref a, c] ∧ ClsV c u ∧ ErrAt H D fs a ∧ XC K D ∧ PySem.W.kitOne K (.ref D) u = some b ∧ Q (.bl b) H
theorem call_isX {X : Cx} : CallR X (.builtin "isinstance") (rIsX X.K) := by
  intro pins s σ H xs us Q I r h
  obtain ⟨a, c, D, fs, u, b, rfl, k, e, x, kt, q⟩ := h
  obtain ⟨u1, u2, rfl, r1, r2⟩ := vals2 r
  have e2 := k.eq r2
  subst e2
  cases (show u1 = Value.ref a from r1)
  obtain ⟨ox, od, J, _⟩ := err_inst I e
  exact PySem.W.kia_one (PySem.W.kitx_exc (cls_some x.hd) x.ga x.gg x.ox.exC x.ha x.hn x.ht x.hm) I.kIn J kt (fun z => nomatch z) fun tk => ⟨.bl b, H, I.tok tk, rfl, q⟩
/-! ### e.f of a held error -/
def tFldX (K : PySem.W.Frag) (f : Str) (te : TE) : TE := fun σ H Q => te σ H fun x H1 => ∃ (a C : Addr) (fs : List (Str × V)) (v : V), x = .ref a ∧ ErrAt H1 C fs a ∧ XC K C ∧ PySem.W.findIn K (.ref C) f = some none ∧ fs.lookup f = some v ∧ Q v H1
theorem pe_fldX {X : Cx} {e : Expr} {te : TE} {pos : Pos} {f : Str} (he : PE X e te) (hb : attributeBase e f X.env (eval e X.env) = eval e X.env := by rfl) : PE X (.Attribute e f pos) (tFldX X.K f te) := by
  refine ⟨fun pins s σ H Q I h => ?_⟩
  refine attr_of hb (thn (he.run pins s σ H _ I h) fun u s1 hh => ?_)
  obtain ⟨x, H1, I1, rx, a, C, fs, v, ex, ea, T, hno, l, q⟩ := hh
  subst ex
  obtain rfl : u = Value.ref a := rx
  obtain ⟨ox, od, J, hl⟩ := err_inst I1 ea
  obtain ⟨oD, u, rfl, hu, ru⟩ := hl f v l
  exact HandSPX.exc_get I1.kIn J T.ga T.gg T.ox.exC (PySem.W.findObj_own T.hd hno rfl hu) (handed_of ru) ⟨v, H1, I1.tok _, ru, q⟩
/-! ### making -/
/-- what the __init__ of such a class promises -/
def spI (C : Addr) (f : Str) : Sp := fun vs H Q _ => ∃ (a : Addr) (v : V), vs = [.ref a, v] ∧ H a = some (exo a C none) ∧ ∀ d, H d = none → d ≠ a → Q .non (upd (upd H d (exd d [(f, v)])) a (exo a C (some d)))
theorem made_ok {H1 : Hp} {a C d : Addr} {f : Str} {v : V} (hn : H1 a = none) (hd : upd H1 a (exo a C none) d = none) (hda : d ≠ a) :
    Same H1 (upd (upd (upd H1 a (exo a C none)) d (exd d [(f, v)])) a (exo a C (some d))) ∧ ErrAt (upd (upd (upd H1 a (exo a C none)) d (exd d [(f, v)])) a (exo a C (some d))) C [(f, v)] a := by
  rw [upd_ne hda] at hd
  refine ⟨fun b o e => ?_, .inr ⟨d, upd_same, ?_⟩⟩
  · rw [upd_ne (ne_of_none e hn), upd_ne (ne_of_none e hd), upd_ne (ne_of_none e hn)]
    exact e
  · rw [upd_ne hda, upd_same]
def tNew (C : Addr) (f : Str) (ta : TA) : TE := fun σ H Q => ta σ H fun vs H1 => ∃ v, vs = [v] ∧ ∀ H2 a, Same H1 H2 → H1 a = none → ErrAt H2 C [(f, v)] a → Q (.ref a) H2
section
variable {X : Cx} {pins : List (Addr × Obj)} {σ : St} {H1 : Hp} {C fI : Addr} {k : Nat} {fd : FuncData} {ps : List Str} {f x : Str} {v : V} {Q : VK}
theorem run_new (T : XC X.K C) (iC : PySem.W.findIn X.K (.ref C) "__init__" = some (some (.ref fI))) (tI : PySem.W.typeIn X.K (.ref fI) = some (.type "function"))
    (F1 : FnOk X.prog X.w X.K X.mg X.base CX0 k fI fd ps (spI C f)) (hr : Room (k + 1) X.A) {us : List Value} {kw : List (Str × Value)} {u : Value} (r1 : RelV v u) {s1 : Shared} (I1 : Inv X pins σ H1 s1) (hl : us.length ≤ sizeLine)
    (hb : ∀ (s : Shared) (y : Value), X.K.In s.heap → BindsTo s fd ⟨y :: us, kw⟩ (ps.zip [y, u]))
    (q1 : ∀ H2 a, Same H1 H2 → H1 a = none → ErrAt H2 C [(f, v)] a → Q (.ref a) H2) :
    wpAny (model X.prog X.w) X.A (call (.ref C) us kw) (EP X pins σ Q) X.xe s1 := by
  obtain ⟨nm, q, N, bs, bm, sn, sub, ab, col, dd, k0, k1, k2, k3, k5, hC, hbm⟩ := T.ox.cls
  obtain ⟨hp, g, dr, tk, os⟩ := s1
  have hsz : hp.objs.size ≤ hp.objs.size + 1 := Nat.le_succ _
  have hn : H1 (hp.objs.size + 1) = none := I1.hok.fresh hsz
  have kk : ∀ b o, hp.get? b = some o → ((hp.push (PySem.W.kdv_tup us)).push (PySem.HandSPX.excO C hp.objs.size)).get? b = some o := fun b o e => Heap.get?_push_of_some _ (Heap.get?_push_of_some _ e)
  have hget : ((hp.push (PySem.W.kdv_tup us)).push (PySem.HandSPX.excO C hp.objs.size)).get? (hp.objs.size + 1) = some (PySem.HandSPX.excO C hp.objs.size) := by heap_get
  have I2 : Inv X pins σ (upd H1 (hp.objs.size + 1) (exo (hp.objs.size + 1) C none)) ⟨(hp.push (PySem.W.kdv_tup us)).push (PySem.HandSPX.excO C hp.objs.size), g, dr, tk, os⟩ :=
    I1.laid (t' := tk) (a := hp.objs.size + 1) (o := exo (hp.objs.size + 1) C none) (h' := (hp.push (PySem.W.kdv_tup us)).push (PySem.HandSPX.excO C hp.objs.size)) kk hsz (exo_ok hget)
  have r2 : Vals [V.ref (hp.objs.size + 1), v] [Value.ref (hp.objs.size + 1), u] := .cons rfl (.cons r1 .nil)
  have hq : spI C f [V.ref (hp.objs.size + 1), v] (upd H1 (hp.objs.size + 1) (exo (hp.objs.size + 1) C none)) (fun z H2 => z = .non ∧ Q (.ref (hp.objs.size + 1)) H2) (fun _ _ _ => False) :=
    ⟨hp.objs.size + 1, v, rfl, upd_same, fun d hd hda => by
      obtain ⟨z1, z2⟩ := made_ok (v := v) (f := f) hn hd hda
      exact ⟨rfl, q1 _ _ z1 hn z2⟩⟩
  refine wpAny_call (PySem.KwNew.call_kw PySem.F.excBase_ValueError (fun Y => PySem.HandSPX.refsVE_contains Y bm hbm) (I1.kIn _ _ hC) (PySem.W.looks_findIn I1.kIn iC) (fun self => PySem.W.bind_fn I1.kIn self tI) hl
    (codeAny_mono (F1.run _ X.stack _ _ ⟨Value.ref (hp.objs.size + 1) :: us, kw⟩ [Value.ref (hp.objs.size + 1), u] _ _ (fun _ _ _ => False) (hr.make C us kw) (I2.env0.make C us kw) (hb _ _ I2.kIn) r2 hq) fun r s' hq' => ?_))
  cases r with
  | error er => exact hq'.elim
  | ok fl =>
    cases fl with
    | ret u' =>
      obtain ⟨z, H', I3, rv, ev, q3⟩ := I2.after hq'
      subst ev
      exact ⟨rv, ⟨V.ref (hp.objs.size + 1), H', I3, rfl, q3⟩⟩
    | next => exact False.elim hq'
    | brk => exact False.elim hq'
    | cont => exact False.elim hq'
variable {e : Expr} {ta : TA} {p pos kpos : Pos} {te : TE}
/-- C(e) -/
theorem pe_new (T : XC X.K C) (iC : PySem.W.findIn X.K (.ref C) "__init__" = some (some (.ref fI))) (tI : PySem.W.typeIn X.K (.ref fI) = some (.type "function"))
    (F1 : FnOk X.prog X.w X.K X.mg X.base CX0 k fI fd ps (spI C f)) (hr : Room (k + 1) X.A) (hb : Binds X.K fd ps []) (hp2 : ps.length = 2) (hg : Gl X x) (hm : X.mg x = some (.ref C)) (ha : PA X [e] ta)
    (hdb : (x == ("__debug__" : Str)) = false := by decide) (he : starEach [e] X.env = (false, eval e X.env) :: starEach [] X.env := by rfl) (hpl : (backTo pos (starEach [] X.env)).any (·.1) = false := by rfl) :
    PE X (.Call (.Name x p) [e] [] pos) (tNew C f ta) := by
  refine ⟨fun pins s σ H Q I h => ?_⟩
  refine wpAny_Call_Name_kw (ld_glob I hg hm ?_ hdb)
  refine PySem.W.callWith_K (h₀ := X.base) I.ok.mod.kin T.ox.kC (thn (ha.run pos pins s σ H _ I h) fun us s1 ⟨vs, H1, I1, r1, v, ev, q1⟩ => ⟨I1.kIn, ?_⟩) he hpl
  subst ev
  obtain ⟨u, rfl, ru⟩ := vals1 r1
  show wpAny _ _ (call (.ref C) [u]) _ _ _
  exact run_new T iC tI F1 hr ru I1 (by show 1 ≤ sizeLine; rw [sizeLine_eq]; omega) (fun s y X' => hb s [y, u] X' (by rw [hp2] <;> rfl)) q1
/-- C(f=e) -/
theorem pe_newK {g : Str} (T : XC X.K C) (iC : PySem.W.findIn X.K (.ref C) "__init__" = some (some (.ref fI))) (tI : PySem.W.typeIn X.K (.ref fI) = some (.type "function"))
    (F1 : FnOk X.prog X.w X.K X.mg X.base CX0 k fI fd ps (spI C f)) (hr : Room (k + 1) X.A) (hb : ∀ (s : Shared) (y u : Value), X.K.In s.heap → BindsTo s fd ⟨[y], [(g, u)]⟩ (ps.zip [y, u])) (hg : Gl X x) (hm : X.mg x = some (.ref C)) (ha : PE X e te)
    (hdb : (x == ("__debug__" : Str)) = false := by decide) :
    PE X (.Call (.Name x p) [] [⟨some g, e, kpos⟩] pos) (tNew C f (tCons te tNil)) := by
  refine ⟨fun pins s σ H Q I h => ?_⟩
  refine wpAny_Call_Name_kw (ld_glob I hg hm ?_ hdb)
  refine PySem.W.callWith_KW0 (h₀ := X.base) I.ok.mod.kin T.ox.kC rfl (thn ((pk_cons (nm := some g) (kpos := kpos) ha pk_nil).run pos pins s σ H _ I h) fun us s1 ⟨vs, H1, I1, r1, v, ev, q1⟩ => ⟨I1.kIn, ?_⟩)
  subst ev
  obtain ⟨u, rfl, ru⟩ := vals1 r1
  show wpAny _ _ (call (.ref C) [] [(g, u)]) _ _ _
  exact run_new T iC tI F1 hr ru I1 (Nat.zero_le _) (fun s y X' => hb s y u X') q1
end
end K1
end L2

set_option Elab.async false
set_option linter.all false
set_option maxRecDepth 100000
set_option maxHeartbeats 0
namespace L2
namespace K1
open PySem PySem.Spec PyProof.Rows
/-! ### the hook: defs, facts by names, one Bool more -/
abbrev AlK : Type := He.AlD × Bool
def obsKG (n : Nat) (fa : List He.Fa) (fn : List He.DefD) (ex : PySem.W.Frag → Bool) (g : Addr → Option Obj) : AlK := (He.obsD fa fn (He.frG g (He.asD g n)), ex (He.frG g (He.asD g n)))
def hookK (n : Nat) (fa : List He.Fa) (fn : List He.DefD) (ex : PySem.W.Frag → Bool) : PySem.W.Hook where
  α := AlK
  obs := fun s => obsKG n fa fn ex s.heap.get?
  val := fun _ => (He.valD fn, true)
  says := fun _ h => ∃ K : PySem.W.Frag, K.In h ∧ He.SaysD fa fn K ∧ ex K = true
  of := fun _ _ e => ⟨_, He.frG_in, congrArg Prod.fst e, congrArg Prod.snd e⟩
  keeps := fun _ _ _ ⟨K, hK, c⟩ k => ⟨K, PySem.W.Frag.In.keeps hK k, c⟩
theorem obsKG_eq {n : Nat} {fa : List He.Fa} {fn : List He.DefD} {ex : PySem.W.Frag → Bool} {g : Addr → Option Obj} {s : Shared} (h : ∀ a, g a = s.heap.get? a) : obsKG n fa fn ex g = (hookK n fa fn ex).obs s := by
  have e : g = s.heap.get? := funext h
  rw [e] <;> rfl

def top (i : Nat) : Stmt := PySem.Challenge.pw_lotmarks_k01_errors_made.main.body.getD i (.Pass ⟨0, 0, 0, 0⟩)
/-- classes with a field -/
def cs20 : List (Str × Str) := [("BadWeb", "index"), ("UnknownCell", "cell"), ("BadProgram", "index"), ("BadNumber", "number"), ("BadRules", "cell"), ("BadWorth", "cell"), ("BadName", "name"), ("Held", "name"), ("NotHeld", "name"), ("BadDeed", "deed"), ("Taken", "name"), ("Used", "cell"), ("Ringed", "ring"), ("TooFew", "number"), ("MarkRing", "arrows"), ("NoSuch", "number"), ("BadActs", "index"), ("NoLot", "index"), ("BadArrow", "index"), ("BadText", "line")]
def cs8 : List Str := ["NoDeed", "BadTable", "NotSweep", "BadMarks", "Unlike", "BadCells", "BadPiece", "BadWave"]
def cs28 : List Str := cs20.map (·.1) ++ cs8
def dfn (x : Str) (i : Nat) : He.DefD := ⟨(x, none), x, x, defArgs (top i), defBody (top i), defScope (top i), [], []⟩
def ini (c : Str) (q : Str) (i : Nat) : He.DefD := ⟨(c, some "__init__"), "__init__", q, defArgs (inClass (top i) 0), defBody (inClass (top i) 0), defScope (inClass (top i) 0), [], []⟩
def fn : List He.DefD := [dfn "_law_cell" 31, dfn "_law_pool" 32, dfn "_law_take" 33, dfn "_law_thing" 34, dfn "_law_by_place" 35, dfn "_law_by_name" 36, dfn "_law_held" 37, dfn "_law_others" 38, dfn "_law_classes" 39, dfn "_law_is_same" 40, dfn "law" 41,
  ini "BadWeb" "BadWeb.__init__" 2, ini "UnknownCell" "UnknownCell.__init__" 3, ini "BadProgram" "BadProgram.__init__" 4, ini "BadNumber" "BadNumber.__init__" 5, ini "BadRules" "BadRules.__init__" 6, ini "BadWorth" "BadWorth.__init__" 7,
  ini "BadName" "BadName.__init__" 8, ini "Held" "Held.__init__" 9, ini "NotHeld" "NotHeld.__init__" 10, ini "BadDeed" "BadDeed.__init__" 11, ini "Taken" "Taken.__init__" 12, ini "Used" "Used.__init__" 13, ini "Ringed" "Ringed.__init__" 16, ini "TooFew" "TooFew.__init__" 17,
  ini "MarkRing" "MarkRing.__init__" 20, ini "NoSuch" "NoSuch.__init__" 21, ini "BadActs" "BadActs.__init__" 24, ini "NoLot" "NoLot.__init__" 25, ini "BadArrow" "BadArrow.__init__" 27, ini "BadText" "BadText.__init__" 29]
def fa : List He.Fa := [.glo "_law_cell", .glo "_law_pool", .glo "_law_take", .glo "_law_thing", .glo "_law_by_place", .glo "_law_by_name", .glo "_law_held", .glo "_law_others", .glo "_law_classes", .glo "_law_is_same", .glo "law", .glo "LotError",
  .free "len", .free "int", .free "isinstance", .free "bool", .free "range", .free "all", .free "any", .free "ValueError"]
/-- the class x has the field f, made by its __init__ -/
def fieldB (K : PySem.W.Frag) (x f : Str) : Bool := He.eqO (PySem.W.findIn K (.ref (He.ga K x)) f) (some none) && (He.eqO (PySem.W.findIn K (.ref (He.ga K x)) "__init__") (some (some (.ref (He.ma K (He.ga K x) "__init__")))) && decide (PySem.W.typeIn K (.ref (He.ma K (He.ga K x) "__init__")) = some (.type "function")))
def kitB2 (K : PySem.W.Frag) (x y : Str) (b : Bool) : Bool := decide (PySem.W.kitOne K (.ref (He.ga K x)) (.ref (He.ga K y)) = some b)
def ex (K : PySem.W.Frag) : Bool :=
  (cs28.all fun x => (He.Fa.glo x).ok K && (xcB K (He.ga K x) && (kitB2 K x "LotError" true && (decide (PySem.W.kitOne K (.ref (He.ga K x)) (.type "ValueError") = some true) && (kitB2 K "LotError" x false && cs28.all fun y => kitB2 K x y (decide (x = y))))))) &&
  ((cs20.all fun p => fieldB K p.1 p.2) && ((cs8.all fun x => PySem.W.excIn K (He.ga K x) He.veBase "ValueError.__new__") && (xcB K (He.ga K "LotError") && (PySem.W.excIn K (He.ga K "LotError") He.veBase "ValueError.__new__" && decide (PySem.W.kitOne K (.ref (He.ga K "LotError")) (.type "ValueError") = some true)))))
abbrev R : PySem.W.OpenRow := PySem.W.OpenLaw.row PySem.Challenge.rw_lotmarks_k01_errors_made
abbrev hk : PySem.W.Hook := hookK 5 fa fn ex
def ob (s : PySem.W.SharedT) : AlK := obsKG 5 fa fn ex (HandSHeadRun.getT s)
theorem ob_eq (s : PySem.W.SharedT) : ob s = hk.obs s.abs := obsKG_eq (HandSHeadRun.getT_eq s)
def loose1 : List Str := ["LotError", "BadWeb", "UnknownCell", "BadProgram", "BadNumber", "BadRules", "BadWorth", "BadName", "Held", "NotHeld", "BadDeed", "Taken", "Used", "NoDeed", "BadTable", "Ringed", "TooFew", "NotSweep", "BadMarks"]
def loose2 : List Str := ["MarkRing", "NoSuch", "Unlike", "BadCells", "BadActs", "NoLot", "BadPiece", "BadArrow", "BadWave", "BadText",
  "_law_cell", "_law_pool", "_law_take", "_law_thing", "_law_by_place", "_law_by_name", "_law_held", "_law_others", "_law_classes", "_law_is_same"]
def loose : List Str := loose1 ++ loose2
theorem run (w : World) : HandSHeadRun.RunEq R (PySem.W.view R.prog [41]) hk ob 40000 loose w := by
  intro os
  kernel_rfl
end K1
end L2

set_option Elab.async false
set_option linter.all false
set_option maxRecDepth 100000
set_option maxHeartbeats 4000000
namespace L2
namespace K1
open PySem PySem.Spec PyProof.Rows

/-! ### readings weakened -/
theorem PE.imp {X : Cx} {e : Expr} {t t' : TE} (h : PE X e t) (f : ∀ σ H Q, t' σ H Q → t σ H Q) : PE X e t' := ⟨fun pins s σ H Q I q => h.run pins s σ H Q I (f _ _ _ q)⟩
theorem PA.imp {X : Cx} {es : List Expr} {t t' : TA} (h : PA X es t) (f : ∀ σ H Q, t' σ H Q → t σ H Q) : PA X es t' := ⟨fun pos pins s σ H Q I q => h.run pos pins s σ H Q I (f _ _ _ q)⟩

/-! ### making an error without a field -/
def tNew0 (C : Addr) : TE := fun _ H Q => ∀ H2 a, Same H H2 → H a = none → ErrAt H2 C [] a → Q (.ref a) H2
theorem pe_new0 {X : Cx} {C : Addr} {x : Str} {p pos : Pos} (q : PySem.W.excIn X.K C He.veBase "ValueError.__new__" = true) (gC : X.mg x = some (.ref C)) (kC : PySem.W.keepIn X.K (.ref C) = true) (hg : Gl X x) (hdb : (x == ("__debug__" : Str)) = false := by decide) :
    PE X (.Call (.Name x p) [] [] pos) (tNew0 C) := by
  refine ⟨fun pins s σ H Q I h => ?_⟩
  refine wpAny_Call_Name_kw (ld_glob I hg gC ?_ hdb)
  refine PySem.W.callWith_K0 I.kIn kC ?_
  show wpAny _ _ (call (.ref C) []) _ _ _
  obtain ⟨bm, N, nm, qn, bs, hdct, sn, sub, ab, col, dd, k0, k1, k2, k3, k5, mN, hC, hN, hni, T⟩ := exc_obj I.kIn q
  refine wpAny_call_exc_subT PySem.F.excBase_ValueError T hC hN hni (fun h' a hm => ?_) (Nat.zero_le _)
  have hn : H a = none := I.hok.gone hm.new
  obtain ⟨t, ht, _, _⟩ := hm.there
  exact ⟨.ref a, upd H a (exo a C none), I.laidN hm.keeps hm.new hn (exo_ok ht), rfl, h _ a (same_upd hn) hn (.inl ⟨rfl, upd_same⟩)⟩

/-! ### many of them -/
/-- errors with one field each, all of the value v: by the names of their classes and fields -/
def ErrL (K : PySem.W.Frag) (H : Hp) (v : V) : List (Str × Str) → List Addr → Prop
  | [], [] => True
  | p :: ps, a :: as => ErrAt H (He.ga K p.1) [(p.2, v)] a ∧ ErrL K H v ps as
  | _, _ => False
theorem ErrL.same {K : PySem.W.Frag} {H H' : Hp} {v : V} (s : Same H H') : ∀ {ps : List (Str × Str)} {as : List Addr}, ErrL K H v ps as → ErrL K H' v ps as
  | [], [], _ => trivial
  | p :: ps, a :: as, h => ⟨h.1.same s, ErrL.same s h.2⟩
  | [], _ :: _, h => h.elim
  | _ :: _, [], h => h.elim
theorem ErrL.app {K : PySem.W.Frag} {H : Hp} {v : V} : ∀ {ps qs : List (Str × Str)} {as bs : List Addr}, ErrL K H v ps as → ErrL K H v qs bs → ErrL K H v (ps ++ qs) (as ++ bs)
  | [], _, [], _, _, h => h
  | p :: ps, _, a :: as, _, h, k => ⟨h.1, ErrL.app h.2 k⟩
  | [], _, _ :: _, _, h, _ => h.elim
  | _ :: _, _, [], _, h, _ => h.elim
theorem ErrL.len {K : PySem.W.Frag} {H : Hp} {v : V} : ∀ {ps : List (Str × Str)} {as : List Addr}, ErrL K H v ps as → as.length = ps.length
  | [], [], _ => rfl
  | p :: ps, a :: as, h => congrArg Nat.succ (ErrL.len h.2)
  | [], _ :: _, h => h.elim
  | _ :: _, [], h => h.elim
theorem ErrL.at {K : PySem.W.Frag} {H : Hp} {v : V} : ∀ {ps : List (Str × Str)} {as : List Addr} (i : Nat) {p : Str × Str}, ErrL K H v ps as → ps[i]? = some p → ∃ a, as[i]? = some a ∧ ErrAt H (He.ga K p.1) [(p.2, v)] a
  | [], _, i, p, _, e => by simp at e
  | _ :: _, [], i, p, h, _ => h.elim
  | q :: ps, a :: as, 0, p, h, e => by
    have e' : q = p := Option.some.inj e
    subst e'
    exact ⟨a, rfl, h.1⟩
  | q :: ps, a :: as, i + 1, p, h, e => ErrL.at (ps := ps) (as := as) i h.2 e
/-- errors without fields -/
def ErrN (K : PySem.W.Frag) (H : Hp) : List Str → List Addr → Prop
  | [], [] => True
  | x :: xs, a :: as => ErrAt H (He.ga K x) [] a ∧ ErrN K H xs as
  | _, _ => False
theorem ErrN.same {K : PySem.W.Frag} {H H' : Hp} (s : Same H H') : ∀ {xs : List Str} {as : List Addr}, ErrN K H xs as → ErrN K H' xs as
  | [], [], _ => trivial
  | p :: ps, a :: as, h => ⟨h.1.same s, ErrN.same s h.2⟩
  | [], _ :: _, h => h.elim
  | _ :: _, [], h => h.elim
theorem ErrN.len {K : PySem.W.Frag} {H : Hp} : ∀ {xs : List Str} {as : List Addr}, ErrN K H xs as → as.length = xs.length
  | [], [], _ => rfl
  | p :: ps, a :: as, h => congrArg Nat.succ (ErrN.len h.2)
  | [], _ :: _, h => h.elim
  | _ :: _, [], h => h.elim
theorem ErrN.at {K : PySem.W.Frag} {H : Hp} : ∀ {ps : List Str} {as : List Addr} (i : Nat) {p : Str}, ErrN K H ps as → ps[i]? = some p → ∃ a, as[i]? = some a ∧ ErrAt H (He.ga K p) [] a
  | [], _, i, p, _, e => by simp at e
  | _ :: _, [], i, p, h, _ => h.elim
  | q :: ps, a :: as, 0, p, h, e => by
    have e' : q = p := Option.some.inj e
    subst e'
    exact ⟨a, rfl, h.1⟩
  | q :: ps, a :: as, i + 1, p, h, e => ErrN.at (ps := ps) (as := as) i h.2 e

/-! ### displays of many makings, of many fields, of many looks -/
section
variable {X : Cx} {e : Expr} {es : List Expr}
/-- [C(x), ..], x in the slot 0 -/
def tNews (K : PySem.W.Frag) (ps : List (Str × Str)) : TA := fun σ H Q => ∃ v, σ[0]? = some (some v) ∧ ∀ H' as, Same H H' → ErrL K H' v ps as → Q (as.map .ref) H'
theorem pa_news_nil : PA X [] (tNews X.K []) := PA.imp pa_nil fun σ H Q h => by
  obtain ⟨v, _, h⟩ := h
  exact h H [] (Same.refl H) trivial
theorem pa_news {p : Str × Str} {ps : List (Str × Str)} (h1 : PE X e (tNew (He.ga X.K p.1) p.2 (tCons (tVar 0) tNil))) (h2 : PA X es (tNews X.K ps)) (hs : starEach (e :: es) X.env = (false, eval e X.env) :: starEach es X.env := by rfl) :
    PA X (e :: es) (tNews X.K (p :: ps)) := PA.imp (pa_cons h1 h2 hs) fun σ H Q h => by
  obtain ⟨v, e1, h⟩ := h
  refine ⟨v, e1, v, rfl, fun H2 a s2 _ ea => ⟨v, e1, fun H' as s3 el => ?_⟩⟩
  exact h H' (a :: as) (s2.trans s3) ⟨ea.same s3, el⟩
/-- [C(), ..] -/
def tNew0s (K : PySem.W.Frag) (xs : List Str) : TA := fun _ H Q => ∀ H' as, Same H H' → ErrN K H' xs as → Q (as.map .ref) H'
theorem pa_new0s_nil : PA X [] (tNew0s X.K []) := PA.imp pa_nil fun σ H Q h => h H [] (Same.refl H) trivial
theorem pa_new0s {x : Str} {xs : List Str} (h1 : PE X e (tNew0 (He.ga X.K x))) (h2 : PA X es (tNew0s X.K xs)) (hs : starEach (e :: es) X.env = (false, eval e X.env) :: starEach es X.env := by rfl) :
    PA X (e :: es) (tNew0s X.K (x :: xs)) := PA.imp (pa_cons h1 h2 hs) fun σ H Q h => by
  refine fun H2 a s2 _ ea => fun H' as s3 el => ?_
  exact h H' (a :: as) (s2.trans s3) ⟨ea.same s3, el⟩
/-- [e[i].f, ..], e in the slot 0, n of them -/
def tHeld (K : PySem.W.Frag) (cs : List (Str × Str)) (n : Nat) : TA := fun σ H Q => ∃ l as v, σ[0]? = some (some (.ref l)) ∧ H l = some (.lst (as.map .ref)) ∧ ErrL K H v cs as ∧ Q (List.replicate n v) H
theorem pa_held_nil {cs : List (Str × Str)} : PA X [] (tHeld X.K cs 0) := PA.imp pa_nil fun σ H Q h => by
  obtain ⟨l, as, v, _, _, _, h⟩ := h
  exact h
theorem pa_held {cs : List (Str × Str)} {n : Nat} (i : Nat) {p : Str × Str} (hp : cs[i]? = some p) (T : XC X.K (He.ga X.K p.1)) (hno : PySem.W.findIn X.K (.ref (He.ga X.K p.1)) p.2 = some none)
    (h1 : PE X e (tFldX X.K p.2 (tOp (rIxL X.K) (tVar 0) (tC (.int (i : Nat)))))) (h2 : PA X es (tHeld X.K cs n)) (hs : starEach (e :: es) X.env = (false, eval e X.env) :: starEach es X.env := by rfl) :
    PA X (e :: es) (tHeld X.K cs (n + 1)) := PA.imp (pa_cons h1 h2 hs) fun σ H Q h => by
  obtain ⟨l, as, v, e0, hl, el, h⟩ := h
  obtain ⟨a, ha, ea⟩ := el.at i hp
  have hx : (as.map V.ref)[i]? = some (V.ref a) := by rw [List.getElem?_map, ha] <;> rfl
  exact ⟨_, e0, l, as.map V.ref, (i : Nat), V.ref a, rfl, rfl, SqL.of hl, atI_nat hx, a, _, _, v, rfl, ea, T, hno, by simp [List.lookup], l, as, v, e0, hl, el, h⟩
/-- [isinstance(e, C), ..], e in the slot 0 -/
def tLooks (K : PySem.W.Frag) (b : Str → Bool) (xs : List Str) : TA := fun σ H Q => ∃ a D fs, σ[0]? = some (some (.ref a)) ∧ ErrAt H D fs a ∧ XC K D ∧ (∀ y ∈ xs, PySem.W.kitOne K (.ref D) (.ref (He.ga K y)) = some (b y)) ∧ Q (xs.map fun y => .bl (b y)) H
theorem pa_looks_nil {b : Str → Bool} : PA X [] (tLooks X.K b []) := PA.imp pa_nil fun σ H Q h => by
  obtain ⟨a, D, fs, _, _, _, _, h⟩ := h
  exact h
theorem pa_looks {b : Str → Bool} {x : Str} {xs : List Str} (h1 : PE X e (tCB (rIsX X.K) (tCons (tVar 0) (tCons (tC (.ref (He.ga X.K x))) tNil)))) (h2 : PA X es (tLooks X.K b xs)) (hs : starEach (e :: es) X.env = (false, eval e X.env) :: starEach es X.env := by rfl) :
    PA X (e :: es) (tLooks X.K b (x :: xs)) := PA.imp (pa_cons h1 h2 hs) fun σ H Q h => by
  obtain ⟨a, D, fs, e0, ea, T, hk, h⟩ := h
  exact ⟨_, e0, a, _, D, fs, _, b x, rfl, ClsV.own _, ea, T, hk x (List.mem_cons_self ..), a, D, fs, e0, ea, T, fun y hy => hk y (List.mem_cons_of_mem _ hy), h⟩
end
end K1
end L2

set_option Elab.async false
set_option linter.all false
set_option maxRecDepth 100000
set_option maxHeartbeats 4000000
namespace L2
namespace K1
open PySem PySem.Spec PyProof.Rows

/-! ### what the head tells -/
structure Txt (K : PySem.W.Frag) (mg : Str → Option Value) : Prop where
  g28 : ∀ x ∈ cs28, mg x = some (.ref (He.ga K x))
  c28 : ∀ x ∈ cs28, XC K (He.ga K x)
  kL : ∀ x ∈ cs28, PySem.W.kitOne K (.ref (He.ga K x)) (.ref (He.ga K "LotError")) = some true
  kV : ∀ x ∈ cs28, PySem.W.kitOne K (.ref (He.ga K x)) (.type "ValueError") = some true
  Lk : ∀ x ∈ cs28, PySem.W.kitOne K (.ref (He.ga K "LotError")) (.ref (He.ga K x)) = some false
  kk : ∀ x ∈ cs28, ∀ y ∈ cs28, PySem.W.kitOne K (.ref (He.ga K x)) (.ref (He.ga K y)) = some (decide (x = y))
  fN : ∀ p ∈ cs20, PySem.W.findIn K (.ref (He.ga K p.1)) p.2 = some none
  fI : ∀ p ∈ cs20, PySem.W.findIn K (.ref (He.ga K p.1)) "__init__" = some (some (.ref (He.ma K (He.ga K p.1) "__init__")))
  fT : ∀ p ∈ cs20, PySem.W.typeIn K (.ref (He.ma K (He.ga K p.1) "__init__")) = some (.type "function")
  q8 : ∀ x ∈ cs8, PySem.W.excIn K (He.ga K x) He.veBase "ValueError.__new__" = true
  gL : mg "LotError" = some (.ref (He.ga K "LotError"))
  cL : XC K (He.ga K "LotError")
  qL : PySem.W.excIn K (He.ga K "LotError") He.veBase "ValueError.__new__" = true
  LV : PySem.W.kitOne K (.ref (He.ga K "LotError")) (.type "ValueError") = some true
  len : mg "len" = none
  int : mg "int" = none
  isi : mg "isinstance" = none
  bool : mg "bool" = none
  range : mg "range" = none
  all : mg "all" = none
  any : mg "any" = none
  VE : mg "ValueError" = none
theorem kitB2_ok {K : PySem.W.Frag} {x y : Str} {b : Bool} (h : kitB2 K x y b = true) : PySem.W.kitOne K (.ref (He.ga K x)) (.ref (He.ga K y)) = some b := of_decide_eq_true h
theorem txt_mk {K : PySem.W.Frag} {h : Heap} {mg : Str → Option Value} (X : K.In h) (G : h.Ns mainGlobals mg) (c : He.SaysD fa fn K) (e : ex K = true) : Txt K mg := by
  obtain ⟨e1, e⟩ := He.ba (show (_ && _) = true from e)
  obtain ⟨e2, e⟩ := He.ba e
  obtain ⟨e3, e⟩ := He.ba e
  obtain ⟨e4, e⟩ := He.ba e
  obtain ⟨e5, e6⟩ := He.ba e
  have f1 := fun x (hx : x ∈ cs28) => He.ba (List.all_eq_true.mp e1 x hx)
  have f2 := fun x (hx : x ∈ cs28) => He.ba (f1 x hx).2
  have f3 := fun x (hx : x ∈ cs28) => He.ba (f2 x hx).2
  have f4 := fun x (hx : x ∈ cs28) => He.ba (f3 x hx).2
  have f5 := fun x (hx : x ∈ cs28) => He.ba (f4 x hx).2
  have p1 := fun p (hp : p ∈ cs20) => He.ba (List.all_eq_true.mp e2 p hp)
  have p2 := fun p (hp : p ∈ cs20) => He.ba (p1 p hp).2
  exact {
    g28 := fun x hx => He.glo_ok X G (f1 x hx).1
    c28 := fun x hx => xcB_ok (f2 x hx).1
    kL := fun x hx => kitB2_ok (f3 x hx).1
    kV := fun x hx => of_decide_eq_true (f4 x hx).1
    Lk := fun x hx => kitB2_ok (f5 x hx).1
    kk := fun x hx y hy => kitB2_ok (List.all_eq_true.mp (f5 x hx).2 y hy)
    fN := fun p hp => He.eqO_ok (p1 p hp).1
    fI := fun p hp => He.eqO_ok (p2 p hp).1
    fT := fun p hp => of_decide_eq_true (p2 p hp).2
    q8 := fun x hx => List.all_eq_true.mp e3 x hx
    gL := He.glo_ok X G (c.fact 11 (f := .glo "LotError") rfl)
    cL := xcB_ok e4
    qL := e5
    LV := of_decide_eq_true e6
    len := He.free_ok X G (c.fact 12 (f := .free "len") rfl)
    int := He.free_ok X G (c.fact 13 (f := .free "int") rfl)
    isi := He.free_ok X G (c.fact 14 (f := .free "isinstance") rfl)
    bool := He.free_ok X G (c.fact 15 (f := .free "bool") rfl)
    range := He.free_ok X G (c.fact 16 (f := .free "range") rfl)
    all := He.free_ok X G (c.fact 17 (f := .free "all") rfl)
    any := He.free_ok X G (c.fact 18 (f := .free "any") rfl)
    VE := He.free_ok X G (c.fact 19 (f := .free "ValueError") rfl) }
/-! ### the __init__ of each class with a field -/
abbrev FnP (K : PySem.W.Frag) (x q : Str) (st : Stmt) (f : Addr) (fd : FuncData) : Prop := FunD K x q (defArgs st) (defBody st) (defScope st) [] [] f fd
section
variable {P : Program} {w : World} {K : PySem.W.Frag} {mg : Str → Option Value} {base : Heap}
/-- what is known of the __init__ of the class p.1 -/
def Ini (P : Program) (w : World) (K : PySem.W.Frag) (mg : Str → Option Value) (base : Heap) (p : Str × Str) : Prop :=
  ∃ fd, FnOk P w K mg base CX0 1 (He.ma K (He.ga K p.1) "__init__") fd ["self", p.2] (spI (He.ga K p.1) p.2) ∧ Binds K fd ["self", p.2] [] ∧ ∀ (s : Shared) (y u : Value), K.In s.heap → BindsTo s fd ⟨[y], [(p.2, u)]⟩ ((["self", p.2] : List Str).zip [y, u])

theorem sc_BadWeb : FnScope ["self", "index"] ["self", "index"] (defScope (inClass (top 2) 0)) := ⟨rfl, rfl, rfl, by decide +kernel, rfl, by decide +kernel, by decide +kernel⟩
theorem ini_BadWeb {fI : Addr} {fd : FuncData} (T : Txt K mg) (hf : fI = He.ma K (He.ga K "BadWeb") "__init__") (F : FnP K "__init__" "BadWeb.__init__" (inClass (top 2) 0) fI fd) : Ini P w K mg base ("BadWeb", "index") := by
  subst hf
  refine ⟨fd, ?_, F.bindsN fun _ _ _ _ _ _ us hl => match us, hl with | [_, _], _ => rfl, fun s y u hK => ?_⟩
  · refine F.ok sc_BadWeb (fun vs H Q E h => ?_) (fun cdv A outer s H vs Q E hr h => ⟨_, PSs.nox (pss_one (ps_ost (pv 0) (pv 1))), ?_⟩)
    · obtain ⟨a, v, rfl, _⟩ := h
      rfl
    · obtain ⟨a, v, rfl, e, q⟩ := h
      exact ⟨v, rfl, .ref a, rfl, a, _, rfl, (T.c28 "BadWeb" (by decide +kernel)).ox, T.fN ("BadWeb", "index") (by decide +kernel), .inl ⟨e, fun dx n ne => q dx n ne⟩⟩
  · obtain ⟨oc, od, dV, kV, doc, pm, an, cdv, ct, osl, rfl, lk, hcd, hD, hK⟩ := F.ex
    rcases hD with ⟨_, rfl⟩ | ⟨e, _⟩
    · exact .of_eq rfl
    · exact absurd rfl e
theorem sc_UnknownCell : FnScope ["self", "cell"] ["self", "cell"] (defScope (inClass (top 3) 0)) := ⟨rfl, rfl, rfl, by decide +kernel, rfl, by decide +kernel, by decide +kernel⟩
theorem ini_UnknownCell {fI : Addr} {fd : FuncData} (T : Txt K mg) (hf : fI = He.ma K (He.ga K "UnknownCell") "__init__") (F : FnP K "__init__" "UnknownCell.__init__" (inClass (top 3) 0) fI fd) : Ini P w K mg base ("UnknownCell", "cell") := by
  subst hf
  refine ⟨fd, ?_, F.bindsN fun _ _ _ _ _ _ us hl => match us, hl with | [_, _], _ => rfl, fun s y u hK => ?_⟩
  · refine F.ok sc_UnknownCell (fun vs H Q E h => ?_) (fun cdv A outer s H vs Q E hr h => ⟨_, PSs.nox (pss_one (ps_ost (pv 0) (pv 1))), ?_⟩)
    · obtain ⟨a, v, rfl, _⟩ := h
      rfl
    · obtain ⟨a, v, rfl, e, q⟩ := h
      exact ⟨v, rfl, .ref a, rfl, a, _, rfl, (T.c28 "UnknownCell" (by decide +kernel)).ox, T.fN ("UnknownCell", "cell") (by decide +kernel), .inl ⟨e, fun dx n ne => q dx n ne⟩⟩
  · obtain ⟨oc, od, dV, kV, doc, pm, an, cdv, ct, osl, rfl, lk, hcd, hD, hK⟩ := F.ex
    rcases hD with ⟨_, rfl⟩ | ⟨e, _⟩
    · exact .of_eq rfl
    · exact absurd rfl e
theorem sc_BadProgram : FnScope ["self", "index"] ["self", "index"] (defScope (inClass (top 4) 0)) := ⟨rfl, rfl, rfl, by decide +kernel, rfl, by decide +kernel, by decide +kernel⟩
theorem ini_BadProgram {fI : Addr} {fd : FuncData} (T : Txt K mg) (hf : fI = He.ma K (He.ga K "BadProgram") "__init__") (F : FnP K "__init__" "BadProgram.__init__" (inClass (top 4) 0) fI fd) : Ini P w K mg base ("BadProgram", "index") := by
  subst hf
  refine ⟨fd, ?_, F.bindsN fun _ _ _ _ _ _ us hl => match us, hl with | [_, _], _ => rfl, fun s y u hK => ?_⟩
  · refine F.ok sc_BadProgram (fun vs H Q E h => ?_) (fun cdv A outer s H vs Q E hr h => ⟨_, PSs.nox (pss_one (ps_ost (pv 0) (pv 1))), ?_⟩)
    · obtain ⟨a, v, rfl, _⟩ := h
      rfl
    · obtain ⟨a, v, rfl, e, q⟩ := h
      exact ⟨v, rfl, .ref a, rfl, a, _, rfl, (T.c28 "BadProgram" (by decide +kernel)).ox, T.fN ("BadProgram", "index") (by decide +kernel), .inl ⟨e, fun dx n ne => q dx n ne⟩⟩
  · obtain ⟨oc, od, dV, kV, doc, pm, an, cdv, ct, osl, rfl, lk, hcd, hD, hK⟩ := F.ex
    rcases hD with ⟨_, rfl⟩ | ⟨e, _⟩
    · exact .of_eq rfl
    · exact absurd rfl e
theorem sc_BadNumber : FnScope ["self", "number"] ["self", "number"] (defScope (inClass (top 5) 0)) := ⟨rfl, rfl, rfl, by decide +kernel, rfl, by decide +kernel, by decide +kernel⟩
theorem ini_BadNumber {fI : Addr} {fd : FuncData} (T : Txt K mg) (hf : fI = He.ma K (He.ga K "BadNumber") "__init__") (F : FnP K "__init__" "BadNumber.__init__" (inClass (top 5) 0) fI fd) : Ini P w K mg base ("BadNumber", "number") := by
  subst hf
  refine ⟨fd, ?_, F.bindsN fun _ _ _ _ _ _ us hl => match us, hl with | [_, _], _ => rfl, fun s y u hK => ?_⟩
  · refine F.ok sc_BadNumber (fun vs H Q E h => ?_) (fun cdv A outer s H vs Q E hr h => ⟨_, PSs.nox (pss_one (ps_ost (pv 0) (pv 1))), ?_⟩)
    · obtain ⟨a, v, rfl, _⟩ := h
      rfl
    · obtain ⟨a, v, rfl, e, q⟩ := h
      exact ⟨v, rfl, .ref a, rfl, a, _, rfl, (T.c28 "BadNumber" (by decide +kernel)).ox, T.fN ("BadNumber", "number") (by decide +kernel), .inl ⟨e, fun dx n ne => q dx n ne⟩⟩
  · obtain ⟨oc, od, dV, kV, doc, pm, an, cdv, ct, osl, rfl, lk, hcd, hD, hK⟩ := F.ex
    rcases hD with ⟨_, rfl⟩ | ⟨e, _⟩
    · exact .of_eq rfl
    · exact absurd rfl e
theorem sc_BadRules : FnScope ["self", "cell"] ["self", "cell"] (defScope (inClass (top 6) 0)) := ⟨rfl, rfl, rfl, by decide +kernel, rfl, by decide +kernel, by decide +kernel⟩
theorem ini_BadRules {fI : Addr} {fd : FuncData} (T : Txt K mg) (hf : fI = He.ma K (He.ga K "BadRules") "__init__") (F : FnP K "__init__" "BadRules.__init__" (inClass (top 6) 0) fI fd) : Ini P w K mg base ("BadRules", "cell") := by
  subst hf
  refine ⟨fd, ?_, F.bindsN fun _ _ _ _ _ _ us hl => match us, hl with | [_, _], _ => rfl, fun s y u hK => ?_⟩
  · refine F.ok sc_BadRules (fun vs H Q E h => ?_) (fun cdv A outer s H vs Q E hr h => ⟨_, PSs.nox (pss_one (ps_ost (pv 0) (pv 1))), ?_⟩)
    · obtain ⟨a, v, rfl, _⟩ := h
      rfl
    · obtain ⟨a, v, rfl, e, q⟩ := h
      exact ⟨v, rfl, .ref a, rfl, a, _, rfl, (T.c28 "BadRules" (by decide +kernel)).ox, T.fN ("BadRules", "cell") (by decide +kernel), .inl ⟨e, fun dx n ne => q dx n ne⟩⟩
  · obtain ⟨oc, od, dV, kV, doc, pm, an, cdv, ct, osl, rfl, lk, hcd, hD, hK⟩ := F.ex
    rcases hD with ⟨_, rfl⟩ | ⟨e, _⟩
    · exact .of_eq rfl
    · exact absurd rfl e
theorem sc_BadWorth : FnScope ["self", "cell"] ["self", "cell"] (defScope (inClass (top 7) 0)) := ⟨rfl, rfl, rfl, by decide +kernel, rfl, by decide +kernel, by decide +kernel⟩
theorem ini_BadWorth {fI : Addr} {fd : FuncData} (T : Txt K mg) (hf : fI = He.ma K (He.ga K "BadWorth") "__init__") (F : FnP K "__init__" "BadWorth.__init__" (inClass (top 7) 0) fI fd) : Ini P w K mg base ("BadWorth", "cell") := by
  subst hf
  refine ⟨fd, ?_, F.bindsN fun _ _ _ _ _ _ us hl => match us, hl with | [_, _], _ => rfl, fun s y u hK => ?_⟩
  · refine F.ok sc_BadWorth (fun vs H Q E h => ?_) (fun cdv A outer s H vs Q E hr h => ⟨_, PSs.nox (pss_one (ps_ost (pv 0) (pv 1))), ?_⟩)
    · obtain ⟨a, v, rfl, _⟩ := h
      rfl
    · obtain ⟨a, v, rfl, e, q⟩ := h
      exact ⟨v, rfl, .ref a, rfl, a, _, rfl, (T.c28 "BadWorth" (by decide +kernel)).ox, T.fN ("BadWorth", "cell") (by decide +kernel), .inl ⟨e, fun dx n ne => q dx n ne⟩⟩
  · obtain ⟨oc, od, dV, kV, doc, pm, an, cdv, ct, osl, rfl, lk, hcd, hD, hK⟩ := F.ex
    rcases hD with ⟨_, rfl⟩ | ⟨e, _⟩
    · exact .of_eq rfl
    · exact absurd rfl e
theorem sc_BadName : FnScope ["self", "name"] ["self", "name"] (defScope (inClass (top 8) 0)) := ⟨rfl, rfl, rfl, by decide +kernel, rfl, by decide +kernel, by decide +kernel⟩
theorem ini_BadName {fI : Addr} {fd : FuncData} (T : Txt K mg) (hf : fI = He.ma K (He.ga K "BadName") "__init__") (F : FnP K "__init__" "BadName.__init__" (inClass (top 8) 0) fI fd) : Ini P w K mg base ("BadName", "name") := by
  subst hf
  refine ⟨fd, ?_, F.bindsN fun _ _ _ _ _ _ us hl => match us, hl with | [_, _], _ => rfl, fun s y u hK => ?_⟩
  · refine F.ok sc_BadName (fun vs H Q E h => ?_) (fun cdv A outer s H vs Q E hr h => ⟨_, PSs.nox (pss_one (ps_ost (pv 0) (pv 1))), ?_⟩)
    · obtain ⟨a, v, rfl, _⟩ := h
      rfl
    · obtain ⟨a, v, rfl, e, q⟩ := h
      exact ⟨v, rfl, .ref a, rfl, a, _, rfl, (T.c28 "BadName" (by decide +kernel)).ox, T.fN ("BadName", "name") (by decide +kernel), .inl ⟨e, fun dx n ne => q dx n ne⟩⟩
  · obtain ⟨oc, od, dV, kV, doc, pm, an, cdv, ct, osl, rfl, lk, hcd, hD, hK⟩ := F.ex
    rcases hD with ⟨_, rfl⟩ | ⟨e, _⟩
    · exact .of_eq rfl
    · exact absurd rfl e
theorem sc_Held : FnScope ["self", "name"] ["self", "name"] (defScope (inClass (top 9) 0)) := ⟨rfl, rfl, rfl, by decide +kernel, rfl, by decide +kernel, by decide +kernel⟩
theorem ini_Held {fI : Addr} {fd : FuncData} (T : Txt K mg) (hf : fI = He.ma K (He.ga K "Held") "__init__") (F : FnP K "__init__" "Held.__init__" (inClass (top 9) 0) fI fd) : Ini P w K mg base ("Held", "name") := by
  subst hf
  refine ⟨fd, ?_, F.bindsN fun _ _ _ _ _ _ us hl => match us, hl with | [_, _], _ => rfl, fun s y u hK => ?_⟩
  · refine F.ok sc_Held (fun vs H Q E h => ?_) (fun cdv A outer s H vs Q E hr h => ⟨_, PSs.nox (pss_one (ps_ost (pv 0) (pv 1))), ?_⟩)
    · obtain ⟨a, v, rfl, _⟩ := h
      rfl
    · obtain ⟨a, v, rfl, e, q⟩ := h
      exact ⟨v, rfl, .ref a, rfl, a, _, rfl, (T.c28 "Held" (by decide +kernel)).ox, T.fN ("Held", "name") (by decide +kernel), .inl ⟨e, fun dx n ne => q dx n ne⟩⟩
  · obtain ⟨oc, od, dV, kV, doc, pm, an, cdv, ct, osl, rfl, lk, hcd, hD, hK⟩ := F.ex
    rcases hD with ⟨_, rfl⟩ | ⟨e, _⟩
    · exact .of_eq rfl
    · exact absurd rfl e
theorem sc_NotHeld : FnScope ["self", "name"] ["self", "name"] (defScope (inClass (top 10) 0)) := ⟨rfl, rfl, rfl, by decide +kernel, rfl, by decide +kernel, by decide +kernel⟩
theorem ini_NotHeld {fI : Addr} {fd : FuncData} (T : Txt K mg) (hf : fI = He.ma K (He.ga K "NotHeld") "__init__") (F : FnP K "__init__" "NotHeld.__init__" (inClass (top 10) 0) fI fd) : Ini P w K mg base ("NotHeld", "name") := by
  subst hf
  refine ⟨fd, ?_, F.bindsN fun _ _ _ _ _ _ us hl => match us, hl with | [_, _], _ => rfl, fun s y u hK => ?_⟩
  · refine F.ok sc_NotHeld (fun vs H Q E h => ?_) (fun cdv A outer s H vs Q E hr h => ⟨_, PSs.nox (pss_one (ps_ost (pv 0) (pv 1))), ?_⟩)
    · obtain ⟨a, v, rfl, _⟩ := h
      rfl
    · obtain ⟨a, v, rfl, e, q⟩ := h
      exact ⟨v, rfl, .ref a, rfl, a, _, rfl, (T.c28 "NotHeld" (by decide +kernel)).ox, T.fN ("NotHeld", "name") (by decide +kernel), .inl ⟨e, fun dx n ne => q dx n ne⟩⟩
  · obtain ⟨oc, od, dV, kV, doc, pm, an, cdv, ct, osl, rfl, lk, hcd, hD, hK⟩ := F.ex
    rcases hD with ⟨_, rfl⟩ | ⟨e, _⟩
    · exact .of_eq rfl
    · exact absurd rfl e
theorem sc_BadDeed : FnScope ["self", "deed"] ["self", "deed"] (defScope (inClass (top 11) 0)) := ⟨rfl, rfl, rfl, by decide +kernel, rfl, by decide +kernel, by decide +kernel⟩
theorem ini_BadDeed {fI : Addr} {fd : FuncData} (T : Txt K mg) (hf : fI = He.ma K (He.ga K "BadDeed") "__init__") (F : FnP K "__init__" "BadDeed.__init__" (inClass (top 11) 0) fI fd) : Ini P w K mg base ("BadDeed", "deed") := by
  subst hf
  refine ⟨fd, ?_, F.bindsN fun _ _ _ _ _ _ us hl => match us, hl with | [_, _], _ => rfl, fun s y u hK => ?_⟩
  · refine F.ok sc_BadDeed (fun vs H Q E h => ?_) (fun cdv A outer s H vs Q E hr h => ⟨_, PSs.nox (pss_one (ps_ost (pv 0) (pv 1))), ?_⟩)
    · obtain ⟨a, v, rfl, _⟩ := h
      rfl
    · obtain ⟨a, v, rfl, e, q⟩ := h
      exact ⟨v, rfl, .ref a, rfl, a, _, rfl, (T.c28 "BadDeed" (by decide +kernel)).ox, T.fN ("BadDeed", "deed") (by decide +kernel), .inl ⟨e, fun dx n ne => q dx n ne⟩⟩
  · obtain ⟨oc, od, dV, kV, doc, pm, an, cdv, ct, osl, rfl, lk, hcd, hD, hK⟩ := F.ex
    rcases hD with ⟨_, rfl⟩ | ⟨e, _⟩
    · exact .of_eq rfl
    · exact absurd rfl e
theorem sc_Taken : FnScope ["self", "name"] ["self", "name"] (defScope (inClass (top 12) 0)) := ⟨rfl, rfl, rfl, by decide +kernel, rfl, by decide +kernel, by decide +kernel⟩
theorem ini_Taken {fI : Addr} {fd : FuncData} (T : Txt K mg) (hf : fI = He.ma K (He.ga K "Taken") "__init__") (F : FnP K "__init__" "Taken.__init__" (inClass (top 12) 0) fI fd) : Ini P w K mg base ("Taken", "name") := by
  subst hf
  refine ⟨fd, ?_, F.bindsN fun _ _ _ _ _ _ us hl => match us, hl with | [_, _], _ => rfl, fun s y u hK => ?_⟩
  · refine F.ok sc_Taken (fun vs H Q E h => ?_) (fun cdv A outer s H vs Q E hr h => ⟨_, PSs.nox (pss_one (ps_ost (pv 0) (pv 1))), ?_⟩)
    · obtain ⟨a, v, rfl, _⟩ := h
      rfl
    · obtain ⟨a, v, rfl, e, q⟩ := h
      exact ⟨v, rfl, .ref a, rfl, a, _, rfl, (T.c28 "Taken" (by decide +kernel)).ox, T.fN ("Taken", "name") (by decide +kernel), .inl ⟨e, fun dx n ne => q dx n ne⟩⟩
  · obtain ⟨oc, od, dV, kV, doc, pm, an, cdv, ct, osl, rfl, lk, hcd, hD, hK⟩ := F.ex
    rcases hD with ⟨_, rfl⟩ | ⟨e, _⟩
    · exact .of_eq rfl
    · exact absurd rfl e
theorem sc_Used : FnScope ["self", "cell"] ["self", "cell"] (defScope (inClass (top 13) 0)) := ⟨rfl, rfl, rfl, by decide +kernel, rfl, by decide +kernel, by decide +kernel⟩
theorem ini_Used {fI : Addr} {fd : FuncData} (T : Txt K mg) (hf : fI = He.ma K (He.ga K "Used") "__init__") (F : FnP K "__init__" "Used.__init__" (inClass (top 13) 0) fI fd) : Ini P w K mg base ("Used", "cell") := by
  subst hf
  refine ⟨fd, ?_, F.bindsN fun _ _ _ _ _ _ us hl => match us, hl with | [_, _], _ => rfl, fun s y u hK => ?_⟩
  · refine F.ok sc_Used (fun vs H Q E h => ?_) (fun cdv A outer s H vs Q E hr h => ⟨_, PSs.nox (pss_one (ps_ost (pv 0) (pv 1))), ?_⟩)
    · obtain ⟨a, v, rfl, _⟩ := h
      rfl
    · obtain ⟨a, v, rfl, e, q⟩ := h
      exact ⟨v, rfl, .ref a, rfl, a, _, rfl, (T.c28 "Used" (by decide +kernel)).ox, T.fN ("Used", "cell") (by decide +kernel), .inl ⟨e, fun dx n ne => q dx n ne⟩⟩
  · obtain ⟨oc, od, dV, kV, doc, pm, an, cdv, ct, osl, rfl, lk, hcd, hD, hK⟩ := F.ex
    rcases hD with ⟨_, rfl⟩ | ⟨e, _⟩
    · exact .of_eq rfl
    · exact absurd rfl e
theorem sc_Ringed : FnScope ["self", "ring"] ["self", "ring"] (defScope (inClass (top 16) 0)) := ⟨rfl, rfl, rfl, by decide +kernel, rfl, by decide +kernel, by decide +kernel⟩
theorem ini_Ringed {fI : Addr} {fd : FuncData} (T : Txt K mg) (hf : fI = He.ma K (He.ga K "Ringed") "__init__") (F : FnP K "__init__" "Ringed.__init__" (inClass (top 16) 0) fI fd) : Ini P w K mg base ("Ringed", "ring") := by
  subst hf
  refine ⟨fd, ?_, F.bindsN fun _ _ _ _ _ _ us hl => match us, hl with | [_, _], _ => rfl, fun s y u hK => ?_⟩
  · refine F.ok sc_Ringed (fun vs H Q E h => ?_) (fun cdv A outer s H vs Q E hr h => ⟨_, PSs.nox (pss_one (ps_ost (pv 0) (pv 1))), ?_⟩)
    · obtain ⟨a, v, rfl, _⟩ := h
      rfl
    · obtain ⟨a, v, rfl, e, q⟩ := h
      exact ⟨v, rfl, .ref a, rfl, a, _, rfl, (T.c28 "Ringed" (by decide +kernel)).ox, T.fN ("Ringed", "ring") (by decide +kernel), .inl ⟨e, fun dx n ne => q dx n ne⟩⟩
  · obtain ⟨oc, od, dV, kV, doc, pm, an, cdv, ct, osl, rfl, lk, hcd, hD, hK⟩ := F.ex
    rcases hD with ⟨_, rfl⟩ | ⟨e, _⟩
    · exact .of_eq rfl
    · exact absurd rfl e
theorem sc_TooFew : FnScope ["self", "number"] ["self", "number"] (defScope (inClass (top 17) 0)) := ⟨rfl, rfl, rfl, by decide +kernel, rfl, by decide +kernel, by decide +kernel⟩
theorem ini_TooFew {fI : Addr} {fd : FuncData} (T : Txt K mg) (hf : fI = He.ma K (He.ga K "TooFew") "__init__") (F : FnP K "__init__" "TooFew.__init__" (inClass (top 17) 0) fI fd) : Ini P w K mg base ("TooFew", "number") := by
  subst hf
  refine ⟨fd, ?_, F.bindsN fun _ _ _ _ _ _ us hl => match us, hl with | [_, _], _ => rfl, fun s y u hK => ?_⟩
  · refine F.ok sc_TooFew (fun vs H Q E h => ?_) (fun cdv A outer s H vs Q E hr h => ⟨_, PSs.nox (pss_one (ps_ost (pv 0) (pv 1))), ?_⟩)
    · obtain ⟨a, v, rfl, _⟩ := h
      rfl
    · obtain ⟨a, v, rfl, e, q⟩ := h
      exact ⟨v, rfl, .ref a, rfl, a, _, rfl, (T.c28 "TooFew" (by decide +kernel)).ox, T.fN ("TooFew", "number") (by decide +kernel), .inl ⟨e, fun dx n ne => q dx n ne⟩⟩
  · obtain ⟨oc, od, dV, kV, doc, pm, an, cdv, ct, osl, rfl, lk, hcd, hD, hK⟩ := F.ex
    rcases hD with ⟨_, rfl⟩ | ⟨e, _⟩
    · exact .of_eq rfl
    · exact absurd rfl e
theorem sc_MarkRing : FnScope ["self", "arrows"] ["self", "arrows"] (defScope (inClass (top 20) 0)) := ⟨rfl, rfl, rfl, by decide +kernel, rfl, by decide +kernel, by decide +kernel⟩
theorem ini_MarkRing {fI : Addr} {fd : FuncData} (T : Txt K mg) (hf : fI = He.ma K (He.ga K "MarkRing") "__init__") (F : FnP K "__init__" "MarkRing.__init__" (inClass (top 20) 0) fI fd) : Ini P w K mg base ("MarkRing", "arrows") := by
  subst hf
  refine ⟨fd, ?_, F.bindsN fun _ _ _ _ _ _ us hl => match us, hl with | [_, _], _ => rfl, fun s y u hK => ?_⟩
  · refine F.ok sc_MarkRing (fun vs H Q E h => ?_) (fun cdv A outer s H vs Q E hr h => ⟨_, PSs.nox (pss_one (ps_ost (pv 0) (pv 1))), ?_⟩)
    · obtain ⟨a, v, rfl, _⟩ := h
      rfl
    · obtain ⟨a, v, rfl, e, q⟩ := h
      exact ⟨v, rfl, .ref a, rfl, a, _, rfl, (T.c28 "MarkRing" (by decide +kernel)).ox, T.fN ("MarkRing", "arrows") (by decide +kernel), .inl ⟨e, fun dx n ne => q dx n ne⟩⟩
  · obtain ⟨oc, od, dV, kV, doc, pm, an, cdv, ct, osl, rfl, lk, hcd, hD, hK⟩ := F.ex
    rcases hD with ⟨_, rfl⟩ | ⟨e, _⟩
    · exact .of_eq rfl
    · exact absurd rfl e
theorem sc_NoSuch : FnScope ["self", "number"] ["self", "number"] (defScope (inClass (top 21) 0)) := ⟨rfl, rfl, rfl, by decide +kernel, rfl, by decide +kernel, by decide +kernel⟩
theorem ini_NoSuch {fI : Addr} {fd : FuncData} (T : Txt K mg) (hf : fI = He.ma K (He.ga K "NoSuch") "__init__") (F : FnP K "__init__" "NoSuch.__init__" (inClass (top 21) 0) fI fd) : Ini P w K mg base ("NoSuch", "number") := by
  subst hf
  refine ⟨fd, ?_, F.bindsN fun _ _ _ _ _ _ us hl => match us, hl with | [_, _], _ => rfl, fun s y u hK => ?_⟩
  · refine F.ok sc_NoSuch (fun vs H Q E h => ?_) (fun cdv A outer s H vs Q E hr h => ⟨_, PSs.nox (pss_one (ps_ost (pv 0) (pv 1))), ?_⟩)
    · obtain ⟨a, v, rfl, _⟩ := h
      rfl
    · obtain ⟨a, v, rfl, e, q⟩ := h
      exact ⟨v, rfl, .ref a, rfl, a, _, rfl, (T.c28 "NoSuch" (by decide +kernel)).ox, T.fN ("NoSuch", "number") (by decide +kernel), .inl ⟨e, fun dx n ne => q dx n ne⟩⟩
  · obtain ⟨oc, od, dV, kV, doc, pm, an, cdv, ct, osl, rfl, lk, hcd, hD, hK⟩ := F.ex
    rcases hD with ⟨_, rfl⟩ | ⟨e, _⟩
    · exact .of_eq rfl
    · exact absurd rfl e
theorem sc_BadActs : FnScope ["self", "index"] ["self", "index"] (defScope (inClass (top 24) 0)) := ⟨rfl, rfl, rfl, by decide +kernel, rfl, by decide +kernel, by decide +kernel⟩
theorem ini_BadActs {fI : Addr} {fd : FuncData} (T : Txt K mg) (hf : fI = He.ma K (He.ga K "BadActs") "__init__") (F : FnP K "__init__" "BadActs.__init__" (inClass (top 24) 0) fI fd) : Ini P w K mg base ("BadActs", "index") := by
  subst hf
  refine ⟨fd, ?_, F.bindsN fun _ _ _ _ _ _ us hl => match us, hl with | [_, _], _ => rfl, fun s y u hK => ?_⟩
  · refine F.ok sc_BadActs (fun vs H Q E h => ?_) (fun cdv A outer s H vs Q E hr h => ⟨_, PSs.nox (pss_one (ps_ost (pv 0) (pv 1))), ?_⟩)
    · obtain ⟨a, v, rfl, _⟩ := h
      rfl
    · obtain ⟨a, v, rfl, e, q⟩ := h
      exact ⟨v, rfl, .ref a, rfl, a, _, rfl, (T.c28 "BadActs" (by decide +kernel)).ox, T.fN ("BadActs", "index") (by decide +kernel), .inl ⟨e, fun dx n ne => q dx n ne⟩⟩
  · obtain ⟨oc, od, dV, kV, doc, pm, an, cdv, ct, osl, rfl, lk, hcd, hD, hK⟩ := F.ex
    rcases hD with ⟨_, rfl⟩ | ⟨e, _⟩
    · exact .of_eq rfl
    · exact absurd rfl e
theorem sc_NoLot : FnScope ["self", "index"] ["self", "index"] (defScope (inClass (top 25) 0)) := ⟨rfl, rfl, rfl, by decide +kernel, rfl, by decide +kernel, by decide +kernel⟩
theorem ini_NoLot {fI : Addr} {fd : FuncData} (T : Txt K mg) (hf : fI = He.ma K (He.ga K "NoLot") "__init__") (F : FnP K "__init__" "NoLot.__init__" (inClass (top 25) 0) fI fd) : Ini P w K mg base ("NoLot", "index") := by
  subst hf
  refine ⟨fd, ?_, F.bindsN fun _ _ _ _ _ _ us hl => match us, hl with | [_, _], _ => rfl, fun s y u hK => ?_⟩
  · refine F.ok sc_NoLot (fun vs H Q E h => ?_) (fun cdv A outer s H vs Q E hr h => ⟨_, PSs.nox (pss_one (ps_ost (pv 0) (pv 1))), ?_⟩)
    · obtain ⟨a, v, rfl, _⟩ := h
      rfl
    · obtain ⟨a, v, rfl, e, q⟩ := h
      exact ⟨v, rfl, .ref a, rfl, a, _, rfl, (T.c28 "NoLot" (by decide +kernel)).ox, T.fN ("NoLot", "index") (by decide +kernel), .inl ⟨e, fun dx n ne => q dx n ne⟩⟩
  · obtain ⟨oc, od, dV, kV, doc, pm, an, cdv, ct, osl, rfl, lk, hcd, hD, hK⟩ := F.ex
    rcases hD with ⟨_, rfl⟩ | ⟨e, _⟩
    · exact .of_eq rfl
    · exact absurd rfl e
theorem sc_BadArrow : FnScope ["self", "index"] ["self", "index"] (defScope (inClass (top 27) 0)) := ⟨rfl, rfl, rfl, by decide +kernel, rfl, by decide +kernel, by decide +kernel⟩
theorem ini_BadArrow {fI : Addr} {fd : FuncData} (T : Txt K mg) (hf : fI = He.ma K (He.ga K "BadArrow") "__init__") (F : FnP K "__init__" "BadArrow.__init__" (inClass (top 27) 0) fI fd) : Ini P w K mg base ("BadArrow", "index") := by
  subst hf
  refine ⟨fd, ?_, F.bindsN fun _ _ _ _ _ _ us hl => match us, hl with | [_, _], _ => rfl, fun s y u hK => ?_⟩
  · refine F.ok sc_BadArrow (fun vs H Q E h => ?_) (fun cdv A outer s H vs Q E hr h => ⟨_, PSs.nox (pss_one (ps_ost (pv 0) (pv 1))), ?_⟩)
    · obtain ⟨a, v, rfl, _⟩ := h
      rfl
    · obtain ⟨a, v, rfl, e, q⟩ := h
      exact ⟨v, rfl, .ref a, rfl, a, _, rfl, (T.c28 "BadArrow" (by decide +kernel)).ox, T.fN ("BadArrow", "index") (by decide +kernel), .inl ⟨e, fun dx n ne => q dx n ne⟩⟩
  · obtain ⟨oc, od, dV, kV, doc, pm, an, cdv, ct, osl, rfl, lk, hcd, hD, hK⟩ := F.ex
    rcases hD with ⟨_, rfl⟩ | ⟨e, _⟩
    · exact .of_eq rfl
    · exact absurd rfl e
theorem sc_BadText : FnScope ["self", "line"] ["self", "line"] (defScope (inClass (top 29) 0)) := ⟨rfl, rfl, rfl, by decide +kernel, rfl, by decide +kernel, by decide +kernel⟩
theorem ini_BadText {fI : Addr} {fd : FuncData} (T : Txt K mg) (hf : fI = He.ma K (He.ga K "BadText") "__init__") (F : FnP K "__init__" "BadText.__init__" (inClass (top 29) 0) fI fd) : Ini P w K mg base ("BadText", "line") := by
  subst hf
  refine ⟨fd, ?_, F.bindsN fun _ _ _ _ _ _ us hl => match us, hl with | [_, _], _ => rfl, fun s y u hK => ?_⟩
  · refine F.ok sc_BadText (fun vs H Q E h => ?_) (fun cdv A outer s H vs Q E hr h => ⟨_, PSs.nox (pss_one (ps_ost (pv 0) (pv 1))), ?_⟩)
    · obtain ⟨a, v, rfl, _⟩ := h
      rfl
    · obtain ⟨a, v, rfl, e, q⟩ := h
      exact ⟨v, rfl, .ref a, rfl, a, _, rfl, (T.c28 "BadText" (by decide +kernel)).ox, T.fN ("BadText", "line") (by decide +kernel), .inl ⟨e, fun dx n ne => q dx n ne⟩⟩
  · obtain ⟨oc, od, dV, kV, doc, pm, an, cdv, ct, osl, rfl, lk, hcd, hD, hK⟩ := F.ex
    rcases hD with ⟨_, rfl⟩ | ⟨e, _⟩
    · exact .of_eq rfl
    · exact absurd rfl e
theorem ini_all (c : He.SaysD fa fn K) (T : Txt K mg) : ∀ p ∈ cs20, Ini P w K mg base p := by
  intro p hp
  simp only [cs20, List.mem_cons, List.not_mem_nil, or_false] at hp
  rcases hp with rfl | rfl | rfl | rfl | rfl | rfl | rfl | rfl | rfl | rfl | rfl | rfl | rfl | rfl | rfl | rfl | rfl | rfl | rfl | rfl
  · obtain ⟨fd, F⟩ := c.def_ 11 (d := ini "BadWeb" "BadWeb.__init__" 2) rfl
    exact ini_BadWeb T rfl F
  · obtain ⟨fd, F⟩ := c.def_ 12 (d := ini "UnknownCell" "UnknownCell.__init__" 3) rfl
    exact ini_UnknownCell T rfl F
  · obtain ⟨fd, F⟩ := c.def_ 13 (d := ini "BadProgram" "BadProgram.__init__" 4) rfl
    exact ini_BadProgram T rfl F
  · obtain ⟨fd, F⟩ := c.def_ 14 (d := ini "BadNumber" "BadNumber.__init__" 5) rfl
    exact ini_BadNumber T rfl F
  · obtain ⟨fd, F⟩ := c.def_ 15 (d := ini "BadRules" "BadRules.__init__" 6) rfl
    exact ini_BadRules T rfl F
  · obtain ⟨fd, F⟩ := c.def_ 16 (d := ini "BadWorth" "BadWorth.__init__" 7) rfl
    exact ini_BadWorth T rfl F
  · obtain ⟨fd, F⟩ := c.def_ 17 (d := ini "BadName" "BadName.__init__" 8) rfl
    exact ini_BadName T rfl F
  · obtain ⟨fd, F⟩ := c.def_ 18 (d := ini "Held" "Held.__init__" 9) rfl
    exact ini_Held T rfl F
  · obtain ⟨fd, F⟩ := c.def_ 19 (d := ini "NotHeld" "NotHeld.__init__" 10) rfl
    exact ini_NotHeld T rfl F
  · obtain ⟨fd, F⟩ := c.def_ 20 (d := ini "BadDeed" "BadDeed.__init__" 11) rfl
    exact ini_BadDeed T rfl F
  · obtain ⟨fd, F⟩ := c.def_ 21 (d := ini "Taken" "Taken.__init__" 12) rfl
    exact ini_Taken T rfl F
  · obtain ⟨fd, F⟩ := c.def_ 22 (d := ini "Used" "Used.__init__" 13) rfl
    exact ini_Used T rfl F
  · obtain ⟨fd, F⟩ := c.def_ 23 (d := ini "Ringed" "Ringed.__init__" 16) rfl
    exact ini_Ringed T rfl F
  · obtain ⟨fd, F⟩ := c.def_ 24 (d := ini "TooFew" "TooFew.__init__" 17) rfl
    exact ini_TooFew T rfl F
  · obtain ⟨fd, F⟩ := c.def_ 25 (d := ini "MarkRing" "MarkRing.__init__" 20) rfl
    exact ini_MarkRing T rfl F
  · obtain ⟨fd, F⟩ := c.def_ 26 (d := ini "NoSuch" "NoSuch.__init__" 21) rfl
    exact ini_NoSuch T rfl F
  · obtain ⟨fd, F⟩ := c.def_ 27 (d := ini "BadActs" "BadActs.__init__" 24) rfl
    exact ini_BadActs T rfl F
  · obtain ⟨fd, F⟩ := c.def_ 28 (d := ini "NoLot" "NoLot.__init__" 25) rfl
    exact ini_NoLot T rfl F
  · obtain ⟨fd, F⟩ := c.def_ 29 (d := ini "BadArrow" "BadArrow.__init__" 27) rfl
    exact ini_BadArrow T rfl F
  · obtain ⟨fd, F⟩ := c.def_ 30 (d := ini "BadText" "BadText.__init__" 29) rfl
    exact ini_BadText T rfl F
end
end K1
end L2

set_option Elab.async false
set_option linter.all false
set_option maxRecDepth 100000
set_option maxHeartbeats 4000000
namespace L2
namespace K1
open PySem PySem.Spec PyProof.Rows
section
variable {P : Program} {w : World} {K : PySem.W.Frag} {mg : Str → Option Value} {base : Heap} {f : Addr} {fd : FuncData}
/-! ### steps -/
theorem pe_at {X : Cx} {p : Str × Str} (hp : p ∈ cs20) (T : Txt X.K X.mg) (I : Ini X.prog X.w X.K X.mg X.base p) (hr : Room 2 X.A) {y : Str} {q q1 pos : Pos} (hg : Gl X p.1) (ha : PE X (.Name y q1) (tVar 0))
    (hdb : (p.1 == ("__debug__" : Str)) = false) (he : starEach [Expr.Name y q1] X.env = (false, eval (.Name y q1) X.env) :: starEach [] X.env := by rfl) (hpl : (backTo pos (starEach [] X.env)).any (·.1) = false := by rfl) :
    PE X (.Call (.Name p.1 q) [.Name y q1] [] pos) (tNew (He.ga X.K p.1) p.2 (tCons (tVar 0) tNil)) := by
  obtain ⟨fd, F1, hb, _⟩ := I
  have m : p.1 ∈ cs28 := List.mem_append.mpr (.inl (List.mem_map.mpr ⟨p, hp, rfl⟩))
  exact pe_new (T.c28 _ m) (T.fI p hp) (T.fT p hp) F1 hr hb rfl hg (T.g28 _ m) (pa_cons ha pa_nil he) hdb he hpl
theorem pe_kw {X : Cx} {p : Str × Str} (hp : p ∈ cs20) (T : Txt X.K X.mg) (I : Ini X.prog X.w X.K X.mg X.base p) (hr : Room 2 X.A) {y : Str} {q q1 kpos pos : Pos} (hg : Gl X p.1) (ha : PE X (.Name y q1) (tVar 0))
    (hdb : (p.1 == ("__debug__" : Str)) = false) :
    PE X (.Call (.Name p.1 q) [] [⟨some p.2, .Name y q1, kpos⟩] pos) (tNew (He.ga X.K p.1) p.2 (tCons (tVar 0) tNil)) := by
  obtain ⟨fd, F1, _, hb⟩ := I
  have m : p.1 ∈ cs28 := List.mem_append.mpr (.inl (List.mem_map.mpr ⟨p, hp, rfl⟩))
  exact pe_newK (T.c28 _ m) (T.fI p hp) (T.fT p hp) F1 hr hb hg (T.g28 _ m) ha hdb
/-- all errors with a field -/
def spErrs (K : PySem.W.Frag) : Sp := fun vs H Q _ => ∃ x, vs = [x] ∧ ∀ H' l as, Same H H' → H' l = some (.lst (as.map .ref)) → ErrL K H' x cs20 as → Q (.ref l) H'
theorem st_first {ps : List (Str × Str)} (hl : ps.length ≤ 30) {D : Ends} {x : V} {H H0 : Hp} (s0 : Same H0 H)
    (h : ∀ H' l as, Same H0 H' → H' l = some (.lst (as.map .ref)) → ErrL K H' x ps as → D.nx [some x, some (.ref l)] H') : tAsg (tLst (tNews K ps)) (gName 1) D [some x, none] H := by
  refine ⟨x, rfl, fun H1 as s1 e1 => ⟨?_, fun l n => ?_⟩⟩
  · rw [List.length_map, e1.len, sizeLine_eq]
    omega
  · exact h _ l as ((s0.trans s1).trans (same_upd n)) upd_same (e1.same (same_upd n))
theorem st_more {ps qs : List (Str × Str)} (hl : qs.length + ps.length ≤ 30) {D : Ends} {x : V} {H H0 : Hp} {l : Addr} {as : List Addr} (s0 : Same H0 H) (el : H l = some (.lst (as.map .ref))) (ea : ErrL K H x qs as)
    (h : ∀ H' l as, Same H0 H' → H' l = some (.lst (as.map .ref)) → ErrL K H' x (qs ++ ps) as → D.nx [some x, some (.ref l)] H') : tAsg (tOp rCat (tVar 1) (tLst (tNews K ps))) (gName 1) D [some x, some (.ref l)] H := by
  refine ⟨_, rfl, x, rfl, fun H1 bs s1 e1 => ⟨?_, fun b n => ?_⟩⟩
  · rw [List.length_map, e1.len, sizeLine_eq]
    omega
  · refine ⟨l, b, as.map .ref, bs.map .ref, rfl, rfl, ?_, upd_same, ?_, fun p n2 => ?_⟩
    · rw [upd_ne (ne_of_none (s1 _ _ el) n)]
      exact s1 _ _ el
    · rw [List.length_map, List.length_map, e1.len, ea.len, sizeLine_eq]
      omega
    · have s3 : Same H1 (upd (upd H1 b (.lst (bs.map .ref))) p (.lst (as.map .ref ++ bs.map .ref))) := (same_upd n).trans (same_upd n2)
      have s2 := s1.trans s3
      refine h _ p (as ++ bs) (s0.trans s2) ?_ ((ea.same s2).app (e1.same s3))
      rw [upd_same, List.map_append]

theorem sc_law_by_place : FnScope ["_law_x", "_law_found"] ["_law_x"] (defScope (top 35)) := ⟨rfl, rfl, rfl, by decide +kernel, rfl, by decide +kernel, by decide +kernel⟩
theorem ok_law_by_place (T : Txt K mg) (I : ∀ p ∈ cs20, Ini P w K mg base p) (F : FnP K "_law_by_place" "_law_by_place" (top 35) f fd) : FnOk P w K mg base CX0 3 f fd ["_law_x"] (spErrs K) := by
  refine F.ok sc_law_by_place (fun vs H Q E h => ?_) (fun cdv A outer s H vs Q E hr h => ?_)
  · obtain ⟨x, rfl, _⟩ := h
    rfl
  · refine ⟨_, PSs.nox (pss_cons (ps_set (i := 1) sc_law_by_place.nd rfl (Or.inl rfl) (pe_lst (pa_news (pe_at (p := ("BadWeb", "index")) (by decide +kernel) T (I _ (by decide +kernel)) hr rfl (pv 0) (by decide +kernel)) (pa_news (pe_at (p := ("UnknownCell", "cell")) (by decide +kernel) T (I _ (by decide +kernel)) hr rfl (pv 0) (by decide +kernel)) (pa_news (pe_at (p := ("BadProgram", "index")) (by decide +kernel) T (I _ (by decide +kernel)) hr rfl (pv 0) (by decide +kernel)) (pa_news (pe_at (p := ("BadNumber", "number")) (by decide +kernel) T (I _ (by decide +kernel)) hr rfl (pv 0) (by decide +kernel)) (pa_news (pe_at (p := ("BadRules", "cell")) (by decide +kernel) T (I _ (by decide +kernel)) hr rfl (pv 0) (by decide +kernel)) (pa_news (pe_at (p := ("BadWorth", "cell")) (by decide +kernel) T (I _ (by decide +kernel)) hr rfl (pv 0) (by decide +kernel)) (pa_news (pe_at (p := ("BadName", "name")) (by decide +kernel) T (I _ (by decide +kernel)) hr rfl (pv 0) (by decide +kernel)) pa_news_nil)))))))))
      (pss_cons (ps_set (i := 1) sc_law_by_place.nd rfl (Or.inl rfl) (pe_op op_cat (pv 1) (pe_lst (pa_news (pe_at (p := ("Held", "name")) (by decide +kernel) T (I _ (by decide +kernel)) hr rfl (pv 0) (by decide +kernel)) (pa_news (pe_at (p := ("NotHeld", "name")) (by decide +kernel) T (I _ (by decide +kernel)) hr rfl (pv 0) (by decide +kernel)) (pa_news (pe_at (p := ("BadDeed", "deed")) (by decide +kernel) T (I _ (by decide +kernel)) hr rfl (pv 0) (by decide +kernel)) (pa_news (pe_at (p := ("Taken", "name")) (by decide +kernel) T (I _ (by decide +kernel)) hr rfl (pv 0) (by decide +kernel)) (pa_news (pe_at (p := ("Used", "cell")) (by decide +kernel) T (I _ (by decide +kernel)) hr rfl (pv 0) (by decide +kernel)) (pa_news (pe_at (p := ("Ringed", "ring")) (by decide +kernel) T (I _ (by decide +kernel)) hr rfl (pv 0) (by decide +kernel)) (pa_news (pe_at (p := ("TooFew", "number")) (by decide +kernel) T (I _ (by decide +kernel)) hr rfl (pv 0) (by decide +kernel)) (pa_news (pe_at (p := ("MarkRing", "arrows")) (by decide +kernel) T (I _ (by decide +kernel)) hr rfl (pv 0) (by decide +kernel)) pa_news_nil)))))))))))
      (pss_cons (ps_set (i := 1) sc_law_by_place.nd rfl (Or.inl rfl) (pe_op op_cat (pv 1) (pe_lst (pa_news (pe_at (p := ("NoSuch", "number")) (by decide +kernel) T (I _ (by decide +kernel)) hr rfl (pv 0) (by decide +kernel)) (pa_news (pe_at (p := ("BadActs", "index")) (by decide +kernel) T (I _ (by decide +kernel)) hr rfl (pv 0) (by decide +kernel)) (pa_news (pe_at (p := ("NoLot", "index")) (by decide +kernel) T (I _ (by decide +kernel)) hr rfl (pv 0) (by decide +kernel)) (pa_news (pe_at (p := ("BadArrow", "index")) (by decide +kernel) T (I _ (by decide +kernel)) hr rfl (pv 0) (by decide +kernel)) (pa_news (pe_at (p := ("BadText", "line")) (by decide +kernel) T (I _ (by decide +kernel)) hr rfl (pv 0) (by decide +kernel)) pa_news_nil))))))))
      (pss_one (ps_ret (pv 1)))))), ?_⟩
    obtain ⟨x, rfl, q⟩ := h
    refine st_first (by decide) (Same.refl H) fun H1 l1 as1 s1 e1 k1 => ?_
    refine st_more (by decide) s1 e1 k1 fun H2 l2 as2 s2 e2 k2 => ?_
    refine st_more (by decide) s2 e2 k2 fun H3 l3 as3 s3 e3 k3 => ?_
    exact ⟨_, rfl, q H3 l3 as3 s3 e3 k3⟩

theorem sc_law_by_name : FnScope ["_law_x", "_law_found"] ["_law_x"] (defScope (top 36)) := ⟨rfl, rfl, rfl, by decide +kernel, rfl, by decide +kernel, by decide +kernel⟩
theorem ok_law_by_name (T : Txt K mg) (I : ∀ p ∈ cs20, Ini P w K mg base p) (F : FnP K "_law_by_name" "_law_by_name" (top 36) f fd) : FnOk P w K mg base CX0 3 f fd ["_law_x"] (spErrs K) := by
  refine F.ok sc_law_by_name (fun vs H Q E h => ?_) (fun cdv A outer s H vs Q E hr h => ?_)
  · obtain ⟨x, rfl, _⟩ := h
    rfl
  · refine ⟨_, PSs.nox (pss_cons (ps_set (i := 1) sc_law_by_name.nd rfl (Or.inl rfl) (pe_lst (pa_news (pe_kw (p := ("BadWeb", "index")) (by decide +kernel) T (I _ (by decide +kernel)) hr rfl (pv 0) (by decide +kernel)) (pa_news (pe_kw (p := ("UnknownCell", "cell")) (by decide +kernel) T (I _ (by decide +kernel)) hr rfl (pv 0) (by decide +kernel)) (pa_news (pe_kw (p := ("BadProgram", "index")) (by decide +kernel) T (I _ (by decide +kernel)) hr rfl (pv 0) (by decide +kernel)) (pa_news (pe_kw (p := ("BadNumber", "number")) (by decide +kernel) T (I _ (by decide +kernel)) hr rfl (pv 0) (by decide +kernel)) pa_news_nil))))))
      (pss_cons (ps_set (i := 1) sc_law_by_name.nd rfl (Or.inl rfl) (pe_op op_cat (pv 1) (pe_lst (pa_news (pe_kw (p := ("BadRules", "cell")) (by decide +kernel) T (I _ (by decide +kernel)) hr rfl (pv 0) (by decide +kernel)) (pa_news (pe_kw (p := ("BadWorth", "cell")) (by decide +kernel) T (I _ (by decide +kernel)) hr rfl (pv 0) (by decide +kernel)) (pa_news (pe_kw (p := ("BadName", "name")) (by decide +kernel) T (I _ (by decide +kernel)) hr rfl (pv 0) (by decide +kernel)) (pa_news (pe_kw (p := ("Held", "name")) (by decide +kernel) T (I _ (by decide +kernel)) hr rfl (pv 0) (by decide +kernel)) (pa_news (pe_kw (p := ("NotHeld", "name")) (by decide +kernel) T (I _ (by decide +kernel)) hr rfl (pv 0) (by decide +kernel)) pa_news_nil))))))))
      (pss_cons (ps_set (i := 1) sc_law_by_name.nd rfl (Or.inl rfl) (pe_op op_cat (pv 1) (pe_lst (pa_news (pe_kw (p := ("BadDeed", "deed")) (by decide +kernel) T (I _ (by decide +kernel)) hr rfl (pv 0) (by decide +kernel)) (pa_news (pe_kw (p := ("Taken", "name")) (by decide +kernel) T (I _ (by decide +kernel)) hr rfl (pv 0) (by decide +kernel)) (pa_news (pe_kw (p := ("Used", "cell")) (by decide +kernel) T (I _ (by decide +kernel)) hr rfl (pv 0) (by decide +kernel)) (pa_news (pe_kw (p := ("Ringed", "ring")) (by decide +kernel) T (I _ (by decide +kernel)) hr rfl (pv 0) (by decide +kernel)) (pa_news (pe_kw (p := ("TooFew", "number")) (by decide +kernel) T (I _ (by decide +kernel)) hr rfl (pv 0) (by decide +kernel)) pa_news_nil))))))))
      (pss_cons (ps_set (i := 1) sc_law_by_name.nd rfl (Or.inl rfl) (pe_op op_cat (pv 1) (pe_lst (pa_news (pe_kw (p := ("MarkRing", "arrows")) (by decide +kernel) T (I _ (by decide +kernel)) hr rfl (pv 0) (by decide +kernel)) (pa_news (pe_kw (p := ("NoSuch", "number")) (by decide +kernel) T (I _ (by decide +kernel)) hr rfl (pv 0) (by decide +kernel)) (pa_news (pe_kw (p := ("BadActs", "index")) (by decide +kernel) T (I _ (by decide +kernel)) hr rfl (pv 0) (by decide +kernel)) (pa_news (pe_kw (p := ("NoLot", "index")) (by decide +kernel) T (I _ (by decide +kernel)) hr rfl (pv 0) (by decide +kernel)) (pa_news (pe_kw (p := ("BadArrow", "index")) (by decide +kernel) T (I _ (by decide +kernel)) hr rfl (pv 0) (by decide +kernel)) pa_news_nil))))))))
      (pss_cons (ps_set (i := 1) sc_law_by_name.nd rfl (Or.inl rfl) (pe_op op_cat (pv 1) (pe_lst (pa_news (pe_kw (p := ("BadText", "line")) (by decide +kernel) T (I _ (by decide +kernel)) hr rfl (pv 0) (by decide +kernel)) pa_news_nil))))
      (pss_one (ps_ret (pv 1)))))))), ?_⟩
    obtain ⟨x, rfl, q⟩ := h
    refine st_first (by decide) (Same.refl H) fun H1 l1 as1 s1 e1 k1 => ?_
    refine st_more (by decide) s1 e1 k1 fun H2 l2 as2 s2 e2 k2 => ?_
    refine st_more (by decide) s2 e2 k2 fun H3 l3 as3 s3 e3 k3 => ?_
    refine st_more (by decide) s3 e3 k3 fun H4 l4 as4 s4 e4 k4 => ?_
    refine st_more (by decide) s4 e4 k4 fun H5 l5 as5 s5 e5 k5 => ?_
    exact ⟨_, rfl, q H5 l5 as5 s5 e5 k5⟩

end
end K1
end L2

set_option Elab.async false
set_option linter.all false
set_option maxRecDepth 100000
set_option maxHeartbeats 4000000
namespace L2
namespace K1
open PySem PySem.Spec PyProof.Rows
section
variable {P : Program} {w : World} {K : PySem.W.Frag} {mg : Str → Option Value} {base : Heap} {f : Addr} {fd : FuncData}
/-! ### _law_held -/
def spHeld (K : PySem.W.Frag) : Sp := fun vs H Q _ => ∃ l as v, vs = [.ref l] ∧ H l = some (.lst (as.map .ref)) ∧ ErrL K H v cs20 as ∧ ∀ H' p, Same H H' → H' p = some (.lst (List.replicate 20 v)) → Q (.ref p) H'
theorem hd_first {n : Nat} (hn : n ≤ 30) {D : Ends} {l : Addr} {as : List Addr} {v : V} {H : Hp} (el : H l = some (.lst (as.map .ref))) (ea : ErrL K H v cs20 as)
    (h : ∀ H' p, Same H H' → H' p = some (.lst (List.replicate n v)) → D.nx [some (.ref l), some (.ref p)] H') : tAsg (tLst (tHeld K cs20 n)) (gName 1) D [some (.ref l), none] H := by
  refine ⟨l, as, v, rfl, el, ea, ?_, fun p np => ?_⟩
  · rw [List.length_replicate, sizeLine_eq]
    omega
  · exact h _ p (same_upd np) upd_same
theorem hd_more {n m : Nat} (hn : n + m ≤ 30) {D : Ends} {l : Addr} {as : List Addr} {v : V} {H0 H : Hp} {q : Addr} (s0 : Same H0 H) (el : H0 l = some (.lst (as.map .ref))) (ea : ErrL K H0 v cs20 as) (eq : H q = some (.lst (List.replicate n v)))
    (h : ∀ H' p, Same H0 H' → H' p = some (.lst (List.replicate (n + m) v)) → D.nx [some (.ref l), some (.ref p)] H') : tAsg (tOp rCat (tVar 1) (tLst (tHeld K cs20 m))) (gName 1) D [some (.ref l), some (.ref q)] H := by
  refine ⟨_, rfl, l, as, v, rfl, s0 _ _ el, ea.same s0, ?_, fun b nb => ?_⟩
  · rw [List.length_replicate, sizeLine_eq]
    omega
  · refine ⟨q, b, List.replicate n v, List.replicate m v, rfl, rfl, ?_, upd_same, ?_, fun p np => ?_⟩
    · rw [upd_ne (ne_of_none eq nb)]
      exact eq
    · rw [List.length_replicate, List.length_replicate, sizeLine_eq]
      omega
    · refine h _ p ((s0.trans (same_upd nb)).trans (same_upd np)) ?_
      rw [upd_same, List.replicate_append_replicate]
theorem pe_ef {X : Cx} {p : Str × Str} {i : Nat} {y : Str} {q1 q2 q3 q4 : Pos} {j : Nat} (hy : PE X (.Name y q1) (tVar 0)) :
    PE X (.Attribute (.Subscript (.Name y q1) (.Constant (.int (i : Nat)) j q2) q3) p.2 q4) (tFldX X.K p.2 (tOp (rIxL X.K) (tVar 0) (tC (.int (i : Nat))))) := pe_fldX (pe_ix ix_list hy pe_int fun _ _ => rfl)

theorem sc_law_held : FnScope ["_law_e", "_law_found"] ["_law_e"] (defScope (top 37)) := ⟨rfl, rfl, rfl, by decide +kernel, rfl, by decide +kernel, by decide +kernel⟩
theorem ok_law_held (T : Txt K mg) (F : FnP K "_law_held" "_law_held" (top 37) f fd) : FnOk P w K mg base CX0 1 f fd ["_law_e"] (spHeld K) := by
  refine F.ok sc_law_held (fun vs H Q E h => ?_) (fun cdv A outer s H vs Q E hr h => ?_)
  · obtain ⟨l, as, v, rfl, _⟩ := h
    rfl
  · refine ⟨_, PSs.nox (pss_cons (ps_set (i := 1) sc_law_held.nd rfl (Or.inl rfl) (pe_lst (pa_held 0 (p := ("BadWeb", "index")) rfl (T.c28 "BadWeb" (by decide +kernel)) (T.fN ("BadWeb", "index") (by decide +kernel)) (pe_ef (p := ("BadWeb", "index")) (i := 0) (pv 0)) (pa_held 1 (p := ("UnknownCell", "cell")) rfl (T.c28 "UnknownCell" (by decide +kernel)) (T.fN ("UnknownCell", "cell") (by decide +kernel)) (pe_ef (p := ("UnknownCell", "cell")) (i := 1) (pv 0)) (pa_held 2 (p := ("BadProgram", "index")) rfl (T.c28 "BadProgram" (by decide +kernel)) (T.fN ("BadProgram", "index") (by decide +kernel)) (pe_ef (p := ("BadProgram", "index")) (i := 2) (pv 0)) (pa_held 3 (p := ("BadNumber", "number")) rfl (T.c28 "BadNumber" (by decide +kernel)) (T.fN ("BadNumber", "number") (by decide +kernel)) (pe_ef (p := ("BadNumber", "number")) (i := 3) (pv 0)) (pa_held 4 (p := ("BadRules", "cell")) rfl (T.c28 "BadRules" (by decide +kernel)) (T.fN ("BadRules", "cell") (by decide +kernel)) (pe_ef (p := ("BadRules", "cell")) (i := 4) (pv 0)) (pa_held 5 (p := ("BadWorth", "cell")) rfl (T.c28 "BadWorth" (by decide +kernel)) (T.fN ("BadWorth", "cell") (by decide +kernel)) (pe_ef (p := ("BadWorth", "cell")) (i := 5) (pv 0)) (pa_held 6 (p := ("BadName", "name")) rfl (T.c28 "BadName" (by decide +kernel)) (T.fN ("BadName", "name") (by decide +kernel)) (pe_ef (p := ("BadName", "name")) (i := 6) (pv 0)) (pa_held 7 (p := ("Held", "name")) rfl (T.c28 "Held" (by decide +kernel)) (T.fN ("Held", "name") (by decide +kernel)) (pe_ef (p := ("Held", "name")) (i := 7) (pv 0)) (pa_held_nil (cs := cs20))))))))))))
      (pss_cons (ps_set (i := 1) sc_law_held.nd rfl (Or.inl rfl) (pe_op op_cat (pv 1) (pe_lst (pa_held 8 (p := ("NotHeld", "name")) rfl (T.c28 "NotHeld" (by decide +kernel)) (T.fN ("NotHeld", "name") (by decide +kernel)) (pe_ef (p := ("NotHeld", "name")) (i := 8) (pv 0)) (pa_held 9 (p := ("BadDeed", "deed")) rfl (T.c28 "BadDeed" (by decide +kernel)) (T.fN ("BadDeed", "deed") (by decide +kernel)) (pe_ef (p := ("BadDeed", "deed")) (i := 9) (pv 0)) (pa_held 10 (p := ("Taken", "name")) rfl (T.c28 "Taken" (by decide +kernel)) (T.fN ("Taken", "name") (by decide +kernel)) (pe_ef (p := ("Taken", "name")) (i := 10) (pv 0)) (pa_held 11 (p := ("Used", "cell")) rfl (T.c28 "Used" (by decide +kernel)) (T.fN ("Used", "cell") (by decide +kernel)) (pe_ef (p := ("Used", "cell")) (i := 11) (pv 0)) (pa_held 12 (p := ("Ringed", "ring")) rfl (T.c28 "Ringed" (by decide +kernel)) (T.fN ("Ringed", "ring") (by decide +kernel)) (pe_ef (p := ("Ringed", "ring")) (i := 12) (pv 0)) (pa_held 13 (p := ("TooFew", "number")) rfl (T.c28 "TooFew" (by decide +kernel)) (T.fN ("TooFew", "number") (by decide +kernel)) (pe_ef (p := ("TooFew", "number")) (i := 13) (pv 0)) (pa_held 14 (p := ("MarkRing", "arrows")) rfl (T.c28 "MarkRing" (by decide +kernel)) (T.fN ("MarkRing", "arrows") (by decide +kernel)) (pe_ef (p := ("MarkRing", "arrows")) (i := 14) (pv 0)) (pa_held_nil (cs := cs20))))))))))))
      (pss_cons (ps_set (i := 1) sc_law_held.nd rfl (Or.inl rfl) (pe_op op_cat (pv 1) (pe_lst (pa_held 15 (p := ("NoSuch", "number")) rfl (T.c28 "NoSuch" (by decide +kernel)) (T.fN ("NoSuch", "number") (by decide +kernel)) (pe_ef (p := ("NoSuch", "number")) (i := 15) (pv 0)) (pa_held 16 (p := ("BadActs", "index")) rfl (T.c28 "BadActs" (by decide +kernel)) (T.fN ("BadActs", "index") (by decide +kernel)) (pe_ef (p := ("BadActs", "index")) (i := 16) (pv 0)) (pa_held 17 (p := ("NoLot", "index")) rfl (T.c28 "NoLot" (by decide +kernel)) (T.fN ("NoLot", "index") (by decide +kernel)) (pe_ef (p := ("NoLot", "index")) (i := 17) (pv 0)) (pa_held 18 (p := ("BadArrow", "index")) rfl (T.c28 "BadArrow" (by decide +kernel)) (T.fN ("BadArrow", "index") (by decide +kernel)) (pe_ef (p := ("BadArrow", "index")) (i := 18) (pv 0)) (pa_held 19 (p := ("BadText", "line")) rfl (T.c28 "BadText" (by decide +kernel)) (T.fN ("BadText", "line") (by decide +kernel)) (pe_ef (p := ("BadText", "line")) (i := 19) (pv 0)) (pa_held_nil (cs := cs20))))))))))
      (pss_one (ps_ret (pv 1)))))), ?_⟩
    obtain ⟨l, as, v, rfl, el, ea, q⟩ := h
    refine hd_first (by decide) el ea fun H1 p1 s1 e1 => ?_
    refine hd_more (by decide) s1 el ea e1 fun H2 p2 s2 e2 => ?_
    refine hd_more (by decide) s2 el ea e2 fun H3 p3 s3 e3 => ?_
    exact ⟨_, rfl, q H3 p3 s3 e3⟩
/-! ### _law_others -/
def spOthers (K : PySem.W.Frag) : Sp := fun vs H Q _ => vs = [] ∧ ∀ H' l as, Same H H' → H' l = some (.lst (as.map .ref)) → ErrN K H' cs8 as → Q (.ref l) H'

theorem sc_law_others : FnScope ["_law_found"] [] (defScope (top 38)) := ⟨rfl, rfl, rfl, by decide +kernel, rfl, by decide +kernel, by decide +kernel⟩
theorem ok_law_others (T : Txt K mg) (F : FnP K "_law_others" "_law_others" (top 38) f fd) : FnOk P w K mg base CX0 1 f fd [] (spOthers K) := by
  refine F.ok sc_law_others (fun vs H Q E h => ?_) (fun cdv A outer s H vs Q E hr h => ?_)
  · obtain ⟨rfl, _⟩ := h
    rfl
  · refine ⟨_, PSs.nox (pss_cons (ps_set (i := 0) sc_law_others.nd rfl (Or.inl rfl) (pe_lst (pa_new0s (x := "NoDeed") (pe_new0 (T.q8 "NoDeed" (by decide +kernel)) (T.g28 "NoDeed" (by decide +kernel)) (T.c28 "NoDeed" (by decide +kernel)).ox.kC rfl) (pa_new0s (x := "BadTable") (pe_new0 (T.q8 "BadTable" (by decide +kernel)) (T.g28 "BadTable" (by decide +kernel)) (T.c28 "BadTable" (by decide +kernel)).ox.kC rfl) (pa_new0s (x := "NotSweep") (pe_new0 (T.q8 "NotSweep" (by decide +kernel)) (T.g28 "NotSweep" (by decide +kernel)) (T.c28 "NotSweep" (by decide +kernel)).ox.kC rfl) (pa_new0s (x := "BadMarks") (pe_new0 (T.q8 "BadMarks" (by decide +kernel)) (T.g28 "BadMarks" (by decide +kernel)) (T.c28 "BadMarks" (by decide +kernel)).ox.kC rfl) (pa_new0s (x := "Unlike") (pe_new0 (T.q8 "Unlike" (by decide +kernel)) (T.g28 "Unlike" (by decide +kernel)) (T.c28 "Unlike" (by decide +kernel)).ox.kC rfl) (pa_new0s (x := "BadCells") (pe_new0 (T.q8 "BadCells" (by decide +kernel)) (T.g28 "BadCells" (by decide +kernel)) (T.c28 "BadCells" (by decide +kernel)).ox.kC rfl) (pa_new0s (x := "BadPiece") (pe_new0 (T.q8 "BadPiece" (by decide +kernel)) (T.g28 "BadPiece" (by decide +kernel)) (T.c28 "BadPiece" (by decide +kernel)).ox.kC rfl) (pa_new0s (x := "BadWave") (pe_new0 (T.q8 "BadWave" (by decide +kernel)) (T.g28 "BadWave" (by decide +kernel)) (T.c28 "BadWave" (by decide +kernel)).ox.kC rfl) pa_new0s_nil))))))))))
      (pss_one (ps_ret (pv 0)))), ?_⟩
    obtain ⟨rfl, q⟩ := h
    refine fun H1 as s1 e1 => ⟨?_, fun l nl => ?_⟩
    · rw [List.length_map, e1.len, sizeLine_eq]
      decide
    · exact ⟨_, rfl, q _ l as (s1.trans (same_upd nl)) upd_same (e1.same (same_upd nl))⟩
/-! ### _law_classes -/
def spClasses (K : PySem.W.Frag) : Sp := fun vs H Q _ => ∃ (a D : Addr) (fs : List (Str × V)) (b : Str → Bool), vs = [.ref a] ∧ ErrAt H D fs a ∧ XC K D ∧ (∀ y ∈ cs28, PySem.W.kitOne K (.ref D) (.ref (He.ga K y)) = some (b y)) ∧ ∀ H' p, Same H H' → H' p = some (.lst (cs28.map fun y => .bl (b y))) → Q (.ref p) H'
theorem ck_first {xs : List Str} (hn : xs.length ≤ 30) (hx : ∀ y ∈ xs, y ∈ cs28) {D : Ends} {a C : Addr} {fs : List (Str × V)} {b : Str → Bool} {H : Hp} (ea : ErrAt H C fs a) (T : XC K C) (hk : ∀ y ∈ cs28, PySem.W.kitOne K (.ref C) (.ref (He.ga K y)) = some (b y))
    (h : ∀ H' p, Same H H' → H' p = some (.lst (xs.map fun y => .bl (b y))) → D.nx [some (.ref a), some (.ref p)] H') : tAsg (tLst (tLooks K b xs)) (gName 1) D [some (.ref a), none] H := by
  refine ⟨a, C, fs, rfl, ea, T, fun y hy => hk y (hx y hy), ?_, fun p np => ?_⟩
  · rw [List.length_map, sizeLine_eq]
    omega
  · exact h _ p (same_upd np) upd_same
theorem ck_more {xs ys : List Str} (hn : ys.length + xs.length ≤ 30) (hx : ∀ y ∈ xs, y ∈ cs28) {D : Ends} {a C : Addr} {fs : List (Str × V)} {b : Str → Bool} {H0 H : Hp} {q : Addr} (s0 : Same H0 H) (ea : ErrAt H0 C fs a) (T : XC K C) (hk : ∀ y ∈ cs28, PySem.W.kitOne K (.ref C) (.ref (He.ga K y)) = some (b y))
    (eq : H q = some (.lst (ys.map fun y => .bl (b y)))) (h : ∀ H' p, Same H0 H' → H' p = some (.lst ((ys ++ xs).map fun y => .bl (b y))) → D.nx [some (.ref a), some (.ref p)] H') :
    tAsg (tOp rCat (tVar 1) (tLst (tLooks K b xs))) (gName 1) D [some (.ref a), some (.ref q)] H := by
  refine ⟨_, rfl, a, C, fs, rfl, ea.same s0, T, fun y hy => hk y (hx y hy), ?_, fun c nc => ?_⟩
  · rw [List.length_map, sizeLine_eq]
    omega
  · refine ⟨q, c, ys.map fun y => .bl (b y), xs.map fun y => .bl (b y), rfl, rfl, ?_, upd_same, ?_, fun p np => ?_⟩
    · rw [upd_ne (ne_of_none eq nc)]
      exact eq
    · rw [List.length_map, List.length_map, sizeLine_eq]
      omega
    · refine h _ p ((s0.trans (same_upd nc)).trans (same_upd np)) ?_
      rw [upd_same, List.map_append]
theorem pe_look {X : Cx} {x : Str} (hx : x ∈ cs28) (T : Txt X.K X.mg) {y : Str} {q0 q1 q2 pos : Pos} (hg : Gl X "isinstance") (hgx : Gl X x) (hy : PE X (.Name y q1) (tVar 0)) (hdb : (x == ("__debug__" : Str)) = false)
    (he : starEach [Expr.Name y q1, .Name x q2] X.env = (false, eval (.Name y q1) X.env) :: starEach [Expr.Name x q2] X.env := by rfl) (he2 : starEach [Expr.Name x q2] X.env = (false, eval (.Name x q2) X.env) :: starEach [] X.env := by rfl) :
    PE X (.Call (.Name "isinstance" q0) [.Name y q1, .Name x q2] [] pos) (tCB (rIsX X.K) (tCons (tVar 0) (tCons (tC (.ref (He.ga X.K x))) tNil))) :=
  pe_callB call_isX hg T.isi boot_isinstance (pa_cons hy (pa_cons (pe_glob hgx (T.g28 x hx) rfl hdb) pa_nil he2) he)

theorem sc_law_classes : FnScope ["_law_e", "_law_found"] ["_law_e"] (defScope (top 39)) := ⟨rfl, rfl, rfl, by decide +kernel, rfl, by decide +kernel, by decide +kernel⟩
theorem ok_law_classes (T : Txt K mg) (F : FnP K "_law_classes" "_law_classes" (top 39) f fd) : FnOk P w K mg base CX0 1 f fd ["_law_e"] (spClasses K) := by
  refine F.ok sc_law_classes (fun vs H Q E h => ?_) (fun cdv A outer s H vs Q E hr h => ?_)
  · obtain ⟨a, D, fs, b, rfl, _⟩ := h
    rfl
  · obtain ⟨a, D, fs, b, rfl, ea, TD, hk, q⟩ := h
    refine ⟨_, PSs.nox (pss_cons (ps_set (i := 1) sc_law_classes.nd rfl (Or.inl rfl) (pe_lst (pa_looks (x := "BadWeb") (pe_look (by decide +kernel) T rfl rfl (pv 0) (by decide +kernel)) (pa_looks (x := "UnknownCell") (pe_look (by decide +kernel) T rfl rfl (pv 0) (by decide +kernel)) (pa_looks (x := "BadProgram") (pe_look (by decide +kernel) T rfl rfl (pv 0) (by decide +kernel)) (pa_looks_nil (b := b)))))))
      (pss_cons (ps_set (i := 1) sc_law_classes.nd rfl (Or.inl rfl) (pe_op op_cat (pv 1) (pe_lst (pa_looks (x := "BadNumber") (pe_look (by decide +kernel) T rfl rfl (pv 0) (by decide +kernel)) (pa_looks (x := "BadRules") (pe_look (by decide +kernel) T rfl rfl (pv 0) (by decide +kernel)) (pa_looks (x := "BadWorth") (pe_look (by decide +kernel) T rfl rfl (pv 0) (by decide +kernel)) (pa_looks_nil (b := b))))))))
      (pss_cons (ps_set (i := 1) sc_law_classes.nd rfl (Or.inl rfl) (pe_op op_cat (pv 1) (pe_lst (pa_looks (x := "BadName") (pe_look (by decide +kernel) T rfl rfl (pv 0) (by decide +kernel)) (pa_looks (x := "Held") (pe_look (by decide +kernel) T rfl rfl (pv 0) (by decide +kernel)) (pa_looks (x := "NotHeld") (pe_look (by decide +kernel) T rfl rfl (pv 0) (by decide +kernel)) (pa_looks (x := "BadDeed") (pe_look (by decide +kernel) T rfl rfl (pv 0) (by decide +kernel)) (pa_looks_nil (b := b)))))))))
      (pss_cons (ps_set (i := 1) sc_law_classes.nd rfl (Or.inl rfl) (pe_op op_cat (pv 1) (pe_lst (pa_looks (x := "Taken") (pe_look (by decide +kernel) T rfl rfl (pv 0) (by decide +kernel)) (pa_looks (x := "Used") (pe_look (by decide +kernel) T rfl rfl (pv 0) (by decide +kernel)) (pa_looks (x := "Ringed") (pe_look (by decide +kernel) T rfl rfl (pv 0) (by decide +kernel)) (pa_looks (x := "TooFew") (pe_look (by decide +kernel) T rfl rfl (pv 0) (by decide +kernel)) (pa_looks_nil (b := b)))))))))
      (pss_cons (ps_set (i := 1) sc_law_classes.nd rfl (Or.inl rfl) (pe_op op_cat (pv 1) (pe_lst (pa_looks (x := "MarkRing") (pe_look (by decide +kernel) T rfl rfl (pv 0) (by decide +kernel)) (pa_looks (x := "NoSuch") (pe_look (by decide +kernel) T rfl rfl (pv 0) (by decide +kernel)) (pa_looks (x := "BadActs") (pe_look (by decide +kernel) T rfl rfl (pv 0) (by decide +kernel)) (pa_looks (x := "NoLot") (pe_look (by decide +kernel) T rfl rfl (pv 0) (by decide +kernel)) (pa_looks_nil (b := b)))))))))
      (pss_cons (ps_set (i := 1) sc_law_classes.nd rfl (Or.inl rfl) (pe_op op_cat (pv 1) (pe_lst (pa_looks (x := "BadArrow") (pe_look (by decide +kernel) T rfl rfl (pv 0) (by decide +kernel)) (pa_looks (x := "BadText") (pe_look (by decide +kernel) T rfl rfl (pv 0) (by decide +kernel)) (pa_looks (x := "NoDeed") (pe_look (by decide +kernel) T rfl rfl (pv 0) (by decide +kernel)) (pa_looks_nil (b := b))))))))
      (pss_cons (ps_set (i := 1) sc_law_classes.nd rfl (Or.inl rfl) (pe_op op_cat (pv 1) (pe_lst (pa_looks (x := "BadTable") (pe_look (by decide +kernel) T rfl rfl (pv 0) (by decide +kernel)) (pa_looks (x := "NotSweep") (pe_look (by decide +kernel) T rfl rfl (pv 0) (by decide +kernel)) (pa_looks (x := "BadMarks") (pe_look (by decide +kernel) T rfl rfl (pv 0) (by decide +kernel)) (pa_looks_nil (b := b))))))))
      (pss_cons (ps_set (i := 1) sc_law_classes.nd rfl (Or.inl rfl) (pe_op op_cat (pv 1) (pe_lst (pa_looks (x := "Unlike") (pe_look (by decide +kernel) T rfl rfl (pv 0) (by decide +kernel)) (pa_looks (x := "BadCells") (pe_look (by decide +kernel) T rfl rfl (pv 0) (by decide +kernel)) (pa_looks (x := "BadPiece") (pe_look (by decide +kernel) T rfl rfl (pv 0) (by decide +kernel)) (pa_looks_nil (b := b))))))))
      (pss_cons (ps_set (i := 1) sc_law_classes.nd rfl (Or.inl rfl) (pe_op op_cat (pv 1) (pe_lst (pa_looks (x := "BadWave") (pe_look (by decide +kernel) T rfl rfl (pv 0) (by decide +kernel)) (pa_looks_nil (b := b))))))
      (pss_one (ps_ret (pv 1)))))))))))), ?_⟩
    refine ck_first (by decide) (by decide +kernel) ea TD hk fun H1 p1 s1 e1 => ?_
    refine ck_more (by decide) (by decide +kernel) s1 ea TD hk e1 fun H2 p2 s2 e2 => ?_
    refine ck_more (by decide) (by decide +kernel) s2 ea TD hk e2 fun H3 p3 s3 e3 => ?_
    refine ck_more (by decide) (by decide +kernel) s3 ea TD hk e3 fun H4 p4 s4 e4 => ?_
    refine ck_more (by decide) (by decide +kernel) s4 ea TD hk e4 fun H5 p5 s5 e5 => ?_
    refine ck_more (by decide) (by decide +kernel) s5 ea TD hk e5 fun H6 p6 s6 e6 => ?_
    refine ck_more (by decide) (by decide +kernel) s6 ea TD hk e6 fun H7 p7 s7 e7 => ?_
    refine ck_more (by decide) (by decide +kernel) s7 ea TD hk e7 fun H8 p8 s8 e8 => ?_
    refine ck_more (by decide) (by decide +kernel) s8 ea TD hk e8 fun H9 p9 s9 e9 => ?_
    exact ⟨_, rfl, q H9 p9 s9 e9⟩

end
end K1
end L2

set_option Elab.async false
set_option linter.all false
set_option maxRecDepth 100000
set_option maxHeartbeats 4000000
namespace L2
namespace K1
open PySem PySem.Spec PyProof.Rows
section
variable {P : Program} {w : World} {K : PySem.W.Frag} {mg : Str → Option Value} {base : Heap} {f : Addr} {fd : FuncData}
/-! ### _law_cell -/
theorem sc_cell : FnScope ["_law_script", "_law_k"] ["_law_script", "_law_k"] (defScope (top 31)) := ⟨rfl, rfl, rfl, by decide +kernel, rfl, by decide +kernel, by decide +kernel⟩
theorem ok_cell (T : Txt K mg) (F : FnP K "_law_cell" "_law_cell" (top 31) f fd) : FnOk P w K mg base CX0 1 f fd ["_law_script", "_law_k"] (spCell K) := by
  refine F.ok sc_cell (fun vs H Q E h => ?_) (fun cdv A outer s H vs Q E hr h => ?_)
  · obtain ⟨l, ns, j, rfl, _⟩ := h
    rfl
  · refine ⟨_, PSs.nox (pss_cons (ps_if (pt_cmpR op_lt (pv 1) (pe_callB call_len rfl T.len boot_len (pa_cons (pv 0) pa_nil)) (nomark _)) (pss_one (ps_ret (pe_ix ix_list (pv 0) (pv 1) fun _ _ => rfl))) pss_nil)
      (pss_one (ps_ret pe_int))), ?_⟩
    obtain ⟨l, ns, j, rfl, hs, q⟩ := h
    refine ⟨_, rfl, _, rfl, V.ref l, (ns.map V.int).length, rfl, .inl ⟨_, hs, rfl⟩, (j : Nat), ((ns.map V.int).length : Nat), rfl, rfl, _, rfl, ?_⟩
    refine ite2 (fun z => ?_) fun z => ?_
    · have hj : j < ns.length := by
        have z2 := of_decide_eq_true z
        rw [List.length_map] at z2
        omega
      exact ⟨_, rfl, _, rfl, l, _, _, _, rfl, rfl, hs, atI_cell hj, q⟩
    · have hj : ¬ j < ns.length := fun y => z (decide_eq_true (by rw [List.length_map]; omega))
      rw [cell_out hj] at q
      exact q
/-! ### _law_pool -/
def spPool : Sp := fun vs H Q _ => ∃ g : Int, vs = [.int g] ∧ ∀ p a b, H p = none → 0 ≤ a → 0 ≤ b → b < 1000000007 → Q (.ref p) (upd H p (.lst [.int a, .int b, .int 0]))
theorem sc_pool : FnScope ["_law_grain", "_law_folded"] ["_law_grain"] (defScope (top 32)) := ⟨rfl, rfl, rfl, by decide +kernel, rfl, by decide +kernel, by decide +kernel⟩
theorem ok_pool (T : Txt K mg) (F : FnP K "_law_pool" "_law_pool" (top 32) f fd) : FnOk P w K mg base CX0 1 f fd ["_law_grain"] spPool := by
  refine F.ok sc_pool (fun vs H Q E h => ?_) (fun cdv A outer s H vs Q E hr h => ?_)
  · obtain ⟨g, rfl, _⟩ := h
    rfl
  · refine ⟨_, PSs.nox (pss_cons (ps_set (i := 1) sc_pool.nd rfl (Or.inl rfl) (pe_op op_mul pe_int (pv 0)))
      (pss_cons (ps_if (pt_cmpR op_lt (pv 0) pe_int (nomark _)) (pss_one (ps_set (i := 1) sc_pool.nd rfl (Or.inl rfl) (pe_op op_sub (pe_op op_sub pe_int (pe_op op_mul pe_int (pv 0))) pe_int))) pss_nil)
      (pss_cons (ps_if (pt_cmpR op_ge (pv 1) (pe_op op_pow pe_int pe_int) (nomark _)) (pss_one (ps_ret (pe_lst (pa_cons (pv 1) (pa_cons (pe_op op_mod (pe_callTy call_int1 rfl T.int PyProof.Rows.boot_int (pa_cons (pv 1) pa_nil)) pe_int) (pa_cons pe_int pa_nil)))))) pss_nil)
      (pss_one (ps_ret (pe_lst (pa_cons pe_int (pa_cons (pe_op op_mod (pe_callTy call_int1 rfl T.int PyProof.Rows.boot_int (pa_cons (pv 1) pa_nil)) pe_int) (pa_cons pe_int pa_nil))))))))), ?_⟩
    obtain ⟨g, rfl, q⟩ := h
    have tail : ∀ (n : Int), 0 ≤ n → (tSeq (tIfS (tTest (tOp (rI0 fun i j => .bl (decide (j ≤ i))) (tVar 1) (tOp (rI CPow fun i j => .int (i ^ j.toNat)) (tC (.int 10)) (tC (.int 18)))))
        (tRet (tLst (tCons (tVar 1) (tCons (tOp (rI (fun _ j => 0 < j) fun i j => .int (i % j)) (tCB (fun xs H Q => (∃ i, xs = [.int i] ∧ Q (.int i) H) ∨ ∃ k, xs = [.bl k] ∧ Q (.int (if k then 1 else 0)) H) (tCons (tVar 1) tNil)) (tC (.int 1000000007))) (tCons (tC (.int 0)) tNil))))) tNext)
        (tRet (tLst (tCons (tC (.int 0)) (tCons (tOp (rI (fun _ j => 0 < j) fun i j => .int (i % j)) (tCB (fun xs H Q => (∃ i, xs = [.int i] ∧ Q (.int i) H) ∨ ∃ k, xs = [.bl k] ∧ Q (.int (if k then 1 else 0)) H) (tCons (tVar 1) tNil)) (tC (.int 1000000007))) (tCons (tC (.int 0)) tNil))))))
        { nx := fun _ H' => Q .non H', rt := Q } [some (.int g), some (.int n)] H := by
      intro n hn
      have m0 : 0 ≤ n % 1000000007 := Int.emod_nonneg n (by decide)
      have m1 : n % 1000000007 < 1000000007 := Int.emod_lt_of_pos n (by decide)
      refine ⟨_, rfl, 10, 18, rfl, rfl, ⟨by decide, by decide, by decide⟩, _, _, rfl, rfl, _, rfl, ?_⟩
      refine ite2 (fun _ => ?_) fun _ => ?_
      · exact ⟨_, rfl, _, rfl, .inl ⟨n, rfl, n, 1000000007, rfl, rfl, (show (0 : Int) < 1000000007 by decide), (show 3 ≤ sizeLine by decide), fun p hp => q p n (n % 1000000007) hp hn m0 m1⟩⟩
      · exact ⟨_, rfl, .inl ⟨n, rfl, n, 1000000007, rfl, rfl, (show (0 : Int) < 1000000007 by decide), (show 3 ≤ sizeLine by decide), fun p hp => q p 0 (n % 1000000007) hp (Int.le_refl 0) m0 m1⟩⟩
    refine ⟨_, rfl, 2, g, rfl, rfl, .inl ⟨by decide, by decide⟩, ?_⟩
    refine ⟨_, rfl, _, _, rfl, rfl, _, rfl, ?_⟩
    refine ite2 (fun hg => ?_) fun hg => ?_
    · have hg' : g < 0 := of_decide_eq_true hg
      refine ⟨_, rfl, 2, g, rfl, rfl, .inl ⟨by decide, by decide⟩, _, _, rfl, rfl, _, _, rfl, rfl, ?_⟩
      exact tail (0 - 2 * g - 1) (by omega)
    · have hg' : ¬ g < 0 := fun z => hg (decide_eq_true z)
      exact tail (2 * g) (by omega)
/-! ### _law_take -/
def PoolAt (H : Hp) (p : Addr) (a b c : Int) : Prop := H p = some (.lst [.int a, .int b, .int c]) ∧ 0 ≤ a ∧ 0 ≤ b ∧ b < 1000000007 ∧ 0 ≤ c
def spTake : Sp := fun vs H Q _ => ∃ p a b c m, vs = [.ref p, .int m] ∧ 0 < m ∧ m < 1000000 ∧ PoolAt H p a b c ∧ c ≤ 1000000000 ∧
  ∀ r a' c', 0 ≤ r → r < m → c' ≤ c + 1 → PoolAt (upd H p (.lst [.int a', .int b, .int c'])) p a' b c' → Q (.int r) (upd H p (.lst [.int a', .int b, .int c']))
theorem sc_take : FnScope ["_law_pool_here", "_law_many", "_law_draw", "_law_mixed"] ["_law_pool_here", "_law_many"] (defScope (top 33)) := ⟨rfl, rfl, rfl, by decide +kernel, rfl, by decide +kernel, by decide +kernel⟩
theorem ok_take (T : Txt K mg) (F : FnP K "_law_take" "_law_take" (top 33) f fd) : FnOk P w K mg base CX0 1 f fd ["_law_pool_here", "_law_many"] spTake := by
  refine F.ok sc_take (fun vs H Q E h => ?_) (fun cdv A outer s H vs Q E hr h => ?_)
  · obtain ⟨p, a, b, c, m, rfl, _⟩ := h
    rfl
  · refine ⟨_, PSs.nox (pss_cons (ps_if (pt_cmpR op_gt (pe_ix ix_list (pv 0) pe_int fun _ _ => rfl) pe_int (nomark _))
        (pss_cons (ps_set (i := 2) sc_take.nd rfl (Or.inl rfl) (pe_op op_mod (pe_callTy call_int1 rfl T.int PyProof.Rows.boot_int (pa_cons (pe_ix ix_list (pv 0) pe_int fun _ _ => rfl) pa_nil)) (pv 1)))
        (pss_cons (ps_asg (pe_op op_fdiv (pe_ix ix_list (pv 0) pe_int fun _ _ => rfl) (pv 1)) (pg_sub (pv 0) pe_int set_list))
        (pss_one (ps_ret (pv 2))))) pss_nil)
      (pss_cons (ps_asg (pe_op op_add (pe_ix ix_list (pv 0) pe_int fun _ _ => rfl) pe_int) (pg_sub (pv 0) pe_int set_list))
      (pss_cons (ps_set (i := 3) sc_take.nd rfl (Or.inl rfl) (pe_op op_mod (pe_callTy call_int1 rfl T.int PyProof.Rows.boot_int (pa_cons (pe_op op_pow (pe_op op_add (pe_op op_add (pe_ix ix_list (pv 0) pe_int fun _ _ => rfl) (pe_op op_mul pe_int (pe_ix ix_list (pv 0) pe_int fun _ _ => rfl))) pe_int) pe_int) pa_nil)) pe_int))
      (pss_one (ps_ret (pe_op op_mod (pe_op op_mod (pe_callTy call_int1 rfl T.int PyProof.Rows.boot_int (pa_cons (pe_op op_mul (pe_op op_add (pv 3) (pe_ix ix_list (pv 0) pe_int fun _ _ => rfl)) pe_int) pa_nil)) pe_int) (pv 1))))))), ?_⟩
    obtain ⟨p, a, b, c, m, rfl, hm0, hm1, ⟨hp, ha, hb0, hb1, hc0⟩, hc1, q⟩ := h
    refine ⟨_, rfl, p, _, 0, .int a, rfl, rfl, SqL.of hp, rfl, a, 0, rfl, rfl, _, rfl, ?_⟩
    refine ite2 (fun hg => ?_) fun hg => ?_
    · have hg' : 0 < a := of_decide_eq_true hg
      refine ⟨_, rfl, p, _, 0, .int a, rfl, rfl, SqL.of hp, rfl, .inl ⟨a, rfl, _, rfl, a, m, rfl, rfl, hm0, ?_⟩⟩
      refine ⟨_, rfl, p, _, 0, .int a, rfl, rfl, SqL.of hp, rfl, _, rfl, a, m, rfl, rfl, ⟨hm0, by omega⟩, _, rfl, p, _, 0, 0, rfl, rfl, hp, rfl, ?_⟩
      exact ⟨_, rfl, q (a % m) (a / m) c (Int.emod_nonneg a (by omega)) (Int.emod_lt_of_pos a hm0) (by omega) ⟨upd_same, Int.ediv_nonneg ha (by omega), hb0, hb1, hc0⟩⟩
    · refine ⟨_, rfl, p, _, 2, .int c, rfl, rfl, SqL.of hp, rfl, c, 1, rfl, rfl, _, rfl, p, _, 2, 2, rfl, rfl, hp, rfl, ?_⟩
      have h1 : (upd H p (.lst [.int a, .int b, .int (c + 1)])) p = some (.lst [.int a, .int b, .int (c + 1)]) := upd_same
      have e1 : 0 ≤ b + 7919 * (c + 1) + 104729 := by omega
      have e2 : b + 7919 * (c + 1) + 104729 < 2 ^ 60 := by
        have : (2 : Int) ^ 60 = 1152921504606846976 := by decide
        omega
      refine ⟨_, rfl, p, _, 1, .int b, rfl, rfl, SqL.of h1, rfl, _, rfl, p, _, 2, .int (c + 1), rfl, rfl, SqL.of h1, rfl, 7919, c + 1, rfl, rfl, .inl ⟨by decide, by decide⟩, b, _, rfl, rfl, _, _, rfl, rfl, _, 5, rfl, rfl, ⟨by decide, by decide, ?_⟩, .inl ⟨_, rfl, _, 2147483647, rfl, rfl, (show (0 : Int) < 2147483647 by decide), ?_⟩⟩
      · have : (2 : Int) ^ 60 = 1152921504606846976 := by decide
        have : (2 : Nat) ^ 64 = 18446744073709551616 := by decide
        omega
      · refine ⟨_, rfl, _, rfl, p, _, 2, .int (c + 1), rfl, rfl, SqL.of h1, rfl, _, _, rfl, rfl, _, 40692, rfl, rfl, .inr ⟨by decide, by decide⟩, .inl ⟨_, rfl, _, 2147483629, rfl, rfl, (show (0 : Int) < 2147483629 by decide), _, rfl, _, m, rfl, rfl, hm0, ?_⟩⟩
        exact q _ a (c + 1) (Int.emod_nonneg _ (by omega)) (Int.emod_lt_of_pos _ hm0) (Int.le_refl _) ⟨upd_same, ha, hb0, hb1, by omega⟩
end
end K1
end L2

set_option Elab.async false
set_option linter.all false
set_option maxRecDepth 100000
set_option maxHeartbeats 4000000
namespace L2
namespace K1
open PySem PySem.Spec PyProof.Rows
/-! ### any object -/
inductive Thing (H : Hp) : V → Prop where
  | non : Thing H .non
  | bl (b : Bool) : Thing H (.bl b)
  | int (i : Int) : Thing H (.int i)
  | s0 : Thing H (.str "")
  | s1 : Thing H (.str "a")
  | tup {a : Addr} (e : H a = some (.tup [.str "a", .int 1])) : Thing H (.ref a)
  | lst {a b : Addr} (e : H a = some (.lst [.str "b", .ref b])) (e2 : H b = some (.lst [.int 2])) : Thing H (.ref a)
  | dic {a b : Addr} (e : H a = some (.dK [(.inr "a", .ref b)])) : Thing H (.ref a)
theorem Thing.same {H H' : Hp} {v : V} (t : Thing H v) (s : Same H H') : Thing H' v := by
  cases t with
  | non => exact .non
  | bl b => exact .bl b
  | int i => exact .int i
  | s0 => exact .s0
  | s1 => exact .s1
  | tup e => exact .tup (s _ _ e)
  | lst e e2 => exact .lst (s _ _ e) (s _ _ e2)
  | dic e => exact .dic (s _ _ e)
section
variable {P : Program} {w : World} {K : PySem.W.Frag} {mg : Str → Option Value} {base : Heap} {f : Addr} {fd : FuncData}
/-- a thing is equal to itself -/
theorem Thing.eqs {H : Hp} {v : V} (t : Thing H v) (Q : VK) (q : Q (.bl true) H) : rEqD K v v H Q ∨ rEqV K v v H Q := by
  cases t with
  | non => exact .inl ⟨_, _, .non, .non, by decide +kernel, by decide +kernel, q⟩
  | bl b =>
    refine .inl ⟨_, _, .bl b, .bl b, rfl, rfl, ?_⟩
    have e : PyData.eqv (.bool b) (.bool b) = true := by cases b <;> rfl
    rw [e]
    exact q
  | int i =>
    refine .inl ⟨_, _, .int i, .int i, ?_, ?_, ?_⟩
    · rfl
    · rfl
    · have e : PyData.eqv (.int i) (.int i) = true := by
        unfold PyData.eqv
        exact beq_self_eq_true i
      rw [e]
      exact q
  | s0 => exact .inl ⟨_, _, .str _, .str _, by decide +kernel, by decide +kernel, by
      have z : PyData.eqv (.str "") (.str "") = true := by decide +kernel
      rw [z]
      exact q⟩
  | s1 => exact .inl ⟨_, _, .str _, .str _, by decide +kernel, by decide +kernel, by
      have z : PyData.eqv (.str "a") (.str "a") = true := by decide +kernel
      rw [z]
      exact q⟩
  | tup e =>
    have d : Dp K H (.ref _) (.tuple [.str "a", .int 1]) := .tup (SqT.of e) (.cons (.str _) (.cons (.int _) .nil))
    exact .inl ⟨_, _, d, d, by decide +kernel, by decide +kernel, by
      have z : PyData.eqv (.tuple [.str "a", .int 1]) (.tuple [.str "a", .int 1]) = true := by decide +kernel
      rw [z]
      exact q⟩
  | lst e e2 =>
    have d : Dp K H (.ref _) (.list [.str "b", .list [.int 2]]) := .lst (SqL.of e) (.cons (.str _) (.cons (.lst (SqL.of e2) (.cons (.int _) .nil)) .nil))
    exact .inl ⟨_, _, d, d, by decide +kernel, by decide +kernel, by
      have z : PyData.eqv (.list [.str "b", .list [.int 2]]) (.list [.str "b", .list [.int 2]]) = true := by decide +kernel
      rw [z]
      exact q⟩
  | @dic a b e =>
    refine .inr ⟨1, by decide, .inr ⟨a, a, _, _, rfl, rfl, e, e, rfl, fun p hp => ?_⟩, q⟩
    rcases List.mem_cons.mp hp with rfl | h
    · exact ⟨.ref b, by simp [valV], .inr (.inl ⟨b, rfl, rfl⟩)⟩
    · cases h
/-- isinstance(v, bool) has an answer -/
theorem Thing.isb {H : Hp} {v : V} (t : Thing H v) : ∃ c b, TyX K H v c ∧ PySem.W.kitOne K c (.type "bool") = some b := by
  cases t with
  | non => exact ⟨_, false, .base .non, kit_ty (by decide +kernel)⟩
  | bl b => exact ⟨_, true, .base (.bl b), kit_ty (by decide +kernel)⟩
  | int i => exact ⟨_, false, .base (.int i), kit_ty (by decide +kernel)⟩
  | s0 => exact ⟨_, false, .base (.str _), kit_ty (by decide +kernel)⟩
  | s1 => exact ⟨_, false, .base (.str _), kit_ty (by decide +kernel)⟩
  | tup e => exact ⟨_, false, .base (.tup e), kit_ty (by decide +kernel)⟩
  | lst e e2 => exact ⟨_, false, .base (.lst e), kit_ty (by decide +kernel)⟩
  | dic e => exact ⟨_, false, .base (.dK e), kit_ty (by decide +kernel)⟩
/-! ### _law_is_same -/
def spSame (K : PySem.W.Frag) : Sp := fun vs H Q _ => ∃ v, vs = [v, v] ∧ Thing H v ∧ Q (.bl true) H
theorem sc_same : FnScope ["_law_one", "_law_other"] ["_law_one", "_law_other"] (defScope (top 40)) := ⟨rfl, rfl, rfl, by decide +kernel, rfl, by decide +kernel, by decide +kernel⟩
theorem ok_same (T : Txt K mg) (F : FnP K "_law_is_same" "_law_is_same" (top 40) f fd) : FnOk P w K mg base CX0 1 f fd ["_law_one", "_law_other"] (spSame K) := by
  refine F.ok sc_same (fun vs H Q E h => ?_) (fun cdv A outer s H vs Q E hr h => ?_)
  · obtain ⟨v, rfl, _⟩ := h
    rfl
  · have hu := hr.units
    refine ⟨_, PSs.nox (pss_one (ps_ret (pe_and (pe_cmpR (OpR.or (op_eqD hu) (op_eqV hu)) (pv 0) (pv 1) (nomark _))
      (pe_one (pe_cmpR op_eq (pe_callB call_isi rfl T.isi boot_isinstance (pa_cons (pv 0) (pa_cons (pe_bltn (v := .ty "bool") rfl T.bool PyProof.Rows.boot_bool rfl) pa_nil))) (pe_callB call_isi rfl T.isi boot_isinstance (pa_cons (pv 1) (pa_cons (pe_bltn (v := .ty "bool") rfl T.bool PyProof.Rows.boot_bool rfl) pa_nil))) (nomark _)))))), ?_⟩
    obtain ⟨v, rfl, t, q⟩ := h
    obtain ⟨c, b, ty, kt⟩ := t.isb (K := K)
    refine ⟨_, rfl, _, rfl, t.eqs _ ⟨true, rfl, iteT ?_⟩⟩
    refine ⟨_, rfl, v, _, c, _, b, rfl, .ty "bool", ty, kt, _, rfl, v, _, c, _, b, rfl, .ty "bool", ty, kt, ?_, ?_⟩
    · cases b <;> rfl
    · rw [decide_eq_true rfl]
      exact q
/-! ### _law_thing -/
/-- all but p stands as it stood -/
def Save (p : Addr) (H H' : Hp) : Prop := ∀ b o, b ≠ p → H b = some o → H' b = some o
theorem Save.same {p : Addr} {H H1 H2 : Hp} (a : Save p H H1) (b : Same H1 H2) : Save p H H2 := fun c o n e => b c o (a c o n e)
theorem Save.of {p : Addr} {H H1 : Hp} (b : Same H H1) : Save p H H1 := fun c o _ e => b c o e
theorem Save.trans {p : Addr} {H H1 H2 : Hp} (a : Save p H H1) (b : Save p H1 H2) : Save p H H2 := fun c o n e => b c o n (a c o n e)
theorem Save.put {p : Addr} {H : Hp} {o : HO} : Save p H (upd H p o) := fun c u n e => by
  rw [upd_ne n]
  exact e
def spThing : Sp := fun vs H Q _ => ∃ p a b c, vs = [.ref p] ∧ PoolAt H p a b c ∧ c ≤ 1000000000 ∧ ∀ H' v a' c', Save p H H' → PoolAt H' p a' b c' → c' ≤ c + 1 → Thing H' v → Q v H'
theorem sc_thing : FnScope ["_law_pool_here"] ["_law_pool_here"] (defScope (top 34)) := ⟨rfl, rfl, rfl, by decide +kernel, rfl, by decide +kernel, by decide +kernel⟩
theorem ok_thing {fT : Addr} {fdT : FuncData} (T : Txt K mg) (gT : mg "_law_take" = some (.ref fT)) (FT : FnP K "_law_take" "_law_take" (top 33) fT fdT) (F : FnP K "_law_thing" "_law_thing" (top 34) f fd) : FnOk P w K mg base CX0 2 f fd ["_law_pool_here"] spThing := by
  have GT : FnOk P w K mg base CX0 1 fT fdT ["_law_pool_here", "_law_many"] spTake := ok_take T FT
  have bT : Binds K fdT ["_law_pool_here", "_law_many"] [] := FT.bindsN fun _ _ _ _ _ _ us hl => match us, hl with | [_, _], _ => rfl
  refine F.ok sc_thing (fun vs H Q E h => ?_) (fun cdv A outer s H vs Q E hr h => ?_)
  · obtain ⟨p, a, b, c, rfl, _⟩ := h
    rfl
  · refine ⟨_, PSs.nox (pss_one (ps_ret (pe_ix ix_list (pe_lst (pa_cons pe_non (pa_cons pe_bl (pa_cons pe_bl (pa_cons pe_int (pa_cons (pe_un un_neg pe_int) (pa_cons (pe_op op_pow pe_int pe_int) (pa_cons pe_str (pa_cons pe_str
      (pa_cons (pe_tup (pa_cons pe_str (pa_cons pe_int pa_nil))) (pa_cons (pe_lst (pa_cons pe_str (pa_cons (pe_lst (pa_cons pe_int pa_nil)) pa_nil))) (pa_cons (pe_disp (pps_cons pe_str (pe_lst pa_nil) pps_nil) rfl rfl (by simp) (by decide)) (pa_cons pe_int pa_nil)))))))))))))
      (pe_call GT hr rfl gT FT.kp bT .nil pass0 (pa_cons (pv 0) (pa_cons pe_int pa_nil))) fun _ _ => rfl))), ?_⟩
    obtain ⟨p, a, b, c, rfl, hp, hc, q⟩ := h
    refine ⟨7, rfl, 10, 30, rfl, rfl, ⟨by decide, by decide, by decide⟩, ?_⟩
    refine ⟨(show 2 ≤ sizeLine by decide), fun t nt => ⟨(show 1 ≤ sizeLine by decide), fun l2 nl2 => ⟨(show 2 ≤ sizeLine by decide), fun l nl => fun d nd => ?_⟩⟩⟩
    refine ⟨(show 0 ≤ sizeLine by decide), fun e ne => ⟨?_, [(.inr "a", .ref e)], rfl, (show 1 ≤ 15 by decide), (show 12 ≤ sizeLine by decide), fun x nx => ?_⟩⟩
    · rw [upd_ne (ne_of_none upd_same ne)]
      exact upd_same
    · obtain ⟨p0, p1⟩ := hp
      have s0 : Same H (upd (upd (upd H t (.tup [.str "a", .int 1])) l2 (.lst [.int 2])) l (.lst [.str "b", .ref l2])) := ((same_upd nt).trans (same_upd nl2)).trans (same_upd nl)
      generalize hG : upd (upd (upd H t (.tup [.str "a", .int 1])) l2 (.lst [.int 2])) l (.lst [.str "b", .ref l2]) = G0 at *
      have g1 : G0 t = some (.tup [.str "a", .int 1]) := by
        rw [← hG, upd_ne, upd_ne, upd_same]
        · exact ne_of_none upd_same nl2
        · exact ne_of_none (same_upd nl2 _ _ upd_same) nl
      have g2 : G0 l2 = some (.lst [.int 2]) := by
        rw [← hG, upd_ne, upd_same]
        exact ne_of_none upd_same nl
      have g3 : G0 l = some (.lst [.str "b", .ref l2]) := by
        rw [← hG, upd_same]
      have m1 : mergeK [] [((.inr "a" : Key), V.ref e)] = [(.inr "a", .ref e)] := rfl
      rw [m1] at nx ⊢
      have s1 : Same G0 (upd (upd (upd G0 d (.dK [])) e (.lst [])) d (.dK [(.inr "a", .ref e)])) := fun b' o' h' => by
        have n1 : b' ≠ d := ne_of_none h' nd
        have n2 : b' ≠ e := ne_of_none (same_upd nd _ _ h') ne
        rw [upd_ne n1, upd_ne n2, upd_ne n1]
        exact h'
      have d1 : (upd (upd (upd G0 d (.dK [])) e (.lst [])) d (.dK [(.inr "a", .ref e)])) d = some (.dK [(.inr "a", .ref e)]) := upd_same
      generalize upd (upd (upd G0 d (.dK [])) e (.lst [])) d (.dK [(.inr "a", .ref e)]) = G3 at *
      have s2 := (s0.trans s1).trans (same_upd (o := .lst [.non, .bl true, .bl false, .int 0, .int (-7), .int (10 ^ (30 : Int).toNat), .str "", .str "a", .ref t, .ref l, .ref d, .int 1]) nx)
      refine ⟨_, rfl, p, a, b, c, 12, rfl, by decide, by decide, ⟨s2 _ _ p0, p1⟩, hc, fun r a' c' r0 r1 hc' hp' => ?_⟩
      have xp : x ≠ p := fun z => by
        rw [z] at nx
        have y := (s0.trans s1) _ _ p0
        rw [nx] at y
        cases y
      have kp : ∀ {u o}, G3 u = some o → u ≠ p → (upd (upd G3 x (.lst [.non, .bl true, .bl false, .int 0, .int (-7), .int (10 ^ (30 : Int).toNat), .str "", .str "a", .ref t, .ref l, .ref d, .int 1])) p (.lst [.int a', .int b, .int c'])) u = some o := fun {u o} h1 h2 => by
        rw [upd_ne h2]
        exact same_upd nx _ _ h1
      have pp : G3 p = some (.lst [.int a, .int b, .int c]) := s1 _ _ (s0 _ _ p0)
      have hx : (upd (upd G3 x (.lst [.non, .bl true, .bl false, .int 0, .int (-7), .int (10 ^ (30 : Int).toNat), .str "", .str "a", .ref t, .ref l, .ref d, .int 1])) p (.lst [.int a', .int b, .int c'])) x = some (.lst [.non, .bl true, .bl false, .int 0, .int (-7), .int (10 ^ (30 : Int).toNat), .str "", .str "a", .ref t, .ref l, .ref d, .int 1]) := by
        rw [upd_ne xp, upd_same]
      have ht := kp (s1 _ _ g1) (fun z => by rw [← z, nt] at p0; cases p0)
      have hl2 := kp (s1 _ _ g2) (fun z => by have y := s1 _ _ g2; rw [z, pp] at y; cases y)
      have hl := kp (s1 _ _ g3) (fun z => by have y := s1 _ _ g3; rw [z, pp] at y; cases y)
      have hd := kp d1 (fun z => by rw [z, pp] at d1; cases d1)
      have sv : Save p H (upd (upd G3 x (.lst [.non, .bl true, .bl false, .int 0, .int (-7), .int (10 ^ (30 : Int).toNat), .str "", .str "a", .ref t, .ref l, .ref d, .int 1])) p (.lst [.int a', .int b, .int c'])) := (Save.of s2).trans Save.put
      have rr : r = 0 ∨ r = 1 ∨ r = 2 ∨ r = 3 ∨ r = 4 ∨ r = 5 ∨ r = 6 ∨ r = 7 ∨ r = 8 ∨ r = 9 ∨ r = 10 ∨ r = 11 := by omega
      rcases rr with h | h | h | h | h | h | h | h | h | h | h | h
      · subst h
        exact ⟨x, _, 0, .non, rfl, rfl, SqL.of hx, rfl, q _ _ a' c' sv hp' hc' .non⟩
      · subst h
        exact ⟨x, _, 1, .bl true, rfl, rfl, SqL.of hx, rfl, q _ _ a' c' sv hp' hc' (.bl true)⟩
      · subst h
        exact ⟨x, _, 2, .bl false, rfl, rfl, SqL.of hx, rfl, q _ _ a' c' sv hp' hc' (.bl false)⟩
      · subst h
        exact ⟨x, _, 3, .int 0, rfl, rfl, SqL.of hx, rfl, q _ _ a' c' sv hp' hc' (.int 0)⟩
      · subst h
        exact ⟨x, _, 4, .int (-7), rfl, rfl, SqL.of hx, rfl, q _ _ a' c' sv hp' hc' (.int (-7))⟩
      · subst h
        exact ⟨x, _, 5, .int (10 ^ (30 : Int).toNat), rfl, rfl, SqL.of hx, rfl, q _ _ a' c' sv hp' hc' (.int _)⟩
      · subst h
        exact ⟨x, _, 6, .str "", rfl, rfl, SqL.of hx, rfl, q _ _ a' c' sv hp' hc' .s0⟩
      · subst h
        exact ⟨x, _, 7, .str "a", rfl, rfl, SqL.of hx, rfl, q _ _ a' c' sv hp' hc' .s1⟩
      · subst h
        exact ⟨x, _, 8, .ref t, rfl, rfl, SqL.of hx, rfl, q _ _ a' c' sv hp' hc' (.tup ht)⟩
      · subst h
        exact ⟨x, _, 9, .ref l, rfl, rfl, SqL.of hx, rfl, q _ _ a' c' sv hp' hc' (.lst hl hl2)⟩
      · subst h
        exact ⟨x, _, 10, .ref d, rfl, rfl, SqL.of hx, rfl, q _ _ a' c' sv hp' hc' (.dic hd)⟩
      · subst h
        exact ⟨x, _, 11, .int 1, rfl, rfl, SqL.of hx, rfl, q _ _ a' c' sv hp' hc' (.int 1)⟩
end
end K1
end L2

set_option Elab.async false
set_option linter.all false
set_option maxRecDepth 100000
set_option maxHeartbeats 4000000
namespace L2
namespace K1
open PySem PySem.Spec PyProof.Rows
/-! ### the law's own lists -/
theorem bools_ok : ∀ i : Fin 28, SeqAt.shaped (.list (cs28.map fun y => .bool (decide (cs28[i.val]? = some y)))) = true ∧ SeqAt.shaped (.list ((List.range 28).map fun j => .bool (decide (j = i.val)))) = true ∧
    PyData.eqv (.list (cs28.map fun y => .bool (decide (cs28[i.val]? = some y)))) (.list ((List.range 28).map fun j => .bool (decide (j = i.val)))) = true := by decide +kernel
theorem dp_bools {α : Type} {K : PySem.W.Frag} {H : Hp} (b : α → Bool) : ∀ ys : List α, DpAll K H (ys.map fun y => .bl (b y)) (ys.map fun y => .bool (b y))
  | [] => .nil
  | y :: ys => .cons (.bl (b y)) (dp_bools b ys)
/-- the errors of one making, all 28 -/
theorem errs28 {K : PySem.W.Frag} {H : Hp} {v : V} {as bs : List Addr} (ea : ErrL K H v cs20 as) (eb : ErrN K H cs8 bs) {i : Nat} {x : Str} (h : cs28[i]? = some x) : ∃ a fs, (as ++ bs)[i]? = some a ∧ ErrAt H (He.ga K x) fs a := by
  have la := ea.len
  have l20 : cs20.length = 20 := by decide
  by_cases hi : i < 20
  · have h1 : (cs20.map (·.1))[i]? = some x := by
      rw [← h]
      exact (List.getElem?_append_left (by rw [List.length_map]; omega)).symm
    rw [List.getElem?_map] at h1
    obtain ⟨p, hp, e⟩ := Option.map_eq_some_iff.mp h1
    obtain ⟨a, ha, ha2⟩ := ea.at i hp
    refine ⟨a, _, ?_, by rw [← e]; exact ha2⟩
    rw [List.getElem?_append_left (by omega)]
    exact ha
  · have h1 : cs8[i - 20]? = some x := by
      rw [← h]
      have z : (cs20.map (·.1)).length = 20 := by rw [List.length_map]; exact l20
      exact (by rw [show cs28 = cs20.map (·.1) ++ cs8 from rfl, List.getElem?_append_right (by omega), z])
    obtain ⟨a, ha, ha2⟩ := eb.at (i - 20) h1
    refine ⟨a, [], ?_, ha2⟩
    rw [List.getElem?_append_right (by omega), la, l20]
    exact ha
theorem cs28_at {i : Nat} (h : i < 28) : ∃ x, cs28[i]? = some x ∧ x ∈ cs28 := by
  have l : cs28.length = 28 := by decide
  have z : i < cs28.length := by omega
  exact ⟨cs28[i], List.getElem?_eq_getElem z, List.getElem_mem z⟩
theorem Thing.save {p : Addr} {a b c : Int} {H H' : Hp} {v : V} (hp : PoolAt H p a b c) (s : Save p H H') (t : Thing H v) : Thing H' v := by
  have ne : ∀ {u : Addr} {o : HO}, H u = some o → o ≠ .lst [.int a, .int b, .int c] → u ≠ p := fun {u o} h n z => by
    rw [z, hp.1] at h
    exact n (Option.some.inj h).symm
  cases t with
  | non => exact .non
  | bl b => exact .bl b
  | int i => exact .int i
  | s0 => exact .s0
  | s1 => exact .s1
  | tup e => exact .tup (s _ _ (ne e (by intro z; cases z)) e)
  | lst e e2 => exact .lst (s _ _ (ne e (by intro z; cases z)) e) (s _ _ (ne e2 (by intro z; cases z)) e2)
  | dic e => exact .dic (s _ _ (ne e (by intro z; cases z)) e)
theorem Save.base {p : Addr} {H0 H1 H2 : Hp} (n : H0 p = none) (a : Same H0 H1) (b : Save p H1 H2) : Same H0 H2 := fun c o e => b c o (ne_of_none e n) (a c o e)
/-- what one making leaves: the list at l of the errors made with v -/
def Made (K : PySem.W.Frag) (H : Hp) (l : Addr) (v : V) : Prop := ∃ as : List Addr, H l = some (.lst (as.map .ref)) ∧ ErrL K H v cs20 as ∧ Thing H v
theorem Made.same {K : PySem.W.Frag} {H H' : Hp} {l : Addr} {v : V} (m : Made K H l v) (s : Same H H') : Made K H' l v := by
  obtain ⟨as, h1, h2, h3⟩ := m
  exact ⟨as, s _ _ h1, h2.same s, h3.same s⟩
theorem iteN {c : Bool} {A B : Prop} (h : c = false) (b : B) : if c = true then A else B := by
  rw [h]
  exact iteF b
theorem twelve {r : List (Option V)} (h : r.length = 11) : ∃ o1 o2 o3 o4 o5 o6 o7 o8 o9 o10 o11 : Option V, r = [o1, o2, o3, o4, o5, o6, o7, o8, o9, o10, o11] := by
  match r, h with
  | [o1, o2, o3, o4, o5, o6, o7, o8, o9, o10, o11], _ => exact ⟨o1, o2, o3, o4, o5, o6, o7, o8, o9, o10, o11, rfl⟩
theorem same_over {H0 H : Hp} {D : Addr} {o : HO} (n : H0 D = none) (s : Same H0 H) : Same H0 (upd H D o) := fun b u e => by
  rw [upd_ne (ne_of_none e n)]
  exact s _ _ e
theorem dec_jk (j k : Nat) : decide (V.int (0 + (j : Int)) = V.int (0 + (k : Int))) = decide (j = k) := by
  by_cases h : j = k
  · subst h
    simp
  · rw [decide_eq_false h, decide_eq_false]
    intro z
    have z2 := V.int.inj z
    omega
section
variable {P : Program} {w : World} {K : PySem.W.Frag} {mg : Str → Option Value} {base : Heap} {f : Addr} {fd : FuncData}
abbrev nmL : List Str := ["_law_script", "_law_k", "_law_pool_here", "_law_x", "_law_y", "_law_made", "_law_found", "_law_due", "_law_errors", "_law_at", "_law_kept", "_law_j"]
theorem sc_law : FnScope nmL ["_law_script"] (defScope (top 41)) := ⟨rfl, rfl, rfl, by decide +kernel, rfl, by decide +kernel, by decide +kernel⟩
def spLaw (K : PySem.W.Frag) : Sp := fun vs H Q _ => ∃ (a : Addr) (ns : List Int), vs = [.ref a] ∧ SqL K H a (ns.map V.int) ∧ ∀ H', Q (.bl true) H'
/-- the defs that the law calls -/
structure Calls (P : Program) (w : World) (K : PySem.W.Frag) (mg : Str → Option Value) (base : Heap) (x : Str) (ps : List Str) (k : Nat) (sp : Sp) : Prop where
  ex : ∃ f fd, FnOk P w K mg base CX0 k f fd ps sp ∧ mg x = some (.ref f) ∧ PySem.W.keepIn K (.ref f) = true ∧ Binds K fd ps []
theorem ok_law (T : Txt K mg) (F : FnP K "law" "law" (top 41) f fd) (Cc : Calls P w K mg base "_law_cell" ["_law_script", "_law_k"] 1 (spCell K)) (Cp : Calls P w K mg base "_law_pool" ["_law_grain"] 1 spPool)
    (Ct : Calls P w K mg base "_law_thing" ["_law_pool_here"] 2 spThing) (Ca : Calls P w K mg base "_law_by_place" ["_law_x"] 3 (spErrs K)) (Cn : Calls P w K mg base "_law_by_name" ["_law_x"] 3 (spErrs K))
    (Ch : Calls P w K mg base "_law_held" ["_law_e"] 1 (spHeld K)) (Co : Calls P w K mg base "_law_others" [] 1 (spOthers K)) (Ck : Calls P w K mg base "_law_classes" ["_law_e"] 1 (spClasses K)) (Cs : Calls P w K mg base "_law_is_same" ["_law_one", "_law_other"] 1 (spSame K)) :
    FnOk P w K mg base CX0 4 f fd ["_law_script"] (spLaw K) := by
  obtain ⟨fc, fdc, Gc, gc, kc, bc⟩ := Cc.ex
  obtain ⟨fp, fdp, Gp, gp, kp, bp⟩ := Cp.ex
  obtain ⟨ft, fdt, Gt, gt, kt, bt⟩ := Ct.ex
  obtain ⟨fa', fda, Ga, ga, ka, ba⟩ := Ca.ex
  obtain ⟨fn', fdn, Gn, gn, kn, bn⟩ := Cn.ex
  obtain ⟨fh, fdh, Gh, gh, kh, bh⟩ := Ch.ex
  obtain ⟨fo, fdo, Go, go, ko, bo⟩ := Co.ex
  obtain ⟨fk, fdk, Gk, gk, kk, bk⟩ := Ck.ex
  obtain ⟨fs', fds, Gs, gs, ks, bs⟩ := Cs.ex
  refine F.ok sc_law (fun vs H Q E h => ?_) (fun cdv A outer s H vs Q E hr h => ?_)
  · obtain ⟨a, ns, rfl, _⟩ := h
    rfl
  · have hu := hr.units
    have h1 := hr.mono (show 1 ≤ 3 by decide)
    have h2 := hr.mono (show 2 ≤ 3 by decide)
    have nd := sc_law.nd
    refine ⟨_, PSs.nox (pss_cons (ps_for PassesOwn.never rfl (pi_range1 rfl T.range (pa_cons pe_int pa_nil)) (pg_name (i := 1) nd rfl (Or.inl rfl))
      (pss_cons (ps_set (i := 2) nd rfl (Or.inl rfl) (pe_call Gp h1 rfl gp kp bp .nil pass0 (pa_cons (pe_op op_add (pe_call Gc h1 rfl gc kc bc .nil pass0 (pa_cons (pv 0) (pa_cons (pv 1) pa_nil))) (pv 1)) pa_nil)))
      (pss_cons (ps_par (i := 3) (j := 4) rfl nd rfl rfl (by decide) rfl rfl (pa_cons (pe_call Gt h2 rfl gt kt bt .nil pass0 (pa_cons (pv 2) pa_nil)) (pa_cons (pe_call Gt h2 rfl gt kt bt .nil pass0 (pa_cons (pv 2) pa_nil)) pa_nil)) rfl)
      (pss_cons (ps_set (i := 5) nd rfl (Or.inl rfl) (pe_lst (pa_cons (pe_tup (pa_cons (pe_call Ga hr rfl ga ka ba .nil pass0 (pa_cons (pv 3) pa_nil)) (pa_cons (pv 3) pa_nil))) (pa_cons (pe_tup (pa_cons (pe_call Ga hr rfl ga ka ba .nil pass0 (pa_cons (pv 4) pa_nil)) (pa_cons (pv 4) pa_nil)))
        (pa_cons (pe_tup (pa_cons (pe_call Gn hr rfl gn kn bn .nil pass0 (pa_cons (pv 3) pa_nil)) (pa_cons (pv 3) pa_nil))) pa_nil)))))
      (pss_one (ps_for PassesOwn.never rfl (pi_list (pv 5)) (pg_tup rfl (pgs_cons (pg_name (i := 6) nd rfl (Or.inl rfl)) (pgs_cons (pg_name (i := 7) nd rfl (Or.inr rfl)) pgs_nil)))
        (pss_cons (ps_if (pt_not (pt_val (pe_callB (cr_all rfl) rfl T.all PyProof.Rows.boot_all (pa_cons (pe_lc (own := [("_law_kept", 10)]) (g := gName 10) (tt := tYes) rfl nd (pi_list (pe_call Gh h1 rfl gh kh bh .nil pass0 (pa_cons (pv 6) pa_nil)))
            (blkOk_by (N := nmL) (sc := defScope (top 41)) (by decide +kernel)) (fun _ _ _ _ _ => pg_name (i := 10) nd rfl (Or.inl rfl)) (fun _ _ _ _ _ => pts_nil) (fun _ _ _ _ _ => pe_call Gs h1 rfl gs ks bs .nil pass0 (pa_cons (pv 10) (pa_cons (pv 7) pa_nil)))) pa_nil)))) (pss_one (ps_ret pe_bl)) pss_nil)
        (pss_cons (ps_set (i := 8) nd rfl (Or.inl rfl) (pe_op op_cat (pv 6) (pe_call0 Go h1 rfl go ko bo .nil pass0)))
        (pss_one (ps_for PassesOwn.never rfl (pi_range1 rfl T.range (pa_cons (pe_callB call_len rfl T.len boot_len (pa_cons (pv 8) pa_nil)) pa_nil)) (pg_name (i := 9) nd rfl (Or.inr rfl))
          (pss_cons (ps_if (PW.pt (pw_or (pt_not (pt_val (pe_callB call_isX rfl T.isi boot_isinstance (pa_cons (pe_ix ix_list (pv 8) (pv 9) fun _ _ => rfl) (pa_cons (pe_glob (v := .ref (He.ga K "LotError")) rfl T.gL rfl) pa_nil)))))
              (pw_or1 (pt_not (pt_val (pe_callB call_isX rfl T.isi boot_isinstance (pa_cons (pe_ix ix_list (pv 8) (pv 9) fun _ _ => rfl) (pa_cons (pe_bltn (v := .ty "ValueError") rfl T.VE boot_ValueError rfl) pa_nil)))))))) (pss_one (ps_ret pe_bl)) pss_nil)
          (pss_one (ps_if (pt_cmpR (op_neD hu) (pe_call Gk h1 rfl gk kk bk .nil pass0 (pa_cons (pe_ix ix_list (pv 8) (pv 9) fun _ _ => rfl) pa_nil))
              (pe_lc (own := [("_law_j", 11)]) (g := gName 11) (tt := tYes) rfl nd (pi_range1 rfl T.range (pa_cons pe_int pa_nil)) (blkOk_by (N := nmL) (sc := defScope (top 41)) (by decide +kernel)) (fun _ _ _ _ _ => pg_name (i := 11) nd rfl (Or.inl rfl)) (fun _ _ _ _ _ => pts_nil)
                (fun _ _ _ _ _ => pe_cmpR op_eq (pv 11) (pv 9) (nomark _))) (nomark _)) (pss_one (ps_ret pe_bl)) pss_nil)))))))))))))
      (pss_one (ps_ret (pe_and (pe_callB call_isX rfl T.isi boot_isinstance (pa_cons (pe_new0 T.qL T.gL T.cL.ox.kC rfl) (pa_cons (pe_bltn (v := .ty "ValueError") rfl T.VE boot_ValueError rfl) pa_nil)))
        (pe_one (pe_not (pe_callB (cr_any rfl) rfl T.any PyProof.Rows.boot_any (pa_cons (pe_call Gk h1 rfl gk kk bk .nil pass0 (pa_cons (pe_new0 T.qL T.gL T.cL.ox.kC rfl) pa_nil)) pa_nil)))))))), ?_⟩
    obtain ⟨l, ns, rfl, hS, hQ⟩ := h
    refine ⟨3, rfl, by decide, by decide, for_range (n := 3) (fun _ σ H => SqL K H l (ns.map V.int) ∧ ∃ r, σ = some (.ref l) :: r ∧ r.length = 11) ⟨hS, _, rfl, rfl⟩ ?turn ?last⟩
    case last =>
      rintro σ H1 ⟨hS1, r, rfl, hr11⟩
      refine fun H2 a s2 _ ea => ⟨a, .ty "ValueError", _, [], _, true, rfl, .ty "ValueError", ea, T.cL, T.LV, true, rfl, iteT ?_⟩
      refine fun H3 b s3 _ eb => ⟨b, _, [], fun _ => false, rfl, eb, T.cL, T.Lk, fun H4 p s4 ep => ⟨p, List.replicate 28 false, rfl, SqL.of ?_, false, ?_, ?_⟩⟩
      · rw [ep]
        rfl
      · rfl
      · exact hQ H4
    case turn =>
      rintro i σ H0 hi ⟨hS0, r, rfl, hr11⟩
      obtain ⟨o1, o2, o3, o4, o5, o6, o7, o8, o9, o10, o11, rfl⟩ := twelve hr11
      refine ⟨_, rfl, _, rfl, l, ns, i, ?_, hS0, ?_⟩
      · show [V.ref l, V.int (0 + (i : Int))] = _
        rw [Int.zero_add]
      refine ⟨_, rfl, _, _, rfl, rfl, _, rfl, fun p a b np ha hb0 hb1 => ?_⟩
      have P1 : PoolAt (upd H0 p (.lst [.int a, .int b, .int 0])) p a b 0 := ⟨upd_same, ha, hb0, hb1, Int.le_refl 0⟩
      refine ⟨_, rfl, p, a, b, 0, rfl, P1, by decide, fun H2 x a2 c2 sv2 P2 hc2 t2 => ⟨_, rfl, p, a2, b, c2, rfl, P2, by omega, fun H3 y a3 c3 sv3 P3 hc3 ty => ⟨x, y, rfl, ?_⟩⟩⟩
      have S3 : Same H0 H3 := Save.base np (Save.base np (same_upd np) sv2) sv3
      have tx : Thing H3 x := t2.save P2 sv3
      refine ⟨_, rfl, x, rfl, fun H4 l1 as1 s4 e4 k4 => ⟨_, rfl, (show 2 ≤ sizeLine by decide), fun t1 n1 => ⟨_, rfl, y, rfl, fun H5 l2 as2 s5 e5 k5 => ⟨_, rfl, (show 2 ≤ sizeLine by decide), fun t2 n2 =>
        ⟨_, rfl, x, rfl, fun H6 l3 as3 s6 e6 k6 => ⟨_, rfl, (show 2 ≤ sizeLine by decide), fun t3 n3 => ⟨(show 3 ≤ sizeLine by decide), fun m nm => ?_⟩⟩⟩⟩⟩⟩⟩
      have u6 : Same H6 (upd (upd H6 t3 (.tup [.ref l3, x])) m (.lst [.ref t1, .ref t2, .ref t3])) := (same_upd n3).trans (same_upd nm)
      have u5 : Same H5 (upd (upd H6 t3 (.tup [.ref l3, x])) m (.lst [.ref t1, .ref t2, .ref t3])) := ((same_upd n2).trans s6).trans u6
      have u4 : Same H4 (upd (upd H6 t3 (.tup [.ref l3, x])) m (.lst [.ref t1, .ref t2, .ref t3])) := ((same_upd n1).trans s5).trans u5
      have S7 : Same H0 (upd (upd H6 t3 (.tup [.ref l3, x])) m (.lst [.ref t1, .ref t2, .ref t3])) := (S3.trans s4).trans u4
      have M1 : Made K (upd (upd H6 t3 (.tup [.ref l3, x])) m (.lst [.ref t1, .ref t2, .ref t3])) l1 x := Made.same (H := H4) ⟨as1, e4, k4, tx.same s4⟩ u4
      have M2 : Made K (upd (upd H6 t3 (.tup [.ref l3, x])) m (.lst [.ref t1, .ref t2, .ref t3])) l2 y := Made.same (H := H5) ⟨as2, e5, k5, (ty.same s4).same ((same_upd n1).trans s5)⟩ u5
      have M3 : Made K (upd (upd H6 t3 (.tup [.ref l3, x])) m (.lst [.ref t1, .ref t2, .ref t3])) l3 x := Made.same (H := H6) ⟨as3, e6, k6, ((tx.same s4).same ((same_upd n1).trans s5)).same ((same_upd n2).trans s6)⟩ u6
      have q1 : (upd (upd H6 t3 (.tup [.ref l3, x])) m (.lst [.ref t1, .ref t2, .ref t3])) t1 = some (.tup [.ref l1, x]) := u5 _ _ (s5 _ _ upd_same)
      have q2 : (upd (upd H6 t3 (.tup [.ref l3, x])) m (.lst [.ref t1, .ref t2, .ref t3])) t2 = some (.tup [.ref l2, y]) := u6 _ _ (s6 _ _ upd_same)
      have q3 : (upd (upd H6 t3 (.tup [.ref l3, x])) m (.lst [.ref t1, .ref t2, .ref t3])) t3 = some (.tup [.ref l3, x]) := same_upd nm _ _ upd_same
      have hm : (upd (upd H6 t3 (.tup [.ref l3, x])) m (.lst [.ref t1, .ref t2, .ref t3])) m = some (.lst [.ref t1, .ref t2, .ref t3]) := upd_same
      generalize upd (upd H6 t3 (.tup [.ref l3, x])) m (.lst [.ref t1, .ref t2, .ref t3]) = H7 at *
      refine ⟨_, rfl, m, rfl, ⟨_, SqL.of hm⟩, for_list (xs := [.ref t1, .ref t2, .ref t3]) (fun _ σ H => Same H7 H ∧ ∃ r, σ = some (.ref l) :: r ∧ r.length = 11) ⟨Same.refl _, _, rfl, rfl⟩ (fun _ _ _ _ h => SqL.of (h.1 _ _ hm)) ?item ?done⟩
      case done =>
        rintro σ H8 ⟨s8, r, rfl, hr⟩
        exact ⟨(S7.trans s8).seq hS0, r, rfl, hr⟩
      case item =>
        rintro j z σ H8 hz ⟨s8, r, rfl, hr8⟩
        obtain ⟨o1, o2, o3, o4, o5, o6, o7, o8, o9, o10, o11, rfl⟩ := twelve hr8
        have hj : ∃ t lq v, z = .ref t ∧ H8 t = some (.tup [.ref lq, v]) ∧ Made K H8 lq v := by
          match j, hz with
          | 0, hz => exact ⟨t1, l1, x, (Option.some.inj hz).symm, s8 _ _ q1, M1.same s8⟩
          | 1, hz => exact ⟨t2, l2, y, (Option.some.inj hz).symm, s8 _ _ q2, M2.same s8⟩
          | 2, hz => exact ⟨t3, l3, x, (Option.some.inj hz).symm, s8 _ _ q3, M3.same s8⟩
        obtain ⟨t, lq, v, rfl, ht, as, el, ea, tv⟩ := hj
        refine ⟨t, [.ref lq, v], rfl, SqT.of ht, rfl, _, _, rfl, _, _, rfl, rfl, ?_⟩
        refine ⟨_, rfl, lq, as, v, rfl, el, ea, fun H9 q s9 e9 => ⟨q, rfl, ⟨_, SqL.of e9⟩, fun D nD => lc_list (xs := List.replicate 20 v) (fun i H => Same H9 H ∧ H D = some (.lst (List.replicate i (.bl true)))) ⟨same_upd nD, upd_same⟩ (fun _ _ _ h => SqL.of (h.1 _ _ e9)) ?each ?told⟩⟩
        case each =>
          rintro i' u H' hu' ⟨s', e'⟩
          obtain ⟨_, rfl⟩ : i' < 20 ∧ u = v := by
            rw [List.getElem?_replicate] at hu'
            split at hu'
            · exact ⟨by assumption, (Option.some.inj hu').symm⟩
            · cases hu'
          refine ⟨rfl, ?_⟩
          refine ⟨_, rfl, _, rfl, u, rfl, (tv.same s9).same s', _, e', ?_, same_over nD s', ?_⟩
          · rw [List.length_replicate, sizeLine_eq]
            omega
          · rw [upd_same, List.replicate_succ']
        case told =>
          rintro H10 ⟨s10, e10⟩
          refine ⟨D, List.replicate 20 true, rfl, SqL.of e10, _, rfl, iteN rfl ?_⟩
          have el10 : H10 lq = some (.lst (as.map .ref)) := s10 _ _ (s9 _ _ el)
          have ea10 := (ea.same s9).same s10
          refine ⟨_, rfl, rfl, fun H11 lo bs s11 e11 k11 => ⟨lq, lo, as.map .ref, bs.map .ref, rfl, rfl, s11 _ _ el10, e11, ?_, fun er ner => ?_⟩⟩
          · rw [List.length_map, List.length_map, k11.len, ea.len, sizeLine_eq]
            decide
          have s12 : Same H7 (upd H11 er (.lst (as.map .ref ++ bs.map .ref))) := (((s8.trans s9).trans s10).trans s11).trans (same_upd ner)
          have her : (upd H11 er (.lst (as.map .ref ++ bs.map .ref))) er = some (.lst ((as ++ bs).map .ref)) := by rw [upd_same, List.map_append]
          have ea12 := (ea10.same s11).same (same_upd (o := .lst (as.map .ref ++ bs.map .ref)) ner)
          have eb12 := k11.same (same_upd (o := .lst (as.map .ref ++ bs.map .ref)) ner)
          have hlen : ((as ++ bs).map V.ref).length = 28 := by
            rw [List.length_map, List.length_append, ea.len, k11.len]
            decide
          generalize upd H11 er (.lst (as.map .ref ++ bs.map .ref)) = H12 at *
          refine ⟨_, rfl, .ref er, 28, rfl, .inl ⟨_, SqL.of her, hlen.symm⟩, 28, rfl, by decide, by decide, for_range (n := 28) (fun _ σ H => Same H12 H ∧ ∃ o1 o2 o3 o4 o5 o6 o7 o9 o10 o11, σ = [some (.ref l), o1, o2, o3, o4, o5, o6, o7, some (.ref er), o9, o10, o11]) ⟨Same.refl _, _, _, _, _, _, _, _, _, _, _, rfl⟩ ?err ?over⟩
          case over =>
            rintro σ H13 ⟨s13, o1, o2, o3, o4, o5, o6, o7, o9, o10, o11, rfl⟩
            exact ⟨s12.trans s13, _, rfl, rfl⟩
          case err =>
            rintro k σ H13 hk ⟨s13, o1, o2, o3, o4, o5, o6, o7, o9, o10, o11, rfl⟩
            obtain ⟨c, hc, mc⟩ := cs28_at hk
            obtain ⟨e, fs, he, hE⟩ := errs28 (ea12.same s13) (eb12.same s13) hc
            have hx : ((as ++ bs).map V.ref)[k]? = some (V.ref e) := by rw [List.getElem?_map, he] <;> rfl
            have hat : atI ((as ++ bs).map V.ref) (0 + (k : Int)) = some (V.ref e) := by
              rw [Int.zero_add]
              exact atI_nat hx
            have her13 := s13 _ _ her
            refine ⟨_, rfl, _, rfl, er, _, _, _, rfl, rfl, SqL.of her13, hat, e, _, _, fs, _, true, rfl, ClsV.own _, hE, T.c28 c mc, T.kL c mc, true, rfl, iteN rfl ?_⟩
            refine ⟨_, rfl, _, rfl, er, _, _, _, rfl, rfl, SqL.of her13, hat, e, .ty "ValueError", _, fs, _, true, rfl, ClsV.ty _, hE, T.c28 c mc, T.kV c mc, true, rfl, iteN rfl ?_⟩
            refine ⟨_, rfl, _, rfl, er, _, _, _, rfl, rfl, SqL.of her13, hat, e, _, fs, fun y => decide (cs28[k]? = some y), rfl, hE, T.c28 c mc, fun y hy => ?_, fun H14 p14 s14 e14 => ?_⟩
            · rw [T.kk c mc y hy, hc]
              congr 1
              simp
            refine ⟨28, rfl, by decide, by decide, fun D2 nD2 => lc_range (n := 28) (fun j H => Same H14 H ∧ H D2 = some (.lst ((List.range j).map fun t => .bl (decide (t = k))))) ⟨same_upd nD2, upd_same⟩ ?each2 ?told2⟩
            case each2 =>
              rintro j H15 hj ⟨s15, e15⟩
              refine ⟨rfl, ?_⟩
              refine ⟨_, rfl, _, rfl, rfl, _, e15, ?_, same_over nD2 s15, ?_⟩
              · rw [List.length_map, List.length_range, sizeLine_eq]
                omega
              · rw [upd_same, List.range_succ, List.map_append, List.map_singleton, dec_jk]
            case told2 =>
              rintro H15 ⟨s15, e15⟩
              obtain ⟨b1, b2, b3⟩ := bools_ok ⟨k, hk⟩
              refine ⟨_, _, .lst (SqL.of (s15 _ _ e14)) (dp_bools (fun y => decide (cs28[k]? = some y)) cs28), .lst (SqL.of e15) (dp_bools (fun t => decide (t = k)) (List.range 28)), b1, b2, _, rfl, iteN ?_ ?_⟩
              · rw [b3]
                rfl
              · exact ⟨(s13.trans s14).trans s15, _, _, _, _, _, _, _, _, _, _, rfl⟩
end
end K1
end L2

set_option Elab.async false
set_option linter.all false
set_option maxRecDepth 100000
set_option maxHeartbeats 0
namespace L2
namespace K1
open PySem PySem.Spec PyProof.Rows
theorem facts {P : Program} {w : World} {K : PySem.W.Frag} {h : Heap} {mg : Str → Option Value} {f : Addr} (X : K.In h) (G : h.Ns mainGlobals mg) (hfa : mg ("law" : Str) = some (.ref f)) (c : He.SaysD fa fn K) (e : ex K = true) :
    ∃ fd : FuncData, (∀ (s : Shared) (v : Value), BindsTo s fd ⟨[v], []⟩ [("_law_script", v)]) ∧ ∀ base : Heap, K.In base → base.Ns mainGlobals mg → FnOk P w K mg base CX0 4 f fd ["_law_script"] (spLaw K) := by
  have T : Txt K mg := txt_mk X G c e
  obtain ⟨d0, F0⟩ := c.def_ 0 (d := dfn "_law_cell" 31) rfl
  obtain ⟨d1, F1⟩ := c.def_ 1 (d := dfn "_law_pool" 32) rfl
  obtain ⟨d2, F2⟩ := c.def_ 2 (d := dfn "_law_take" 33) rfl
  obtain ⟨d3, F3⟩ := c.def_ 3 (d := dfn "_law_thing" 34) rfl
  obtain ⟨d4, F4⟩ := c.def_ 4 (d := dfn "_law_by_place" 35) rfl
  obtain ⟨d5, F5⟩ := c.def_ 5 (d := dfn "_law_by_name" 36) rfl
  obtain ⟨d6, F6⟩ := c.def_ 6 (d := dfn "_law_held" 37) rfl
  obtain ⟨d7, F7⟩ := c.def_ 7 (d := dfn "_law_others" 38) rfl
  obtain ⟨d8, F8⟩ := c.def_ 8 (d := dfn "_law_classes" 39) rfl
  obtain ⟨d9, F9⟩ := c.def_ 9 (d := dfn "_law_is_same" 40) rfl
  obtain ⟨fd, F⟩ := c.def_ 10 (d := dfn "law" 41) rfl
  have e0 := hfa.symm.trans (He.glo_ok X G (c.fact 10 (f := .glo "law") rfl))
  cases e0
  have b := FunD.bindsA (ps := ["_law_script"]) F fun _ _ _ _ _ _ us hl => match us, hl with | [_], _ => rfl
  refine ⟨fd, fun s v => b s [v] rfl, fun base _ _ => ?_⟩
  have I := ini_all (P := P) (w := w) (base := base) c T
  exact ok_law T F
    ⟨_, d0, ok_cell T F0, He.glo_ok X G (c.fact 0 (f := .glo "_law_cell") rfl), F0.kp, F0.bindsN fun _ _ _ _ _ _ us hl => match us, hl with | [_, _], _ => rfl⟩
    ⟨_, d1, ok_pool T F1, He.glo_ok X G (c.fact 1 (f := .glo "_law_pool") rfl), F1.kp, F1.bindsN fun _ _ _ _ _ _ us hl => match us, hl with | [_], _ => rfl⟩
    ⟨_, d3, ok_thing T (He.glo_ok X G (c.fact 2 (f := .glo "_law_take") rfl)) F2 F3, He.glo_ok X G (c.fact 3 (f := .glo "_law_thing") rfl), F3.kp, F3.bindsN fun _ _ _ _ _ _ us hl => match us, hl with | [_], _ => rfl⟩
    ⟨_, d4, ok_law_by_place T I F4, He.glo_ok X G (c.fact 4 (f := .glo "_law_by_place") rfl), F4.kp, F4.bindsN fun _ _ _ _ _ _ us hl => match us, hl with | [_], _ => rfl⟩
    ⟨_, d5, ok_law_by_name T I F5, He.glo_ok X G (c.fact 5 (f := .glo "_law_by_name") rfl), F5.kp, F5.bindsN fun _ _ _ _ _ _ us hl => match us, hl with | [_], _ => rfl⟩
    ⟨_, d6, ok_law_held T F6, He.glo_ok X G (c.fact 6 (f := .glo "_law_held") rfl), F6.kp, F6.bindsN fun _ _ _ _ _ _ us hl => match us, hl with | [_], _ => rfl⟩
    ⟨_, d7, ok_law_others T F7, He.glo_ok X G (c.fact 7 (f := .glo "_law_others") rfl), F7.kp, F7.bindsN fun _ _ _ _ _ _ us hl => match us, hl with | [], _ => rfl⟩
    ⟨_, d8, ok_law_classes T F8, He.glo_ok X G (c.fact 8 (f := .glo "_law_classes") rfl), F8.kp, F8.bindsN fun _ _ _ _ _ _ us hl => match us, hl with | [_], _ => rfl⟩
    ⟨_, d9, ok_same T F9, He.glo_ok X G (c.fact 9 (f := .glo "_law_is_same") rfl), F9.kp, F9.bindsN fun _ _ _ _ _ _ us hl => match us, hl with | [_, _], _ => rfl⟩
end K1
end L2
open PySem PySem.W PySem.Calls PyProof.Rows
theorem PySem.Challenge.cw_lotmarks_k01_errors_made_holds : PySem.Challenge.rw_lotmarks_k01_errors_made.Holds := by
  w_on; o_law
  refine HandSHeadRun.head_any (r := OpenLaw.row PySem.Challenge.rw_lotmarks_k01_errors_made) (q := view (OpenLaw.row PySem.Challenge.rw_lotmarks_k01_errors_made).prog [41]) (H := L2.K1.hk) (ob := L2.K1.ob) (M := 40000) (loose := L2.K1.loose)
    (d := HandSHeadRun.topDef (OpenLaw.row PySem.Challenge.rw_lotmarks_k01_errors_made).prog 41) (kwd := []) L2.K1.ob_eq
    (by kernel_rfl) (fun s => by kernel_rfl) L2.K1.run (by kernel_rfl) (by kernel_rfl) (by kernel_rfl) (by rfl) (by first | assumption | decide +kernel) (by decide +kernel) ⟨rfl, rfl, rfl, rfl, rfl, by decide +kernel⟩ ?hw ?hc
  case hw => w_witness2
  case hc =>
    refine L2.walk_ofE (l := PySem.Challenge.rw_lotmarks_k01_errors_made) (n := 63) (k := 4) (x := "_law_script") (CX := L2.CX0) rfl (by decide) (by kernel_rfl) ⟨rfl, by decide, by decide⟩ ?F (fun _ _ _ _ z => z)
    intro w mg fa h Y G hmg0
    obtain ⟨K, KX, c, e⟩ := Y
    have hmg : mg ("law" : PySem.Str) = some (.ref fa) := by
      have e : (HandSHeadRun.topDef (OpenLaw.row PySem.Challenge.rw_lotmarks_k01_errors_made).prog 41).name = ("law" : PySem.Str) := by kernel_rfl
      rw [← e]
      exact hmg0
    obtain ⟨fd, hb, hF⟩ := L2.K1.facts (P := (PySem.Challenge.rw_lotmarks_k01_errors_made).prog) (w := w) KX G hmg c e
    exact ⟨K, fd, L2.K1.spLaw K, KX, hb, fun H a ns hl _ hS => ⟨a, ns, rfl, hS, fun _ => rfl⟩, hF⟩
