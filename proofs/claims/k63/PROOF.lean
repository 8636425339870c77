import PyProof.Rows.All
import Wide.All
import OpenK.AllK
import Wide.FinOn
import HandS.DictComp
import HandS.NoneIn
import HandS.Exc
import HandS.ExcOwn
import HandS.ExcInit
import HandS.WordsExc
import HandS.TryOnly
import HandS.Base
import HandS.Call
import HandS.List
import HandS.Comp
import HandS.Dict
import HandS.Iter
import HandS.Walk
import HandS.Text
import HandS.Conv
import HandS.IsInst
import HandS.Words
import HandS.Defaults
import OpenK.KMeth
import HandS.Strs
import KE.KExcIs
import HandS.Ends
import HandS.HeadHook2
import HandS.DeepEq
import PyProof.EnumMake
import PyProof.Draws
import KE.GoesMore
import HandS.StrMore
import KE.KStateDown
import HandS.Head0
import HandS.Head1
import HandS.Head2
import HandS.HeadEnd
import KE.KNestM
import HandS.HeadWalk
import HandS.Lambda
import HandS.EndTab
import HandS.More
import PyProof.NeKinds
import HandS.TryMany
import KE.KDictList
import HandS.ListItems
import HandS.DictEq
import PyProof.InstEq
import HandS.OwnIter
import OpenK.KOps
import OpenK.KWalk
import KE.KOwnIter
import HandS.IterNext
import HandS.IterVal
import HandS.OwnEq
import HandS.Deep
import HandS.Sort
import HandS.Style
import PySem.Challenge.RW_lotmarks_k63_pieces_in_a_row
set_option Elab.async false
set_option linter.all false
set_option maxRecDepth 100000
set_option maxHeartbeats 4000000
namespace SSx
open PySem PySem.Spec PyProof.Rows SS
/-! the texts of a list, each once -/
def sp (s : List PySem.Str) (v : PySem.Str) : List PySem.Str := if s.any (· == v) = true then s else s ++ [v]
def ddN (xs : List PySem.Str) (i : Nat) : List PySem.Str := (xs.take i).foldl sp []
theorem ddN_succ {xs : List PySem.Str} {i : Nat} (h : i < xs.length) : ddN xs (i + 1) = sp (ddN xs i) (xs.getD i Str.empty) := by
  unfold ddN
  rw [List.take_succ, List.getElem?_eq_getElem h, List.getD_eq_getElem?_getD, List.getElem?_eq_getElem h, List.foldl_append]
  rfl
theorem sp_any (s : List PySem.Str) (v k : PySem.Str) : (sp s v).any (· == k) = (s.any (· == k) || decide (k = v)) := by
  unfold sp
  by_cases h : s.any (· == v) = true
  · rw [if_pos h]
    by_cases e : k = v
    · rw [e, h]
      simp
    · simp [e]
  · rw [if_neg h, List.any_append]
    by_cases e : k = v
    · rw [e]
      simp
    · have hb : (v == k) = false := by simpa [beq_iff_eq] using (fun h' : v = k => e h'.symm)
      simp [hb, e]
theorem sp_len (s : List PySem.Str) (v : PySem.Str) : (sp s v).length = if s.any (· == v) = true then s.length else s.length + 1 := by
  unfold sp
  split <;> simp
theorem ddN_le (xs : List PySem.Str) : ∀ i, (ddN xs i).length ≤ i
  | 0 => by simp [ddN]
  | i + 1 => by
    have ih := ddN_le xs i
    by_cases h : i < xs.length
    · rw [ddN_succ h, sp_len]
      split <;> omega
    · have e : ddN xs (i + 1) = ddN xs i := by
        unfold ddN
        rw [List.take_of_length_le (by omega), List.take_of_length_le (by omega)]
      rw [e]
      omega
section
variable {prog : Program} {w : World} {A : Around} {R : Result → Shared → Prop} {I : Addr} {fp wr : List Addr} {G : Array GenState → Array GenState → Prop} {n : Nat} {P : Nat → Value → Prop} {St : Nat → Shared → Prop}
theorem loopTxt (W : WalksS prog w A.in1 I fp wr G n P St) (S : Addr) (hSf : S ∉ fp) (xs : List Str) (hsz : xs.length = n) (hn1 : n + 1 < scanBound)
    (hval : ∀ i v, P i v → ∃ t, v = .str (xs.getD i Str.empty) t) :
    ∀ (k i : Nat) (s : Shared), n - i = k → i ≤ n → St i s →
      s.heap.SetOf (PySem.strKind prog w) S (fun k' => (ddN xs i).any (· == k')) (ddN xs i).length →
      (∀ s', Moved (S :: wr) G s s' → s'.heap.SetOf (PySem.strKind prog w) S (fun k' => (ddN xs n).any (· == k')) (ddN xs n).length → R (.ok (.ret .none)) s') →
      codeAny (model prog w) A (.builtin "set.update.loop" ⟨[.ref S, .ref I], []⟩) R s := by
  have hSw : S ∉ wr := fun h => hSf (W.sub _ h)
  have hsub : ∀ b ∈ wr, b ∈ S :: wr := fun b hb => List.mem_cons_of_mem _ hb
  intro k
  induction k with
  | zero =>
    intro i s hk hi hst hS hR
    have hin : i = n := by omega
    subst hin
    refine codeAny_builtin PyProof.Rows.F.entry_set_update_loop ?_
    rw [Around.under_plainId PyProof.Rows.F.plain_set_update_loop _]
    show wpAny _ A.in1 (pyNext (.ref I) >>= _) _ _ s
    refine wpAny_bind (W.done s _ _ hst fun s' hm => ?_)
    show wpAny _ A.in1 (ret Value.none) _ _ s'
    exact wpAny_pure (hR s' (hm.mono hsub) (by
      obtain ⟨o, es, ep, t, ho, rest⟩ := hS
      exact ⟨o, es, ep, t, hm.heap S _ hSw ho, rest⟩))
  | succ k ih =>
    intro i s hk hi hst hS hR
    have hlt : i < n := by omega
    refine codeAny_builtin PyProof.Rows.F.entry_set_update_loop ?_
    rw [Around.under_plainId PyProof.Rows.F.plain_set_update_loop _]
    show wpAny _ A.in1 (pyNext (.ref I) >>= _) _ _ s
    refine wpAny_bind (W.item i s _ _ hlt hst fun v s' hP hst' hm => ?_)
    obtain ⟨t, rfl⟩ := hval i v hP
    have hS' : s'.heap.SetOf (PySem.strKind prog w) S (fun k' => (ddN xs i).any (· == k')) (ddN xs i).length := by
      obtain ⟨o, es, ep, tb, ho, rest⟩ := hS
      exact ⟨o, es, ep, tb, hm.heap S _ hSw ho, rest⟩
    show wpAny _ A.in1 (holding [Value.str (xs.getD i Str.empty) t] (setAdd S (.str (xs.getD i Str.empty) t)) >>= _) _ _ s'
    refine wpAny_bind (wpAny_holding ?_)
    unfold setAdd
    refine wpAny_holding ?_
    refine wpAny_bind ((PySem.strKind prog w).pyHash (k := xs.getD i Str.empty) (strKind_is _ _ _ _) ?_)
    refine wpAny_setAddHashed_of (knd := PySem.strKind prog w) (s := { s' with toks := s'.toks + 1 }) (strKind_is _ _ _ _) rfl hS' (by have := ddN_le xs i; omega) fun h' hsb hS2 => ?_
    have hSi : h'.SetOf (PySem.strKind prog w) S (fun k' => (ddN xs (i + 1)).any (· == k')) (ddN xs (i + 1)).length := by
      rw [ddN_succ (show i < xs.length by omega)]
      exact SetOf_congr hS2 (fun k' => (sp_any _ _ _).symm) (sp_len _ _).symm
    refine wpAny_pure ⟨plainId_quiet PyProof.Rows.F.plain_set_update_loop _, ih (i + 1) _ (by omega) hlt (W.frame _ s' _ _ hst' (Nat.le_succ _) fun b hb o e => ?_) hSi fun s'' hm'' hS'' => ?_⟩
    · rw [hsb.2 b (fun h : b = S => hSf (by rw [← h]; exact hb))]; exact e
    · refine hR s'' (Moved.trans W.gtrans ((hm.mono hsub).then_heap (Nat.le_succ _) fun b o hb e => ?_) hm'') hS''
      rw [hsb.2 b (fun h : b = S => hb (by rw [h]; exact List.mem_cons_self))]; exact e
end

section
variable {prog : Program} {w : World} {A : Around} {E : Value → Shared → Prop} {s : Shared}
set_option maxHeartbeats 3200000 in
theorem set_listTxt {l : Addr} {items : Array Value} {xs : List Str} {Q : Value → Shared → Prop}
    (hh : A.handled = none) (hl : s.heap.IsList l items) (hi : PyProof.Rows.StrsAre items.toList xs) (hn1 : xs.length + 1 < scanBound)
    (h : ∀ (h' : Heap) (tk : Nat), h'.SetOf (PySem.strKind prog w) s.heap.objs.size (fun k' => (ddN xs items.size).any (· == k')) (ddN xs items.size).length →
      (∀ b o, b < s.heap.objs.size → s.heap.get? b = some o → h'.get? b = some o) → Q (.ref s.heap.objs.size) { s with heap := h', toks := tk }) :
    wpAny (model prog w) A (call (.type "set") [.ref l]) Q E s := by
  obtain ⟨c, tl, hmro⟩ := PySem.F.called_set.mro
  have hmade := PySem.F.called_set.made
  have hsub := PySem.F.called_set.sub
  refine wpAny_call (codeAny_of_tree ?_)
  show wpAny _ _ (callAny (.type "set") _) _ _ _
  refine wpAny_pure ⟨Code.quiet_builtin _ (by decide +kernel), codeAny_builtin PySem.F.entry_type_call ?_⟩
  rw [Around.under_plain (weight_type_call_type "set" [.ref l] []) rfl]
  have h1 := PySem.F.called_set.notType
  have h2 := PySem.F.called_set.canCreate
  have hct := PySem.F.typeCall_set_1 (.ref l)
  repeat (any_goals (first | assumption | wp_step))

  refine codeAny_mono (code_set_new_1 (.ref l) (E := E) (Q₁ := fun obj s₁ => ∃ led : Bool, obj = .ref s.heap.objs.size ∧ s₁ = { s with heap := s.heap.push { cls := .type "set", dict := none, data := .set #[] 0 (.fresh 0 0 led) } }) fun led => ⟨led, rfl, rfl⟩) fun r s₁ hr => ?_
  cases r with
  | error e => exact hr
  | ok fl =>
    cases fl with
    | ret obj =>
      obtain ⟨led, rfl, rfl⟩ := hr
      have hS : (s.heap.push { cls := .type "set", dict := none, data := .set #[] 0 (.fresh 0 0 led) }).get? s.heap.objs.size = some { cls := .type "set", dict := none, data := .set #[] 0 (.fresh 0 0 led) } := Heap.get?_push_size _ rfl
      have hT : Shared.TypeIs { s with heap := s.heap.push { cls := .type "set", dict := none, data := .set #[] 0 (.fresh 0 0 led) } } (.ref s.heap.objs.size) "set" := ⟨_, hS, rfl⟩
      have hli := PySem.F.called_set.init.lookup
      have hbi := PySem.F.called_set.init.bind (.ref s.heap.objs.size)
      repeat (any_goals (first | assumption | wp_step))

      refine codeAny_mono (codeAny_call_builtin (R := wants (fun r s₂ => r = .none ∧ ∃ h' tk, s₂ = { s with heap := h', toks := tk } ∧
          h'.SetOf (PySem.strKind prog w) s.heap.objs.size (fun k' => (ddN xs items.size).any (· == k')) (ddN xs items.size).length ∧
          (∀ b o, b < s.heap.objs.size → s.heap.get? b = some o → h'.get? b = some o)) E) PySem.F.called_set.init.plain PySem.F.entry_set_init (check_set_init_1 hT ?_)) fun r₂ s₂ hr₂ => ?_
      · obtain ⟨ol, hol, hcl, nl, hdl⟩ := hl
        obtain ⟨ocls, odict, odata, oslots⟩ := ol
        simp only at hcl hdl
        subst hcl; subst hdl
        have hol' : (s.heap.push { cls := .type "set", dict := none, data := .set #[] 0 (.fresh 0 0 led) }).get? l = some { cls := .type "list", dict := odict, data := .seq items nl, slots := oslots } := Heap.get?_push_of_some _ hol
        have hsls := PySem.F.sub_list_set
        have hslf := PySem.F.sub_list_frozenset
        have hne : (Value.type "list" == Value.type "dict") = false := by decide
        have hl1 : (s.heap.push { cls := .type "set", dict := none, data := .set #[] 0 (.fresh 0 0 led) }).IsList l items := ⟨_, hol', rfl, nl, rfl⟩
        unfold Builtin.«set.__init__» noKeywords Builtin.Frozenset.updateFrom
        generalize hPI : pyIter = PI
        wp_walk
        subst hPI

        refine wpAny_pyIter_list hl1 ?_
        refine wpAny_bind (wpAny_runValue ?_)
        have hlS : l < s.heap.objs.size := Heap.lt_size hol
        have hh3 : A.in1.in1.in1.handled = none := by simp [hh]
        have hneI : l ≠ (s.heap.push { cls := .type "set", dict := none, data := .set #[] 0 (.fresh 0 0 led) }).objs.size := by
          rw [Heap.size_push]; exact Nat.ne_of_lt (Nat.lt_succ_of_lt hlS)
        have hSf : s.heap.objs.size ∉ [(s.heap.push { cls := .type "set", dict := none, data := .set #[] 0 (.fresh 0 0 led) }).objs.size, l] := by
          rw [Heap.size_push]; simp only [List.mem_cons, List.mem_singleton, List.not_mem_nil, or_false, not_or]
          exact ⟨Nat.ne_of_lt (Nat.lt_succ_self _), Nat.ne_of_gt hlS⟩
        have hsz : xs.length = items.size := by rw [← StrsAre.len_eq hi, Array.length_toList]
        have hval : ∀ (i : Nat) (v : Value), items[i]? = some v → ∃ t, v = .str (xs.getD i Str.empty) t := fun i v hv => strs_at hi i v (by rw [Array.getElem?_toList]; exact hv)
        refine loopTxt ((Walks.list hh3 _ l hneI items).toS) s.heap.objs.size
          hSf xs hsz (by rw [← hsz]; exact hn1) hval (items.size - 0) 0 _ (by omega) (Nat.zero_le _)
          ⟨⟨_, Heap.get?_push_size _ rfl, rfl, rfl⟩, (hl1.push _)⟩ ?hS0 ?hR
        case hS0 =>
          have hget : ((s.heap.push { cls := .type "set", dict := none, data := .set #[] 0 (.fresh 0 0 led) }).push { cls := .type "list_iterator", data := .fields #[.ref l, .int 0 0] }).get? s.heap.objs.size
              = some { cls := .type "set", dict := none, data := .set #[] 0 (.fresh 0 0 led) } := Heap.get?_push_of_some _ hS
          exact PyProof.Rows.SetOf_congr ((PyProof.Rows.setObjOf_fresh (knd := PySem.strKind prog w) led).setOf hget (by unfold scanBound; omega)) (fun _ => rfl) rfl
        case hR =>
          intro s' hm hS'
          obtain ⟨h', g', d', tk', os'⟩ := s'
          have eg : g' = s.gens := hm.gens
          have ed : d' = s.drawn := hm.drawn
          have eo : os' = s.os := hm.os
          subst eg; subst ed; subst eo
          show wpAny _ _ _ _ _ _
          refine wpAny_pure ?_
          show wpAny _ _ (ret Value.none) _ _ _
          refine wpAny_pure ⟨rfl, h', tk', rfl, hS', fun b o hb e => ?_⟩
          have hb1 : b ≠ s.heap.objs.size := Nat.ne_of_lt hb
          have hb2 : b ≠ (s.heap.push { cls := .type "set", dict := none, data := .set #[] 0 (.fresh 0 0 led) }).objs.size := by
            rw [Heap.size_push]; exact Nat.ne_of_lt (Nat.lt_succ_of_lt hb)
          exact hm.heap b o (by simp only [List.mem_cons, List.mem_singleton, List.not_mem_nil, or_false, not_or]; exact ⟨hb1, hb2⟩) (Heap.get?_push_of_some _ (Heap.get?_push_of_some _ e))

      · cases r₂ with
        | error e => exact hr₂
        | ok fl₂ =>
          cases fl₂ with
          | ret r =>
            obtain ⟨rfl, h', tk, rfl, hS', hk'⟩ := hr₂
            repeat (any_goals (first | assumption | wp_step))
            exact h _ _ hS' hk'
          | _ => exact hr₂.elim
    | _ => exact hr.elim

set_option maxHeartbeats 3200000 in
theorem set_tupleTxt {l : Addr} {items : Array Value} {xs : List Str} {Q : Value → Shared → Prop}
    (hh : A.handled = none) (hl : s.heap.IsTuple l items) (hi : PyProof.Rows.StrsAre items.toList xs) (hn1 : xs.length + 1 < scanBound)
    (h : ∀ (h' : Heap) (tk : Nat), h'.SetOf (PySem.strKind prog w) s.heap.objs.size (fun k' => (ddN xs items.size).any (· == k')) (ddN xs items.size).length →
      (∀ b o, b < s.heap.objs.size → s.heap.get? b = some o → h'.get? b = some o) → Q (.ref s.heap.objs.size) { s with heap := h', toks := tk }) :
    wpAny (model prog w) A (call (.type "set") [.ref l]) Q E s := by
  obtain ⟨c, tl, hmro⟩ := PySem.F.called_set.mro
  have hmade := PySem.F.called_set.made
  have hsub := PySem.F.called_set.sub
  refine wpAny_call (codeAny_of_tree ?_)
  show wpAny _ _ (callAny (.type "set") _) _ _ _
  refine wpAny_pure ⟨Code.quiet_builtin _ (by decide +kernel), codeAny_builtin PySem.F.entry_type_call ?_⟩
  rw [Around.under_plain (weight_type_call_type "set" [.ref l] []) rfl]
  have h1 := PySem.F.called_set.notType
  have h2 := PySem.F.called_set.canCreate
  have hct := PySem.F.typeCall_set_1 (.ref l)
  repeat (any_goals (first | assumption | wp_step))

  refine codeAny_mono (code_set_new_1 (.ref l) (E := E) (Q₁ := fun obj s₁ => ∃ led : Bool, obj = .ref s.heap.objs.size ∧ s₁ = { s with heap := s.heap.push { cls := .type "set", dict := none, data := .set #[] 0 (.fresh 0 0 led) } }) fun led => ⟨led, rfl, rfl⟩) fun r s₁ hr => ?_
  cases r with
  | error e => exact hr
  | ok fl =>
    cases fl with
    | ret obj =>
      obtain ⟨led, rfl, rfl⟩ := hr
      have hS : (s.heap.push { cls := .type "set", dict := none, data := .set #[] 0 (.fresh 0 0 led) }).get? s.heap.objs.size = some { cls := .type "set", dict := none, data := .set #[] 0 (.fresh 0 0 led) } := Heap.get?_push_size _ rfl
      have hT : Shared.TypeIs { s with heap := s.heap.push { cls := .type "set", dict := none, data := .set #[] 0 (.fresh 0 0 led) } } (.ref s.heap.objs.size) "set" := ⟨_, hS, rfl⟩
      have hli := PySem.F.called_set.init.lookup
      have hbi := PySem.F.called_set.init.bind (.ref s.heap.objs.size)
      repeat (any_goals (first | assumption | wp_step))

      refine codeAny_mono (codeAny_call_builtin (R := wants (fun r s₂ => r = .none ∧ ∃ h' tk, s₂ = { s with heap := h', toks := tk } ∧
          h'.SetOf (PySem.strKind prog w) s.heap.objs.size (fun k' => (ddN xs items.size).any (· == k')) (ddN xs items.size).length ∧
          (∀ b o, b < s.heap.objs.size → s.heap.get? b = some o → h'.get? b = some o)) E) PySem.F.called_set.init.plain PySem.F.entry_set_init (check_set_init_1 hT ?_)) fun r₂ s₂ hr₂ => ?_
      · obtain ⟨ol, hol, hcl, nl, hdl⟩ := hl
        obtain ⟨ocls, odict, odata, oslots⟩ := ol
        simp only at hcl hdl
        subst hcl; subst hdl
        have hol' : (s.heap.push { cls := .type "set", dict := none, data := .set #[] 0 (.fresh 0 0 led) }).get? l = some { cls := .type "tuple", dict := odict, data := .seq items nl, slots := oslots } := Heap.get?_push_of_some _ hol
        have hsls := PySem.F.sub_tuple_set
        have hslf := PySem.F.sub_tuple_frozenset
        have hne : (Value.type "tuple" == Value.type "dict") = false := by decide
        have hl1 : (s.heap.push { cls := .type "set", dict := none, data := .set #[] 0 (.fresh 0 0 led) }).IsTuple l items := ⟨_, hol', rfl, nl, rfl⟩
        unfold Builtin.«set.__init__» noKeywords Builtin.Frozenset.updateFrom
        generalize hPI : pyIter = PI
        wp_walk
        subst hPI

        refine wpAny_pyIter_tuple hl1 ?_
        refine wpAny_bind (wpAny_runValue ?_)
        have hlS : l < s.heap.objs.size := Heap.lt_size hol
        have hh3 : A.in1.in1.in1.handled = none := by simp [hh]
        have hneI : l ≠ (s.heap.push { cls := .type "set", dict := none, data := .set #[] 0 (.fresh 0 0 led) }).objs.size := by
          rw [Heap.size_push]; exact Nat.ne_of_lt (Nat.lt_succ_of_lt hlS)
        have hSf : s.heap.objs.size ∉ [(s.heap.push { cls := .type "set", dict := none, data := .set #[] 0 (.fresh 0 0 led) }).objs.size, l] := by
          rw [Heap.size_push]; simp only [List.mem_cons, List.mem_singleton, List.not_mem_nil, or_false, not_or]
          exact ⟨Nat.ne_of_lt (Nat.lt_succ_self _), Nat.ne_of_gt hlS⟩
        have hsz : xs.length = items.size := by rw [← StrsAre.len_eq hi, Array.length_toList]
        have hval : ∀ (i : Nat) (v : Value), items[i]? = some v → ∃ t, v = .str (xs.getD i Str.empty) t := fun i v hv => strs_at hi i v (by rw [Array.getElem?_toList]; exact hv)
        refine loopTxt ((Walks.tuple hh3 _ l hneI items).toS) s.heap.objs.size
          hSf xs hsz (by rw [← hsz]; exact hn1) hval (items.size - 0) 0 _ (by omega) (Nat.zero_le _)
          ⟨⟨_, Heap.get?_push_size _ rfl, rfl, rfl⟩, (hl1.push _)⟩ ?hS0 ?hR
        case hS0 =>
          have hget : ((s.heap.push { cls := .type "set", dict := none, data := .set #[] 0 (.fresh 0 0 led) }).push { cls := .type "tuple_iterator", data := .fields #[.ref l, .int 0 0] }).get? s.heap.objs.size
              = some { cls := .type "set", dict := none, data := .set #[] 0 (.fresh 0 0 led) } := Heap.get?_push_of_some _ hS
          exact PyProof.Rows.SetOf_congr ((PyProof.Rows.setObjOf_fresh (knd := PySem.strKind prog w) led).setOf hget (by unfold scanBound; omega)) (fun _ => rfl) rfl
        case hR =>
          intro s' hm hS'
          obtain ⟨h', g', d', tk', os'⟩ := s'
          have eg : g' = s.gens := hm.gens
          have ed : d' = s.drawn := hm.drawn
          have eo : os' = s.os := hm.os
          subst eg; subst ed; subst eo
          show wpAny _ _ _ _ _ _
          refine wpAny_pure ?_
          show wpAny _ _ (ret Value.none) _ _ _
          refine wpAny_pure ⟨rfl, h', tk', rfl, hS', fun b o hb e => ?_⟩
          have hb1 : b ≠ s.heap.objs.size := Nat.ne_of_lt hb
          have hb2 : b ≠ (s.heap.push { cls := .type "set", dict := none, data := .set #[] 0 (.fresh 0 0 led) }).objs.size := by
            rw [Heap.size_push]; exact Nat.ne_of_lt (Nat.lt_succ_of_lt hb)
          exact hm.heap b o (by simp only [List.mem_cons, List.mem_singleton, List.not_mem_nil, or_false, not_or]; exact ⟨hb1, hb2⟩) (Heap.get?_push_of_some _ (Heap.get?_push_of_some _ e))

      · cases r₂ with
        | error e => exact hr₂
        | ok fl₂ =>
          cases fl₂ with
          | ret r =>
            obtain ⟨rfl, h', tk, rfl, hS', hk'⟩ := hr₂
            repeat (any_goals (first | assumption | wp_step))
            exact h _ _ hS' hk'
          | _ => exact hr₂.elim
    | _ => exact hr.elim

end

theorem ddN_nodup {xs : List PySem.Str} : (ddN xs xs.length).length = xs.length ↔ xs.Nodup := by
  have key : ∀ i, i ≤ xs.length → ((ddN xs i).length = i ↔ (xs.take i).Nodup) ∧ ∀ k, k ∈ ddN xs i ↔ k ∈ xs.take i := by
    intro i
    induction i with
    | zero => intro _; simp [ddN]
    | succ i ih =>
      intro hi
      obtain ⟨ih1, ih2⟩ := ih (by omega)
      have hlt : i < xs.length := by omega
      have e1 : xs.take (i + 1) = xs.take i ++ [xs[i]] := by rw [List.take_succ, List.getElem?_eq_getElem hlt]; rfl
      have e2 : xs.getD i Str.empty = xs[i] := by rw [List.getD_eq_getElem?_getD, List.getElem?_eq_getElem hlt]; rfl
      have le := ddN_le xs i
      have am : ((ddN xs i).any (· == xs[i]) = true) ↔ xs[i] ∈ xs.take i := by
        rw [List.any_eq_true, ← ih2]
        constructor
        · rintro ⟨y, hy, e⟩
          rw [← eq_of_beq e]
          exact hy
        · intro h
          exact ⟨_, h, beq_self_eq_true _⟩
      rw [ddN_succ hlt, e2, sp_len]
      refine ⟨?_, fun k => ?_⟩
      · rw [e1, List.nodup_append]
        by_cases h : (ddN xs i).any (· == xs[i]) = true
        · rw [if_pos h]
          constructor
          · intro z
            omega
          · rintro ⟨_, _, z⟩
            exact absurd rfl (z _ (am.mp h) _ (List.mem_singleton.mpr rfl))
        · rw [if_neg h]
          constructor
          · intro z
            refine ⟨ih1.mp (by omega), by simp, fun y hy u hu e => ?_⟩
            rw [List.mem_singleton.mp hu] at e
            exact h (am.mpr (e ▸ hy))
          · rintro ⟨z, _, _⟩
            have := ih1.mpr z
            omega
      · rw [e1]
        unfold sp
        by_cases h : (ddN xs i).any (· == xs[i]) = true
        · rw [if_pos h, ih2, List.mem_append, List.mem_singleton]
          constructor
          · exact .inl
          · rintro (z | z)
            · exact z
            · rw [z]
              exact am.mp h
        · rw [if_neg h, List.mem_append, List.mem_append, ih2]
  have z := (key xs.length (Nat.le_refl _)).1
  rw [List.take_length] at z
  exact z
end SSx
namespace L2
open PySem PySem.Spec PyProof.Rows
section
variable {X : Cx}
/-- len(set(xs)), xs a list or tuple of texts -/
def tLenTxt (K : PySem.W.Frag) (ta : TE) : TE := fun σ H Q => ta σ H fun x H1 => ∃ (l : Addr) (xs : List Str), x = .ref l ∧ (SqL K H1 l (xs.map V.str) ∨ SqT K H1 l (xs.map V.str)) ∧ xs.length ≤ 1000 ∧ Q (.int ((SSx.ddN xs xs.length).length : Nat)) H1
theorem pe_lenTxt {a : Expr} {ta : TE} {p p2 q pos : Pos} (hc : X.calm = true) (hg : Gl X "len") (hm : X.mg "len" = none) (hg2 : Gl X "set") (hm2 : X.mg "set" = none) (ha : PE X a ta)
    (na : starEach [a] X.env = (false, eval a X.env) :: starEach [] X.env := by rfl) : PE X (.Call (.Name "len" p) [.Call (.Name "set" p2) [a] [] q] [] pos) (tLenTxt X.K ta) := by
  refine ⟨fun pins s σ H Q I h => ?_⟩
  refine Call_ (ld_blt I hg hm boot_len ?_)
  refine PyProof.Rows.callWith_builtin1 (PyProof.Rows.args_cons ?_ rfl) rfl rfl
  refine Call_ (ld_blt I hg2 hm2 boot_set ?_)
  refine PyProof.Rows.callWith_type1 (PyProof.Rows.args_cons (thn (ha.run pins s σ H _ I h) fun v s1 ⟨x, H1, I1, r1, q1⟩ => PyProof.Rows.args_nil ?_) na) na rfl
  obtain ⟨l, xs, rfl, hq, h1, q1⟩ := q1
  cases r1
  have few : xs.length + 1 < scanBound := by unfold scanBound; omega
  have fin : ∀ (its : List Value), Vals (xs.map V.str) its → ∀ (h' : Heap) (tk : Nat), h'.SetOf (PySem.strKind X.prog X.w) s1.heap.objs.size (fun k' => (SSx.ddN xs its.toArray.size).any (· == k')) (SSx.ddN xs its.toArray.size).length →
      (∀ b o, b < s1.heap.objs.size → s1.heap.get? b = some o → h'.get? b = some o) →
      wpAny (model X.prog X.w) X.A (spliced (backTo pos (starEach [] X.env))) (fun vs s₂ => wpAny (model X.prog X.w) X.A (call (.builtin "len") (Value.ref s1.heap.objs.size :: vs)) (EP X pins σ Q) X.xe s₂) X.xe { s1 with heap := h', toks := tk } := fun its r h' tk hS hk => by
    refine PyProof.Rows.args_nil ?_
    have hl : its.toArray.size = xs.length := by rw [List.size_toArray, ← r.length, List.length_map]
    rw [hl] at hS
    have le := SSx.ddN_le xs xs.length
    obtain ⟨o, es, ep, t, ho, hex, hd, _, _, _, hf, hn⟩ := hS
    have I2 : Inv X pins σ H1 { s1 with heap := h', toks := tk } := I1.kept fun b o e => hk b o (Heap.lt_size e) e
    refine call_len_set ho hex hd hf (by rw [hn] <;> omega) ⟨.int (SSx.ddN xs xs.length).length, H1, I2.tok _, ⟨_, by rw [hn]⟩, q1⟩
  rcases hq with hq | hq
  · obtain ⟨its, r, pl, hz⟩ := I1.list hq
    exact SSx.set_listTxt (I1.ok.hd hc) pl.isList (by simpa using strsAre_of r) few fun h' tk hS hk => fin its r h' tk hS hk
  · obtain ⟨its, r, pl, hz⟩ := I1.tuple hq
    exact SSx.set_tupleTxt (I1.ok.hd hc) pl (by simpa using strsAre_of r) few fun h' tk hS hk => fin its r h' tk hS hk
end
end L2
set_option Elab.async false
set_option linter.all false
set_option maxRecDepth 100000
set_option maxHeartbeats 4000000
namespace PySem
namespace KwNew
open HandSPX Builtin Builtin.ObjectAttr
section
variable {M : Model} {A : Around} {E : Value → Shared → Prop} {h : Heap} {g : Array GenState} {d : Drawn} {t : Nat} {os : OsState}
variable {nmC q : Str} {C N : Addr} {bss bm tl : List Value} {dct : Bool} {sns : List Str} {sbs : List Value} {abs0 : Bool} {clc : Option Bool} {dct2 : Option Addr} {k0 k1 k2 k3 k5 : Option Value} {B idN idI : String}
theorem check_new_kw (F : ExcBaseFacts B idN idI tl) (mem : ∀ X : String, bm.contains (.type X) = tl.contains (.type X)) {more : List Value} {kw : List (Str × Value)} {Q : Unit → Shared → Prop}
    (atC : h.get? C = some (excClassObj nmC q C N bss bm dct sns sbs abs0 clc dct2 k0 k1 k2 k3 k5 idN)) (go : Q () ⟨h, g, d, t, os⟩) : wpAny M A (checkBuiltinCall idN ⟨.ref C :: more, kw⟩) Q E ⟨h, g, d, t, os⟩ := by
  have inB : (Value.ref C :: bm).contains (.type B) = true := by rw [List.contains_cons, mem, F.hasB, Bool.or_true]
  have st := F.noStar
  simp only [checkBuiltinCall, F.newKind, F.newSplit, F.newRow]
  repeat (first | refine wpAny_loadPart_at atC ?_ | (refine wpAny_isSubtype_exc atC ?_; rw [inB]) | refine wpAny_staticBase_exc atC ?_ | refine wpAny_madeBy_exc atC ?_ | simp only [bne_self_eq_false, Bool.false_eq_true, if_false] | wp_step)
  exact go
end
section
variable {prog : Program} {w : World} {A : Around} {E : Value → Shared → Prop} {R : Result → Shared → Prop} {h : Heap} {g : Array GenState} {d : Drawn} {t : Nat} {os : OsState}
variable {nmC q : Str} {C N : Addr} {bss bm tl : List Value} {dct : Bool} {sns : List Str} {sbs : List Value} {abs0 : Bool} {clc : Option Bool} {dct2 : Option Addr} {k0 k1 k2 k3 k5 : Option Value} {B idN idI : String}
theorem new_kw (F : ExcBaseFacts B idN idI tl) (mem : ∀ X : String, bm.contains (.type X) = tl.contains (.type X)) {more : List Value} {kw : List (Str × Value)}
    (atC : h.get? C = some (excClassObj nmC q C N bss bm dct sns sbs abs0 clc dct2 k0 k1 k2 k3 k5 idN))
    (go : R (.ok (.ret (.ref (h.objs.size + 1)))) ⟨(h.push { cls := .type "tuple", data := .seq more.toArray }).push
      { cls := .ref C, data := .fields #[.ref h.objs.size, .none, .none, .none, .bool false, .none] }, g, d, t, os⟩) (few : more.length ≤ sizeLine) :
    codeAny (model prog w) A (.builtin idN ⟨.ref C :: more, kw⟩) R ⟨h, g, d, t, os⟩ := by
  have en := F.ends
  have inB : (Value.ref C :: bm).contains (.type B) = true := by rw [List.contains_cons, mem, F.hasB, Bool.or_true]
  have noA : (Value.ref C :: bm).contains (.type "AttributeError") = false := by rw [List.contains_cons, mem, F.noAttr]; rfl
  have noN : (Value.ref C :: bm).contains (.type "NameError") = false := by rw [List.contains_cons, mem, F.noName]; rfl
  refine codeAny_builtinAt F.entry ?_
  unfold Builtin.«BaseException.__new__»
  refine wpAt_bind ?_
  show wpAt _ _ _ (stack >>= _) _ _ _
  refine wpAt_bind (wpAt_stack fun p below => wpAt_of_wpAny ?_)
  wp_walk
  refine wpAt_of_wpAny ?_
  rw [F.owner]
  repeat (first | with_reducible refine wpAny_madeHere_exc F.canon atC ?_ | with_reducible refine wpAny_loadPart_at atC ?_ | (with_reducible refine wpAny_isSubtype_exc atC ?_; first | rw [inB] | rw [noA] | rw [noN]) | wp_step)
  show R _ _
  rw [Heap.size_push]
  exact go
theorem check_call_kw {M : Model} {more : List Value} {kw : List (Str × Value)} {Q : Unit → Shared → Prop} (atC : h.get? C = some (excClassObj nmC q C N bss bm dct sns sbs abs0 clc dct2 k0 k1 k2 k3 k5 idN))
    (go : Q () ⟨h, g, d, t, os⟩) : wpAny M A (checkBuiltinCall "type.__call__" ⟨.ref C :: more, kw⟩) Q E ⟨h, g, d, t, os⟩ := by
  have f3 := tc_sub
  have mem : (⟨h, g, d, t, os⟩ : Shared).TypeIs (.ref C) "type" := ⟨_, atC, rfl⟩
  simp only [checkBuiltinCall, tc_kind, tc_split]
  repeat (any_goals (first | assumption | with_reducible refine wpAny_loadPart_at atC ?_ | with_reducible refine wpAny_onRaise ?_ | with_reducible refine wpAny_map ?_ | wp_step))
theorem type_call_kw (F : ExcBaseFacts B idN idI tl) (mem : ∀ X : String, bm.contains (.type X) = tl.contains (.type X)) {more : List Value} {kw : List (Str × Value)} {fI : Addr} {Q : Fin → Shared → Prop}
    (atC : h.get? C = some (excClassObj nmC q C N bss bm dct sns sbs abs0 clc dct2 k0 k1 k2 k3 k5 idN))
    (iLook : W.Looks (model prog w) h (typeLookup (.ref C) "__init__") (some (.ref fI))) (bLook : ∀ self, W.Looks (model prog w) h (bindSpecial (.ref fI) self) (.ref fI, [self])) (few : more.length ≤ sizeLine)
    (go : codeAny (model prog w) A (.call (.ref fI) ⟨.ref (h.objs.size + 1) :: more, kw⟩)
      (fun r s' => match r with | .ok (.ret v) => v = .none ∧ Q (.done (.ret (.ref (h.objs.size + 1)))) s' | .ok _ => False | .error e => E e s')
      ⟨(h.push (W.kdv_tup more)).push (excO C h.objs.size), g, d, t, os⟩) :
    wpAny (model prog w) A (Builtin.«type.__call__» ⟨.ref C :: more, kw⟩) Q E ⟨h, g, d, t, os⟩ := by
  repeat (first | with_reducible refine wpAny_loadPart_at atC ?_ | with_reducible refine wpAny_madeBy_exc atC ?_ | wp_step)
  refine codeAny_call_builtin_code (Code.quiet_builtin _ F.quiet) (check_new_kw F mem atC ?_)
  refine new_kw F mem atC ?_ few
  show wpAny _ _ _ _ _ _
  have k : ∀ b o, h.get? b = some o → ((h.push (W.kdv_tup more)).push (excO C h.objs.size)).get? b = some o := fun b o e => Heap.get?_push_of_some _ (Heap.get?_push_of_some _ e)
  have atC1 := k _ _ atC
  have eAt : ((h.push (W.kdv_tup more)).push (excO C h.objs.size)).get? (h.objs.size + 1) = some (excO C h.objs.size) := by heap_get
  have inC : (Value.ref C :: bm).contains (.ref C) = true := by simp
  have j1 := iLook.keeps k
  have j2 := (bLook (.ref (h.objs.size + 1))).keeps k
  unfold isInstance
  repeat (first | with_reducible refine wpAny_loadPart_at eAt ?_ | (with_reducible refine wpAny_isSubtype_exc atC1 ?_; rw [inC]) | wp_step)
  show wpAny _ _ (typeLookup (.ref C) _) _ _ _
  refine j1.at ?_
  refine wpAny_holding (wpAny_bind (j2.at ?_))
  refine wpAny_bind (wpAny_call (codeAny_mono go fun r s' z => ?_))
  rcases r with e | (v | _ | _ | _) <;> first | exact z | exact z.elim | skip
  obtain ⟨rfl, z⟩ := z
  first
    | exact wpAny_pure (wpAny_pure z)
    | (wp_walk; exact z)
theorem call_kw (F : ExcBaseFacts B idN idI tl) (mem : ∀ X : String, bm.contains (.type X) = tl.contains (.type X)) {more : List Value} {kw : List (Str × Value)} {fI : Addr}
    (atC : h.get? C = some (excClassObj nmC q C N bss bm dct sns sbs abs0 clc dct2 k0 k1 k2 k3 k5 idN))
    (iLook : W.Looks (model prog w) h (typeLookup (.ref C) "__init__") (some (.ref fI))) (bLook : ∀ self, W.Looks (model prog w) h (bindSpecial (.ref fI) self) (.ref fI, [self])) (few : more.length ≤ sizeLine)
    (go : codeAny (model prog w) (A.under (.builtin "type.__call__" ⟨.ref C :: more, kw⟩)) (.call (.ref fI) ⟨.ref (h.objs.size + 1) :: more, kw⟩) (W.InitBack (h.objs.size + 1) R)
      ⟨(h.push (W.kdv_tup more)).push (excO C h.objs.size), g, d, t, os⟩) :
    codeAny (model prog w) A (.call (.ref C) ⟨more, kw⟩) R ⟨h, g, d, t, os⟩ := by
  have f1 := tc_lookup
  have f2 := tc_bind (.ref C)
  have isT : (⟨h, g, d, t, os⟩ : Shared).TypeIs (.ref C) "type" := ⟨_, atC, rfl⟩
  refine codeAny_of_tree ?_
  show wpAny _ _ (callAny (.ref C) _) _ _ _
  repeat (any_goals (first | assumption | with_reducible refine wpAny_loadPart_at atC ?_ | wp_step))
  refine ⟨rfl, ?_⟩
  refine codeAny_call_builtin_at (Code.quiet_builtin _ (by decide +kernel)) entry_typeCall (check_call_kw atC (type_call_kw F mem atC iLook bLook few ?_))
  refine codeAny_mono go fun r s' z => ?_
  rcases r with e | (v | _ | _ | _) <;> exact z
end
end KwNew
end PySem
set_option Elab.async false
set_option linter.all false
set_option maxRecDepth 100000
set_option maxHeartbeats 4000000
namespace L2
namespace K1
open PySem PySem.Spec PyProof.Rows

/-! ### what is asked of the class of an error -/
structure XC (K : PySem.W.Frag) (C : Addr) : Prop where
  ox : OexC K C
  ga : PySem.W.findIn K (.ref C) "__getattribute__" = some (some (.builtin "BaseException.__getattribute__"))
  gg : PySem.W.findIn K (.ref C) "__getattr__" = some none
  hd : PySem.W.hasDictIn K C = true
  ha : PySem.W.findIn K (.ref C) "__class__" = some (some (.builtin "object.__class__"))
  hn : PySem.W.specialIn K (.builtin "object.__class__") "__get__" = some (some (.builtin "getset_descriptor.__get__"))
  ht : PySem.W.takesIn K (.builtin "object.__class__") = some true
  hm : PySem.W.mroIn K C (.type "object") = some true
def oexB (K : PySem.W.Frag) (C : Addr) : Bool := match K.lookup C with
  | some ⟨.type "type", _, .cls cd, sl⟩ => (match cd.mro, sl.toList with
    | .ref C' :: bm, [_, _, _, _, some (.builtin n), _] => decide (C' = C) && (decide (n = "ValueError.__new__") && (!cd.hasDel && (cd.hasDict && PySem.HandSPX.refsVE bm)))
    | _, _ => false)
  | _ => false
theorem oexB_ok {K : PySem.W.Frag} {C : Addr} (q : oexB K C = true) : ∃ nm q N bs bm sn sub ab col dd k0 k1 k2 k3 k5, K.lookup C = some (excClassObj nm q C N bs bm true sn sub ab col dd k0 k1 k2 k3 k5 "ValueError.__new__") ∧ PySem.HandSPX.refsVE bm = true := by
  unfold oexB at q
  split at q
  · rename_i dd cd sl ho
    split at q
    · rename_i C' bm k0 k1 k2 k3 n k5 hm hs
      simp only [Bool.and_eq_true, decide_eq_true_eq, Bool.not_eq_true'] at q
      obtain ⟨rfl, rfl, hdel, hdict, ht⟩ := q
      obtain ⟨nm, bs, mro, ns, qn, hd, sn, sub, ab, col, del⟩ := cd
      dsimp only at hm hdel hdict
      subst hm hdel hdict
      have hsl : sl = #[k0, k1, k2, k3, some (.builtin "ValueError.__new__"), k5] := by
        obtain ⟨l⟩ := sl
        simp only at hs
        rw [hs]
      subst hsl
      exact ⟨nm, qn, ns, bs, bm, sn, sub, ab, col, dd, k0, k1, k2, k3, k5, ho, ht⟩
    · cases q
  · cases q
def xcB (K : PySem.W.Frag) (C : Addr) : Bool :=
  oexB K C && (He.eqO (PySem.W.findIn K (.ref C) "__setattr__") (some (some (.builtin "object.__setattr__"))) && (decide (PySem.W.subIn K (.ref C) (.type "BaseException") = some true) && (decide (PySem.W.typeIn K (.ref C) = some (.type "type")) && (PySem.W.keepIn K (.ref C) &&
  (He.eqO (PySem.W.findIn K (.ref C) "__getattribute__") (some (some (.builtin "BaseException.__getattribute__"))) && (He.eqO (PySem.W.findIn K (.ref C) "__getattr__") (some none) && (PySem.W.hasDictIn K C && (He.eqO (PySem.W.findIn K (.ref C) "__class__") (some (some (.builtin "object.__class__"))) &&
  (He.eqO (PySem.W.specialIn K (.builtin "object.__class__") "__get__") (some (some (.builtin "getset_descriptor.__get__"))) && (decide (PySem.W.takesIn K (.builtin "object.__class__") = some true) && decide (PySem.W.mroIn K C (.type "object") = some true)))))))))))
theorem xcB_ok {K : PySem.W.Frag} {C : Addr} (h : xcB K C = true) : XC K C := by
  obtain ⟨h1, h⟩ := He.ba h
  obtain ⟨h2, h⟩ := He.ba h
  obtain ⟨h3, h⟩ := He.ba h
  obtain ⟨h4, h⟩ := He.ba h
  obtain ⟨h5, h⟩ := He.ba h
  obtain ⟨h6, h⟩ := He.ba h
  obtain ⟨h7, h⟩ := He.ba h
  obtain ⟨h8, h⟩ := He.ba h
  obtain ⟨h9, h⟩ := He.ba h
  obtain ⟨h10, h⟩ := He.ba h
  obtain ⟨h11, h12⟩ := He.ba h
  exact ⟨⟨oexB_ok h1, He.eqO_ok h2, of_decide_eq_true h3, of_decide_eq_true h4, h5⟩, He.eqO_ok h6, He.eqO_ok h7, h8, He.eqO_ok h9, He.eqO_ok h10, of_decide_eq_true h11, of_decide_eq_true h12⟩
theorem cls_some {K : PySem.W.Frag} {C : Addr} (h : PySem.W.hasDictIn K C = true) : (PySem.W.clsIn K C).isSome = true := by
  obtain ⟨cd, hc, _⟩ := PySem.W.any_some h
  rw [hc] <;> rfl

/-! ### an error in the heap: of the class at C, with the fields fs -/
def ErrAt (H : Hp) (C : Addr) (fs : List (Str × V)) (a : Addr) : Prop :=
  (fs = [] ∧ H a = some (exo a C none)) ∨ ∃ d, H a = some (exo a C (some d)) ∧ H d = some (exd d fs)
theorem ErrAt.same {H H' : Hp} {C : Addr} {fs : List (Str × V)} {a : Addr} (e : ErrAt H C fs a) (s : Same H H') : ErrAt H' C fs a := by
  rcases e with ⟨e1, e2⟩ | ⟨d, e1, e2⟩
  · exact .inl ⟨e1, s _ _ e2⟩
  · exact .inr ⟨d, s _ _ e1, s _ _ e2⟩
theorem same_upd {H : Hp} {a : Addr} {o : HO} (h : H a = none) : Same H (upd H a o) := fun b u e => by
  rw [upd_ne (ne_of_none e h)]
  exact e
section
variable {X : Cx} {pins : List (Addr × Obj)} {σ : St} {H : Hp} {s : Shared} {a C : Addr} {fs : List (Str × V)}
theorem err_inst (I : Inv X pins σ H s) (e : ErrAt H C fs a) : ∃ ox od, PySem.W.InstAt s.heap a ox C od ∧ ∀ f v, fs.lookup f = some v → ∃ oD u, od = some oD ∧ PySem.W.lookIn f oD = some (some u) ∧ RelV v u := by
  rcases e with ⟨rfl, e⟩ | ⟨d, e1, e2⟩
  · obtain ⟨t1, ho⟩ := exo_at I.hok e
    exact ⟨_, none, ⟨ho, rfl, rfl, trivial⟩, fun f v h => nomatch h⟩
  · obtain ⟨t1, ho⟩ := exo_at I.hok e1
    obtain ⟨mA, hns, rel⟩ := exd_at I.hok e2
    obtain ⟨od, ho', hl⟩ := lookIn_ns hns
    refine ⟨_, some od, ⟨ho, rfl, rfl, ho'⟩, fun f v h => ?_⟩
    obtain ⟨u, hu, ru⟩ := RelO.some_of (v := v) (o := mA f) (by rw [← h]; exact rel f)
    exact ⟨od, u, rfl, by rw [hl, hu], ru⟩
end
/-! ### isinstance of a held error -/
def rIsX (K : PySem.W.Frag) : List V → Hp → VK → Prop := fun xs H Q => ∃ (a : Addr) (c : V) (D : Addr) (fs : List (Str × V)) (u : Value) (b : Bool), xs = [.ref a, c] ∧ ClsV c u ∧ ErrAt H D fs a ∧ XC K D ∧ PySem.W.kitOne K (.ref D) u = some b ∧ Q (.bl b) H
theorem call_isX {X : Cx} : CallR X (.builtin "isinstance") (rIsX X.K) := by
  intro pins s σ H xs us Q I r h
  obtain ⟨a, c, D, fs, u, b, rfl, k, e, x, kt, q⟩ := h
  obtain ⟨u1, u2, rfl, r1, r2⟩ := vals2 r
  have e2 := k.eq r2
  subst e2
  cases (show u1 = Value.ref a from r1)
  obtain ⟨ox, od, J, _⟩ := err_inst I e
  exact PySem.W.kia_one (PySem.W.kitx_exc (cls_some x.hd) x.ga x.gg x.ox.exC x.ha x.hn x.ht x.hm) I.kIn J kt (fun z => nomatch z) fun tk => ⟨.bl b, H, I.tok tk, rfl, q⟩
/-! ### e.f of a held error -/
def tFldX (K : PySem.W.Frag) (f : Str) (te : TE) : TE := fun σ H Q => te σ H fun x H1 => ∃ (a C : Addr) (fs : List (Str × V)) (v : V), x = .ref a ∧ ErrAt H1 C fs a ∧ XC K C ∧ PySem.W.findIn K (.ref C) f = some none ∧ fs.lookup f = some v ∧ Q v H1
theorem pe_fldX {X : Cx} {e : Expr} {te : TE} {pos : Pos} {f : Str} (he : PE X e te) (hb : attributeBase e f X.env (eval e X.env) = eval e X.env := by rfl) : PE X (.Attribute e f pos) (tFldX X.K f te) := by
  refine ⟨fun pins s σ H Q I h => ?_⟩
  refine attr_of hb (thn (he.run pins s σ H _ I h) fun u s1 hh => ?_)
  obtain ⟨x, H1, I1, rx, a, C, fs, v, ex, ea, T, hno, l, q⟩ := hh
  subst ex
  obtain rfl : u = Value.ref a := rx
  obtain ⟨ox, od, J, hl⟩ := err_inst I1 ea
  obtain ⟨oD, u, rfl, hu, ru⟩ := hl f v l
  exact HandSPX.exc_get I1.kIn J T.ga T.gg T.ox.exC (PySem.W.findObj_own T.hd hno rfl hu) (handed_of ru) ⟨v, H1, I1.tok _, ru, q⟩
/-! ### making -/
/-- what the __init__ of such a class promises -/
def spI (C : Addr) (f : Str) : Sp := fun vs H Q _ => ∃ (a : Addr) (v : V), vs = [.ref a, v] ∧ H a = some (exo a C none) ∧ ∀ d, H d = none → d ≠ a → Q .non (upd (upd H d (exd d [(f, v)])) a (exo a C (some d)))
theorem made_ok {H1 : Hp} {a C d : Addr} {f : Str} {v : V} (hn : H1 a = none) (hd : upd H1 a (exo a C none) d = none) (hda : d ≠ a) :
    Same H1 (upd (upd (upd H1 a (exo a C none)) d (exd d [(f, v)])) a (exo a C (some d))) ∧ ErrAt (upd (upd (upd H1 a (exo a C none)) d (exd d [(f, v)])) a (exo a C (some d))) C [(f, v)] a := by
  rw [upd_ne hda] at hd
  refine ⟨fun b o e => ?_, .inr ⟨d, upd_same, ?_⟩⟩
  · rw [upd_ne (ne_of_none e hn), upd_ne (ne_of_none e hd), upd_ne (ne_of_none e hn)]
    exact e
  · rw [upd_ne hda, upd_same]
def tNew (C : Addr) (f : Str) (ta : TA) : TE := fun σ H Q => ta σ H fun vs H1 => ∃ v, vs = [v] ∧ ∀ H2 a, Same H1 H2 → H1 a = none → ErrAt H2 C [(f, v)] a → Q (.ref a) H2
section
variable {X : Cx} {pins : List (Addr × Obj)} {σ : St} {H1 : Hp} {C fI : Addr} {k : Nat} {fd : FuncData} {ps : List Str} {f x : Str} {v : V} {Q : VK}
theorem run_new (T : XC X.K C) (iC : PySem.W.findIn X.K (.ref C) "__init__" = some (some (.ref fI))) (tI : PySem.W.typeIn X.K (.ref fI) = some (.type "function"))
    (F1 : FnOk X.prog X.w X.K X.mg X.base CX0 k fI fd ps (spI C f)) (hr : Room (k + 1) X.A) {us : List Value} {kw : List (Str × Value)} {u : Value} (r1 : RelV v u) {s1 : Shared} (I1 : Inv X pins σ H1 s1) (hl : us.length ≤ sizeLine)
    (hb : ∀ (s : Shared) (y : Value), X.K.In s.heap → BindsTo s fd ⟨y :: us, kw⟩ (ps.zip [y, u]))
    (q1 : ∀ H2 a, Same H1 H2 → H1 a = none → ErrAt H2 C [(f, v)] a → Q (.ref a) H2) :
    wpAny (model X.prog X.w) X.A (call (.ref C) us kw) (EP X pins σ Q) X.xe s1 := by
  obtain ⟨nm, q, N, bs, bm, sn, sub, ab, col, dd, k0, k1, k2, k3, k5, hC, hbm⟩ := T.ox.cls
  obtain ⟨hp, g, dr, tk, os⟩ := s1
  have hsz : hp.objs.size ≤ hp.objs.size + 1 := Nat.le_succ _
  have hn : H1 (hp.objs.size + 1) = none := I1.hok.fresh hsz
  have kk : ∀ b o, hp.get? b = some o → ((hp.push (PySem.W.kdv_tup us)).push (PySem.HandSPX.excO C hp.objs.size)).get? b = some o := fun b o e => Heap.get?_push_of_some _ (Heap.get?_push_of_some _ e)
  have hget : ((hp.push (PySem.W.kdv_tup us)).push (PySem.HandSPX.excO C hp.objs.size)).get? (hp.objs.size + 1) = some (PySem.HandSPX.excO C hp.objs.size) := by heap_get
  have I2 : Inv X pins σ (upd H1 (hp.objs.size + 1) (exo (hp.objs.size + 1) C none)) ⟨(hp.push (PySem.W.kdv_tup us)).push (PySem.HandSPX.excO C hp.objs.size), g, dr, tk, os⟩ :=
    I1.laid (t' := tk) (a := hp.objs.size + 1) (o := exo (hp.objs.size + 1) C none) (h' := (hp.push (PySem.W.kdv_tup us)).push (PySem.HandSPX.excO C hp.objs.size)) kk hsz (exo_ok hget)
  have r2 : Vals [V.ref (hp.objs.size + 1), v] [Value.ref (hp.objs.size + 1), u] := .cons rfl (.cons r1 .nil)
  have hq : spI C f [V.ref (hp.objs.size + 1), v] (upd H1 (hp.objs.size + 1) (exo (hp.objs.size + 1) C none)) (fun z H2 => z = .non ∧ Q (.ref (hp.objs.size + 1)) H2) (fun _ _ _ => False) :=
    ⟨hp.objs.size + 1, v, rfl, upd_same, fun d hd hda => by
      obtain ⟨z1, z2⟩ := made_ok (v := v) (f := f) hn hd hda
      exact ⟨rfl, q1 _ _ z1 hn z2⟩⟩
  refine wpAny_call (PySem.KwNew.call_kw PySem.F.excBase_ValueError (fun Y => PySem.HandSPX.refsVE_contains Y bm hbm) (I1.kIn _ _ hC) (PySem.W.looks_findIn I1.kIn iC) (fun self => PySem.W.bind_fn I1.kIn self tI) hl
    (codeAny_mono (F1.run _ X.stack _ _ ⟨Value.ref (hp.objs.size + 1) :: us, kw⟩ [Value.ref (hp.objs.size + 1), u] _ _ (fun _ _ _ => False) (hr.make C us kw) (I2.env0.make C us kw) (hb _ _ I2.kIn) r2 hq) fun r s' hq' => ?_))
  cases r with
  | error er => exact hq'.elim
  | ok fl =>
    cases fl with
    | ret u' =>
      obtain ⟨z, H', I3, rv, ev, q3⟩ := I2.after hq'
      subst ev
      exact ⟨rv, ⟨V.ref (hp.objs.size + 1), H', I3, rfl, q3⟩⟩
    | next => exact False.elim hq'
    | brk => exact False.elim hq'
    | cont => exact False.elim hq'
variable {e : Expr} {ta : TA} {p pos kpos : Pos} {te : TE}
/-- C(e) -/
theorem pe_new (T : XC X.K C) (iC : PySem.W.findIn X.K (.ref C) "__init__" = some (some (.ref fI))) (tI : PySem.W.typeIn X.K (.ref fI) = some (.type "function"))
    (F1 : FnOk X.prog X.w X.K X.mg X.base CX0 k fI fd ps (spI C f)) (hr : Room (k + 1) X.A) (hb : Binds X.K fd ps []) (hp2 : ps.length = 2) (hg : Gl X x) (hm : X.mg x = some (.ref C)) (ha : PA X [e] ta)
    (hdb : (x == ("__debug__" : Str)) = false := by decide) (he : starEach [e] X.env = (false, eval e X.env) :: starEach [] X.env := by rfl) (hpl : (backTo pos (starEach [] X.env)).any (·.1) = false := by rfl) :
    PE X (.Call (.Name x p) [e] [] pos) (tNew C f ta) := by
  refine ⟨fun pins s σ H Q I h => ?_⟩
  refine wpAny_Call_Name_kw (ld_glob I hg hm ?_ hdb)
  refine PySem.W.callWith_K (h₀ := X.base) I.ok.mod.kin T.ox.kC (thn (ha.run pos pins s σ H _ I h) fun us s1 ⟨vs, H1, I1, r1, v, ev, q1⟩ => ⟨I1.kIn, ?_⟩) he hpl
  subst ev
  obtain ⟨u, rfl, ru⟩ := vals1 r1
  show wpAny _ _ (call (.ref C) [u]) _ _ _
  exact run_new T iC tI F1 hr ru I1 (by show 1 ≤ sizeLine; rw [sizeLine_eq]; omega) (fun s y X' => hb s [y, u] X' (by rw [hp2] <;> rfl)) q1
/-- C(f=e) -/
theorem pe_newK {g : Str} (T : XC X.K C) (iC : PySem.W.findIn X.K (.ref C) "__init__" = some (some (.ref fI))) (tI : PySem.W.typeIn X.K (.ref fI) = some (.type "function"))
    (F1 : FnOk X.prog X.w X.K X.mg X.base CX0 k fI fd ps (spI C f)) (hr : Room (k + 1) X.A) (hb : ∀ (s : Shared) (y u : Value), X.K.In s.heap → BindsTo s fd ⟨[y], [(g, u)]⟩ (ps.zip [y, u])) (hg : Gl X x) (hm : X.mg x = some (.ref C)) (ha : PE X e te)
    (hdb : (x == ("__debug__" : Str)) = false := by decide) :
    PE X (.Call (.Name x p) [] [⟨some g, e, kpos⟩] pos) (tNew C f (tCons te tNil)) := by
  refine ⟨fun pins s σ H Q I h => ?_⟩
  refine wpAny_Call_Name_kw (ld_glob I hg hm ?_ hdb)
  refine PySem.W.callWith_KW0 (h₀ := X.base) I.ok.mod.kin T.ox.kC rfl (thn ((pk_cons (nm := some g) (kpos := kpos) ha pk_nil).run pos pins s σ H _ I h) fun us s1 ⟨vs, H1, I1, r1, v, ev, q1⟩ => ⟨I1.kIn, ?_⟩)
  subst ev
  obtain ⟨u, rfl, ru⟩ := vals1 r1
  show wpAny _ _ (call (.ref C) [] [(g, u)]) _ _ _
  exact run_new T iC tI F1 hr ru I1 (Nat.zero_le _) (fun s y X' => hb s y u X') q1
end
end K1
end L2
set_option Elab.async false
set_option linter.all false
set_option maxRecDepth 100000
set_option maxHeartbeats 4000000
namespace L2
namespace WL
open PySem PySem.Spec PyProof.Rows K1
/-! ### what stays -/
theorem Rd.same {H H' : Hp} {a : Addr} {u : HO} (h : Rd H a u) (s : Same H H') : Rd H' a u := by
  rcases h with h | ⟨o, h⟩
  · exact .inl (s _ _ h)
  · exact .inr ⟨o, s _ _ h⟩
theorem SqT.same {K : PySem.W.Frag} {H H' : Hp} {a : Addr} {xs : List V} (h : SqT K H a xs) (s : Same H H') : SqT K H' a xs := by
  rcases h with h | h
  · exact .inl (Rd.same h s)
  · exact .inr h
theorem TyOf.same {K : PySem.W.Frag} {H H' : Hp} {x : V} {t : Value} (h : TyOf K H x t) (s : Same H H') : TyOf K H' x t := by
  cases h with
  | non => exact .non
  | bl b => exact .bl b
  | int i => exact .int i
  | str z => exact .str z
  | flt z => exact .flt z
  | lst e => exact .lst (s _ _ e)
  | frz e => exact .frz (s _ _ e)
  | tup e => exact .tup (s _ _ e)
  | dK e => exact .dK (s _ _ e)
  | dT e => exact .dT (s _ _ e)
  | ins e cl ha hn ht hm => exact .ins (s _ _ e) cl ha hn ht hm
theorem TyX.same {K : PySem.W.Frag} {H H' : Hp} {x : V} {t : Value} (h : TyX K H x t) (s : Same H H') : TyX K H' x t := by
  cases h with
  | base h => exact .base (TyOf.same h s)
  | byt b => exact .byt b
  | set e => exact .set (s _ _ e)
  | kList e c => exact .kList e c
  | kTuple e c => exact .kTuple e c
  | kDict e c => exact .kDict e c
  | fTuple e => exact .fTuple (s _ _ e)
  | fDict e => exact .fDict (s _ _ e)
/-! ### a list or a tuple -/
def Seq (K : PySem.W.Frag) (H : Hp) (v : V) (xs : List V) : Prop := ∃ a, v = .ref a ∧ (SqL K H a xs ∨ SqT K H a xs)
theorem Seq.same {K : PySem.W.Frag} {H H' : Hp} {v : V} {xs : List V} (h : Seq K H v xs) (s : Same H H') : Seq K H' v xs := by
  obtain ⟨a, e, h | h⟩ := h
  · exact ⟨a, e, .inl (s.seq h)⟩
  · exact ⟨a, e, .inr (SqT.same h s)⟩
theorem Seq.ty {K : PySem.W.Frag} {H : Hp} {v : V} {xs : List V} (h : Seq K H v xs) : TyX K H v (.type "list") ∨ TyX K H v (.type "tuple") := by
  obtain ⟨a, rfl, h | h⟩ := h
  · rcases h with (h | ⟨o, h⟩) | ⟨o, its, n, e, c, _⟩
    · exact .inl (.base (.lst h))
    · exact .inl (.base (.frz h))
    · exact .inl (.kList e c)
  · rcases h with (h | ⟨o, h⟩) | ⟨o, its, n, e, c, _⟩
    · exact .inr (.base (.tup h))
    · exact .inr (.fTuple h)
    · exact .inr (.kTuple e c)
abbrev LT : List Value := [.type "list", .type "tuple"]
theorem kit_list {K : PySem.W.Frag} : PySem.W.kitAny K (.type "list") LT = some true := by
  unfold PySem.W.kitAny
  rw [kit_ty (K := K) (a := "list") (b := "list") (r := true) (by decide +kernel)]
theorem kit_tuple {K : PySem.W.Frag} : PySem.W.kitAny K (.type "tuple") LT = some true := by
  unfold PySem.W.kitAny
  rw [kit_ty (K := K) (a := "tuple") (b := "list") (r := false) (by decide +kernel)]
  show PySem.W.kitAny K (.type "tuple") [.type "tuple"] = some true
  unfold PySem.W.kitAny
  rw [kit_ty (K := K) (a := "tuple") (b := "tuple") (r := true) (by decide +kernel)]
theorem Seq.kit {K : PySem.W.Frag} {H : Hp} {v : V} {xs : List V} (h : Seq K H v xs) : ∃ t, TyX K H v t ∧ PySem.W.kitAny K t LT = some true := by
  rcases h.ty with z | z
  · exact ⟨_, z, kit_list⟩
  · exact ⟨_, z, kit_tuple⟩
theorem Seq.len {K : PySem.W.Frag} {H : Hp} {v : V} {xs : List V} (h : Seq K H v xs) : LenV K v H xs.length := by
  obtain ⟨a, rfl, h | h⟩ := h
  · exact .inl ⟨_, h, rfl⟩
  · exact .inr ⟨_, h, rfl⟩
/-! ### a walk over either -/
def iSeq (K : PySem.W.Frag) (tl : TE) : TI := fun σ H R => tl σ H fun x H1 => ∃ a xs, x = .ref a ∧ (SqL K H1 a xs ∧ R (Itl K a) H1 ∨ SqT K H1 a xs ∧ R (Itt K a) H1)
theorem pi_seq {X : Cx} {tg l : Expr} {tl : TE} (hl : PE X l tl) : PI X tg l (iSeq X.K tl) := by
  refine ⟨fun pins s σ H R I h => ?_⟩
  refine thn (hl.run pins s σ H _ I h) fun v s1 ⟨x, H1, I1, r1, q1⟩ => ?_
  obtain ⟨a, xs, e, q1⟩ := q1
  subst e
  cases r1
  have last : ∀ b ∈ [s1.heap.objs.size], _ := fun b hb => by
    have e : b = s1.heap.objs.size := List.mem_singleton.mp hb
    subst e
    exact I1.fpOk (Nat.le_refl _) (I1.hok.fresh (Nat.le_refl _))
  rcases q1 with ⟨hq, q⟩ | ⟨hq, q⟩
  · obtain ⟨its, rv, p, hz⟩ := I1.list hq
    refine wpAny_pyIter_list p.isList ?_
    exact ⟨s1.heap.objs.size, [s1.heap.objs.size], _, _, H1, rfl, I1.kept (t' := s1.toks) fun b o e => Heap.get?_push_of_some _ e, turn_list a _, ⟨_, Heap.get?_push_size _ rfl, rfl, rfl⟩, last, q⟩
  · obtain ⟨its, rv, p, hz⟩ := I1.tuple hq
    refine wpAny_pyIter_tuple (show s1.heap.IsTuple a its.toArray from p) ?_
    exact ⟨s1.heap.objs.size, [s1.heap.objs.size], _, _, H1, rfl, I1.kept (t' := s1.toks) fun b o e => Heap.get?_push_of_some _ e, turn_tuple a _, ⟨_, Heap.get?_push_size _ rfl, rfl, rfl⟩, last, q⟩
/-- for x in either: Pv by the turn, the slots, the heap -/
theorem for_seq {K : PySem.W.Frag} {v : V} {xs : List V} {g : TG} {tb : TS} {D : Ends} {σ : St} {H0 H : Hp} {te : TE} (hq : Seq K H0 v xs) (he : ∀ Q : VK, Q v H → te σ H Q) (Pv : Nat → St → Hp → Prop) (h0 : Pv 0 σ H) (hl : ∀ i σ' H', Pv i σ' H' → Same H0 H')
    (hs : ∀ i x σ' H', xs[i]? = some x → Pv i σ' H' → g x σ' H' fun σ2 H2 => tb { D with nx := Pv (i + 1), ct := Pv (i + 1), bk := D.nx } σ2 H2) (hd : ∀ σ' H', Pv xs.length σ' H' → D.nx σ' H') :
    tFor (iSeq K te) g tb D σ H := by
  obtain ⟨a, rfl, hq⟩ := hq
  rcases hq with hq | hq
  · exact he _ ⟨a, xs, rfl, .inl ⟨(hl _ _ _ h0).seq hq, for_it (walk_list (xs := xs)) Pv h0 (fun i σ' H' _ p => (hl i σ' H' p).seq hq) (fun i x σ' H' H'' _ p y => by
      obtain ⟨rfl, hx⟩ := y
      exact hs i x σ' _ hx p) hd⟩⟩
  · exact he _ ⟨a, xs, rfl, .inr ⟨SqT.same hq (hl _ _ _ h0), for_it (walk_tup (xs := xs)) Pv h0 (fun i σ' H' _ p => SqT.same hq (hl i σ' H' p)) (fun i x σ' H' H'' _ p y => by
      obtain ⟨rfl, hx⟩ := y
      exact hs i x σ' _ hx p) hd⟩⟩
/-- [f(x) for x in either]: each item x gives the value f i -/
theorem lc_seq {K : PySem.W.Frag} {v : V} {xs : List V} {g : TG} {te tl : TE} {vs : List Nat} {σ : St} {H : Hp} {Q : VK} (hq : Seq K H v xs) (he : ∀ Q : VK, Q v H → tl σ H Q) (hn : xs.length ≤ 1000) (f : Nat → V)
    (hs : ∀ i x H' (Q' : VK), xs[i]? = some x → Same H H' → (∀ H'', Same H' H'' → Q' (f i) H'') → g x (wipe σ vs) H' fun σ2 H2 => wipe σ2 vs = wipe σ vs ∧ te σ2 H2 Q')
    (hd : ∀ D H', Same H H' → H' D = some (.lst ((List.range xs.length).map f)) → Q (.ref D) H') : tLc (iSeq K tl) g tYes te vs σ H Q := by
  have key : ∀ (J : It) (G : Hp → Prop) (w : Walk J xs.length G (YAt xs)) (hG : ∀ H', Same H H' → G H') (D : Addr), H D = none → ∃ W : Nat → Nat → Hp → Prop, (∃ m, W 0 m (upd H D (.lst []))) ∧ ∀ i m H, W i m H →
      (J.stop i H ∧ Q (.ref D) H) ∨ (J.go i H ∧ ∃ Nx : Hp → Prop, (∀ H', Nx H' → ∃ m', m' < m ∧ W (i + 1) m' H') ∧ ∀ x H', J.yld i H x H' → g x (wipe σ vs) H' fun σ2 H2 => wipe σ2 vs = wipe σ vs ∧ tYes σ2 H2 fun b H3 =>
        if b = true then te σ2 H3 fun y H4 => ∃ acc, H4 D = some (.lst acc) ∧ acc.length < sizeLine ∧ Nx (upd H4 D (.lst (acc ++ [y]))) else Nx H3) := by
    intro J G w hG D nD
    refine lc_it w (fun i H' => Same H H' ∧ H' D = some (.lst ((List.range i).map f))) ⟨same_upd nD, upd_same⟩ (fun i H' _ p => hG H' p.1) (fun i x H' H'' hi p y => ?_) (fun H' p => hd D H' p.1 p.2)
    obtain ⟨rfl, hx⟩ := y
    refine hs i x _ _ hx p.1 fun H2 s2 => ?_
    refine ⟨_, s2 _ _ p.2, ?_, ?_, ?_⟩
    · rw [List.length_map, List.length_range, sizeLine_eq]
      omega
    · exact fun b u e => by
        rw [upd_ne (ne_of_none e nD)]
        exact s2 _ _ (p.1 _ _ e)
    · rw [upd_same, List.range_succ, List.map_append, List.map_singleton]
  obtain ⟨a, rfl, hq⟩ := hq
  rcases hq with hq | hq
  · exact he _ ⟨a, xs, rfl, .inl ⟨hq, key _ _ (walk_list (xs := xs)) fun H' s => s.seq hq⟩⟩
  · exact he _ ⟨a, xs, rfl, .inr ⟨hq, key _ _ (walk_tup (xs := xs)) fun H' s => SqT.same hq s⟩⟩
theorem iteN {c : Bool} {A B : Prop} (h : c = false) (b : B) : if c = true then A else B := by
  rw [h]
  exact iteF b
theorem same_over {H0 H : Hp} {D : Addr} {o : HO} (n : H0 D = none) (s : Same H0 H) : Same H0 (upd H D o) := fun b u e => by
  rw [upd_ne (ne_of_none e n)]
  exact s _ _ e
theorem t_nall {K : PySem.W.Frag} {tl : TE} {σ : St} {H : Hp} {Q : Bool → Hp → Prop} (h : tl σ H fun x H1 => rAll K [x] H1 fun y H2 => ∃ c, y = .bl c ∧ Q (!c) H2) : tNot (tB (tCB (rAll K) (tCons tl tNil))) σ H Q := h
theorem t_seqAsg {t : TE} {g : TG} {u : TS} {D : Ends} {σ : St} {H : Hp} (h : t σ H fun x H1 => g x σ H1 (u D)) : tSeq (tAsg t g) u D σ H := h
/-! ### names -/
def okc (c : Nat) : Bool := decide (97 ≤ c) && decide (c ≤ 122)
def isNm (z : Str) : Bool := decide (1 ≤ z.length) && (decide (z.length ≤ 8) && z.cps.toList.all okc)
/-- whether a value is a name -/
def IsN (K : PySem.W.Frag) (H : Hp) (x : V) (b : Bool) : Prop := (∃ z, x = .str z ∧ z.length ≤ sizeLine ∧ b = isNm z) ∨ ∃ t, TyX K H x t ∧ PySem.W.kitOne K t (.type "str") = some false ∧ b = false
theorem IsN.same {K : PySem.W.Frag} {H H' : Hp} {x : V} {b : Bool} (h : IsN K H x b) (s : Same H H') : IsN K H' x b := by
  rcases h with h | ⟨t, h1, h2⟩
  · exact .inl h
  · exact .inr ⟨t, TyX.same h1 s, h2⟩
theorem lt_sign (c d : Nat) : decide ([c] < [d]) = decide (c < d) := by
  by_cases h : c < d
  · rw [decide_eq_true h, decide_eq_true]
    exact List.Lex.rel h
  · rw [decide_eq_false h, decide_eq_false]
    intro z
    cases z with
    | rel z => exact h z
    | cons z => cases z
/-- the texts among values -/
def strsOf (xs : List V) : List Str := xs.filterMap fun x => match x with
  | .str z => some z
  | _ => none
def spIsList (K : PySem.W.Frag) : Sp := fun vs H Q _ => ∃ v t b, vs = [v] ∧ TyX K H v t ∧ PySem.W.kitAny K t LT = some b ∧ ∀ H', Same H H' → Q (.bl b) H'
def spIsName (K : PySem.W.Frag) : Sp := fun vs H Q _ => ∃ v b, vs = [v] ∧ IsN K H v b ∧ ∀ H', Same H H' → Q (.bl b) H'
/-- whether these are different names -/
def nlB (xs : List V) (bs : List Bool) : Bool := bs.all id && decide (strsOf xs).Nodup
/-- whether a value is a list of different names -/
def NLis (K : PySem.W.Frag) (H : Hp) (v : V) (c : Bool) : Prop := (∃ t, TyX K H v t ∧ PySem.W.kitAny K t LT = some false ∧ c = false) ∨
  ∃ (xs : List V) (bs : List Bool), Seq K H v xs ∧ xs.length ≤ 900 ∧ bs.length = xs.length ∧ (∀ (i : Nat) x b, xs[i]? = some x → bs[i]? = some b → IsN K H x b) ∧ c = nlB xs bs
theorem NLis.same {K : PySem.W.Frag} {H H' : Hp} {v : V} {c : Bool} (h : NLis K H v c) (s : Same H H') : NLis K H' v c := by
  rcases h with ⟨t, h1, h2⟩ | ⟨xs, bs, h1, h2, h3, h4, h5⟩
  · exact .inl ⟨t, TyX.same h1 s, h2⟩
  · exact .inr ⟨xs, bs, h1.same s, h2, h3, fun i x b e e2 => (h4 i x b e e2).same s, h5⟩
def spNameList (K : PySem.W.Frag) : Sp := fun vs H Q _ => ∃ v c, vs = [v] ∧ NLis K H v c ∧ ∀ H', Same H H' → Q (.bl c) H'
/-- whether a value is a row of a web -/
def RowIs (K : PySem.W.Frag) (H : Hp) (v : V) (r : Bool) : Prop := (∃ t, TyX K H v t ∧ PySem.W.kitAny K t LT = some false ∧ r = false) ∨
  ∃ xs, Seq K H v xs ∧ ((xs.length ≠ 2 ∧ r = false) ∨ ∃ x y b c, xs = [x, y] ∧ IsN K H x b ∧ NLis K H y c ∧ r = (b && c))
theorem RowIs.same {K : PySem.W.Frag} {H H' : Hp} {v : V} {r : Bool} (h : RowIs K H v r) (s : Same H H') : RowIs K H' v r := by
  rcases h with ⟨t, h1, h2⟩ | ⟨xs, h1, h⟩
  · exact .inl ⟨t, TyX.same h1 s, h2⟩
  · refine .inr ⟨xs, h1.same s, ?_⟩
    rcases h with h | ⟨x, y, b, c, e, h2, h3, h4⟩
    · exact .inl h
    · exact .inr ⟨x, y, b, c, e, h2.same s, h3.same s, h4⟩
def spIsRow (K : PySem.W.Frag) : Sp := fun vs H Q _ => ∃ v r, vs = [v] ∧ RowIs K H v r ∧ ∀ H', Same H H' → Q (.bl r) H'
theorem rngD (bs : List Bool) : (List.range bs.length).map (fun i => bs.getD i false) = bs := by
  apply List.ext_getElem?
  intro i
  by_cases h : i < bs.length
  · rw [List.getElem?_map, List.getElem?_range h, List.getElem?_eq_getElem h]
    simp [List.getD_eq_getElem?_getD, List.getElem?_eq_getElem h]
  · rw [List.getElem?_eq_none (by simpa using h), List.getElem?_eq_none (by simpa using h)]
/-- all are names: they are their texts -/
theorem all_strs {K : PySem.W.Frag} {H : Hp} : ∀ {xs : List V} {bs : List Bool}, bs.length = xs.length → (∀ (i : Nat) x b, xs[i]? = some x → bs[i]? = some b → IsN K H x b) → bs.all id = true → xs = (strsOf xs).map V.str
  | [], _, _, _, _ => rfl
  | x :: xs, [], h, _, _ => by cases h
  | x :: xs, b :: bs, h, hi, ha => by
    obtain ⟨a1, a2⟩ := Bool.and_eq_true_iff.mp (show (id b && bs.all id) = true from ha)
    have ih := all_strs (xs := xs) (bs := bs) (Nat.succ.inj h) (fun i x b e e2 => hi (i + 1) x b e e2) a2
    rcases hi 0 x b rfl rfl with ⟨z, rfl, _⟩ | ⟨t, _, _, e⟩
    · show V.str z :: xs = V.str z :: (strsOf xs).map V.str
      rw [← ih]
    · rw [show b = true from a1] at e
      cases e
theorem Seq.ix {K : PySem.W.Frag} {H : Hp} {v : V} {xs : List V} {i : Int} {x : V} {Q : VK} (h : Seq K H v xs) (e : atI xs i = some x) (q : Q x H) : rIx K v (.int i) H Q := by
  obtain ⟨a, rfl, h | h⟩ := h
  · exact .inl ⟨a, xs, i, x, rfl, rfl, h, e, q⟩
  · exact .inr (.inl ⟨a, xs, i, x, rfl, rfl, h, e, q⟩)
/-! ### the first wrong row -/
/-- by the rows' looks: which is wrong first, told seen so far -/
def firstW : List (Bool × Str) → List Str → Nat → Option Nat
  | [], _, _ => none
  | (r, z) :: l, seen, i => if r = false ∨ z ∈ seen then some i else firstW l (seen ++ [z]) (i + 1)
/-- a thing among the rows: whether it is a row, its name if so -/
def RowD (K : PySem.W.Frag) (H : Hp) (d : V × Bool × Str) : Prop := RowIs K H d.1 d.2.1 ∧ (d.2.1 = true → ∃ y, Seq K H d.1 [.str d.2.2, y])
theorem RowD.same {K : PySem.W.Frag} {H H' : Hp} {d : V × Bool × Str} (h : RowD K H d) (s : Same H H') : RowD K H' d :=
  ⟨h.1.same s, fun e => let ⟨y, z⟩ := h.2 e; ⟨y, z.same s⟩⟩
def nmOf (d : V × Bool × Str) : Str := d.2.2
def optV : Option Nat → V
  | none => .non
  | some i => .int (i : Nat)
def firstR (ds : List (V × Bool × Str)) : Option Nat := if ds = [] then some 0 else firstW (ds.map Prod.snd) [] 0
def spFirst (K : PySem.W.Frag) : Sp := fun vs H Q _ => ∃ v, vs = [v] ∧ ((∃ t, TyX K H v t ∧ PySem.W.kitAny K t LT = some false ∧ ∀ H', Same H H' → Q (.int 0) H') ∨
  ∃ ds : List (V × Bool × Str), Seq K H v (ds.map Prod.fst) ∧ ds.length ≤ 1000 ∧ (∀ d ∈ ds, RowD K H d) ∧ ∀ H', Same H H' → Q (optV (firstR ds)) H')
theorem in_strs (z : Str) (seen : List Str) : inV (.str z) (seen.map V.str) = decide (z ∈ seen) := by
  unfold inV
  induction seen with
  | nil => rfl
  | cons y ys ih =>
    rw [List.map_cons, List.any_cons, ih]
    show ((y == z) || decide (z ∈ ys)) = decide (z ∈ y :: ys)
    by_cases e : y = z
    · subst e
      simp
    · have e2 : (y == z) = false := by simpa using e
      rw [e2, Bool.false_or]
      by_cases m : z ∈ ys
      · rw [decide_eq_true m, decide_eq_true (List.mem_cons_of_mem _ m)]
      · rw [decide_eq_false m, decide_eq_false]
        intro h
        rcases List.mem_cons.mp h with h | h
        · exact e h.symm
        · exact m h
theorem flat_strs' (ys : List Str) : (ys.map V.str).all flatV = true := by
  induction ys with
  | nil => rfl
  | cons y ys ih => exact ih
/-- a def as its callers know it -/
structure Cal (P : Program) (w : World) (K : PySem.W.Frag) (mg : Str → Option Value) (base : Heap) (x : Str) (ps : List Str) (k : Nat) (sp : Sp) : Prop where
  ex : ∃ f fd, FnOk P w K mg base CX0 k f fd ps sp ∧ mg x = some (.ref f) ∧ PySem.W.keepIn K (.ref f) = true ∧ Binds K fd ps []
end WL
end L2
set_option Elab.async false
set_option linter.all false
set_option maxRecDepth 100000
set_option maxHeartbeats 4000000
namespace PySem
open Sem (wp)
open AutoSeq1 (wpAny_loadPart')
theorem meets_enumerate_newT (l : Addr) (items : Array Value) (n : Nat) (dct : Option Addr) (sl : Array (Option Value)) :
    Meets (Builtin.«enumerate.__new__» ⟨[.type "enumerate", .ref l], []⟩) (fun _ R s => s.heap.get? l = some { cls := .type "tuple", dict := dct, data := .seq items n, slots := sl } ∧
      R (.ok (.ret (.ref (s.heap.push { cls := .type "tuple_iterator", data := .fields #[.ref l, .int 0 0] }).objs.size)))
        { s with heap := (s.heap.push { cls := .type "tuple_iterator", data := .fields #[.ref l, .int 0 0] }).push { cls := .type "enumerate", data := .fields #[.none, .bool false, .ref s.heap.objs.size, rawInt 0, .none, .none] } }) :=
  .of_wp fun prog w A R s h => by
    obtain ⟨hp, g, d, tk, os⟩ := s; obtain ⟨hl, h⟩ := h
    have hsub := sub_enumerate
    have hL : Heap.IsTuple (Shared.heap ⟨hp, g, d, tk, os⟩) l items := ⟨_, hl, rfl, n, rfl⟩
    wp_walk using wpAny_loadPart' hl
    refine wpAny_stack_any fun st => wpAny_pure ?_
    split
    · rename_i c _ _ _ _ _
      cases (c == Value.type "enumerate")
      · wp_walk using wpAny_loadPart' hl, wpAny_pyIter_tuple hL
        exact ⟨_, rfl, h⟩
      · wp_walk using wpAny_loadPart' hl, wpAny_pyIter_tuple hL
        exact ⟨_, rfl, h⟩
    · wp_walk using wpAny_loadPart' hl, wpAny_pyIter_tuple hL
      exact ⟨_, rfl, h⟩
section
variable {prog : Program} {w : World} {A : Around} {E : Value → Shared → Prop} {s : Shared}
theorem call_enumerate_tuple {l : Addr} {items : Array Value} {Q : Value → Shared → Prop} (hL : s.heap.IsTuple l items)
    (h : ∀ h', IsEnum h' (s.heap.objs.size + 1) s.heap.objs.size 0 .none → h'.IsTupleIter s.heap.objs.size l 0 → h'.objs.size = s.heap.objs.size + 2 →
      (∀ b o, s.heap.get? b = some o → h'.get? b = some o) → Q (.ref (s.heap.objs.size + 1)) { s with heap := h' }) :
    wpAny (model prog w) A (call (.type "enumerate") [.ref l]) Q E s := by
  obtain ⟨⟨c, dct, dt, sl⟩, hl, hc, n, hd⟩ := hL
  replace hc : c = .type "tuple" := hc
  replace hd : dt = .seq items n := hd
  subst hc hd
  refine callType_new F.called_enumerate (by decide) (F.typeCall_enumerate_1 _) (F.newCall_enumerate_1 _) (fun obj => F.args_object_init_2 obj _) F.entry_enumerate_new
    (meets_enumerate_newT l items n dct sl) ⟨hl, ?_⟩
  have hz : (s.heap.push { cls := .type "tuple_iterator", data := .fields #[.ref l, .int 0 0] }).objs.size = s.heap.objs.size + 1 := Heap.size_push ..
  show _ ∧ _
  rw [hz]
  have he : IsEnum ((s.heap.push { cls := .type "tuple_iterator", data := .fields #[.ref l, .int 0 0] }).push
      { cls := .type "enumerate", data := .fields #[.none, .bool false, .ref s.heap.objs.size, rawInt 0, .none, .none] }) (s.heap.objs.size + 1) s.heap.objs.size 0 .none := by
    have := Heap.get?_push_size (s.heap.push { cls := .type "tuple_iterator", data := .fields #[.ref l, .int 0 0] })
      (o := { cls := .type "enumerate", data := .fields #[.none, .bool false, .ref s.heap.objs.size, rawInt 0, .none, .none] }) rfl
    rw [hz] at this; exact this
  refine ⟨⟨_, he, rfl⟩, h _ he ⟨_, Heap.get?_push_of_some _ (Heap.get?_push_size _ rfl), rfl, rfl⟩ (by rw [Heap.size_push, hz]) fun b o x => Heap.get?_push_of_some _ (Heap.get?_push_of_some _ x)⟩
theorem wpAny_pyNext_enum_endT {e it t : Addr} {j : Nat} {i : Int} {items : Array Value} {old : Value} {Q : Option Value → Shared → Prop}
    (hh : A.in1.handled = none) (he : IsEnum s.heap e it i old) (hit : s.heap.IsTupleIter it t j) (ht : s.heap.IsTuple t items) (hx : items[j]? = none)
    (hQ : ∀ h', Heap.ExtBut it s.heap h' → Q none { s with heap := h' }) : wpAny (model prog w) A (pyNext (.ref e)) Q E s := by
  have hT : s.TypeIs (.ref e) "enumerate" := ⟨_, he, rfl⟩
  unfold pyNext
  refine wpAny_bind (wpAny_attempt (wpAny_callSpecial?_slot (name := Str.ofString "__next__") hT F.slot_enumerate_next
    (wpAny_call_entry F.slot_enumerate_next hT F.entry_enumerate_next ?_ (F.args_enumerate_next_1 _))))
  show wpAny _ _ (field (.ref e) 2 >>= _) _ _ _
  refine wpAny_bind (wpAny_field he rfl (x := .ref it) rfl ?_)
  refine wpAny_bind (wpAny_nextOf_tuple_end hh hit ht hx fun h' x he' hx' => ?_)
  obtain ⟨o, ho, hc⟩ := hx'
  refine wpAny_bind (wpAny_isInstance (T := "StopIteration") (b := true) ⟨o, ho, hc⟩ isSubtype_stop ?_)
  exact wpAny_pure (hQ _ he')
end
end PySem
namespace L2
namespace WL
open PySem PySem.Spec PyProof.Rows K1
/-- the tuple at a as it stands at each turn, each item in a new pair -/
def IteT (K : PySem.W.Frag) (a : Addr) : It :=
  ⟨fun i H => ∃ (xs : List V) (x : V), SqT K H a xs ∧ xs[i]? = some x, fun i H v H' => ∃ T x, v = .ref T ∧ H T = none ∧ H' = upd H T (.tup [.int (i : Nat), x]) ∧ ∀ xs, SqT K H a xs → xs[i]? = some x, fun i H => ∃ xs : List V, SqT K H a xs ∧ xs.length ≤ i⟩
theorem turn_enumT {P : Program} {w : World} {K : PySem.W.Frag} {elts : List Expr} {kk : Nat} {tpos : Pos} (a e it : Addr) :
    Turn P w K (.Tuple elts kk tpos) (IteT K a) [e, it] e (fun i h => (∃ old, IsEnum h e it ((i : Nat) : Int) old) ∧ h.IsTupleIter it a i ∧ e ≠ it ∧ a ≠ e ∧ a ≠ it) where
  mem := by simp
  obj := fun i h st b hb => by
    obtain ⟨⟨old, he⟩, ⟨o, ho, hc, hd⟩, _⟩ := st
    have e' : b = e ∨ b = it := by simpa using hb
    rcases e' with z | z
    · rw [z]; exact ⟨_, he, fun v q => nomatch q⟩
    · rw [z]; exact ⟨o, ho, fun v q => by rw [hd] at q; cases q⟩
  keep := fun i h h' st k => let ⟨⟨old, he⟩, hi, hne⟩ := st; ⟨⟨old, k e (by simp) _ he⟩, hi.at fun o q => k it (by simp) o q, hne⟩
  item := by
    intro X hP hw hK hc i pins s σ H E I hf st hg
    subst hP hw hK
    obtain ⟨⟨old, he⟩, hit, hne, hae, hai⟩ := st
    obtain ⟨xs, x, hq, hx⟩ := hg
    obtain ⟨its, rv, p, hz⟩ := I.tuple hq
    obtain ⟨u, hu, ru⟩ := rv.get hx
    have hel : e < s.heap.objs.size := Heap.lt_size he
    have hil : it < s.heap.objs.size := by obtain ⟨_, q, _⟩ := hit; exact Heap.lt_size q
    have hT : s.heap.IsTuple a its.toArray := p
    have il : i < its.toArray.size := by
      have := (List.getElem?_eq_some_iff.mp hu).1
      simpa using this
    refine wpAny_pyNext_enum_itemD (Draws.tuple (A := X.A.in1) (I.ok.hd hc) it a hai its.toArray) he ⟨hit, hT⟩ il hne (by simp [hne, Ne.symm hae]) fun x' h' tk hx' ho hit' hT hsz hk => ?_
    obtain rfl : u = x' := by
      have z : its[i]? = some x' := by simpa using hx'
      rw [hu] at z
      exact Option.some.inj z
    refine ⟨_, rfl, wpAny_letOwnedTupleGo_enum (s := { s with heap := h', toks := tk + 1 }) ho fun h'' he' sb => ?_⟩
    have hT2 : h''.get? s.heap.objs.size = some { cls := .type "tuple", data := .seq #[.int i tk, u] } := (sb.2 _ (Nat.ne_of_gt hel)).trans hT
    have new : ObjOk X.prog X.w (upd H s.heap.objs.size (.tup [.int (i : Nat), x])) h'' s.heap.objs.size (.tup [.int (i : Nat), x]) :=
      ⟨by show 2 ≤ sizeLine; decide, [.int i tk, u], .cons ⟨_, rfl⟩ (.cons ru .nil), ⟨_, hT2, rfl, _, rfl⟩⟩
    have I1 : Inv X pins σ (upd H s.heap.objs.size (.tup [.int (i : Nat), x])) { s with heap := h'', toks := tk + 1 } :=
      I.turnedNew (ch := [e, it]) (fun b ob hb q => (sb.2 b (fun z => hb (by simp [z]))).trans (hk b ob (fun z => hb (by simp [z])) (fun z => hb (by simp [z])) q)) hf (Nat.le_refl _) new
    refine ⟨.ref s.heap.objs.size, _, I1, rfl, ⟨_, x, rfl, I.hok.fresh (Nat.le_refl _), rfl, fun ys hy => by rw [I.tuple_inj hy hq]; exact hx⟩, ⟨⟨u, ?_⟩, hit'.1.at fun o q => (sb.2 it (Ne.symm hne)).trans q, hne, hae, hai⟩, fun b hb => ?_⟩
    · have e1 : ((i + 1 : Nat) : Int) = (i : Int) + 1 := by omega
      rw [e1]; exact he'
    · have hb' : b < s.heap.objs.size := by
        have e' : b = e ∨ b = it := by simpa using hb
        rcases e' with z | z
        · rw [z]; exact hel
        · rw [z]; exact hil
      rw [upd_ne (Nat.ne_of_lt hb')]
      exact (hf b hb).1
  done := by
    intro X hP hw hK hc i pins s σ H E I hf st hg
    subst hP hw hK
    obtain ⟨⟨old, he⟩, hit, hne, hae, hai⟩ := st
    obtain ⟨xs, hq, hx⟩ := hg
    obtain ⟨its, rv, p, hz⟩ := I.tuple hq
    obtain ⟨f0, f1, f2, f3, f4, f5⟩ := hf it (by simp)
    have hl := rv.length
    exact wpAny_pyNext_enum_endT (I.ok.hd hc) he hit p (by simp; omega) fun h' eb => ⟨rfl, I.turned (t' := s.toks) (fun b o hb q => eb b o hb q) f0 f1 f3 f4 f5⟩
  self := fun A i s Q E st h => let ⟨⟨_, he⟩, _⟩ := st; wpAny_pyIter_enum he h
theorem walk_enumT {K : PySem.W.Frag} {a : Addr} {xs : List V} : Walk (IteT K a) xs.length (fun H => SqT K H a xs) (YPair (fun i => some (.int (i : Nat))) (fun i => xs[i]?)) := by
  refine ⟨fun i _ hi q => ⟨xs, xs[i], q, by simp [hi]⟩, fun _ q => ⟨xs, q, Nat.le_refl _⟩, fun i H v H' _ q y => ?_⟩
  obtain ⟨T, x, h1, h2, h3, h4⟩ := y
  exact ⟨T, .int (i : Nat), x, h1, h2, h3, rfl, h4 xs q⟩
/-- enumerate of a list or a tuple -/
def iEnumS (K : PySem.W.Frag) (ta : TA) : TI := fun σ H R => ta σ H fun vs H1 => ∃ a xs, vs = [.ref a] ∧ (SqL K H1 a xs ∧ R (Ite K a) H1 ∨ SqT K H1 a xs ∧ R (IteT K a) H1)
theorem pi_enumS {X : Cx} {e : Expr} {ta : TA} {p pos tpos : Pos} {elts : List Expr} {kk : Nat} (hg : Gl X "enumerate") (hm : X.mg "enumerate" = none) (ha : PA X [e] ta) (hs : starEach [e] X.env = [(false, eval e X.env)] := by rfl) :
    PI X (.Tuple elts kk tpos) (.Call (.Name "enumerate" p) [e] [] pos) (iEnumS X.K ta) := by
  refine ⟨fun pins s σ H R I h => ?_⟩
  refine Call_ (ld_blt I hg hm boot_enumerate (PyProof.Rows.callWith_type1 (thn (ha.run pos pins s σ H _ I h) fun us s1 ⟨vs, H1, I1, r1, q1⟩ => ?_) hs rfl))
  obtain ⟨a, xs, ex, q1⟩ := q1
  subst ex
  cases r1 with
  | cons r rr =>
    cases rr
    cases r
    have hle : ∀ b, b = s1.heap.objs.size + 1 ∨ b = s1.heap.objs.size → s1.heap.objs.size ≤ b := fun b e' => by
      rcases e' with z | z
      · rw [z]; exact Nat.le_add_right _ _
      · rw [z]; exact Nat.le_refl _
    rcases q1 with ⟨hq, q⟩ | ⟨hq, q⟩
    · obtain ⟨its, rv, p', hz⟩ := I1.list hq
      refine call_enumerate_list p'.isList fun h' he hit hsz hk => wpAny_pyIter_enum he ?_
      have I2 : Inv X pins σ H1 { s1 with heap := h' } := I1.kept (t' := s1.toks) hk
      refine ⟨s1.heap.objs.size + 1, [s1.heap.objs.size + 1, s1.heap.objs.size], _, _, H1, rfl, I2, turn_enum a (s1.heap.objs.size + 1) s1.heap.objs.size, ⟨⟨.none, he⟩, hit, Nat.succ_ne_self _⟩, fun b hb => ?_, q⟩
      have e' := hle b (by simpa using hb)
      exact I1.fpOk e' (I1.hok.fresh e')
    · obtain ⟨its, rv, p', hz⟩ := I1.tuple hq
      have hT : s1.heap.IsTuple a its.toArray := p'
      have hal : a < s1.heap.objs.size := by obtain ⟨o, ho, _⟩ := hT; exact Heap.lt_size ho
      refine call_enumerate_tuple hT fun h' he hit hsz hk => wpAny_pyIter_enum he ?_
      have I2 : Inv X pins σ H1 { s1 with heap := h' } := I1.kept (t' := s1.toks) hk
      refine ⟨s1.heap.objs.size + 1, [s1.heap.objs.size + 1, s1.heap.objs.size], _, _, H1, rfl, I2, turn_enumT a (s1.heap.objs.size + 1) s1.heap.objs.size, ⟨⟨.none, he⟩, hit, Nat.succ_ne_self _, Nat.ne_of_lt (Nat.lt_succ_of_lt hal), Nat.ne_of_lt hal⟩, fun b hb => ?_, q⟩
      have e' := hle b (by simpa using hb)
      exact I1.fpOk e' (I1.hok.fresh e')
/-- for i, x in enumerate(either) -/
theorem for_enumS {K : PySem.W.Frag} {v : V} {xs : List V} {g : TG} {tb : TS} {D : Ends} {σ : St} {H0 H : Hp} {ta : TA} (hq : Seq K H0 v xs) (he : ∀ Q : List V → Hp → Prop, Q [v] H → ta σ H Q) (Pv : Nat → St → Hp → Prop) (h0 : Pv 0 σ H) (hl : ∀ i σ' H', Pv i σ' H' → Same H0 H')
    (hs : ∀ i x σ' H' T, xs[i]? = some x → Pv i σ' H' → H' T = none → g (.ref T) σ' (upd H' T (.tup [.int (i : Nat), x])) fun σ2 H2 => tb { D with nx := Pv (i + 1), ct := Pv (i + 1), bk := D.nx } σ2 H2) (hd : ∀ σ' H', Pv xs.length σ' H' → D.nx σ' H') :
    tFor (iEnumS K ta) g tb D σ H := by
  obtain ⟨a, rfl, hq⟩ := hq
  rcases hq with hq | hq
  · exact he _ ⟨a, xs, rfl, .inl ⟨(hl _ _ _ h0).seq hq, for_it (walk_enum (xs := xs)) Pv h0 (fun i σ' H' _ p => (hl i σ' H' p).seq hq) (fun i x σ' H' H'' _ p y => by
      obtain ⟨T, u, z, rfl, nT, rfl, eu, ey⟩ := y
      obtain rfl : V.int (i : Nat) = u := Option.some.inj eu
      exact hs i z σ' _ T ey p nT) hd⟩⟩
  · exact he _ ⟨a, xs, rfl, .inr ⟨SqT.same hq (hl _ _ _ h0), for_it (walk_enumT (xs := xs)) Pv h0 (fun i σ' H' _ p => SqT.same hq (hl i σ' H' p)) (fun i x σ' H' H'' _ p y => by
      obtain ⟨T, u, z, rfl, nT, rfl, eu, ey⟩ := y
      obtain rfl : V.int (i : Nat) = u := Option.some.inj eu
      exact hs i z σ' _ T ey p nT) hd⟩⟩
end WL
end L2
set_option Elab.async false
set_option linter.all false
set_option maxRecDepth 100000
set_option maxHeartbeats 4000000
namespace L2
namespace WL
open PySem PySem.Spec PyProof.Rows K1
theorem PS.imp {X : Cx} {st : Stmt} {t t' : TS} (h : PS X st t) (f : ∀ D σ H, t' D σ H → t D σ H) : PS X st t' := ⟨fun pins s σ H D I q => h.run pins s σ H D I (f _ _ _ q)⟩
/-- raise C(name), C an own error class with one field that its __init__ keeps -/
def tRaiseV (C : Addr) (f : Str) (W : WX) (i : Nat) : TS := fun _ σ H => ∃ v, σ[i]? = some (some v) ∧ ∀ H2 d, Same H H2 → H d = none → H2 d = some (.xd [(f, v)]) → W (.ref C) (some d) σ H2
theorem ps_raiseV {X : Cx} {W : WX} {C fI : Addr} {k i : Nat} {fd : FuncData} {ps : List Str} {x y f : Str} {p q pos pos2 : Pos} (hc : X.calm = true) (tk : Takes X W) (T : XC X.K C) (iC : PySem.W.findIn X.K (.ref C) "__init__" = some (some (.ref fI))) (tI : PySem.W.typeIn X.K (.ref fI) = some (.type "function"))
    (F1 : FnOk X.prog X.w X.K X.mg X.base CX0 k fI fd ps (spI C f)) (hr : Room (k + 1) X.A) (hb : Binds X.K fd ps []) (hg : Gl X x) (hm : X.mg x = some (.ref C)) (ha : PE X (.Name y q) (tVar i))
    (hdb : (x == ("__debug__" : Str)) = false := by decide) (he : starEach [Expr.Name y q] X.env = (false, eval (.Name y q) X.env) :: starEach [] X.env := by rfl) (hpl : (backTo pos (starEach [] X.env)).any (·.1) = false := by rfl) :
    PS X (.Raise (some (.Call (.Name x p) [.Name y q] [] pos)) none pos2) (tRaiseV C f W i) := by
  refine PS.imp (ps_raise hc tk (pmk_oex T.ox iC tI F1 hr hb .nil (fun _ _ _ _ _ _ _ z => z.elim) hg hm (pa_cons ha pa_nil he) hdb he hpl)) fun D σ H h => ?_
  obtain ⟨v, e, h⟩ := h
  refine ⟨v, e, (show 1 ≤ 1000 by decide), fun a na => ⟨a, v, rfl, upd_same, fun d hd hda => ⟨rfl, d, [(f, v)], upd_same, ?_, ?_, ?_⟩⟩⟩
  · rw [upd_ne hda, upd_same]
  · rw [upd_ne hda] at hd
    exact hd
  · rw [upd_ne hda] at hd
    refine h _ d (fun b o z => ?_) hd upd_same
    have hb : b ≠ a := ne_of_none z na
    have hb2 : b ≠ d := ne_of_none z hd
    rw [upd_ne hb2, del_ne hb, upd_ne hb, upd_ne hb2, upd_ne hb]
    exact z
/-- what stands of an error that leaves a def: its class, its dict, the rest as it stood -/
def Rz (H : Hp) (E : XK) (C : Addr) (f : Str) (v : V) : Prop := ∀ H' d, Same H H' → H' d = some (.xd [(f, v)]) → E (.ref C) (some d) H'
/-- what is known of the __init__ of the error class x with the field f -/
structure Er (P : Program) (w : World) (K : PySem.W.Frag) (mg : Str → Option Value) (base : Heap) (x f : Str) : Prop where
  g : mg x = some (.ref (He.ga K x))
  c : XC K (He.ga K x)
  iC : PySem.W.findIn K (.ref (He.ga K x)) "__init__" = some (some (.ref (He.ma K (He.ga K x) "__init__")))
  tI : PySem.W.typeIn K (.ref (He.ma K (He.ga K x) "__init__")) = some (.type "function")
  ex : ∃ fd, FnOk P w K mg base CX0 1 (He.ma K (He.ga K x) "__init__") fd ["self", f] (spI (He.ga K x) f) ∧ Binds K fd ["self", f] []
/-! ### rows that are rows -/
def RowG (K : PySem.W.Frag) (H : Hp) (v : V) (r : Str × List Str) : Prop := ∃ y, Seq K H v [.str r.1, y] ∧ Seq K H y (r.2.map .str)
theorem RowG.same {K : PySem.W.Frag} {H H' : Hp} {v : V} {r : Str × List Str} (h : RowG K H v r) (s : Same H H') : RowG K H' v r := let ⟨y, a, b⟩ := h; ⟨y, a.same s, b.same s⟩
/-- the first source that is no cell -/
def firstU (cells : List Str) (rs : List (Str × List Str)) : Option Str := (rs.flatMap Prod.snd).find? fun s => decide (s ∉ cells)
theorem rngS (xs : List Str) : (List.range xs.length).map (fun i => V.str (xs.getD i Str.empty)) = xs.map V.str := by
  apply List.ext_getElem?
  intro i
  by_cases h : i < xs.length
  · rw [List.getElem?_map, List.getElem?_range h, List.getElem?_map, List.getElem?_eq_getElem h]
    simp [List.getD_eq_getElem?_getD, List.getElem?_eq_getElem h]
  · rw [List.getElem?_eq_none (by simpa using h), List.getElem?_eq_none (by simpa using h)]
theorem find_at {cells : List Str} {s : Str} {rest : List Str} (hs : s ∉ cells) : ∀ {done : List Str}, (∀ x ∈ done, x ∈ cells) → (done ++ s :: rest).find? (fun s => decide (s ∉ cells)) = some s
  | [], _ => by
    rw [List.nil_append, List.find?_cons, decide_eq_true hs]
  | d :: ds, h => by
    rw [List.cons_append, List.find?_cons, decide_eq_false (fun z => z (h d (List.mem_cons_self ..)))]
    exact find_at hs fun x hx => h x (List.mem_cons_of_mem _ hx)
theorem find_none {cells : List Str} {done : List Str} (h : ∀ x ∈ done, x ∈ cells) : done.find? (fun s => decide (s ∉ cells)) = none := by
  rw [List.find?_eq_none]
  intro x hx z
  exact (of_decide_eq_true z) (h x hx)
def spCheckRows (K : PySem.W.Frag) : Sp := fun vs H Q E => ∃ v, vs = [v] ∧ ((∃ t, TyX K H v t ∧ PySem.W.kitAny K t LT = some false ∧ Rz H E (He.ga K "BadWeb") "index" (.int 0)) ∨
  ∃ ds : List (V × Bool × Str), Seq K H v (ds.map Prod.fst) ∧ ds.length ≤ 1000 ∧ (∀ d ∈ ds, RowD K H d) ∧
    ((∃ i, firstR ds = some i ∧ Rz H E (He.ga K "BadWeb") "index" (.int (i : Nat))) ∨
      (firstR ds = none ∧ ∃ rs : List (Str × List Str), rs.length = ds.length ∧ (∀ (i : Nat) (d : V × Bool × Str) (r : Str × List Str), ds[i]? = some d → rs[i]? = some r → RowG K H d.1 r ∧ r.2.length ≤ 900) ∧
        ((∃ u, firstU (rs.map Prod.fst) rs = some u ∧ Rz H E (He.ga K "UnknownCell") "cell" (.str u)) ∨ (firstU (rs.map Prod.fst) rs = none ∧ ∀ H', Same H H' → Q .non H')))))
theorem g_nm {i : Nat} {x : V} {σ : St} {H : Hp} {R : St → Hp → Prop} (h : R (σ.set i (some x)) H) : gName i x σ H R := h
theorem t_seqF {wi : TI} {g : TG} {tb u : TS} {D : Ends} {σ : St} {H : Hp} (h : tFor wi g tb { D with nx := u D } σ H) : tSeq (tFor wi g tb) u D σ H := h
theorem t_next {D : Ends} {σ : St} {H : Hp} (h : D.nx σ H) : tNext D σ H := h
end WL
end L2
set_option Elab.async false
set_option linter.all false
set_option maxRecDepth 100000
set_option maxHeartbeats 4000000
namespace L2
namespace WL
open PySem PySem.Spec PyProof.Rows K1
abbrev Rws : Type := List (Str × List Str)
/-- the cells that have z for a source -/
def tgt (rs : Rws) (z : Str) : List Str := (rs.filter fun r => decide (z ∈ r.2)).map Prod.fst
/-- the arrows -/
def arr (rs : Rws) : List (Str × Str) := rs.flatMap fun r => r.2.map fun s => (s, r.1)
def kS (z : Str) : Key := Sum.inr z
/-- a dict from texts to tuples of texts -/
def DTup (K : PySem.W.Frag) (H : Hp) (kvs : List (Key × V)) (ps : Rws) : Prop := Paired (fun (kv : Key × V) (p : Str × List Str) => kv.1 = kS p.1 ∧ ∃ a, kv.2 = .ref a ∧ SqT K H a (p.2.map .str)) kvs ps
theorem Paired.imp {α β : Type} {F G : α → β → Prop} (f : ∀ a b, F a b → G a b) : ∀ {l : List α} {m : List β}, Paired F l m → Paired G l m
  | _, _, .nil => .nil
  | _, _, .cons h t => .cons (f _ _ h) (Paired.imp f t)
theorem Paired.get {α β : Type} {F : α → β → Prop} : ∀ {l : List α} {m : List β}, Paired F l m → ∀ {i : Nat} {b : β}, m[i]? = some b → ∃ a, l[i]? = some a ∧ F a b
  | _, _, .nil, _, _, e => by cases e
  | _, _, .cons (a := a) h t, 0, b, e => ⟨a, rfl, by cases e; exact h⟩
  | _, _, .cons h t, i + 1, b, e => Paired.get t (i := i) e
theorem Paired.getL {α β : Type} {F : α → β → Prop} : ∀ {l : List α} {m : List β}, Paired F l m → ∀ {i : Nat} {a : α}, l[i]? = some a → ∃ b, m[i]? = some b ∧ F a b
  | _, _, .nil, _, _, e => by cases e
  | _, _, .cons (b := b) h t, 0, a, e => ⟨b, rfl, by cases e; exact h⟩
  | _, _, .cons h t, i + 1, a, e => Paired.getL t (i := i) e
theorem DTup.same {K : PySem.W.Frag} {H H' : Hp} {kvs : List (Key × V)} {ps : Rws} (h : DTup K H kvs ps) (s : Same H H') : DTup K H' kvs ps :=
  Paired.imp (fun _ _ ⟨e, a, e2, q⟩ => ⟨e, a, e2, SqT.same q s⟩) h
theorem DTup.len {K : PySem.W.Frag} {H : Hp} {kvs : List (Key × V)} {ps : Rws} (h : DTup K H kvs ps) : kvs.length = ps.length := Paired.length h
/-- the sources of a cell: of the first row with its name -/
def srcs (ps : Rws) (z : Str) : Option (List Str) := (ps.find? fun p => decide (p.1 = z)).map Prod.snd
theorem DTup.get {K : PySem.W.Frag} {H : Hp} {z : Str} : ∀ {kvs : List (Key × V)} {ps : Rws}, DTup K H kvs ps → (∃ xs a, srcs ps z = some xs ∧ valV kvs (kS z) = some (.ref a) ∧ SqT K H a (xs.map .str)) ∨ (srcs ps z = none ∧ valV kvs (kS z) = none)
  | _, _, .nil => .inr ⟨rfl, rfl⟩
  | kv :: l1, p :: l2, .cons ⟨e, a, e2, q⟩ t => by
    by_cases h : p.1 = z
    · refine .inl ⟨p.2, a, ?_, ?_, q⟩
      · unfold srcs
        rw [List.find?_cons, decide_eq_true h]
        rfl
      · rw [valV_pos (by rw [e, h]), e2]
    · have ih := DTup.get (z := z) t
      have e3 : srcs (p :: l2) z = srcs l2 z := by
        unfold srcs
        rw [List.find?_cons, decide_eq_false h]
      have e4 := valV_neg (p := kv) (r := l1) (k := kS z) (by rw [e]; exact fun y => h (Sum.inr.inj y))
      rw [e3, e4]
      exact ih
theorem srcs_none {ps : Rws} {z : Str} : srcs ps z = none ↔ z ∉ ps.map Prod.fst := by
  unfold srcs
  rw [Option.map_eq_none_iff, List.find?_eq_none]
  constructor
  · rintro h m
    obtain ⟨p, hp, rfl⟩ := List.mem_map.mp m
    exact h p hp (decide_eq_true rfl)
  · intro h p hp e
    exact h (List.mem_map.mpr ⟨p, hp, of_decide_eq_true e⟩)
theorem srcs_at {ps : Rws} (nd : (ps.map Prod.fst).Nodup) {p : Str × List Str} (hp : p ∈ ps) : srcs ps p.1 = some p.2 := by
  induction ps with
  | nil => cases hp
  | cons q qs ih =>
    unfold srcs
    rw [List.find?_cons]
    rcases List.mem_cons.mp hp with rfl | hp
    · rw [decide_eq_true rfl]
      rfl
    · have nq : ¬ q.1 = p.1 := fun e => by
        have := (List.nodup_cons.mp nd).1
        rw [e] at this
        exact this (List.mem_map.mpr ⟨p, hp, rfl⟩)
      rw [decide_eq_false nq]
      exact ih (List.nodup_cons.mp nd).2 hp
/-- the fields of a web -/
def wFld (c s a t : Addr) : List (Str × V) := [("cells", .ref c), ("sources_of", .ref s), ("arrows", .ref a), ("targets_of", .ref t)]
def PairT (H : Hp) (v : V) (p : Str × Str) : Prop := ∃ q, v = .ref q ∧ H q = some (.tup [.str p.1, .str p.2])
/-- a web stands at p -/
structure WebAt (K : PySem.W.Frag) (H : Hp) (C p : Addr) (rs : Rws) (dx c s a t : Addr) (ks kt : List (Key × V)) (av : List V) : Prop where
  ob : H p = some (.ins C dx (wFld c s a t))
  hc : H c = some (.tup ((rs.map Prod.fst).map .str))
  hs : H s = some (.dK ks)
  ds : DTup K H ks rs
  ha : H a = some (.tup av)
  da : Paired (PairT H) av (arr rs)
  ht : H t = some (.dK kt)
  dt : DTup K H kt (rs.map fun r => (r.1, tgt rs r.1))
theorem WebAt.same {K : PySem.W.Frag} {H H' : Hp} {C p : Addr} {rs : Rws} {dx c s a t : Addr} {ks kt : List (Key × V)} {av : List V} (h : WebAt K H C p rs dx c s a t ks kt av) (e : Same H H') : WebAt K H' C p rs dx c s a t ks kt av :=
  ⟨e _ _ h.ob, e _ _ h.hc, e _ _ h.hs, h.ds.same e, e _ _ h.ha, Paired.imp (fun _ _ ⟨q, e1, e2⟩ => ⟨q, e1, e _ _ e2⟩) h.da, e _ _ h.ht, h.dt.same e⟩
def IsWeb (K : PySem.W.Frag) (H : Hp) (C p : Addr) (rs : Rws) : Prop := ∃ dx c s a t ks kt av, WebAt K H C p rs dx c s a t ks kt av
theorem IsWeb.same {K : PySem.W.Frag} {H H' : Hp} {C p : Addr} {rs : Rws} (h : IsWeb K H C p rs) (e : Same H H') : IsWeb K H' C p rs := let ⟨dx, c, s, a, t, ks, kt, av, w⟩ := h; ⟨dx, c, s, a, t, ks, kt, av, w.same e⟩
/-- rows of a web: different names, few, sources among them, each once -/
structure Good (rs : Rws) : Prop where
  nd : (rs.map Prod.fst).Nodup
  l1 : 1 ≤ rs.length
  ln : rs.length ≤ 900
  sr : ∀ r ∈ rs, r.2.length ≤ 900 ∧ r.2.Nodup ∧ ∀ s ∈ r.2, s ∈ rs.map Prod.fst
  nm : ∀ r ∈ rs, isNm r.1 = true
/-- what the head tells of the class Web -/
structure Wt (K : PySem.W.Frag) (mg : Str → Option Value) (C : Addr) : Prop where
  cl : Cls K C
  nc : NoAttr K C "cells"
  ns : NoAttr K C "sources_of"
  na : NoAttr K C "arrows"
  nt : NoAttr K C "targets_of"
  mg : mg "Web" = some (.ref C)
def spCW (K : PySem.W.Frag) (C : Addr) : Sp := fun vs H Q _ => ∃ (p : Addr) (z : Str) (dx : Addr) (fs : List (Str × V)) (c s : Addr) (ks : List (Key × V)) (rs : Rws), vs = [.ref p, .str z] ∧ H p = some (.ins C dx fs) ∧ fs.lookup ("cells" : Str) = some (.ref c) ∧ fs.lookup ("sources_of" : Str) = some (.ref s) ∧
  H c = some (.tup ((rs.map Prod.fst).map .str)) ∧ H s = some (.dK ks) ∧ DTup K H ks rs ∧ (rs.map Prod.fst).Nodup ∧ rs.length ≤ 900 ∧ ∀ (q : Addr) (H' : Hp), Same H H' → H q = none → H' q = some (.tup ((tgt rs z).map .str)) → Q (.ref q) H'
/-- in a comprehension: what is kept -/
theorem tgt_take {rs : Rws} {z : Str} {i : Nat} {r : Str × List Str} (h : rs[i]? = some r) : tgt (rs.take (i + 1)) z = tgt (rs.take i) z ++ (if z ∈ r.2 then [r.1] else []) := by
  unfold tgt
  rw [List.take_succ, h, List.filter_append, List.map_append]
  congr 1
  show (List.filter _ [r]).map _ = _
  by_cases m : z ∈ r.2
  · rw [if_pos m, List.filter_cons, if_pos (decide_eq_true m)]
    rfl
  · rw [if_neg m, List.filter_cons, if_neg (by simpa using m)]
    rfl
end WL
end L2
set_option Elab.async false
set_option linter.all false
set_option maxRecDepth 100000
set_option maxHeartbeats 4000000
namespace L2
namespace WL
open PySem PySem.Spec PyProof.Rows K1
/-! ### the pool, and what stands beside it -/
def hide (p : Addr) (H : Hp) : Hp := fun b => if b = p then none else H b
theorem hide_self {p : Addr} {H : Hp} : hide p H p = none := if_pos rfl
theorem hide_ne {p b : Addr} {H : Hp} (h : b ≠ p) : hide p H b = H b := if_neg h
theorem hide_some {p b : Addr} {H : Hp} {o : HO} (h : hide p H b = some o) : b ≠ p ∧ H b = some o := by
  unfold hide at h
  by_cases e : b = p
  · rw [if_pos e] at h
    cases h
  · rw [if_neg e] at h
    exact ⟨e, h⟩
theorem hide_le {p : Addr} {H : Hp} : Same (hide p H) H := fun b o e => (hide_some e).2
theorem hide_upd {p d : Addr} {H : Hp} {o : HO} (h : d ≠ p) : hide p (upd H d o) = upd (hide p H) d o := by
  funext b
  show (if b = p then none else upd H d o b) = upd (hide p H) d o b
  by_cases e : b = p
  · rw [if_pos e, upd_ne (fun z => h (z.symm.trans e))]
    exact (if_pos e).symm
  · rw [if_neg e]
    by_cases f : b = d
    · rw [f, upd_same, upd_same]
    · rw [upd_ne f, upd_ne f, hide_ne e]
theorem hide_updp {p : Addr} {H : Hp} {o : HO} : hide p (upd H p o) = hide p H := by
  funext b
  by_cases e : b = p
  · rw [e, hide_self, hide_self]
  · rw [hide_ne e, hide_ne e, upd_ne e]
theorem hide_same {p : Addr} {H H' : Hp} (s : Same H H') : Same (hide p H) (hide p H') := fun b o e => by
  obtain ⟨h1, h2⟩ := hide_some e
  rw [hide_ne h1]
  exact s _ _ h2
theorem hide_none {p b : Addr} {H : Hp} (h : H b = none) : hide p H b = none := by
  unfold hide
  by_cases e : b = p
  · rw [if_pos e]
  · rw [if_neg e]
    exact h
/-- a new object beside the pool -/
theorem hide_new {p d : Addr} {H : Hp} {o : HO} (hp : H p ≠ none) (h : H d = none) : d ≠ p ∧ Same (hide p H) (hide p (upd H d o)) ∧ hide p (upd H d o) d = some o := by
  have e : d ≠ p := fun z => hp (z ▸ h)
  refine ⟨e, ?_, ?_⟩
  · rw [hide_upd e]
    exact same_upd (hide_none h)
  · rw [hide_upd e]
    exact upd_same
/-- at p a pool, of which at most n turns are gone -/
def Pl (H : Hp) (p : Addr) (n : Nat) : Prop := ∃ a b c : Int, H p = some (.lst [.int a, .int b, .int c]) ∧ 0 ≤ a ∧ 0 ≤ b ∧ b < 1000000007 ∧ 0 ≤ c ∧ c ≤ (n : Nat)
theorem Pl.le {H : Hp} {p : Addr} {n m : Nat} (h : Pl H p n) (l : n ≤ m) : Pl H p m := by
  obtain ⟨a, b, c, h1, h2, h3, h4, h5, h6⟩ := h
  exact ⟨a, b, c, h1, h2, h3, h4, h5, by omega⟩
theorem Pl.ne {H : Hp} {p : Addr} {n : Nat} (h : Pl H p n) : H p ≠ none := by
  obtain ⟨a, b, c, h1, _⟩ := h
  rw [h1]
  exact fun z => nomatch z
theorem Pl.upd {H : Hp} {p d : Addr} {n : Nat} {o : HO} (h : Pl H p n) (hd : d ≠ p) : Pl (upd H d o) p n := by
  obtain ⟨a, b, c, h1, h2⟩ := h
  exact ⟨a, b, c, by rw [upd_ne (Ne.symm hd)]; exact h1, h2⟩
theorem Pl.new {H : Hp} {p d : Addr} {n : Nat} {o : HO} (h : Pl H p n) (hd : H d = none) : Pl (L2.upd H d o) p n := h.upd fun z => h.ne (z ▸ hd)
theorem Pl.same {H H' : Hp} {p : Addr} {n : Nat} (h : Pl H p n) (s : Same H H') : Pl H' p n := by
  obtain ⟨a, b, c, h1, h2⟩ := h
  exact ⟨a, b, c, s _ _ h1, h2⟩
def spCellL (K : PySem.W.Frag) : Sp := fun vs H Q _ => ∃ (l : Addr) (ns : List Int) (j : Nat), vs = [.ref l, .int (j : Nat)] ∧ SqL K H l (ns.map V.int) ∧ ∀ g : Int, Q (.int g) H
def spPoolL : Sp := fun vs H Q _ => ∃ g : Int, vs = [.int g] ∧ ∀ p o, H p = none → Pl (upd H p o) p 0 → Q (.ref p) (upd H p o)
def spTakeL : Sp := fun vs H Q _ => ∃ (p : Addr) (m : Int) (n : Nat), vs = [.ref p, .int m] ∧ 0 < m ∧ m < 1000000 ∧ Pl H p n ∧ n ≤ 900000000 ∧
  ∀ (r : Nat) H', (r : Int) < m → hide p H' = hide p H → Pl H' p (n + 1) → Q (.int (r : Nat)) H'
/-! ### lists mixed -/
def spMixed (K : PySem.W.Frag) : Sp := fun vs H Q _ => ∃ (p : Addr) (v : V) (xs : List V) (n : Nat), vs = [.ref p, v] ∧ Seq K (hide p H) v xs ∧ xs.length ≤ 1000 ∧ Pl H p n ∧ n ≤ 800000000 ∧
  ∀ (ys : List V) H' q, Same (hide p H) (hide p H') → Pl H' p (n + xs.length) → ys.Perm xs → hide p H q = none → hide p H' q = some (.lst ys) → Q (.ref q) H'
theorem cut_to {xs : List V} {i : Nat} (h : i ≤ xs.length) : cutV xs none (some (i : Int)) = xs.take i := by
  have e2 : HT.sIx xs.length xs.length (some (i : Int)) = i := by
    rw [HT.sIx_nat]
    omega
  unfold cutV
  rw [e2]
  show (xs.drop 0).take (i - 0) = _
  rw [List.drop_zero, Nat.sub_zero]
theorem cut_from {xs : List V} {i : Nat} (h : i ≤ xs.length) : cutV xs (some (i : Int)) none = xs.drop i := by
  have e2 : HT.sIx xs.length 0 (some (i : Int)) = i := by
    rw [HT.sIx_nat]
    omega
  unfold cutV
  rw [e2]
  show (xs.drop i).take (xs.length - i) = _
  rw [← List.length_drop, List.take_length]
theorem cut_ix {xs : List V} {i : Nat} {x : V} (h : xs[i]? = some x) : (xs.take i ++ xs.drop (i + 1)).length + 1 = xs.length ∧ (x :: (xs.take i ++ xs.drop (i + 1))).Perm xs := by
  have lt : i < xs.length := (List.getElem?_eq_some_iff.mp h).1
  have e : xs = xs.take i ++ x :: xs.drop (i + 1) := by
    conv => lhs; rw [← List.take_append_drop i xs, List.drop_eq_getElem_cons lt]
    rw [List.getElem?_eq_getElem lt] at h
    rw [Option.some.inj h]
  refine ⟨?_, ?_⟩
  · conv => rhs; rw [e]
    simp
    omega
  · conv => rhs; rw [e]
    exact List.perm_middle.symm
end WL
end L2
namespace L2
namespace WL
open PySem PySem.Spec PyProof.Rows K1
open TL
/-! ### names drawn -/
def lawNm (z : Str) : Prop := isNm z = true ∧ (z.length = 3 ∨ ∀ c ∈ z.cps.toList, c ≤ 121)
theorem pig {α : Type} [DecidableEq α] : ∀ {S F : List α}, S.Nodup → (∀ x ∈ S, x ∈ F) → S.length ≤ F.length
  | [], _, _, _ => Nat.zero_le _
  | x :: S, F, nd, h => by
    obtain ⟨n1, n2⟩ := List.nodup_cons.mp nd
    have m := h x (List.mem_cons_self ..)
    have := pig (S := S) (F := F.erase x) n2 fun y hy => (List.mem_erase_of_ne (fun (e : y = x) => n1 (e ▸ hy))).mpr (h y (List.mem_cons_of_mem _ hy))
    rw [List.length_erase_of_mem m] at this
    have p : 0 < F.length := List.length_pos_of_mem m
    rw [List.length_cons]
    omega
theorem joinL_nil : ∀ l : List (List Nat), joinL [] l = l.flatten
  | [] => rfl
  | [p] => by simp [joinL]
  | p :: q :: r => by
    show p ++ ([] ++ joinL [] (q :: r)) = p ++ (q :: r).flatten
    rw [joinL_nil (q :: r)]
    rfl
theorem join_signs (cs : List Nat) : (Txt.join ("" : Str) (cs.map fun c => (⟨#[c]⟩ : Str))).cps.toList = cs := by
  have e : tl (Txt.join ("" : Str) (cs.map fun c => (⟨#[c]⟩ : Str))) = (cs.map fun c => [c]).flatten := by
    rw [join_eq, tl_join, List.map_map]
    show joinL [] _ = _
    rw [joinL_nil]
    rfl
  have f : (cs.map fun c => [c]).flatten = cs := by
    induction cs with
    | nil => rfl
    | cons c cs ih =>
      rw [List.map_cons, List.flatten_cons, ih]
      · rfl
      · rw [join_eq, tl_join, List.map_map]
        show joinL [] _ = _
        rw [joinL_nil]
        rfl
  rw [f] at e
  exact e
def abc25 : Str := "abcdefghijklmnopqrstuvwxy"
theorem abc25_at {r : Nat} (h : r < 25) : atI abc25.cps.toList (r : Int) = some (97 + r) := by
  refine atI_nat ?_
  have e : abc25.cps.toList = (List.range 25).map (97 + ·) := by decide +kernel
  rw [e, List.getElem?_map, List.getElem?_range h]
  rfl
def abc16 : Str := "abcdefghijklmnop"
/-- the spare names -/
def spare (c : Nat) : Str := ("z" : Str) ++ (⟨#[c]⟩ : Str) ++ ("q" : Str)
theorem spare_cps (c : Nat) : (spare c).cps.toList = [122, c, 113] := rfl
def spares : List Str := abc16.cps.toList.map spare
theorem spare_nm : ∀ z ∈ spares, lawNm z := by
  intro z hz
  obtain ⟨c, hc, rfl⟩ := List.mem_map.mp hz
  have e : abc16.cps.toList = (List.range 16).map (97 + ·) := by decide +kernel
  rw [e] at hc
  obtain ⟨k, hk, rfl⟩ := List.mem_map.mp hc
  have hk' := List.mem_range.mp hk
  refine ⟨?_, .inl rfl⟩
  unfold isNm
  rw [spare_cps]
  show (true && (true && (okc 122 && (okc (97 + k) && (okc 113 && true))))) = true
  have o : okc (97 + k) = true := by
    unfold okc
    rw [decide_eq_true (by omega), decide_eq_true (by omega)]
    rfl
  rw [o]
  rfl
theorem spares_nodup : spares.Nodup := by decide +kernel
theorem spares_len : spares.length = 16 := by decide +kernel
theorem len_toList (z : Str) : z.length = z.cps.toList.length := by simp [Str.length]
theorem nm_of {z : Str} {cs : List Nat} (e : z.cps.toList = cs) (h1 : 1 ≤ cs.length) (h8 : cs.length ≤ 8) (hc : ∀ c ∈ cs, 97 ≤ c ∧ c ≤ 121) : lawNm z := by
  subst e
  refine ⟨?_, .inr fun c m => (hc c m).2⟩
  unfold isNm
  rw [len_toList, decide_eq_true h1, decide_eq_true h8]
  show z.cps.toList.all okc = true
  rw [List.all_eq_true]
  intro c m
  unfold okc
  have := hc c m
  rw [decide_eq_true this.1, decide_eq_true (by omega)]
  rfl
def spNames (K : PySem.W.Frag) : Sp := fun vs H Q _ => ∃ (p : Addr) (m n : Nat), vs = [.ref p, .int (m : Nat)] ∧ 1 ≤ m ∧ m ≤ 12 ∧ Pl H p n ∧ n ≤ 800000000 ∧
  ∀ (zs : List Str) H' q, Same (hide p H) (hide p H') → Pl H' p (n + 9 * m) → zs.length = m → zs.Nodup → (∀ z ∈ zs, lawNm z) → hide p H q = none → hide p H' q = some (.lst (zs.map .str)) → Q (.ref q) H'
/-- the first of the candidates that is not among the found ones -/
theorem first_free {name : Str} {found : List Str} (h : found.length < 16) (hn : lawNm name) : ∃ z rest, (name :: spares).filter (fun z => decide (z ∉ found)) = z :: rest ∧ z ∉ found ∧ lawNm z := by
  cases e : (name :: spares).filter (fun z => decide (z ∉ found)) with
  | nil =>
    exfalso
    have all : ∀ x ∈ spares, x ∈ found := fun x hx => by
      have := List.filter_eq_nil_iff.mp e x (List.mem_cons_of_mem _ hx)
      simpa using this
    have := pig spares_nodup all
    rw [spares_len] at this
    omega
  | cons z rest =>
    have m : z ∈ (name :: spares).filter (fun z => decide (z ∉ found)) := by
      rw [e]
      exact List.mem_cons_self ..
    obtain ⟨m1, m2⟩ := List.mem_filter.mp m
    refine ⟨z, rest, rfl, of_decide_eq_true m2, ?_⟩
    rcases List.mem_cons.mp m1 with rfl | m1
    · exact hn
    · exact spare_nm z m1
end WL
end L2
namespace L2
namespace WL
open PySem PySem.Spec PyProof.Rows K1
theorem iteP {c : Bool} {A B : Prop} (h : c = true) (a : A) : if c = true then A else B := by
  rw [if_pos h]
  exact a
theorem size_at {r : Nat} (h : r < 5) : ∃ sz : Nat, ([.int 1, .int 1, .int 2, .int 3, .int 8] : List V)[r]? = some (.int (sz : Nat)) ∧ 1 ≤ sz ∧ sz ≤ 8 := by
  have c : r = 0 ∨ r = 1 ∨ r = 2 ∨ r = 3 ∨ r = 4 := by omega
  rcases c with rfl | rfl | rfl | rfl | rfl
  · exact ⟨1, rfl, by omega, by omega⟩
  · exact ⟨1, rfl, by omega, by omega⟩
  · exact ⟨2, rfl, by omega, by omega⟩
  · exact ⟨3, rfl, by omega, by omega⟩
  · exact ⟨8, rfl, by omega, by omega⟩
theorem sum_ones : ∀ cs : List Nat, (cs.map fun _ => 1).sum = cs.length
  | [] => rfl
  | c :: cs => by
    rw [List.map_cons, List.sum_cons, sum_ones cs, List.length_cons, Nat.add_comm]
end WL
end L2
namespace L2
namespace WL
open PySem PySem.Spec PyProof.Rows K1
theorem strsOf_map (xs : List Str) : strsOf (xs.map .str) = xs := by
  induction xs with
  | nil => rfl
  | cons x xs ih =>
    show x :: strsOf (xs.map .str) = x :: xs
    rw [ih]
theorem map_strsOf : ∀ {ys : List V}, (∀ y ∈ ys, ∃ z, y = .str z) → ys = (strsOf ys).map .str
  | [], _ => rfl
  | y :: ys, h => by
    obtain ⟨z, rfl⟩ := h y (List.mem_cons_self ..)
    show V.str z :: ys = V.str z :: (strsOf ys).map .str
    rw [← map_strsOf fun y hy => h y (List.mem_cons_of_mem _ hy)]
theorem perm_strs {ys : List V} {xs : List Str} (h : ys.Perm (xs.map .str)) : ∃ zs : List Str, ys = zs.map .str ∧ zs.Perm xs := by
  refine ⟨strsOf ys, map_strsOf fun y hy => ?_, ?_⟩
  · obtain ⟨z, _, e⟩ := List.mem_map.mp (h.mem_iff.mp hy)
    exact ⟨z, e.symm⟩
  · have := h.filterMap (fun x => match x with
      | .str z => some z
      | _ => none)
    have e : strsOf (xs.map .str) = xs := strsOf_map xs
    show (strsOf ys).Perm xs
    conv => rhs; rw [← e]
    exact this
/-- rows as the law draws them -/
structure LawRows (most many : Nat) (rs : Rws) : Prop where
  nd : (rs.map Prod.fst).Nodup
  l1 : 1 ≤ rs.length
  lm : rs.length ≤ most
  nm : ∀ r ∈ rs, lawNm r.1
  sr : ∀ r ∈ rs, r.2.Nodup ∧ r.2.length ≤ many ∧ r.2.length ≤ rs.length ∧ ∀ s ∈ r.2, s ∈ rs.map Prod.fst
/-- a row: a tuple of a name and a list -/
def RowT (H : Hp) (v : V) (r : Str × List Str) : Prop := ∃ t l, v = .ref t ∧ H t = some (.tup [.str r.1, .ref l]) ∧ H l = some (.lst (r.2.map .str))
theorem RowT.same {H H' : Hp} {v : V} {r : Str × List Str} (h : RowT H v r) (s : Same H H') : RowT H' v r := let ⟨t, l, e, a, b⟩ := h; ⟨t, l, e, s _ _ a, s _ _ b⟩
def RowsAt (H : Hp) (q : Addr) (rs : Rws) : Prop := ∃ vs, H q = some (.lst vs) ∧ Paired (RowT H) vs rs
theorem RowsAt.same {H H' : Hp} {q : Addr} {rs : Rws} (h : RowsAt H q rs) (s : Same H H') : RowsAt H' q rs := let ⟨vs, e, a⟩ := h; ⟨vs, s _ _ e, Paired.imp (fun _ _ r => r.same s) a⟩
def spWeb (K : PySem.W.Frag) : Sp := fun vs H Q _ => ∃ (p : Addr) (most many n : Nat), vs = [.ref p, .int (most : Nat), .int (many : Nat)] ∧ 1 ≤ most ∧ most ≤ 12 ∧ many ≤ 12 ∧ Pl H p n ∧ n ≤ 700000000 ∧
  ∀ (rs : Rws) H' q, Same (hide p H) (hide p H') → Pl H' p (n + 300) → LawRows most many rs → hide p H q = none → RowsAt (hide p H') q rs → Q (.ref q) H'
end WL
end L2
set_option Elab.async false
set_option linter.all false
set_option maxRecDepth 100000
set_option maxHeartbeats 4000000
namespace L2
namespace WL
open PySem PySem.Spec PyProof.Rows K1
/-! ### names, by the methods of texts -/
theorem asc_ok : ∀ c, c < 128 → (Unicode.isAlpha c && !(Unicode.isUpper c || Unicode.isTitle c)) = okc c ∧ (okc c = true → Unicode.isLower c = true) := by decide +kernel
theorem okc_asc {c : Nat} (h : okc c = true) : c < 128 := by
  unfold okc at h
  simp at h
  omega
theorem nm_l (l : List Nat) : (l.all (· < 128) && ((decide (l.length > 0) && l.all Unicode.isAlpha) && (l.any Unicode.isLower && !l.any fun c => Unicode.isUpper c || Unicode.isTitle c))) = (decide (1 ≤ l.length) && l.all okc) := by
  rw [Bool.eq_iff_iff]
  constructor
  · intro h
    simp only [Bool.and_eq_true, List.all_eq_true, decide_eq_true_eq, Bool.not_eq_true', List.any_eq_false] at h ⊢
    obtain ⟨h1, ⟨h2, h3⟩, h4, h5⟩ := h
    refine ⟨h2, fun c m => ?_⟩
    rw [← (asc_ok c (h1 c m)).1, h3 c m]
    have := h5 c m
    cases e : (Unicode.isUpper c || Unicode.isTitle c)
    · rfl
    · exact absurd e this
  · intro h
    simp only [Bool.and_eq_true, List.all_eq_true, decide_eq_true_eq, Bool.not_eq_true', List.any_eq_false, List.any_eq_true] at h ⊢
    obtain ⟨h1, h2⟩ := h
    have k : ∀ c ∈ l, (Unicode.isAlpha c && !(Unicode.isUpper c || Unicode.isTitle c)) = true := fun c m => by
      rw [(asc_ok c (okc_asc (h2 c m))).1]
      exact h2 c m
    refine ⟨fun c m => okc_asc (h2 c m), ⟨h1, fun c m => (Bool.and_eq_true_iff.mp (k c m)).1⟩, ?_, fun c m z => ?_⟩
    · cases l with
      | nil => exact absurd h1 (by simp)
      | cons c cs => exact ⟨c, List.mem_cons_self .., (asc_ok c (okc_asc (h2 c (List.mem_cons_self ..)))).2 (h2 c (List.mem_cons_self ..))⟩
    · have := (Bool.and_eq_true_iff.mp (k c m)).2
      rw [z] at this
      cases this
theorem nm_txt (z : Str) : (Txt.isascii z && (Txt.isalpha z && Txt.islower z)) = (decide (1 ≤ z.length) && z.cps.toList.all okc) := by
  have e := nm_l z.cps.toList
  have zl : z.length = z.cps.toList.length := by simp [Str.length]
  rw [zl, ← e]
  unfold Txt.isascii Txt.isalpha Txt.islower
  rw [zl]
  simp only [Array.all_toList, Array.any_toList]
theorem isNm_txt (z : Str) : isNm z = (decide (z.length ≤ 8) && (Txt.isascii z && (Txt.isalpha z && Txt.islower z))) := by
  rw [nm_txt]
  unfold isNm
  cases decide (1 ≤ z.length) <;> cases decide (z.length ≤ 8) <;> rfl
end WL
end L2
set_option Elab.async false
set_option linter.all false
set_option maxRecDepth 100000
set_option maxHeartbeats 4000000
namespace L2
namespace WL
open PySem PySem.Spec PyProof.Rows K1
/-! ### several except clauses, with names or without -/
abbrev Clz : Type := Value × Option Nat × (Addr → Value → Option Addr → TS)
def endsAt : Option Nat → Ends → Ends
  | none, D => D
  | some i, D => { nx := fun σ H => D.nx (σ.set i none) H, rt := D.rt, bk := fun σ H => D.bk (σ.set i none) H, ct := fun σ H => D.ct (σ.set i none) H }
def setAt : Option Nat → Addr → St → St
  | none, _, σ => σ
  | some i, a, σ => σ.set i (some (.ref a))
def wAll (K : PySem.W.Frag) (Wo : WX) (D : Ends) : List Clz → WX
  | [] => Wo
  | z :: r => fun cls d σ H => ∃ b, PySem.W.exmOne K cls z.1 = some b ∧ (b = true → ∀ a, H a = none → z.2.2 a cls d (endsAt z.2.1 D) (setAt z.2.1 a σ) H) ∧ (b = false → wAll K Wo D r cls d σ H)
inductive HdsA (X : Cx) : List ExceptHandler → List Clz → Prop
  | nil : HdsA X [] []
  | plain {x : Str} {c : Value} {ts : Addr → Value → Option Addr → TS} {b0 : Stmt} {bs : List Stmt} {np q : Pos} {hs : List ExceptHandler} {l : List Clz} (hc : Names X x c)
      (hsu : ∀ (a : Addr) (oe : Obj) (cls : Value) (d : Option Addr) (pn : List (Addr × Obj)), Zc cls d oe → (∃ vs, oe.data = .fields vs) → PSs (X.suite a ((a, oe) :: pn)) (b0 :: bs) (ts a cls d)) (r : HdsA X hs l) :
      HdsA X (.ExceptHandler (some (.Name x np)) none (b0 :: bs) q :: hs) ((c, none, ts) :: l)
  | named {x n : Str} {i : Nat} {c : Value} {ts : Addr → Value → Option Addr → TS} {b0 : Stmt} {bs : List Stmt} {np q : Pos} {hs : List ExceptHandler} {l : List Clz} (hc : Names X x c) (hN : X.N.Nodup) (hi : X.N[i]? = some n) (hln : X.env.kindOf n = some .local)
      (hsu : ∀ (a : Addr) (oe : Obj) (cls : Value) (d : Option Addr) (pn : List (Addr × Obj)), Zc cls d oe → (∃ vs, oe.data = .fields vs) → PSs (X.suite a ((a, oe) :: pn)) (b0 :: bs) (ts a cls d)) (r : HdsA X hs l) :
      HdsA X (.ExceptHandler (some (.Name x np)) (some n) (b0 :: bs) q :: hs) ((c, some i, ts) :: l)
section
variable {X : Cx} {body : List Stmt} {h0 : ExceptHandler} {hs : List ExceptHandler} {l : List Clz} {pos : Pos} {tb : WX → TS} {Wo : WX}
/-- the clauses, one behind another, of an exception that has landed -/
theorem clauses {pins : List (Addr × Obj)} {D : Ends} {B : Heap} {a : Addr} {s' : Shared} {σ : St} {H : Hp} {cls : Value} {d : Option Addr} (hst : X.stack = X.env :: X.outer) (hf : X.env.frame = some X.env.locals) (tk : Takes X Wo) (ok : X.Ok)
    (na : H a = none) (land : ∀ {h : Heap}, HandSPX.FlyingZ B (X.env :: X.outer) a (Zc cls d) h → s'.heap.UpToSlots h → Inv X pins σ H { s' with heap := h })
    (off : a ≠ X.env.locals ∧ a ∉ X.fs) (leave : ∀ {h4 : Heap}, HandSPX.HeldZ B (X.env :: X.outer) a (Zc cls d) X.env.locals h4 → s'.heap.UpToSlots h4 → Wo cls d σ H → X.xe (.ref a) { s' with heap := h4 }) {h3 : Heap} (fl3 : HandSPX.FlyingZ B (X.env :: X.outer) a (Zc cls d) h3) (up3 : s'.heap.UpToSlots h3) :
    ∀ {hs : List ExceptHandler} {l : List Clz}, HdsA X hs l → wAll X.K Wo D l cls d σ H → wpAny (model X.prog X.w) X.A (handleBy (.ref a) X.env hs) (SP X pins D) X.xe { s' with heap := h3 } := by
  have J3 := land fl3 up3
  obtain ⟨oe, vs, he, hz, hd⟩ := fl3.there
  have S3 := J3.suite he hd na off.1 off.2
  have ty : PySem.W.Looks (model X.prog X.w) h3 (typeOf (.ref a)) cls := fun A Q E s k q => wpAny_typeOf_ref (k _ _ he) (by rw [hz.1]; exact q)
  have asks : ∀ {x : Str} {c : Value} {np : Pos}, Names X x c → ∀ {Q E : Value → Shared → Prop}, Q c { s' with heap := h3 } → wpAny (model X.prog X.w) (X.A.mark (some (.ref a))) (eval (.Name x np) X.env) Q E { s' with heap := h3 } := by
    intro x c np hc Q E q
    unfold Names at hc
    rcases hc with ⟨g1, g2, g | ⟨g, g3, g4⟩⟩
    · exact ld_glob (X := X.suite a ((a, oe) :: (X.pn ++ pins))) S3 g1 g q g2
    · exact ld_blt (X := X.suite a ((a, oe) :: (X.pn ++ pins))) S3 g1 g g3 q g4 g2
  have again : ∀ {h4 : Heap}, HandSPX.FlyingZ B (X.env :: X.outer) a (Zc cls d) h4 → h3.UpToSlots h4 → ∃ oe4, Zc cls d oe4 ∧ (∃ vs, oe4.data = .fields vs) ∧ Inv (X.suite a ((a, oe4) :: (X.pn ++ pins))) [] σ H { s' with heap := h4 } := fun fl4 up4 => by
    obtain ⟨oe4, vs4, e4, z4, d4⟩ := fl4.there
    exact ⟨oe4, z4, ⟨_, d4⟩, (land fl4 (up3.trans up4)).suite e4 d4 na off.1 off.2⟩
  intro hs l hk
  induction hk with
  | nil =>
    intro w
    refine wpAny_handleBy_nil ?_
    obtain ⟨_, _, _, oe2, vs2, T, oT, ts, e2, _, d2, h1, _⟩ := id fl3
    unfold PySem.passOn
    refine wpAny_bind (wpAny_field e2 d2 h1 ?_)
    rw [if_neg (show ¬ ((Value.ref T == Value.none) = true) from by simp)]
    have out : wpAny (model X.prog X.w) X.A (setFlight (.ref a) X.env.frame) (fun _ s4 => wpAny (model X.prog X.w) X.A (throw (.ref a) : Sem Flow) (SP X pins D) X.xe s4) X.xe { s' with heap := h3 } := by
      rw [hf]
      exact HandSPX.setFlight_upZ fl3 fun h4 hh up4 => wpAny_throw (leave hh (up3.trans up4) w)
    first
      | exact wpAny_bind (wpAny_pure (wpAny_bind out))
      | exact wpAny_bind out
  | @plain x c ts b0 bs np q hs l hc hsu r ih =>
    rintro ⟨b, hb, yes, no⟩
    refine wpAny_handleBy_cons (codeAny_handlers_test ?_) (by intro q; cases q)
    refine asks hc ((PySem.W.exm_one (M := model X.prog X.w) J3.kIn ty hb).here ?_)
    cases b with
    | false => exact ih (no rfl)
    | true =>
      refine codeAny_handlers_suite (HandSPX.lands_againZ fl3 fun h4 fl4 up4 => ?_)
      obtain ⟨oe4, z4, d4, S4⟩ := again fl4 up4
      refine wpAny_mono ((hsu a oe4 cls d (X.pn ++ pins) z4 d4).run [] _ _ H _ S4 (yes rfl a na)) (fun f s6 hsp => ?_) (fun _ _ z => False.elim z)
      cases f with
      | ret u =>
        obtain ⟨v, σ6, H6, S6, r6, q6⟩ := hsp
        exact ⟨_, _, _, S6.unsuite ok, r6, q6⟩
      | _ =>
        obtain ⟨σ6, H6, S6, q6⟩ := hsp
        exact ⟨_, _, S6.unsuite ok, q6⟩
  | @named x n i c ts b0 bs np q hs l hc hN hi hln hsu r ih =>
    rintro ⟨b, hb, yes, no⟩
    refine wpAny_handleBy_cons (codeAny_handlers_test ?_) (by intro q; cases q)
    refine asks hc ((PySem.W.exm_one (M := model X.prog X.w) J3.kIn ty hb).here ?_)
    cases b with
    | false => exact ih (no rfl)
    | true =>
      refine codeAny_handlers_suite_as (HandSPX.lands_againZ fl3 fun h4 fl4 up4 => ?_)
      obtain ⟨oe4, z4, d4, S4⟩ := again fl4 up4
      refine store_ok (X := X.suite a ((a, oe4) :: (X.pn ++ pins))) (v := .ref a) S4 hN hi (.inl hln) rfl (fun s5 S5 => ?_) (.inr hln)
      refine wpAny_mono ((hsu a oe4 cls d (X.pn ++ pins) z4 d4).run [] s5 _ H _ S5 (yes rfl a na)) (fun f s6 hsp => ?_) (fun _ _ z => False.elim z)
      have fin : ∀ {σ6 : St} {H6 : Hp} {Q : Shared → Prop}, Inv (X.suite a ((a, oe4) :: (X.pn ++ pins))) [] σ6 H6 s6 → (∀ s7, Inv X pins (σ6.set i none) H6 s7 → Q s7) →
          wpAny (model X.prog X.w) X.A (do bindName X.env n .none; unbindBehindTheSuite X.env n q) (fun _ s7 => Q s7) X.xe s6 := fun S6 hq => gone_ok (S6.unsuite ok) hN hi hln hq
      cases f with
      | ret u =>
        obtain ⟨v, σ6, H6, S6, r6, q6⟩ := hsp
        exact fin S6 fun s7 J7 => ⟨_, _, _, J7, r6, q6⟩
      | next =>
        obtain ⟨σ6, H6, S6, q6⟩ := hsp
        exact fin S6 fun s7 J7 => ⟨_, _, J7, q6⟩
      | brk =>
        obtain ⟨σ6, H6, S6, q6⟩ := hsp
        exact fin S6 fun s7 J7 => ⟨_, _, J7, q6⟩
      | cont =>
        obtain ⟨σ6, H6, S6, q6⟩ := hsp
        exact fin S6 fun s7 J7 => ⟨_, _, J7, q6⟩
theorem ps_try_all (hst : X.stack = X.env :: X.outer) (hf : X.env.frame = some X.env.locals) (tk : Takes X Wo)
    (hb : ∀ (W : WX) (pn : List (Addr × Obj)) (xe : Value → Shared → Prop), Takes (X.tr pn xe) W → PassesOwn (model X.prog X.w) X.A X.env xe → PSs (X.tr pn xe) body (tb W)) (hh : HdsA X (h0 :: hs) l) : PS X (.Try body (h0 :: hs) [] [] pos) (fun D σ H => tb (wAll X.K Wo D l) D σ H) := by
  refine ⟨fun pins s σ H D I h => ?_⟩
  have ok := I.ok
  have hfr : X.A.frames = some (X.env :: X.outer) := by rw [ok.frames, hst]
  refine wpAny_Try_except ?_
  refine wpAny_mono ((hb (wAll X.K Wo D l) (X.pn ++ pins) (fun e s1 => wpAny (model X.prog X.w) X.A (noteFrame e X.env) (fun _ s2 => wpAny (model X.prog X.w) X.A (setFlight e none) (fun _ s3 =>
    wpAny (model X.prog X.w) X.A (handleBy e X.env (h0 :: hs)) (SP X pins D) X.xe s3) X.xe s2) X.xe s1) (fun u s' xx => ?_) PassesOwn.looking).run [] s σ H D (I.toTry _) h) (fun f s1 hsp => ?_) (fun e s1 he => he)
  · obtain ⟨a, B, sI, pins', σ', H', cls, d, rfl, J', nb, up, sky, na, os, ag, w⟩ := xx
    have J : Inv X pins σ' H' sI := J'.ofTry ok
    have sky' : Sky B (X.env :: X.outer) a (Zc cls d) X.env.locals s'.heap := by rw [← hst]; exact sky
    show wpAny (model X.prog X.w) X.A (noteFrame (.ref a) X.env) _ _ _
    refine Sky.land Zc.steady hfr hf sky' fun h3 fl3 up3 => ?_
    have off : a ∉ frs (X.env :: X.outer) := fun hm => by
      obtain ⟨oe, vs, e, _, dd⟩ := fl3.there
      obtain ⟨_, o', e', hnf⟩ := fl3.2.2.1.mem hm
      rw [e] at e'
      cases e'
      exact hnf _ dd
    refine clauses hst hf tk ok na (fun {h} fl up2 => J.landed nb fl.1 (up.trans up2) os ag) ⟨fun z => off (List.mem_filterMap.mpr ⟨X.env, List.mem_cons_self, by rw [hf, z]⟩), fun hm => ?_⟩ (fun {h4} hh up4 wo => ?_) fl3 up3 hh w
    · obtain ⟨e, he, q⟩ := List.mem_filterMap.mp hm
      exact off (List.mem_filterMap.mpr ⟨e, List.mem_cons_of_mem _ he, q⟩)
    · exact tk _ _ ⟨a, B, sI, pins, σ', H', cls, d, rfl, J, nb, up.trans up4, .inr (.inr (by rw [hst]; exact hh)), na, os, ag, wo⟩
  · cases f with
    | ret u =>
      obtain ⟨v, σ', H', J', r, q⟩ := hsp
      exact ⟨v, σ', H', J'.ofTry ok, r, q⟩
    | next =>
      obtain ⟨σ', H', J', q⟩ := hsp
      exact wpAny_execs_nil ⟨σ', H', J'.ofTry ok, q⟩
    | brk =>
      obtain ⟨σ', H', J', q⟩ := hsp
      exact ⟨σ', H', J'.ofTry ok, q⟩
    | cont =>
      obtain ⟨σ', H', J', q⟩ := hsp
      exact ⟨σ', H', J'.ofTry ok, q⟩
end
end WL
end L2
set_option Elab.async false
set_option linter.all false
set_option maxRecDepth 100000
set_option maxHeartbeats 4000000
namespace L2
namespace WL
open PySem PySem.Spec PyProof.Rows K1
section
variable {J : It} {n : Nat} {G : Hp → Prop} {Y : Nat → Hp → V → Hp → Prop}
/-- a dict comprehension over any walk -/
theorem dc_it (w : Walk J n G Y) {g : TG} {tt : TT} {tk tv : TE} {vs : List Nat} {σ : St} {H1 : Hp} {D : Addr} {Qd : Hp → Prop} (Pv : Nat → Hp → Prop) (h0 : Pv 0 (upd H1 D (.dK []))) (hG : ∀ i H, i ≤ n → Pv i H → G H)
    (hs : ∀ i x H H', i < n → Pv i H → Y i H x H' → g x (wipe σ vs) H' fun σ2 H2 => wipe σ2 vs = wipe σ vs ∧ tt σ2 H2 fun b H3 =>
      if b = true then tk σ2 H3 fun y H4 => tv σ2 H4 fun z H5 => ∃ kvs k, y = kV k ∧ H5 D = some (.dK kvs) ∧ kvs.length < sizeLine ∧ Pv (i + 1) (upd H5 D (.dK (putK kvs k z))) else Pv (i + 1) H3) (hd : ∀ H, Pv n H → Qd H) :
    ∃ W : Nat → Nat → Hp → Prop, (∃ m, W 0 m (upd H1 D (.dK []))) ∧ ∀ i m H, W i m H →
      (J.stop i H ∧ Qd H) ∨ (J.go i H ∧ ∃ Nx : Hp → Prop, (∀ H', Nx H' → ∃ m', m' < m ∧ W (i + 1) m' H') ∧ ∀ x H', J.yld i H x H' → g x (wipe σ vs) H' fun σ2 H2 => wipe σ2 vs = wipe σ vs ∧ tt σ2 H2 fun b H3 =>
        if b = true then tk σ2 H3 fun y H4 => tv σ2 H4 fun z H5 => ∃ kvs k, y = kV k ∧ H5 D = some (.dK kvs) ∧ kvs.length < sizeLine ∧ Nx (upd H5 D (.dK (putK kvs k z))) else Nx H3) := by
  refine ⟨fun i m H => m = n - i ∧ i ≤ n ∧ Pv i H, ⟨n, by simp, Nat.zero_le _, h0⟩, ?_⟩
  rintro i m H ⟨rfl, hi, p⟩
  have q := hG i H hi p
  by_cases hlt : i < n
  · refine .inr ⟨w.goes i H hlt q, Pv (i + 1), fun H' p' => ⟨n - (i + 1), by omega, rfl, hlt, p'⟩, fun x H' y => hs i x H H' hlt p (w.yields i H x H' hlt q y)⟩
  · have e : i = n := by omega
    subst e
    exact .inl ⟨w.stops H q, hd H p⟩
end
section
variable {J J1 : It} {n n1 : Nat} {G G1 : Hp → Prop} {Y Y1 : Nat → Hp → V → Hp → Prop}
/-- a comprehension of two walks: the inner one -/
theorem lc2_in (w : Walk J1 n1 G1 Y1) {g1 : TG} {tt1 : TT} {te : TE} {vs1 : List Nat} {σ2 : St} {H4 : Hp} {D : Addr} {Nx : Hp → Prop} (Pv : Nat → Hp → Prop) (h0 : Pv 0 H4) (hG : ∀ i H, i ≤ n1 → Pv i H → G1 H)
    (hs : ∀ i x H H', i < n1 → Pv i H → Y1 i H x H' → g1 x (wipe σ2 vs1) H' fun σ3 H5 => wipe σ3 vs1 = wipe σ2 vs1 ∧ tt1 σ3 H5 fun b H6 =>
      if b = true then te σ3 H6 fun y H7 => ∃ acc, H7 D = some (.lst acc) ∧ acc.length < sizeLine ∧ Pv (i + 1) (upd H7 D (.lst (acc ++ [y]))) else Pv (i + 1) H6) (hd : ∀ H, Pv n1 H → Nx H) :
    ∃ W1 : Nat → Nat → Hp → Prop, (∃ m, W1 0 m H4) ∧ ∀ j k H, W1 j k H →
      (J1.stop j H ∧ Nx H) ∨ (J1.go j H ∧ ∃ Nx1 : Hp → Prop, (∀ H', Nx1 H' → ∃ k', k' < k ∧ W1 (j + 1) k' H') ∧ ∀ x H', J1.yld j H x H' → g1 x (wipe σ2 vs1) H' fun σ3 H5 => wipe σ3 vs1 = wipe σ2 vs1 ∧ tt1 σ3 H5 fun b H6 =>
        if b = true then te σ3 H6 fun y H7 => ∃ acc, H7 D = some (.lst acc) ∧ acc.length < sizeLine ∧ Nx1 (upd H7 D (.lst (acc ++ [y]))) else Nx1 H6) := by
  refine ⟨fun i m H => m = n1 - i ∧ i ≤ n1 ∧ Pv i H, ⟨n1, by simp, Nat.zero_le _, h0⟩, ?_⟩
  rintro i m H ⟨rfl, hi, p⟩
  have q := hG i H hi p
  by_cases hlt : i < n1
  · refine .inr ⟨w.goes i H hlt q, Pv (i + 1), fun H' p' => ⟨n1 - (i + 1), by omega, rfl, hlt, p'⟩, fun x H' y => hs i x H H' hlt p (w.yields i H x H' hlt q y)⟩
  · have e : i = n1 := by omega
    subst e
    exact .inl ⟨w.stops H q, hd H p⟩
/-- .. the outer one -/
theorem lc2_it (w : Walk J n G Y) {g : TG} {tt : TT} {wi1 : TI} {g1 : TG} {tt1 : TT} {te : TE} {vs vs1 : List Nat} {σ : St} {H1 : Hp} {D : Addr} {Qd : Hp → Prop} (Pv : Nat → Hp → Prop) (h0 : Pv 0 (upd H1 D (.lst []))) (hG : ∀ i H, i ≤ n → Pv i H → G H)
    (hs : ∀ i x H H', i < n → Pv i H → Y i H x H' → g x (wipe σ vs) H' fun σ2 H2 => wipe σ2 vs = wipe σ vs ∧ tt σ2 H2 fun b H3 =>
      if b = true then wi1 σ2 H3 fun J1 H4 => ∃ W1 : Nat → Nat → Hp → Prop, (∃ m, W1 0 m H4) ∧ ∀ j k H, W1 j k H →
        (J1.stop j H ∧ Pv (i + 1) H) ∨ (J1.go j H ∧ ∃ Nx1 : Hp → Prop, (∀ H', Nx1 H' → ∃ k', k' < k ∧ W1 (j + 1) k' H') ∧ ∀ x H', J1.yld j H x H' → g1 x (wipe σ2 vs1) H' fun σ3 H5 => wipe σ3 vs1 = wipe σ2 vs1 ∧ tt1 σ3 H5 fun b H6 =>
          if b = true then te σ3 H6 fun y H7 => ∃ acc, H7 D = some (.lst acc) ∧ acc.length < sizeLine ∧ Nx1 (upd H7 D (.lst (acc ++ [y]))) else Nx1 H6)
      else Pv (i + 1) H3) (hd : ∀ H, Pv n H → Qd H) :
    ∃ W : Nat → Nat → Hp → Prop, (∃ m, W 0 m (upd H1 D (.lst []))) ∧ ∀ i m H, W i m H →
      (J.stop i H ∧ Qd H) ∨ (J.go i H ∧ ∃ Nx : Hp → Prop, (∀ H', Nx H' → ∃ m', m' < m ∧ W (i + 1) m' H') ∧ ∀ x H', J.yld i H x H' → g x (wipe σ vs) H' fun σ2 H2 => wipe σ2 vs = wipe σ vs ∧ tt σ2 H2 fun b H3 =>
        if b = true then wi1 σ2 H3 fun J1 H4 => ∃ W1 : Nat → Nat → Hp → Prop, (∃ m, W1 0 m H4) ∧ ∀ j k H, W1 j k H →
          (J1.stop j H ∧ Nx H) ∨ (J1.go j H ∧ ∃ Nx1 : Hp → Prop, (∀ H', Nx1 H' → ∃ k', k' < k ∧ W1 (j + 1) k' H') ∧ ∀ x H', J1.yld j H x H' → g1 x (wipe σ2 vs1) H' fun σ3 H5 => wipe σ3 vs1 = wipe σ2 vs1 ∧ tt1 σ3 H5 fun b H6 =>
            if b = true then te σ3 H6 fun y H7 => ∃ acc, H7 D = some (.lst acc) ∧ acc.length < sizeLine ∧ Nx1 (upd H7 D (.lst (acc ++ [y]))) else Nx1 H6)
        else Nx H3) := by
  refine ⟨fun i m H => m = n - i ∧ i ≤ n ∧ Pv i H, ⟨n, by simp, Nat.zero_le _, h0⟩, ?_⟩
  rintro i m H ⟨rfl, hi, p⟩
  have q := hG i H hi p
  by_cases hlt : i < n
  · refine .inr ⟨w.goes i H hlt q, Pv (i + 1), fun H' p' => ⟨n - (i + 1), by omega, rfl, hlt, p'⟩, fun x H' y => hs i x H H' hlt p (w.yields i H x H' hlt q y)⟩
  · have e : i = n := by omega
    subst e
    exact .inl ⟨w.stops H q, hd H p⟩
end
/-- (a, b, ..) = a list or a tuple of that length -/
def gSeq (K : PySem.W.Frag) (n : Nat) (t : TGs) : TG := fun v σ H Q => ∃ xs, Seq K H v xs ∧ xs.length = n ∧ t xs σ H Q
theorem pg_seq {X : Cx} {pos : Pos} {es : List Expr} {k : Nat} {t : TGs} {n : Nat} (hc : X.calm = true) (h : PGs X es t)
    (hn : (assignEach es X.env).length = n := by rfl) (hst : (assignEach es X.env).findIdx? (·.1) = none := by rfl) : PG X (.Tuple es k pos) (gSeq X.K n t) := by
  refine ⟨fun pins s σ H v u Q I r hw => ?_⟩
  obtain ⟨xs, ⟨a, rfl, hq⟩, hl, hw⟩ := hw
  rcases hq with hq | hq
  · exact (pg_unl hc h hn hst).run pins s σ H _ u Q I r ⟨a, xs, rfl, hq, hl, hw⟩
  · exact (pg_tup hc h hn hst).run pins s σ H _ u Q I r ⟨a, xs, rfl, hq, hl, hw⟩
theorem t_nil {σ : St} {H : Hp} {Q : List V → Hp → Prop} (h : Q [] H) : tNil σ H Q := h
/-- tuple(either) -/
def rTupS (K : PySem.W.Frag) : List V → Hp → VK → Prop := fun xs H Q => ∃ v ys, xs = [v] ∧ Seq K H v ys ∧ ∀ H' l, Same H H' → SqT K H' l ys → Q (.ref l) H'
theorem call_tupS {X : Cx} : CallR X (.type "tuple") (rTupS X.K) := by
  intro pins s σ H xs us Q I r h
  obtain ⟨v, ys, rfl, ⟨a, rfl, hq⟩, q⟩ := h
  rcases hq with hq | hq
  · exact call_tuple_of pins s σ H _ us Q I r ⟨a, ys, rfl, .inl ⟨hq, fun l nl => q _ l (same_upd nl) (SqT.of upd_same)⟩⟩
  · exact call_tuple_of pins s σ H _ us Q I r ⟨a, ys, rfl, .inr ⟨hq, q H a (Same.refl H) hq⟩⟩
theorem putK_fresh {kvs : List (Key × V)} {k : Key} {v : V} (h : ∀ p ∈ kvs, p.1 ≠ k) : putK kvs k v = kvs ++ [(k, v)] := by
  unfold putK
  rw [if_neg]
  intro z
  obtain ⟨p, hp, e⟩ := List.any_eq_true.mp z
  exact h p hp (of_decide_eq_true e)
theorem t_seqFld {K : PySem.W.Frag} {ta tv : TE} {f : Str} {u : TS} {D : Ends} {σ : St} {H : Hp} (h : tv σ H fun y H1 => ta σ H1 fun x H2 => ∃ a C dx fs, x = .ref a ∧ H2 a = some (.ins C dx fs) ∧ Cls K C ∧ NoAttr K C f ∧ fs.length < 1000 ∧ u D σ (upd H2 a (.ins C dx (putF f y fs)))) :
    tSeq (sFld K ta tv f) u D σ H := h
theorem t_cb1 {r : List V → Hp → VK → Prop} {te : TE} {σ : St} {H : Hp} {Q : VK} (h : te σ H fun x H1 => r [x] H1 Q) : tCB r (tCons te tNil) σ H Q := h
theorem sqt_hideD {K : PySem.W.Frag} {H : Hp} {D l : Addr} {kvs : List (Key × V)} {xs : List V} (h : SqT K H l xs) (e : H D = some (.dK kvs)) : SqT K (hide D H) l xs := by
  rcases h with (h | ⟨o, h⟩) | h
  · refine .inl (.inl ?_)
    rw [hide_ne (fun z => by rw [z, e] at h; cases h)]
    exact h
  · refine .inl (.inr ⟨o, ?_⟩)
    rw [hide_ne (fun z => by rw [z, e] at h; cases h)]
    exact h
  · exact .inr h
theorem sqt_hide {K : PySem.W.Frag} {H : Hp} {p l : Addr} {o : HO} {xs : List V} (h : SqT K H l xs) (e : H p = some o) (no : ∀ ys, o ≠ .tup ys) (nf : ∀ q ys, o ≠ .frz q (.tup ys)) : SqT K (hide p H) l xs := by
  rcases h with (h | ⟨q, h⟩) | h
  · refine .inl (.inl ?_)
    rw [hide_ne (fun z => by rw [z, e] at h; exact no _ (Option.some.inj h))]
    exact h
  · refine .inl (.inr ⟨q, ?_⟩)
    rw [hide_ne (fun z => by rw [z, e] at h; exact nf _ _ (Option.some.inj h))]
    exact h
  · exact .inr h
theorem DTup.hide {K : PySem.W.Frag} {H : Hp} {p : Addr} {o : HO} {ks : List (Key × V)} {rs : Rws} (h : DTup K H ks rs) (e : H p = some o) (no : ∀ ys, o ≠ .tup ys) (nf : ∀ q ys, o ≠ .frz q (.tup ys)) : DTup K (hide p H) ks rs :=
  Paired.imp (fun _ _ ⟨e1, a, e2, q⟩ => ⟨e1, a, e2, sqt_hide q e no nf⟩) h
theorem t_fld {K : PySem.W.Frag} {ta tv : TE} {f : Str} {D : Ends} {σ : St} {H : Hp} (h : tv σ H fun y H1 => ta σ H1 fun x H2 => ∃ a C dx fs, x = .ref a ∧ H2 a = some (.ins C dx fs) ∧ Cls K C ∧ NoAttr K C f ∧ fs.length < 1000 ∧ D.nx σ (upd H2 a (.ins C dx (putF f y fs)))) :
    sFld K ta tv f D σ H := h
theorem arr_len : ∀ {l : Rws}, (∀ r ∈ l, r.2.length ≤ 900) → (arr l).length ≤ l.length * 900
  | [], _ => Nat.zero_le _
  | r :: l, h => by
    have := arr_len (l := l) fun r hr => h r (List.mem_cons_of_mem _ hr)
    have h1 := h r (List.mem_cons_self ..)
    have e : arr (r :: l) = r.2.map (fun s => (s, r.1)) ++ arr l := rfl
    rw [e, List.length_append, List.length_map, List.length_cons]
    omega
theorem PairT.same {H H' : Hp} {v : V} {p : Str × Str} (h : PairT H v p) (s : Same H H') : PairT H' v p := let ⟨q, e, a⟩ := h; ⟨q, e, s _ _ a⟩
theorem PairT.hide {H : Hp} {v : V} {p : Str × Str} {b : Addr} {o : HO} (h : PairT H v p) (e : H b = some o) (no : ∀ ys, o ≠ .tup ys) : PairT (hide b H) v p := by
  obtain ⟨q, e1, a⟩ := h
  refine ⟨q, e1, ?_⟩
  rw [hide_ne (fun z => by rw [z, e] at a; exact no _ (Option.some.inj a))]
  exact a
/-- {k: v for x in either} -/
theorem dc_seq {K : PySem.W.Frag} {v : V} {xs : List V} {g : TG} {tt : TT} {tk tv tl : TE} {vs : List Nat} {σ : St} {H0 H : Hp} {Q : VK} (hq : Seq K H0 v xs) (s0 : Same H0 H) (he : ∀ Q : VK, Q v H → tl σ H Q) (Pv : Addr → Nat → Hp → Prop) (h0 : ∀ D, H D = none → Pv D 0 (upd H D (.dK [])))
    (hl : ∀ D i H', Pv D i H' → Same H0 H') (hs : ∀ D i x H', xs[i]? = some x → Pv D i H' → g x (wipe σ vs) H' fun σ2 H2 => wipe σ2 vs = wipe σ vs ∧ tt σ2 H2 fun b H3 =>
      if b = true then tk σ2 H3 fun y H4 => tv σ2 H4 fun z H5 => ∃ kvs k, y = kV k ∧ H5 D = some (.dK kvs) ∧ kvs.length < sizeLine ∧ Pv D (i + 1) (upd H5 D (.dK (putK kvs k z))) else Pv D (i + 1) H3) (hd : ∀ D H', Pv D xs.length H' → Q (.ref D) H') : tDc (iSeq K tl) g tt tk tv vs σ H Q := by
  obtain ⟨a, rfl, hq⟩ := hq
  rcases hq with hq | hq
  · exact he _ ⟨a, xs, rfl, .inl ⟨s0.seq hq, fun D nD => dc_it (walk_list (xs := xs)) (Pv D) (h0 D nD) (fun i H' _ p => (hl D i H' p).seq hq) (fun i x H' H'' _ p y => by
      obtain ⟨rfl, hx⟩ := y
      exact hs D i x _ hx p) (hd D)⟩⟩
  · exact he _ ⟨a, xs, rfl, .inr ⟨SqT.same hq s0, fun D nD => dc_it (walk_tup (xs := xs)) (Pv D) (h0 D nD) (fun i H' _ p => SqT.same hq (hl D i H' p)) (fun i x H' H'' _ p y => by
      obtain ⟨rfl, hx⟩ := y
      exact hs D i x _ hx p) (hd D)⟩⟩
theorem DTup.snoc {K : PySem.W.Frag} {H : Hp} {kvs : List (Key × V)} {ps : Rws} {z : Str} {xs : List Str} {a : Addr} (h : DTup K H kvs ps) (e : SqT K H a (xs.map .str)) (nz : z ∉ ps.map Prod.fst) : DTup K H (putK kvs (kS z) (.ref a)) (ps ++ [(z, xs)]) := by
  rw [putK_fresh]
  · exact Paired.snoc h ⟨rfl, a, rfl, e⟩
  · intro kv hkv e2
    obtain ⟨i, hi⟩ := List.getElem?_of_mem hkv
    obtain ⟨p, hp, e3, _⟩ := Paired.getL h hi
    rw [e3] at e2
    exact nz (List.mem_map.mpr ⟨p, List.mem_of_getElem? hp, Sum.inr.inj e2⟩)
theorem nodup_take {rs : Rws} (nd : (rs.map Prod.fst).Nodup) {i : Nat} {r : Str × List Str} (h : rs[i]? = some r) : r.1 ∉ (rs.take i).map Prod.fst := by
  intro m
  obtain ⟨p, hp, e⟩ := List.mem_map.mp m
  obtain ⟨j, hj⟩ := List.getElem?_of_mem hp
  have lj : j < i := by
    have := (List.getElem?_eq_some_iff.mp hj).1
    rw [List.length_take] at this
    omega
  rw [List.getElem?_take_of_lt lj] at hj
  have li := (List.getElem?_eq_some_iff.mp h).1
  have lj' : j < rs.length := (List.getElem?_eq_some_iff.mp hj).1
  have h1 : (rs.map Prod.fst)[j]? = some p.1 := by rw [List.getElem?_map, hj]; rfl
  have h2 : (rs.map Prod.fst)[i]? = some r.1 := by rw [List.getElem?_map, h]; rfl
  have := (List.getElem?_inj (by rw [List.length_map]; exact lj') nd).mp (h1.trans ((congrArg some e).trans h2.symm))
  omega
theorem arr_take {rs : Rws} {i : Nat} {r : Str × List Str} (h : rs[i]? = some r) : arr (rs.take (i + 1)) = arr (rs.take i) ++ r.2.map (fun s => (s, r.1)) := by
  unfold arr
  rw [List.take_succ, h, List.flatMap_append]
  congr 1
  simp
/-! ### rows that are rows pass the check -/
theorem isNm_len {z : Str} (h : isNm z = true) : z.length ≤ sizeLine := by
  unfold isNm at h
  obtain ⟨_, h⟩ := Bool.and_eq_true_iff.mp h
  obtain ⟨h, _⟩ := Bool.and_eq_true_iff.mp h
  have := of_decide_eq_true h
  rw [sizeLine_eq]
  omega
theorem nl_strs {K : PySem.W.Frag} {H : Hp} {v : V} {xs : List Str} (h : Seq K H v (xs.map .str)) (hl : xs.length ≤ 900) (hn : ∀ z ∈ xs, isNm z = true) (nd : xs.Nodup) : NLis K H v true := by
  refine .inr ⟨xs.map .str, xs.map fun _ => true, h, by rw [List.length_map]; exact hl, by rw [List.length_map, List.length_map], fun i x b e e2 => ?_, ?_⟩
  · rw [List.getElem?_map] at e e2
    obtain ⟨z, hz, rfl⟩ := Option.map_eq_some_iff.mp e
    rw [hz] at e2
    cases e2
    have := hn z (List.mem_of_getElem? hz)
    exact .inl ⟨z, rfl, isNm_len this, this.symm⟩
  · unfold nlB
    rw [strsOf_map, decide_eq_true nd, Bool.and_true]
    symm
    rw [List.all_eq_true]
    intro b hb
    obtain ⟨_, _, rfl⟩ := List.mem_map.mp hb
    rfl
theorem firstW_none : ∀ (l : List Str) (seen : List Str) (i : Nat), l.Nodup → (∀ z ∈ l, z ∉ seen) → firstW (l.map fun z => (true, z)) seen i = none
  | [], _, _, _, _ => rfl
  | z :: l, seen, i, nd, h => by
    obtain ⟨n1, n2⟩ := List.nodup_cons.mp nd
    show (if true = false ∨ z ∈ seen then some i else firstW (l.map fun z => (true, z)) (seen ++ [z]) (i + 1)) = none
    rw [if_neg (by rintro (e | e); cases e; exact h z (List.mem_cons_self ..) e)]
    refine firstW_none l _ _ n2 fun y hy m => ?_
    rcases List.mem_append.mp m with m | m
    · exact h y (List.mem_cons_of_mem _ hy) m
    · have : y = z := by simpa using m
      exact n1 (this ▸ hy)
theorem rows_ds {K : PySem.W.Frag} {H : Hp} : ∀ {vs : List V} {rs : Rws}, Paired (RowG K H) vs rs → (∀ r ∈ rs, isNm r.1 = true ∧ r.2.length ≤ 900 ∧ r.2.Nodup ∧ ∀ s ∈ r.2, isNm s = true) →
    ∃ ds : List (V × Bool × Str), ds.map Prod.fst = vs ∧ ds.map Prod.snd = (rs.map Prod.fst).map (fun z => (true, z)) ∧ ∀ d ∈ ds, RowD K H d
  | _, _, .nil, _ => ⟨[], rfl, rfl, fun d h => nomatch h⟩
  | v :: vs, r :: rs, .cons h t, g => by
    obtain ⟨ds, e1, e2, e3⟩ := rows_ds t fun r hr => g r (List.mem_cons_of_mem _ hr)
    obtain ⟨g1, g2, g3, g4⟩ := g r (List.mem_cons_self ..)
    obtain ⟨y, s1, s2⟩ := h
    refine ⟨(v, true, r.1) :: ds, by rw [List.map_cons, e1], by rw [List.map_cons, List.map_cons, List.map_cons, e2], fun d hd => ?_⟩
    rcases List.mem_cons.mp hd with rfl | hd
    · exact ⟨.inr ⟨_, s1, .inr ⟨.str r.1, y, true, true, rfl, .inl ⟨r.1, rfl, isNm_len g1, g1.symm⟩, nl_strs s2 g2 g4 g3, rfl⟩⟩, fun _ => ⟨y, s1⟩⟩
    · exact e3 d hd
theorem Good.names {rs : Rws} (g : Good rs) : ∀ r ∈ rs, isNm r.1 = true ∧ r.2.length ≤ 900 ∧ r.2.Nodup ∧ ∀ s ∈ r.2, isNm s = true := fun r hr => by
  obtain ⟨a, b, c⟩ := g.sr r hr
  refine ⟨g.nm r hr, a, b, fun s hs => ?_⟩
  obtain ⟨r', hr', rfl⟩ := List.mem_map.mp (c s hs)
  exact g.nm r' hr'
theorem good_check {K : PySem.W.Frag} {H : Hp} {Q : VK} {E : XK} {v : V} {vs : List V} {rs : Rws} (hs : Seq K H v vs) (hp : Paired (RowG K H) vs rs) (g : Good rs) (q : ∀ H', Same H H' → Q .non H') : spCheckRows K [v] H Q E := by
  obtain ⟨ds, e1, e2, e3⟩ := rows_ds hp g.names
  have hl : ds.length = rs.length := by
    have := congrArg List.length e1
    rw [List.length_map] at this
    rw [this]
    exact Paired.length hp
  refine ⟨v, rfl, .inr ⟨ds, by rw [e1]; exact hs, by have := g.ln; omega, e3, .inr ⟨?_, rs, hl.symm, fun i d r hd hr => ?_, .inr ⟨?_, q⟩⟩⟩⟩
  · unfold firstR
    have ne : ds ≠ [] := fun e => by
      rw [e] at hl
      have := g.l1
      rw [← hl] at this
      cases this
    rw [if_neg ne, e2]
    exact firstW_none _ _ _ g.nd fun z _ h => nomatch h
  · have hv : vs[i]? = some d.1 := by rw [← e1, List.getElem?_map, hd]; rfl
    obtain ⟨r', h1, h2⟩ := Paired.getL hp hv
    rw [hr] at h1
    cases h1
    exact ⟨h2, (g.sr r (List.mem_of_getElem? hr)).1⟩
  · unfold firstU
    refine find_none fun x hx => ?_
    obtain ⟨r, hr, hx⟩ := List.mem_flatMap.mp hx
    exact (g.sr r hr).2.2 x hx
/-- making a web: of bad rows nothing comes, of good ones a web -/
def spInit (K : PySem.W.Frag) (C : Addr) : Sp := fun vs H Q E => ∃ (p dx : Addr) (v : V), vs = [.ref p, v] ∧ H p = some (.ins C dx []) ∧
  ((∀ Q', spCheckRows K [v] H Q' E) ∨ ∃ (xs : List V) (rs : Rws), Seq K (hide p H) v xs ∧ Paired (RowG K (hide p H)) xs rs ∧ Good rs ∧ ∀ H', Same (hide p H) (hide p H') → IsWeb K H' C p rs → Q .non H')
end WL
end L2
namespace L2
namespace WL
open PySem PySem.Spec PyProof.Rows K1
theorem dget_inj {H : Hp} {a : Addr} {k : Key} {v : V} {kvs : List (Key × V)} (g : DGet H a (kV k) (some v)) (e : H a = some (.dK kvs)) : valV kvs k = some v := by
  rcases g with ⟨kvs', k', h | ⟨o, h⟩, e1, e2⟩ | ⟨kvs', k', b, h | ⟨o, h⟩, _⟩
  · rw [e] at h
    cases h
    have : k = k' := by
      cases k with
      | inl i => cases k' with
        | inl j => exact congrArg _ (V.int.inj e1)
        | inr z => cases e1
      | inr y => cases k' with
        | inl j => cases e1
        | inr z => exact congrArg _ (V.str.inj e1)
    rw [this]
    exact e2.symm
  · rw [e] at h
    cases h
  · rw [e] at h
    cases h
  · rw [e] at h
    cases h
end WL
end L2
set_option Elab.async false
set_option linter.all false
set_option maxRecDepth 100000
set_option maxHeartbeats 4000000
namespace L2
namespace WL
open PySem PySem.Spec PyProof.Rows K1
/-! ### the class's own words -/
/-- what is known of an own special method -/
structure Spc (K : PySem.W.Frag) (C : Addr) (m : Str) (f : Addr) : Prop where
  at_ : PySem.W.findIn K (.ref C) m = some (some (.ref f))
  fn : PySem.W.isFn K (.ref f) = true
section
variable {X : Cx} {CX : CXT} {k : Nat} {C f : Addr} {fd : FuncData} {ps : List Str} {sp : Sp} {E : XK}
/-- x in o, x not in o by the class's __contains__ -/
def rInO (C : Addr) (sp : Sp) (E : XK) (g : Bool → Bool) : R2 := fun x y H Q => ∃ a dx fs, y = .ref a ∧ H a = some (.ins C dx fs) ∧ sp [.ref a, x] H (fun v H' => ∃ b, v = .bl b ∧ Q (.bl (g b)) H') E
theorem op_inO (M : Spc X.K C "__contains__" f) (F : FnOk X.prog X.w X.K X.mg X.base CX k f fd ps sp) (hr : Room k X.A) (hb : Binds X.K fd ps []) (hx : Passes CX X E) : OpR X (compareOp .In) (rInO C sp E id) := by
  intro pins s σ H x y v u Q I rx ry h
  obtain ⟨a, dx, fs, rfl, ha, hsp⟩ := h
  obtain rfl : u = Value.ref a := ry
  obtain ⟨mA, J, _⟩ := ins_get I.hok ha
  obtain ⟨od, J, _⟩ := J.look
  obtain ⟨m, hF⟩ := I.fr
  refine PySem.W.in_K hF I.ok.mod.kin J M.at_ M.fn ?_
  refine wpAny_mono (run_fn (us := [.ref a, v]) (vs := [.ref a, x]) F hr hb .nil hx I (.cons rfl (.cons rx .nil)) hsp) (fun r s' q => ?_) fun _ _ z => z
  obtain ⟨z, H', I', rz, b, rfl, q⟩ := q
  cases rz
  exact wpAny_truthy_bool ⟨.bl b, H', I', rfl, q⟩
theorem op_notInO (M : Spc X.K C "__contains__" f) (F : FnOk X.prog X.w X.K X.mg X.base CX k f fd ps sp) (hr : Room k X.A) (hb : Binds X.K fd ps []) (hx : Passes CX X E) : OpR X (compareOp .NotIn) (rInO C sp E not) := by
  intro pins s σ H x y v u Q I rx ry h
  obtain ⟨a, dx, fs, rfl, ha, hsp⟩ := h
  obtain rfl : u = Value.ref a := ry
  obtain ⟨mA, J, _⟩ := ins_get I.hok ha
  obtain ⟨od, J, _⟩ := J.look
  obtain ⟨m, hF⟩ := I.fr
  refine PySem.W.notIn_K hF I.ok.mod.kin J M.at_ M.fn ?_
  refine wpAny_mono (run_fn (us := [.ref a, v]) (vs := [.ref a, x]) F hr hb .nil hx I (.cons rfl (.cons rx .nil)) hsp) (fun r s' q => ?_) fun _ _ z => z
  obtain ⟨z, H', I', rz, b, rfl, q⟩ := q
  cases rz
  exact wpAny_truthy_bool ⟨.bl (!b), H', I', rfl, q⟩
/-- a def called within a built-in -/
theorem run_fnA {A : Around} {pins : List (Addr × Obj)} {σ : St} {H : Hp} {s : Shared} {Q : VK} {us : List Value} {vs : List V} (F : FnOk X.prog X.w X.K X.mg X.base CX k f fd ps sp) (sb : L2.Sub X k A) (hb : Binds X.K fd ps []) (hx : Passes CX X E)
    (I : Inv X pins σ H s) (r : Vals vs us) (h : sp vs H Q E) : wpAny (model X.prog X.w) A (call (.ref f) us) (EP X pins σ Q) X.xe s := by
  have z : Env0 X.prog X.w X.K X.mg X.base A X.stack s H := by
    have e := I.env0
    exact ⟨by rw [sb.fr]; exact e.frames, e.mod, e.bs, e.bsz, e.funs, e.frf, e.hok, e.bare⟩
  have bi := hb s us I.kIn (by rw [List.append_nil, ← r.length]; exact F.len _ _ _ _ h)
  rw [List.append_nil] at bi
  refine wpAny_call (codeAny_mono (F.run A X.stack s H ⟨us, []⟩ us vs Q E sb.room z bi r h) fun g s' hq => ?_)
  match g, hq with
  | .error e, hq => exact hx pins σ H s e s' I hq
  | .ok (.ret _), hq => exact I.after hq
  | .ok .next, hq => exact False.elim hq
  | .ok .brk, hq => exact False.elim hq
  | .ok .cont, hq => exact False.elim hq
/-- .. by a def that lets nothing out -/
theorem run_fn0 {A : Around} {pins : List (Addr × Obj)} {σ : St} {H : Hp} {s : Shared} {Q : VK} {us : List Value} {vs : List V} {E2 : Value → Shared → Prop} (F : FnOk X.prog X.w X.K X.mg X.base CX0 k f fd ps sp) (sb : L2.Sub X k A) (hb : Binds X.K fd ps [])
    (I : Inv X pins σ H s) (r : Vals vs us) (h : sp vs H Q E) : wpAny (model X.prog X.w) A (call (.ref f) us) (EP X pins σ Q) E2 s := by
  have z : Env0 X.prog X.w X.K X.mg X.base A X.stack s H := by
    have e := I.env0
    exact ⟨by rw [sb.fr]; exact e.frames, e.mod, e.bs, e.bsz, e.funs, e.frf, e.hok, e.bare⟩
  have bi := hb s us I.kIn (by rw [List.append_nil, ← r.length]; exact F.len _ _ _ _ h)
  rw [List.append_nil] at bi
  refine wpAny_call (codeAny_mono (F.run A X.stack s H ⟨us, []⟩ us vs Q E sb.room z bi r h) fun g s' hq => ?_)
  match g, hq with
  | .error e, hq => exact hq.elim
  | .ok (.ret _), hq => exact I.after hq
  | .ok .next, hq => exact False.elim hq
  | .ok .brk, hq => exact False.elim hq
  | .ok .cont, hq => exact False.elim hq
/-- len(o) by the class's __len__ -/
def rLenO (C : Addr) (sp : Sp) (E : XK) : List V → Hp → VK → Prop := fun xs H Q => ∃ a dx fs, xs = [.ref a] ∧ H a = some (.ins C dx fs) ∧ sp [.ref a] H (fun v H' => ∃ n : Nat, v = .int (n : Nat) ∧ n < 2 ^ 60 ∧ Q (.int (n : Nat)) H') E
theorem call_lenO (M : Spc X.K C "__len__" f) (F : FnOk X.prog X.w X.K X.mg X.base CX k f fd ps sp) (hr : Room (k + 1) X.A) (hb : Binds X.K fd ps []) (hx : Passes CX X E) : CallR X (.builtin "len") (rLenO C sp E) := by
  intro pins s σ H xs us Q I r h
  obtain ⟨a, dx, fs, rfl, ha, hsp⟩ := h
  obtain ⟨u, rfl, ru⟩ := vals1 r
  cases ru
  obtain ⟨mA, J, _⟩ := ins_get I.hok ha
  obtain ⟨od, J, _⟩ := J.look
  obtain ⟨m, hF⟩ := I.fr
  refine PySem.W.len_K hF I.ok.mod.kin J M.at_ M.fn ?_
  refine wpAny_mono (run_fnA (us := [.ref a]) (vs := [.ref a]) F (L2.Sub.in1 ⟨hr, rfl⟩) hb hx I (.cons rfl .nil) hsp) (fun r s' q => ?_) fun _ _ z => z
  obtain ⟨z, H', I', rz, n, rfl, hn, q⟩ := q
  obtain ⟨t, rfl⟩ := rz
  have hn2 : n < 2 ^ 63 := Nat.lt_of_lt_of_le hn (by decide)
  exact ⟨⟨by omega, by have : ((2 ^ 63 : Nat) : Int) = 2 ^ 63 := by decide
                       omega⟩, .int (n : Nat), H', I'.tok _, ⟨_, rfl⟩, q⟩
end
/-! ### o walked, by an __iter__ that gives the iterator of a tuple -/
abbrev itTup (t : Addr) : Obj := { cls := .type "tuple_iterator", data := .fields #[.ref t, .int 0 0] }
/-- a new iterator of the tuple at t -/
def ItT (t it : Addr) : HO := .ext fun h => h.get? it = some (itTup t)
section
variable {P : Program} {w : World} {H : Hp} {h : Heap} {t it : Addr}
theorem itT_ok (e : h.get? it = some (itTup t)) : ObjOk P w H h it (ItT t it) := ⟨e, ⟨_, e⟩, fun _ _ z k => k _ z⟩
end
section
variable {X : Cx}
def rIterT (K : PySem.W.Frag) (n : Nat) : List V → Hp → VK → Prop := fun xs H Q => ∃ (t : Addr) (zs : List V), xs = [.ref t] ∧ SqT K H t zs ∧ ∀ it, H it = none → n ≤ it → Q (.ref it) (upd H it (ItT t it))
theorem call_iterT : CallR X (.builtin "iter") (rIterT X.K X.s_0.heap.objs.size) := by
  intro pins s σ H xs us Q I r h
  obtain ⟨t, zs, rfl, hq, q⟩ := h
  obtain ⟨u, rfl, ru⟩ := vals1 r
  cases ru
  obtain ⟨its, rv, pl, hz⟩ := I.tuple hq
  have ht : s.heap.IsTuple t its.toArray := pl
  refine Calls.call_function_entry (by decide +kernel) (by decide +kernel) PySem.W.kdk_entry_iter (PySem.W.kdk_args_iter _) ?_
  unfold Builtin.«iter»
  refine wpAny_bind (m := someArgs "iter" 1 2 _) (wpAny_of_eq (a := [Value.ref t]) (by first | rfl | kernel_rfl!) ?_)
  show wpAny _ _ (pyIter (.ref t) >>= _) _ _ _
  refine wpAny_bind (wpAny_pyIter_tuple ht (wpAny_pure ⟨_, rfl, ?_⟩))
  exact ⟨.ref s.heap.objs.size, _, I.laid (t' := s.toks) (fun b u e => Heap.get?_push_of_some _ e) (Nat.le_refl _) (itT_ok (Heap.get?_push_size _ rfl)), rfl, q _ (I.hok.fresh (Nat.le_refl _)) I.sz⟩
end
/-- one run of a def whose body is walked for this one state -/
theorem run_at {CX : CXT} {P : Program} {w : World} {K : PySem.W.Frag} {mg : Str → Option Value} {base : Heap} {k : Nat} {f : Addr} {fd : FuncData} {x qual : Str} {params : Arguments} {body : List Stmt} {scope : Scope} {N ps : List Str} {A : Around} {outer : List Env} {s : Shared} {H : Hp} {us : List Value} {vs : List V} {Q : VK} {E : XK}
    (F : FunD K x qual params body scope [] [] f fd) (S : FnScope N ps scope) (hl : vs.length = ps.length) (hr : Room (k + 1) A) (e0 : Env0 P w K mg base A outer s H) (hb : BindsTo s fd ⟨us, []⟩ (ps.zip us)) (r : Vals vs us)
    (hbody : ∀ cdv, Room k (A.deeper (envOfC qual scope s.heap.objs.size f cdv)) → ∃ t, PSs (cxOf CX P w K mg base N qual scope f cdv A outer s H E) body t ∧ t { nx := fun _ H' => Q .non H', rt := Q } (start N vs) H) :
    codeAny (model P w) A (.call (.ref f) ⟨us, []⟩) (CR CX outer P w H s Q E) s := by
  obtain ⟨oc, od, dV, kV, doc, pm, an, cdv, ct, osl, rfl, lk, hcd, _, _⟩ := F.ex
  have kin : K.In s.heap := e0.mod.kin.keeps fun b o e => (e0.bs b o e).1
  have nol : s.heap.NoLimit := e0.mod.nolimit.keeps fun b o e => (e0.bs b o e).1
  have kinds : ∀ y ∈ ps.zip us, scope.names.lookup y.1 = some .local ∨ (scope.names.lookup y.1 = some .cell ∧ ((cellsFrom (s.heap.objs.size + 1) scope.names []).lookup y.1).isSome = true) := by
    rintro ⟨n, v⟩ hy
    exact (S.par n (List.of_mem_zip hy).1).elim .inl fun q => .inr ⟨q, PySem.W.cellsFrom_some _ _ _ (.inl q)⟩
  refine codeAny_call_function hr.depth (kin _ _ lk) rfl S.co S.gen rfl (PySem.W.codeRec_of kin hcd) (hb _ _ _ _ (wpAny_newFunctionEnv_cells S.kind kinds fun env he s1 x => ?_))
  subst he
  refine ⟨nol.keeps x.toInCall.keep, codeAny_func ?_⟩
  obtain ⟨t, ht, hq⟩ := hbody cdv (hr.deeper _)
  have I : Inv (cxOf CX P w K mg base N qual scope f cdv A outer s H E) [] (start N vs) H s1 := inv_start S hr.hd e0 hl r x
  refine wpAny_mono (ht.run [] s1 (start N vs) H _ I hq) (fun fl s' hs => ?_) fun e s' hs => hs
  match fl, hs with
  | .ret u, ⟨v, σ', H', J, rv, q⟩ => exact ⟨v, H', J.os, J.bare, J.base, J.hok, rv, q⟩
  | .next, ⟨σ', H', J, q⟩ => exact ⟨.non, H', J.os, J.bare, J.base, J.hok, rfl, q⟩
  | .brk, ⟨_, _, _, q⟩ => exact False.elim q
  | .cont, ⟨_, _, _, q⟩ => exact False.elim q
/-- what is known of a class whose __iter__ gives the iterator of its cells -/
structure OwnIt (P : Program) (w : World) (K : PySem.W.Frag) (mg : Str → Option Value) (base : Heap) (C f : Addr) (fd : FuncData) (fld : Str) : Prop where
  sp : Spc K C "__iter__" f
  bd : Binds K fd ["self"] []
  run : ∀ (A : Around) (outer : List Env) (s : Shared) (H : Hp) (p dx t : Addr) (fs : List (Str × V)) (zs : List V) (Q : VK) (E : XK), Room 1 A → Env0 P w K mg base A outer s H → BindsTo s fd ⟨[.ref p], []⟩ ((["self"] : List Str).zip [Value.ref p]) → H p = some (.ins C dx fs) → fs.lookup fld = some (.ref t) → SqT K H t zs →
    (∀ it, H it = none → s.heap.objs.size ≤ it → Q (.ref it) (upd H it (ItT t it))) → codeAny (model P w) A (.call (.ref f) ⟨[.ref p], []⟩) (CR CX0 outer P w H s Q E) s
section
variable {X : Cx} {C f : Addr} {fd : FuncData} {fld : Str}
theorem own_iter (M : OwnIt X.prog X.w X.K X.mg X.base C f fd fld) {A : Around} (sb : L2.Sub X 1 A) {pins : List (Addr × Obj)} {σ : St} {H : Hp} {s : Shared} {p dx t : Addr} {fs : List (Str × V)} {zs : List V} (I : Inv X pins σ H s) (hp : H p = some (.ins C dx fs)) (hl : fs.lookup fld = some (.ref t)) (ht : SqT X.K H t zs)
    {Q : Value → Shared → Prop} (h : ∀ it s', Inv X pins σ H s' → s'.heap.IsTupleIter it t 0 → FpOk X pins H it → Q (.ref it) s') : wpAny (model X.prog X.w) A (pyIter (.ref p)) Q X.xe s := by
  obtain ⟨mA, J, _⟩ := ins_get I.hok hp
  obtain ⟨od, J, _⟩ := J.look
  obtain ⟨m, hF⟩ := I.fr
  refine PySem.W.owit_iter hF I.ok.mod.kin J M.sp.at_ M.sp.fn ?_
  have z : Env0 X.prog X.w X.K X.mg X.base A X.stack s H := by
    have e := I.env0
    exact ⟨by rw [sb.fr]; exact e.frames, e.mod, e.bs, e.bsz, e.funs, e.frf, e.hok, e.bare⟩
  have bi := M.bd s [.ref p] I.kIn rfl
  refine wpAny_call (codeAny_mono (M.run A X.stack s H p dx t fs zs (fun v H' => ∃ it, v = .ref it ∧ H it = none ∧ s.heap.objs.size ≤ it ∧ H' = upd H it (ItT t it)) (fun _ _ _ => False) sb.room z bi hp hl ht fun it n1 n2 => ⟨it, rfl, n1, n2, rfl⟩) fun g s' hq => ?_)
  match g, hq with
  | .error e, hq => exact hq.elim
  | .ok (.ret u), hq =>
    obtain ⟨v, H', I', rv, it, rfl, n1, n2, rfl⟩ := I.after hq
    cases rv
    have e0 : s'.heap.get? it = some (itTup t) := (I'.hok it _ (upd_same (o := ItT t it))).1
    have I2 : Inv X pins σ H s' := by
      have := ItX.inv_drop I' (a := it) (upd_same (o := ItT t it))
      rw [ItX.dropH_upd n1] at this
      exact this
    have fp : FpOk X pins H it := by
      have := ItX.inv_fp I' (upd_same (o := ItT t it)) (Nat.le_trans I.sz n2)
      rw [ItX.dropH_upd n1] at this
      exact this
    have hi : s'.heap.IsTupleIter it t 0 := ⟨_, e0, rfl, rfl⟩
    unfold PySem.W.OwitIt
    exact wpAny_specialOf hi.typeIs PySem.F.slot_tuple_iterator_next.lookup (h it s' I2 hi fp)
  | .ok .next, hq => exact False.elim hq
  | .ok .brk, hq => exact False.elim hq
  | .ok .cont, hq => exact False.elim hq
/-- for x in o -/
def iOwn (K : PySem.W.Frag) (C : Addr) (fld : Str) (tl : TE) : TI := fun σ H R => tl σ H fun x H1 => ∃ p dx fs t zs, x = .ref p ∧ H1 p = some (.ins C dx fs) ∧ fs.lookup fld = some (.ref t) ∧ SqT K H1 t zs ∧ R (Itt K t) H1
theorem pi_own (M : OwnIt X.prog X.w X.K X.mg X.base C f fd fld) (hr : Room 1 X.A) {tg l : Expr} {tl : TE} (hl : PE X l tl) : PI X tg l (iOwn X.K C fld tl) := by
  refine ⟨fun pins s σ H R I h => ?_⟩
  refine thn (hl.run pins s σ H _ I h) fun v s1 ⟨x, H1, I1, r1, p, dx, fs, t, zs, e, hp, hf, ht, q⟩ => ?_
  subst e
  cases r1
  refine own_iter M ⟨hr, rfl⟩ I1 hp hf ht fun it s2 I2 hi fp => ?_
  exact ⟨it, [it], _, _, H1, rfl, I2, turn_tuple t it, hi, fun b hb => by rw [List.mem_singleton.mp hb]; exact fp, q⟩
end
end WL
end L2
set_option Elab.async false
set_option linter.all false
set_option maxRecDepth 100000
set_option maxHeartbeats 4000000
namespace L2
namespace WL
open PySem PySem.Spec PyProof.Rows K1
section
variable {X : Cx} {pins : List (Addr × Obj)} {σ : St} {H : Hp} {A1 : Around} {q it t : Addr} {zs : List V} {Rs : Result → Shared → Prop}
/-- the list at q filled from the iterator of a tuple -/
theorem own_fill (hh : A1.in1.handled = none) (hqi : it ≠ q) (ht : ∀ i, SqT X.K (upd H q (.lst (zs.take i))) t zs) (fp : FpOk X pins H it) (hdone : ∀ s, Inv X pins σ (upd H q (.lst zs)) s → Rs (.ok (.ret .none)) s) :
    ∀ (n i : Nat) (s : Shared), zs.length - i = n → i ≤ zs.length → Inv X pins σ (upd H q (.lst (zs.take i))) s → s.heap.IsTupleIter it t i → codeAny (model X.prog X.w) A1 (.builtin "list.extend.loop" ⟨[.ref q, .ref it, .none], []⟩) Rs s := by
  intro n
  induction n with
  | zero =>
    intro i s hn hi I st
    have e : i = zs.length := by omega
    subst e
    rw [List.take_length] at I
    refine codeAny_builtin PySem.F.entry_extend_loop ?_
    rw [Around.under_plainId PySem.F.plain_extend_loop _]
    show wpAny _ A1.in1 (pyNext (.ref it) >>= _) _ _ s
    have ht' := ht zs.length
    rw [List.take_length] at ht'
    obtain ⟨its, rv, p, hz⟩ := I.tuple ht'
    have hl := rv.length
    obtain ⟨f0, f1, f2, f3, f4, f5⟩ := fp
    refine wpAny_bind (wpAny_pyNext_tuple_end hh st (show s.heap.IsTuple t its.toArray from p) (by simp; omega) fun h' eb => wpAny_pure (hdone _ ?_))
    exact I.turned (t' := s.toks) (fun b o hb e => eb b o hb e) (by rw [upd_ne hqi]; exact f0) f1 f3 f4 f5
  | succ n ih =>
    intro i s hn hi I st
    have lt : i < zs.length := by omega
    refine codeAny_builtin PySem.F.entry_extend_loop ?_
    rw [Around.under_plainId PySem.F.plain_extend_loop _]
    show wpAny _ A1.in1 (pyNext (.ref it) >>= _) _ _ s
    obtain ⟨its, rv, p, hz⟩ := I.tuple (ht i)
    obtain ⟨u, hu, ru⟩ := rv.get (List.getElem?_eq_getElem lt)
    obtain ⟨f0, f1, f2, f3, f4, f5⟩ := id fp
    refine wpAny_bind (wpAny_pyNext_tuple_item st (show s.heap.IsTuple t its.toArray from p) (x := u) (by simpa using hu) fun h' st' sb => ?_)
    have I1 : Inv X pins σ (upd H q (.lst (zs.take i))) { s with heap := h' } := I.turned (t' := s.toks) (fun b o hb e => (sb.2 b hb).trans e) (by rw [upd_ne hqi]; exact f0) f1 f3 f4 f5
    show wpAny _ A1.in1 (updateSeq q (·.push u) >>= _) _ _ _
    obtain ⟨z, its2, k, r2, hl, e⟩ := I1.lstM upd_same
    have hz2 : zs.length ≤ sizeLine := hz
    have hll : its2.length = i := by
      rw [← hl, List.length_take]
      omega
    refine wpAny_bind (wpAny_updateSeq e rfl (wpAny_pure ⟨plainId_quiet PySem.F.plain_extend_loop _, ?_⟩) (by rw [List.size_toArray]; omega) (by show (its2.toArray.push u).size ≤ sizeLine + 1; rw [Array.size_push, List.size_toArray]; omega))
    have tk : zs.take (i + 1) = zs.take i ++ [zs[i]] := by rw [List.take_succ, List.getElem?_eq_getElem lt]; rfl
    have I2 := I1.lset (its' := its2 ++ [u]) (ys := zs.take (i + 1)) (f := (·.push u)) (t' := s.toks) upd_same e (by simp) (by rw [tk]; exact r2.append (.cons ru .nil)) (by rw [List.length_take]; omega)
    rw [upd_upd] at I2
    exact ih (i + 1) _ (by omega) (by omega) I2 (st'.at fun o e => (Heap.get?_update_other _ _ (Ne.symm hqi)).trans e)
end
section
variable {X : Cx} {CX : CXT} {k : Nat} {C f g : Addr} {fd gd : FuncData} {fld : Str} {spL : Sp} {EL : XK}
/-- the length that the class's __len__ tells -/
theorem own_hintL {pins : List (Addr × Obj)} {σ : St} {H : Hp} {s : Shared} {A : Around} {p dx : Addr} {fs : List (Str × V)} {n : Nat} {Q : Bool → Shared → Prop} (M : Spc X.K C "__len__" g) (F : FnOk X.prog X.w X.K X.mg X.base CX0 k g gd ["self"] spL) (sb : L2.Sub X (k + 1) A) (hb : Binds X.K gd ["self"] [])
    (I : Inv X pins σ H s) (hp : H p = some (.ins C dx fs)) (hn : n ≤ 1000) (hsp : spL [.ref p] H (fun v H' => v = .int (n : Nat) ∧ H' = H) EL) (h : ∀ s', Inv X pins σ H s' → Q (decide (n ≠ 0)) s') :
    wpAny (model X.prog X.w) A (Builtin.List.listLengthHint (.ref p)) Q X.xe s := by
  obtain ⟨mA, J, _⟩ := ins_get I.hok hp
  obtain ⟨od, J, _⟩ := J.look
  obtain ⟨m, hF⟩ := I.fr
  unfold Builtin.List.listLengthHint
  refine wpAny_bind (wpAny_bind (J.type.here ((PySem.W.looks_findIn I.kIn M.at_).here ?_)))
  refine PySem.W.KFB.if_not rfl ?_
  refine PySem.W.KFB.if_so rfl ?_
  refine wpAny_bind (wpAny_rule ?_)
  refine wpAny_bind (wpAny_attempt ?_)
  refine PySem.W.len_K hF I.ok.mod.kin J M.at_ M.fn ?_
  refine wpAny_mono (run_fn0 (us := [.ref p]) (vs := [.ref p]) F (L2.Sub.in1 sb) hb I (.cons rfl .nil) hsp) (fun r s' q => ?_) fun e s' he => he
  obtain ⟨z, H', I', rz, rfl, rfl⟩ := q
  obtain ⟨t, rfl⟩ := rz
  refine ⟨⟨by omega, by omega⟩, ?_⟩
  refine wpAny_bind (wpAny_of_eq (a := some (n : Int)) rfl ?_)
  show wpAny _ A (if Builtin.List.listTooLong (n : Int).toNat = true then _ else pure ((n : Int) != 0)) _ _ _
  rw [Int.toNat_natCast, notLongL (by rw [sizeLine_eq]; omega)]
  refine PySem.W.KFB.if_not rfl (wpAny_pure ?_)
  have e : ((n : Int) != 0) = decide (n ≠ 0) := by
    by_cases z : n = 0
    · subst z
      rfl
    · rw [decide_eq_true z]
      simp [z]
  rw [e]
  exact h _ (I'.tok _)
/-- list(o), o with an own __iter__ over the tuple in the field fld and an own __len__ -/
def rListO (K : PySem.W.Frag) (C : Addr) (fld : Str) (spL : Sp) (EL : XK) : List V → Hp → VK → Prop := fun xs H Q => ∃ p dx fs t zs, xs = [.ref p] ∧ H p = some (.ins C dx fs) ∧ fs.lookup fld = some (.ref t) ∧ H t = some (.tup zs) ∧ zs.length ≤ 1000 ∧
  ∀ q, H q = none → (∃ n : Nat, n ≤ 1000 ∧ spL [.ref p] (upd H q (.lst [])) (fun v H' => v = .int (n : Nat) ∧ H' = upd H q (.lst [])) EL) ∧ Q (.ref q) (upd H q (.lst zs))
theorem call_listO (hc : X.calm = true) (M : OwnIt X.prog X.w X.K X.mg X.base C f fd fld) (L : Spc X.K C "__len__" g) (F : FnOk X.prog X.w X.K X.mg X.base CX0 k g gd ["self"] spL) (hb : Binds X.K gd ["self"] []) (hr : Room (k + 3) X.A) : CallR X (.type "list") (rListO X.K C fld spL EL) := by
  intro pins s σ H xs us Q I rv h
  obtain ⟨p, dx, fs, t, zs, rfl, hp, hf, ht, hz, hq⟩ := h
  obtain ⟨u, rfl, ru⟩ := rv.one
  cases ru
  have s2 : L2.Sub X (k + 1) X.A.in1.in1 := L2.Sub.in1 (L2.Sub.in1 (⟨hr, rfl⟩ : L2.Sub X (k + 3) X.A))
  refine callType_codes (Q₁ := fun obj s₁ => obj = .ref s.heap.objs.size ∧ s₁ = { s with heap := s.heap.push { cls := .type "list", data := .seq #[] } }) PySem.F.called_list (PySem.F.typeCall_list_1 _) PySem.F.entry_list_init
    (code_list_new _ ⟨rfl, rfl⟩) fun obj s₁ h₁ => ?_
  obtain ⟨rfl, rfl⟩ := h₁
  have hS : (s.heap.push { cls := .type "list", data := .seq #[] }).get? s.heap.objs.size = some { cls := .type "list", data := .seq #[] } := Heap.get?_push_size _ rfl
  have fr : H s.heap.objs.size = none := I.hok.fresh (Nat.le_refl _)
  obtain ⟨⟨n, hn, hsp⟩, q⟩ := hq _ fr
  refine ⟨⟨_, hS, rfl⟩, PySem.F.args_list_init_2 _ _, ?_⟩
  have I1 : Inv X pins σ (upd H s.heap.objs.size (.lst [])) { s with heap := s.heap.push { cls := .type "list", data := .seq #[] } } := I.lnew (its := []) (t' := s.toks) .nil (Nat.zero_le _)
  show wpAny _ _ (Builtin.List.listItems (.ref s.heap.objs.size) >>= _) _ _ _
  refine wpAny_bind ?_
  unfold Builtin.List.listItems
  refine wpAny_bind (wpAny_seqItems hS rfl (wpAny_pure ?_))
  show wpAny _ _ (updateSeq s.heap.objs.size (fun _ => #[]) >>= fun _ => letGo (#[] : Array Value).toList.reverse >>= fun _ => _) _ _ _
  have I2 := I1.lset (f := fun _ => #[]) (its := []) (its' := []) (ys := []) (t' := s.toks) upd_same hS rfl .nil (Nat.zero_le _)
  rw [upd_upd] at I2
  refine wpAny_bind (wpAny_updateSeq hS rfl (wpAny_bind (wpAny_letGo ?_)))
  generalize hsz : s.heap.objs.size = d at *
  generalize hh2 : Heap.update (s.heap.push { cls := .type "list", data := .seq #[] }) d (Obj.mapSeq fun _ => #[]) = h2 at I2 ⊢
  have pd : p ≠ d := ne_of_none hp fr
  have td : t ≠ d := ne_of_none ht fr
  have hp2 : upd H d (.lst []) p = some (.ins C dx fs) := by rw [upd_ne pd]; exact hp
  have ht2 : ∀ ys, SqT X.K (upd H d (.lst ys)) t zs := fun ys => SqT.of (by rw [upd_ne td]; exact ht)
  obtain ⟨mA, J, _⟩ := ins_get I2.hok hp2
  obtain ⟨od, J, _⟩ := J.look
  show wpAny _ _ (Builtin.List.listExtendWith (.ref d) (.ref p) .none) _ _ _
  unfold Builtin.List.listExtendWith
  refine wpAny_bind (J.type.here ?_)
  have e1 : Builtin.List.listSameRef (.ref d) (.ref p) = false := by simp [Builtin.List.listSameRef, Ne.symm pd]
  have e2 : (Value.ref C == Value.type "list") = false := rfl
  have e3 : (Value.ref C == Value.type "tuple") = false := rfl
  simp only [e1, e2, e3, Bool.or_false, Bool.false_eq_true, if_false]
  refine wpAny_bind (own_iter M (s2.mono (by omega)) I2 hp2 hf (ht2 []) fun it s3 I3 hi fp => ?_)
  have itd : it ≠ d := fun z => by
    have := fp.1
    rw [z, upd_same] at this
    cases this
  have fpH : FpOk X pins H it := ⟨by have := fp.1; rw [upd_ne itd] at this; exact this, fp.2⟩
  obtain ⟨o, ho, hoc, hod⟩ := id hi
  have I4 := I3.pinned (fp := [it]) (fun b hb => by rw [List.mem_singleton.mp hb]; exact fp) (fun b hb => by
    rw [List.mem_singleton.mp hb]
    exact ⟨o, ho, fun v z => by rw [hod] at z; cases z⟩)
  refine wpAny_bind (wpAny_holding (own_hintL L F s2 hb I4 hp2 hn hsp fun s5 I5 => ?_))
  have pn := (I5.pin (it, o) (List.mem_append_right _ (List.mem_append_right _ (mem_pinsAt (List.mem_singleton.mpr rfl) ho)))).1
  have hi5 : s5.heap.IsTupleIter it t 0 := ⟨o, pn, hoc, hod⟩
  have I6 := I5.unpinned
  have hA : X.A.in1.in1.handled = none := I.ok.hd hc
  have fill : ∀ s6, Inv X pins σ (upd H d (.lst [])) s6 → s6.heap.IsTupleIter it t 0 → codeAny (model X.prog X.w) X.A.in1 (.builtin "list.extend.loop" ⟨[.ref d, .ref it, .none], []⟩) (wants (fun r s₂ => r = .none ∧ EP X pins σ Q (.ref d) s₂) X.xe) s6 := fun s6 I7 h7 =>
    own_fill (H := H) hA itd (fun i => ht2 _) fpH (fun s8 I8 => ⟨rfl, .ref d, _, I8, rfl, q⟩) zs.length 0 s6 (by omega) (Nat.zero_le _) I7 h7
  refine wpAny_ite_split (fun _ => ?_) (fun _ => wpAny_pure ⟨plainId_quiet PySem.F.plain_extend_loop _, fill _ I6 hi5⟩)
  obtain ⟨z3, its3, k3, r3, hl3, w3⟩ := I6.lstM upd_same
  cases r3
  refine wpAny_bind (wpAny_rule (wpAny_bind ?_))
  show wpAny _ _ (updateSeq d (·.push .none) >>= fun _ => updateSeq d (·.pop)) _ _ _
  refine wpAny_bind (wpAny_updateSeq w3 rfl ?_)
  have I7 := I6.lset (f := (·.push Value.none)) (its' := [Value.none]) (ys := [.non]) (t' := s5.toks) upd_same w3 (by simp) (.cons rfl .nil) (by rw [List.length_singleton, sizeLine_eq]; decide)
  obtain ⟨z4, its4, k4, r4, hl4, w4⟩ := I7.lstM upd_same
  obtain ⟨u4, rfl, ru4⟩ := r4.one
  refine wpAny_updateSeq w4 rfl ?_ (by show 1 ≤ sizeLine; rw [sizeLine_eq]; decide) (by show 0 ≤ sizeLine + 1; exact Nat.zero_le _)
  have I8 := I7.lset (f := (·.pop)) (its := [u4]) (its' := []) (ys := []) (t' := s5.toks) upd_same w4 (by rfl) .nil (Nat.zero_le _)
  rw [upd_upd, upd_upd] at I8
  refine wpAny_pure ⟨plainId_quiet PySem.F.plain_extend_loop _, fill _ I8 ?_⟩
  exact (hi5.at fun o e => (Heap.get?_update_other _ _ (Ne.symm itd)).trans e).at fun o e => (Heap.get?_update_other _ _ (Ne.symm itd)).trans e
end
end WL
end L2
set_option Elab.async false
set_option linter.all false
set_option maxRecDepth 100000
set_option maxHeartbeats 4000000
namespace L2
namespace WL
open PySem PySem.Spec PyProof.Rows K1
open Builtin
/-! ### == and != by the class's __eq__ -/
section
variable {M : Model} {A : Around} {E : Value → Shared → Prop} {s : Shared} {K : PySem.W.Frag} {x C : Addr} {ox : Obj} {od : Option Obj} {name : Str} {id : String} {args : List Value}
theorem ifBound_B {Q : Option Value → Shared → Prop} (kin : K.In s.heap) (I : PySem.W.InstAt s.heap x ox C od) (hs : PySem.W.findIn K (.ref C) name = some (some (.builtin id))) (hb : bindSpecial (.builtin id) (.ref x) = pure (.builtin id, [.ref x]))
    (h : wpAny M A (call (.builtin id) (.ref x :: args)) (fun v => Q (some v)) E s) : wpAny M A (callSpecialIfBound? (.ref x) name args) Q E s := by
  simp only [callSpecialIfBound?, bindSpecialIfBound?]
  refine wpAny_holding (wpAny_bind (wpAny_bind (wpAny_bind (I.type.here ((PySem.W.looks_findIn kin hs).here ?_)))))
  simp only [hb]
  have go : wpAny M A (call (.builtin id) ([.ref x] ++ args) >>= fun v => pure (some v)) Q E s := wpAny_bind (wpAny_mono h (fun _ _ z => wpAny_pure z) fun _ _ z => z)
  refine wpAny_bind (wpAny_askSetting (wpAny_ite ?_))
  split
  · exact wpAny_bind (wpAny_pure (wpAny_pure go))
  · exact wpAny_tryCatch (wpAny_bind (wpAny_pure (wpAny_pure go)))
end
section
variable {X : Cx} {CX : CXT} {k : Nat} {C f : Addr} {fd : FuncData} {ps : List Str} {sp : Sp} {E : XK}
def rEqO (K : PySem.W.Frag) (C : Addr) (sp : Sp) (E : XK) (g : Bool → Bool) : R2 := fun x y H Q => ∃ a dx fs t, x = .ref a ∧ H a = some (.ins C dx fs) ∧ TyX K H y t ∧ PySem.W.notFirst K C t = true ∧ sp [x, y] H (fun v H' => ∃ b, v = .bl b ∧ Q (.bl (g b)) H') E
theorem op_eqO (M : Spc X.K C "__eq__" f) (F : FnOk X.prog X.w X.K X.mg X.base CX k f fd ps sp) (hr : Room k X.A) (hu : X.A.units < cLine) (hb : Binds X.K fd ps []) (hx : Passes CX X E) : OpR X (compareOp .Eq) (rEqO X.K C sp E id) := by
  intro pins s σ H x y v u Q I rx ry h
  obtain ⟨a, dx, fs, t, rfl, ha, ty, hn, hsp⟩ := h
  cases rx
  obtain ⟨mA, J, _⟩ := ins_get I.hok ha
  obtain ⟨od, J, _⟩ := J.look
  obtain ⟨m, hF⟩ := I.fr
  obtain ⟨Pk, Z, pk, _⟩ := kit_of I ry ty
  refine PySem.W.cmp_K (op := .Eq) hu hF I.ok.mod.kin J (Z.ty _ _ I.kIn pk) hn M.at_ M.fn ?_
  refine wpAny_mono (run_fn (us := [.ref a, u]) (vs := [.ref a, y]) F hr hb .nil hx I (.cons rfl (.cons ry .nil)) hsp) (fun r s' q => ?_) fun _ _ z => z
  obtain ⟨z, H', I', rz, b, rfl, q⟩ := q
  cases rz
  exact ⟨.bl b, H', I', rfl, q⟩
theorem op_neO (M : Spc X.K C "__eq__" f) (hne : PySem.W.findIn X.K (.ref C) "__ne__" = some (some (.builtin "object.__ne__"))) (hmo : PySem.W.mroIn X.K C (.type "object") = some true) (F : FnOk X.prog X.w X.K X.mg X.base CX0 k f fd ps sp) (hr : Room (k + 1) X.A) (hu : X.A.units + 1 < cLine) (hb : Binds X.K fd ps []) : OpR X (compareOp .NotEq) (rEqO X.K C sp E not) := by
  intro pins s σ H x y v u Q I rx ry h
  obtain ⟨a, dx, fs, t, rfl, ha, ty, hn, hsp⟩ := h
  cases rx
  obtain ⟨mA, J, _⟩ := ins_get I.hok ha
  obtain ⟨od, J, _⟩ := J.look
  obtain ⟨m, hF⟩ := I.fr
  obtain ⟨Pk, Z, pk, _⟩ := kit_of I ry ty
  have inst : PySem.W.Looks (model X.prog X.w) s.heap (isInstance (.ref a) (.type "object")) true := J.type.andThen (PySem.W.looks_mroIn I.kIn hmo)
  have one : wpAny (model X.prog X.w) X.A (tryCompare (.ref a) "__ne__" u) (fun r s' => ∃ v, r = some v ∧ EP X pins σ Q v s') X.xe s := by
    unfold tryCompare
    refine wpAny_bind (ifBound_B I.kIn J hne (PySem.F.cmp_object.ne.bind _) (wpAny_call (codeAny_call_builtin PySem.F.cmp_object.ne.plain PySem.F.cmpEntry_ne (PySem.W.check_slot PySem.F.cmpKind_ne PySem.F.cmpSplit_ne inst (PySem.F.cmpArgs_ne _ _) ?_))))
    unfold Builtin.«object.__ne__»
    refine wpAny_bind (wpAny_of_eq (a := (Value.ref a, [u])) (by first | rfl | kernel_rfl) ?_)
    show wpAny _ _ (cRoomFor "comparison" [.ref a, u] >>= _) _ _ _
    refine wpAny_bind (wpAny_cRoomFor hu ?_)
    refine wpAny_bind (PySem.W.ifBound_K I.kIn J M.at_ M.fn ?_)
    refine wpAny_mono (run_fn0 (us := [.ref a, u]) (vs := [.ref a, y]) F (L2.Sub.in1 ⟨hr, rfl⟩) hb I (.cons rfl (.cons ry .nil)) hsp) (fun r s' q => ?_) fun _ _ z => z
    obtain ⟨z, H', I', rz, b, rfl, q⟩ := q
    cases rz
    show wpAny _ _ (truthy (.bool b) >>= _) _ _ _
    refine wpAny_bind (wpAny_truthy_bool (wpAny_pure ?_))
    exact wpAny_pure ⟨_, rfl, .bl (!b), H', I', rfl, q⟩
  show wpAny _ _ (richCompare .NotEq (.ref a) u) _ _ _
  unfold richCompare
  simp only [oneThing_ref]
  refine wpAny_holding (wpAny_bind (wpAny_cRoomFor (Nat.lt_of_succ_lt hu) ?_))
  refine wpAny_bind (J.type.here (wpAny_bind ((Z.ty _ _ I.kIn pk).here ?_)))
  split
  · rename_i q
    have e : PySem.W.subIn X.K t (.ref C) = some false := by
      rcases Bool.or_eq_true_iff.mp hn with e | e
      · rw [beq_iff_eq.mp e] at q
        simp at q
      · exact beq_iff_eq.mp e
    refine wpAny_bind ((PySem.W.looks_subIn I.kIn e).here ?_)
    simp only [Bool.false_eq_true, if_false]
    refine wpAny_bind (wpAny_mono one (fun r s' z => ?_) fun _ _ e => e)
    obtain ⟨v, rfl, hq⟩ := z
    exact wpAny_pure hq
  · refine wpAny_bind (wpAny_pure ?_)
    simp only [Bool.false_eq_true, if_false]
    refine wpAny_bind (wpAny_mono one (fun r s' z => ?_) fun _ _ e => e)
    obtain ⟨v, rfl, hq⟩ := z
    exact wpAny_pure hq
end
end WL
end L2
set_option Elab.async false
set_option linter.all false
set_option maxRecDepth 100000
set_option maxHeartbeats 4000000
namespace L2
namespace WL
open PySem PySem.Spec PyProof.Rows K1
/-! ### data of texts -/
abbrev dS (xs : List Str) : List PyData := xs.map .str
def sOk (xs : List Str) : Prop := ∀ x ∈ xs, ∀ c ∈ x.cps.toList, c < 1114112
theorem dp_strs {K : PySem.W.Frag} {H : Hp} : ∀ xs : List Str, DpAll K H (xs.map .str) (dS xs)
  | [] => .nil
  | x :: xs => .cons (.str x) (dp_strs xs)
theorem lay_strs : ∀ {xs : List Str}, sOk xs → PyData.canLayAll0 (dS xs) = true
  | [], _ => rfl
  | x :: xs, h => by
    show (PyData.canLay0 (.str x) && PyData.canLayAll0 (dS xs)) = true
    rw [lay_strs fun y hy => h y (List.mem_cons_of_mem _ hy), Bool.and_true]
    show (x.cps.all (· < 1114112)) = true
    rw [Array.all_eq_true']
    intro c hc
    exact decide_eq_true (h x (List.mem_cons_self ..) c (by simpa using hc))
theorem dep_strs : ∀ xs : List Str, PyData.depthAll (dS xs) = 0
  | [] => rfl
  | x :: xs => by
    show max 0 (PyData.depthAll (dS xs)) = 0
    rw [dep_strs xs]
    rfl
theorem shape_tup {xs : List Str} (h : sOk xs) : SeqAt.shaped (.tuple (dS xs)) = true := by
  unfold SeqAt.shaped
  have e : PyData.depth (.tuple (dS xs)) = PyData.depthAll (dS xs) + 1 := rfl
  rw [e, dep_strs]
  show (PyData.canLayAll0 (dS xs) && true) = true
  rw [lay_strs h]
  rfl
theorem eqv_strs : ∀ xs ys : List Str, PyData.eqvAll (dS xs) (dS ys) = decide (xs = ys)
  | [], [] => rfl
  | [], y :: ys => rfl
  | x :: xs, [] => rfl
  | x :: xs, y :: ys => by
    show ((x == y) && PyData.eqvAll (dS xs) (dS ys)) = _
    rw [eqv_strs xs ys]
    by_cases e : x = y
    · subst e
      by_cases f : xs = ys
      · subst f
        simp
      · rw [decide_eq_false f, decide_eq_false (fun z => f (List.cons.inj z).2), Bool.and_false]
    · have e2 : (x == y) = false := by simpa using e
      rw [e2, Bool.false_and, decide_eq_false (fun z => e (List.cons.inj z).1)]
section
variable {X : Cx} {pins : List (Addr × Obj)} {σ : St} {H : Hp} {s : Shared}
theorem eqP_tup (I : Inv X pins σ H s) {A : Around} (hu : A.units + 64 < cLine) {a b : Addr} {xs ys : List Str} (ha : SqT X.K H a (xs.map .str)) (hb : SqT X.K H b (ys.map .str)) (ox : sOk xs) (oy : sOk ys) :
    SeqAt.EqP X.prog X.w A s (.ref a) (.ref b) (decide (xs = ys)) := by
  obtain ⟨as, r1⟩ := Dp.reads I (.tuple (dS xs)) (.ref a) (.ref a) (.tup ha (dp_strs xs)) rfl
  obtain ⟨bs, r2⟩ := Dp.reads I (.tuple (dS ys)) (.ref b) (.ref b) (.tup hb (dp_strs ys)) rfl
  have e : PyData.eqv (.tuple (dS xs)) (.tuple (dS ys)) = decide (xs = ys) := eqv_strs xs ys
  rw [← e]
  exact (SeqAt.eqAt_reads _ _ A s _ _ as bs r1 r2 (SeqAt.canLay_of_shaped (shape_tup ox)) (SeqAt.canLay_of_shaped (shape_tup oy)) (SeqAt.room_of_shaped (shape_tup ox) hu)).eqP
/-- whether two dicts from texts to tuples of texts are equal -/
def dEq (ps qs : Rws) : Bool := decide (ps.length = qs.length) && ps.all fun p => decide (srcs qs p.1 = some p.2)
def rOk (ps : Rws) : Prop := ∀ p ∈ ps, sOk p.2
theorem srcs_mem {ps : Rws} {z : Str} {xs : List Str} (h : srcs ps z = some xs) : ∃ p ∈ ps, p.1 = z ∧ p.2 = xs := by
  unfold srcs at h
  obtain ⟨p, hp, rfl⟩ := Option.map_eq_some_iff.mp h
  exact ⟨p, List.mem_of_find?_eq_some hp, of_decide_eq_true (by have := List.find?_some hp; simpa using this), rfl⟩
theorem hits_tup (I : Inv X pins σ H s) {A : Around} (hu : A.units + 64 < cLine) {ls : List (Key × V)} {qs : Rws} (dl : DTup X.K H ls qs) (oq : rOk qs) {vb : List (Key × Value)} (rb : KV ls vb) : ∀ {ks : List (Key × V)} {ps : Rws}, DTup X.K H ks ps → rOk ps → ∀ {va : List (Key × Value)}, KV ks va →
    PySem.W.KeqHitsP X.prog X.w A s vb va (ps.all fun p => decide (srcs qs p.1 = some p.2))
  | _, _, .nil, _, va, r => by
    cases r
    exact .nil
  | kv :: ks, p :: ps, .cons ⟨e1, a, e2, q⟩ t, op, va, r => by
    cases r with
    | @cons _ w _ ws h tl =>
      obtain ⟨key, v⟩ := w
      obtain ⟨h1, h2⟩ := h
      have h1' : kv.1 = key := h1
      subst h1'
      rw [e2] at h2
      cases (show v = Value.ref a from h2)
      have ih := hits_tup I hu dl oq rb t (fun p' hp' => op p' (List.mem_cons_of_mem _ hp')) tl
      rw [List.all_cons]
      rcases dl.get (z := p.1) with ⟨xs, b, g1, g2, g3⟩ | ⟨g1, g2⟩
      · have rr : RelO (some (.ref b)) (valueAt vb kv.1) := by
          rw [← g2, ← e1]
          exact rb.val kv.1
        obtain ⟨y, hy, ry⟩ := rr.some_of
        cases (show y = Value.ref b from ry)
        obtain ⟨p', hp', _, rfl⟩ := srcs_mem g1
        have eq := eqP_tup I hu q g3 (op p (List.mem_cons_self ..)) (oq p' hp')
        have e : decide (srcs qs p.1 = some p.2) = decide (p.2 = p'.2) := by
          rw [g1]
          by_cases z : p.2 = p'.2
          · rw [decide_eq_true z, decide_eq_true (by rw [z])]
          · rw [decide_eq_false z, decide_eq_false (fun w => z (Option.some.inj w).symm)]
        rw [e]
        exact .hit hy eq ih
      · have rr : RelO none (valueAt vb kv.1) := by
          rw [← g2, ← e1]
          exact rb.val kv.1
        have hn : valueAt vb kv.1 = none := by
          cases z : valueAt vb kv.1 with
          | none => rfl
          | some y =>
            rw [z] at rr
            cases rr
        rw [g1, decide_eq_false (fun z => nomatch z), Bool.false_and]
        exact .miss hn
def rEqDT (K : PySem.W.Frag) : R2 := fun x y H Q => ∃ a b ks ls ps qs, x = .ref a ∧ y = .ref b ∧ H a = some (.dK ks) ∧ H b = some (.dK ls) ∧ DTup K H ks ps ∧ DTup K H ls qs ∧ rOk ps ∧ rOk qs ∧ Q (.bl (dEq ps qs)) H
theorem op_eqDT (hu : X.A.units + 65 < cLine) : OpR X (compareOp .Eq) (rEqDT X.K) := by
  intro pins s σ H x y v u Q I rx ry h
  obtain ⟨a, b, ks, ls, ps, qs, rfl, rfl, ha, hb, dk, dl, op, oq, q⟩ := h
  cases rx
  cases ry
  obtain ⟨_, ya, va, ra, da⟩ := (show ObjOk X.prog X.w H s.heap a (.dK ks) from I.hok a _ ha)
  obtain ⟨_, yb, vb, rb, db⟩ := (show ObjOk X.prog X.w H s.heap b (.dK ls) from I.hok b _ hb)
  have e : (va.length == vb.length) = decide (ps.length = qs.length) := by
    rw [← ra.length, ← rb.length, dk.len, dl.len]
    by_cases z : ps.length = qs.length
    · rw [decide_eq_true z, z]
      simp
    · rw [decide_eq_false z]
      simpa using z
  show wpAny _ _ (richCompare .Eq _ _) _ _ _
  refine PySem.W.rcP_dicts (knd := mixKind X.prog X.w) ya yb da db (by omega) (fun _ => hits_tup I (A := X.A.in1) (by show X.A.units + 1 + 64 < cLine; omega) dl oq rb dk op ra) _ _ ?_
  rw [e]
  exact ⟨.bl (dEq ps qs), H, I, rfl, q⟩
end
end WL
end L2
namespace L2
namespace WL
open PySem PySem.Spec PyProof.Rows K1
/-- whether a value is a cell -/
def inWeb (rs : Rws) : V → Bool
  | .str z => decide (z ∈ rs.map Prod.fst)
  | _ => false
def spCon (K : PySem.W.Frag) (C : Addr) : Sp := fun vs H Q _ => ∃ (p : Addr) (x : V) (b : Bool) (rs : Rws), vs = [.ref p, x] ∧ IsWeb K H C p rs ∧ Good rs ∧ IsN K H x b ∧ ∀ H', Same H H' → Q (.bl (inWeb rs x)) H'
theorem isn_in {K : PySem.W.Frag} {H : Hp} {x : V} {b : Bool} {rs : Rws} (g : Good rs) (h : IsN K H x b) : (b = false → inWeb rs x = false) ∧ (b = true → ∃ z, x = .str z) := by
  rcases h with ⟨z, rfl, _, rfl⟩ | ⟨t, ty, kt, rfl⟩
  · refine ⟨fun e => decide_eq_false fun m => ?_, fun _ => ⟨z, rfl⟩⟩
    obtain ⟨r, hr, rfl⟩ := List.mem_map.mp m
    rw [g.nm r hr] at e
    cases e
  · refine ⟨fun _ => ?_, fun e => by cases e⟩
    cases x with
    | str z =>
      exfalso
      cases ty with
      | base h =>
        cases h
        rw [kit_ty (K := K) (a := "str") (b := "str") (r := true) (by decide +kernel)] at kt
        cases kt
    | _ => rfl
def spLenW (K : PySem.W.Frag) (C : Addr) : Sp := fun vs H Q _ => ∃ (p : Addr) (rs : Rws), vs = [.ref p] ∧ IsWeb K H C p rs ∧ Q (.int (rs.length : Nat)) H
def spCC (K : PySem.W.Frag) (C CU : Addr) : Sp := fun vs H Q E => ∃ (p : Addr) (v : V) (xs : List V) (rs : Rws), vs = [.ref p, v] ∧ Seq K H v xs ∧ IsWeb K H C p rs ∧ Good rs ∧ (∀ x ∈ xs, ∃ b, IsN K H x b) ∧
  ((xs.all (inWeb rs) = true ∧ ∀ H', Same H H' → Q .non H') ∨ ∃ x, xs.find? (fun x => !inWeb rs x) = some x ∧ Rz H E CU "cell" x)
def spSrc (K : PySem.W.Frag) (C CU : Addr) (f : Rws → Rws) : Sp := fun vs H Q E => ∃ (p : Addr) (x : V) (b : Bool) (rs : Rws), vs = [.ref p, x] ∧ IsWeb K H C p rs ∧ Good rs ∧ IsN K H x b ∧
  ((∃ z xs, x = .str z ∧ srcs (f rs) z = some xs ∧ z ∈ rs.map Prod.fst ∧ ∀ H' a, Same H H' → SqT K H' a (xs.map .str) → Q (.ref a) H') ∨ (inWeb rs x = false ∧ Rz H E CU "cell" x))
theorem Rz.up {H H1 : Hp} {E : XK} {C : Addr} {f : Str} {v : V} (h : Rz H E C f v) (s : Same H H1) : Rz H1 E C f v := fun H' d s' e => h H' d (s.trans s') e
end WL
end L2
namespace L2
namespace WL
open PySem PySem.Spec PyProof.Rows K1
/-- what isinstance asks of the class Web -/
structure Wk (K : PySem.W.Frag) (C : Addr) : Prop where
  ins : ∀ {H : Hp} {p dx : Addr} {fs : List (Str × V)}, H p = some (.ins C dx fs) → TyX K H (.ref p) (.ref C)
  self : PySem.W.kitOne K (.ref C) (.ref C) = some true
def wEq (rs qs : Rws) : Bool := decide (rs.map Prod.fst = qs.map Prod.fst) && dEq rs qs
def wOk (rs : Rws) : Prop := sOk (rs.map Prod.fst) ∧ rOk rs
theorem isNm_ok {z : Str} (h : isNm z = true) : ∀ c ∈ z.cps.toList, c < 1114112 := fun c m => by
  unfold isNm at h
  obtain ⟨_, h⟩ := Bool.and_eq_true_iff.mp h
  obtain ⟨_, h⟩ := Bool.and_eq_true_iff.mp h
  have := List.all_eq_true.mp h c m
  unfold okc at this
  obtain ⟨_, h2⟩ := Bool.and_eq_true_iff.mp this
  have := of_decide_eq_true h2
  omega
theorem Good.ok {rs : Rws} (g : Good rs) : wOk rs := ⟨fun x hx => by
  obtain ⟨r, hr, rfl⟩ := List.mem_map.mp hx
  exact isNm_ok (g.nm r hr), fun r hr x hx => by
  obtain ⟨r', hr', rfl⟩ := List.mem_map.mp ((g.sr r hr).2.2 x hx)
  exact isNm_ok (g.nm r' hr')⟩
def spEqW (K : PySem.W.Frag) (C : Addr) : Sp := fun vs H Q _ => ∃ (p : Addr) (y : V) (rs : Rws), vs = [.ref p, y] ∧ IsWeb K H C p rs ∧ wOk rs ∧
  ((∃ t, TyX K H y t ∧ PySem.W.kitOne K t (.ref C) = some false ∧ Q (.bl false) H) ∨ ∃ p2 qs, y = .ref p2 ∧ IsWeb K H C p2 qs ∧ wOk qs ∧ Q (.bl (wEq rs qs)) H)
end WL
end L2
set_option Elab.async false
set_option linter.all false
set_option maxRecDepth 100000
set_option maxHeartbeats 4000000
namespace L2
namespace WL
open PySem PySem.Spec PyProof.Rows K1
/-- list(e.values()) -/
def tListVals (te : TE) : TE := fun σ H Q => te σ H fun x H1 => ∃ (d : Addr) (kvs : List (Key × V)), x = .ref d ∧ H1 d = some (.dK kvs) ∧ ∀ p, H1 p = none → Q (.ref p) (upd H1 p (.lst (kvs.map (·.2))))
theorem vals_of {kvs : List (Key × V)} {vs : List (Key × Value)} (r : KV kvs vs) : Vals (kvs.map (·.2)) (vs.map (·.2)) := by
  unfold KV at r
  induction r with
  | nil => exact .nil
  | cons h _ ih => exact .cons h.2 ih
section
variable {X : Cx} {e : Expr} {te : TE} {p apos cpos pos : Pos}
theorem pe_listVals (hc : X.calm = true) (he : PE X e te) (hg : Gl X "list") (hm : X.mg "list" = none) (hbase : attributeBase e "values" X.env (eval e X.env) = eval e X.env := by rfl) (hline : (apos.endLine == cpos.line) = true := by rfl)
    (hs : starEach [.Call (.Attribute e "values" apos) [] [] cpos] X.env = (false, eval (.Call (.Attribute e "values" apos) [] [] cpos) X.env) :: starEach [] X.env := by rfl) :
    PE X (.Call (.Name "list" p) [.Call (.Attribute e "values" apos) [] [] cpos] [] pos) (tListVals te) := by
  refine ⟨fun pins s σ H Q I hq => ?_⟩
  refine wpAny_Call_Name_kw (ld_blt I hg hm PyProof.Rows.boot_list (PyProof.Rows.callWith_type1 ?_ hs rfl))
  rw [hs]
  show wpAny _ _ (spliced ((false, eval (.Call (.Attribute e "values" apos) [] [] cpos) X.env) :: backTo pos (starEach [] X.env))) _ _ s
  refine Calls.spliced_cons (wpAny_Call_method (T := "dict") (id := "dict.values") hbase rfl hline F.plainAttrs_dict F.slot_dict_values F.type_dict_values (thn (he.run pins s σ H _ I hq) fun u s1 ⟨x, H1, I1, rx, d, kvs, ex, hd, q⟩ => ?_))
  subst ex
  obtain rfl : u = Value.ref d := rx
  obtain ⟨hz, hs0, vs, kv, hdo⟩ := I1.hok d _ hd
  obtain ⟨ep, hat⟩ := hdo.dictAt
  have lk : kvs.length = vs.length := Paired.length kv
  have I2 : Inv X pins σ H1 { s1 with heap := s1.heap.push { cls := .type "dict_values", data := .fields #[.ref d] } } := I1.kept (t' := s1.toks) fun b ob q => Heap.get?_push_of_some _ q
  refine ⟨hdo.typeIs, hdo.mapOf.noDict, ?_⟩
  show wpAny _ _ (callWith cpos (.builtin "dict.values") [.ref d] [] []) _ X.xe s1
  refine method_meetsIn F.slot_dict_values F.entry_dict_values rfl (PySem.evalArgs_none ⟨rfl, hdo.typeIs, F.args_dict_values_1 _, _, meets_dict_values (mixKind X.prog X.w) d hs0, ⟨vs, hdo⟩, Calls.spliced_nil ?_⟩)
  refine PySem.W.kdl_call (PySem.W.kdl_values (knd := mixKind X.prog X.w) (kvs := vs) (ep := ep)) (I1.ok.hd hc) ⟨⟨_, Heap.get?_push_size _ rfl, rfl, rfl⟩, hat.push _⟩ (by omega) fun h' tk acc c hk hD hacc => ?_
  refine ⟨.ref _, _, I2.laid (t' := tk) (o := .lst (kvs.map (·.2))) hk (Nat.le_refl _) ⟨by rw [List.length_map]; exact hz, acc.toList, c, ?_, ?_⟩, rfl, q _ (I2.hok.fresh (Nat.le_refl _))⟩
  · have ea : acc.toList = vs.map (·.2) := by
      apply List.ext_getElem?
      intro i
      rw [List.getElem?_map, Array.getElem?_toList]
      cases hv : acc[i]? with
      | some v =>
        obtain ⟨k, hk'⟩ := hacc.2 i v hv
        rw [hk']
        rfl
      | none =>
        have : acc.size ≤ i := Array.getElem?_eq_none_iff.mp hv
        rw [hacc.1] at this
        rw [List.getElem?_eq_none this]
        rfl
    rw [ea]
    exact vals_of kv
  · rw [Array.toArray_toList]
    exact hD
end
end WL
end L2
set_option Elab.async false
set_option linter.all false
set_option maxRecDepth 100000
set_option maxHeartbeats 4000000
namespace L2
namespace WL
open PySem PySem.Spec PyProof.Rows K1
/-! ### walks along arrows -/
/-- behind k arrows from b, all cells but b told ones -/
def wk (rs : Rws) (cs : List Str) (b : Str) : Nat → Str → Prop
  | 0, x => x = b
  | k + 1, x => x ∈ cs ∧ ∃ y, wk rs cs b k y ∧ x ∈ tgt rs y
/-- k + 1 arrows from b back to b -/
def clo (rs : Rws) (cs : List Str) (b : Str) (k : Nat) : Prop := ∃ y, wk rs cs b k y ∧ b ∈ tgt rs y
inductive Pth (rs : Rws) (cs : List Str) (b : Str) : Nat → List Str → Prop
  | nil : Pth rs cs b 0 [b]
  | snoc {k : Nat} {p : List Str} {y x : Str} (h : Pth rs cs b k p) (l : p.getLast? = some y) (c : x ∈ cs) (t : x ∈ tgt rs y) : Pth rs cs b (k + 1) (p ++ [x])
theorem Pth.len {rs : Rws} {cs : List Str} {b : Str} {k : Nat} {p : List Str} (h : Pth rs cs b k p) : p.length = k + 1 := by
  induction h with
  | nil => rfl
  | snoc h l c t ih =>
    rw [List.length_append, ih]
    rfl
theorem Pth.last {rs : Rws} {cs : List Str} {b : Str} {k : Nat} {p : List Str} (h : Pth rs cs b k p) : ∃ y, p.getLast? = some y ∧ wk rs cs b k y := by
  induction h with
  | nil => exact ⟨b, rfl, rfl⟩
  | @snoc k p y x h l c t ih =>
    obtain ⟨y', e1, e2⟩ := ih
    rw [l] at e1
    cases e1
    exact ⟨x, by simp, c, y, e2, t⟩
theorem Pth.mem {rs : Rws} {cs : List Str} {b : Str} (hb : b ∈ cs) {k : Nat} {p : List Str} (h : Pth rs cs b k p) : ∀ x ∈ p, x ∈ cs := by
  induction h with
  | nil =>
    intro x hx
    have : x = b := by simpa using hx
    rw [this]
    exact hb
  | @snoc k p y x h l c t ih =>
    intro z hz
    rcases List.mem_append.mp hz with hz | hz
    · exact ih z hz
    · have : z = x := by simpa using hz
      rw [this]
      exact c
theorem Pth.head {rs : Rws} {cs : List Str} {b : Str} {k : Nat} {p : List Str} (h : Pth rs cs b k p) : p[0]? = some b := by
  induction h with
  | nil => rfl
  | @snoc k p y x h l c t ih =>
    have : 0 < p.length := by
      rw [h.len]
      omega
    rw [List.getElem?_append_left this]
    exact ih
theorem Pth.arrow {rs : Rws} {cs : List Str} {b : Str} {k : Nat} {p : List Str} (h : Pth rs cs b k p) : ∀ i x y, p[i]? = some x → p[i + 1]? = some y → y ∈ tgt rs x := by
  induction h with
  | nil =>
    intro i x y h1 h2
    rw [List.getElem?_eq_none (by simp)] at h2
    cases h2
  | @snoc k p y x h l c t ih =>
    intro i u v h1 h2
    have hl := h.len
    have lt : i + 1 < (p ++ [x]).length := (List.getElem?_eq_some_iff.mp h2).1
    rw [List.length_append] at lt
    have lt' : i + 1 < p.length + 1 := lt
    by_cases hi : i + 1 < p.length
    · rw [List.getElem?_append_left hi] at h2
      rw [List.getElem?_append_left (by omega)] at h1
      exact ih i u v h1 h2
    · have ei : i + 1 = p.length := by omega
      rw [List.getElem?_append_right (by omega)] at h2
      have e2 : v = x := by
        rw [ei, Nat.sub_self] at h2
        exact (Option.some.inj h2).symm
      rw [List.getElem?_append_left (by omega)] at h1
      have e1 : p.getLast? = some u := by
        rw [List.getLast?_eq_getElem?]
        have : p.length - 1 = i := by omega
        rw [this]
        exact h1
      rw [l] at e1
      cases e1
      rw [e2]
      exact t
/-- ps are the walks of k arrows: each one is, each end has one -/
structure Lev (rs : Rws) (cs : List Str) (b : Str) (k : Nat) (ps : List (List Str)) : Prop where
  pth : ∀ p ∈ ps, Pth rs cs b k p
  all : ∀ x, wk rs cs b k x → ∃ p ∈ ps, p.getLast? = some x
/-- qs are ps one cell longer -/
structure Lng (rs : Rws) (cs : List Str) (ps qs : List (List Str)) : Prop where
  of : ∀ q ∈ qs, ∃ p ∈ ps, ∃ y x, p.getLast? = some y ∧ x ∈ tgt rs y ∧ x ∈ cs ∧ q = p ++ [x]
  all : ∀ p ∈ ps, ∀ y, p.getLast? = some y → ∀ x ∈ tgt rs y, x ∈ cs → ∃ q ∈ qs, q.getLast? = some x
theorem Lev.next {rs : Rws} {cs : List Str} {b : Str} {k : Nat} {ps qs : List (List Str)} (h : Lev rs cs b k ps) (l : Lng rs cs ps qs) : Lev rs cs b (k + 1) qs where
  pth := fun q hq => by
    obtain ⟨p, hp, y, x, e1, e2, e3, rfl⟩ := l.of q hq
    exact .snoc (h.pth p hp) e1 e3 e2
  all := fun x hx => by
    obtain ⟨c, y, hy, t⟩ := hx
    obtain ⟨p, hp, e⟩ := h.all y hy
    exact l.all p hp y e x t c
theorem Lev.zero {rs : Rws} {cs : List Str} {b : Str} : Lev rs cs b 0 [[b]] where
  pth := fun p hp => by
    have : p = [b] := by simpa using hp
    rw [this]
    exact .nil
  all := fun x hx => ⟨[b], by simp, by rw [show x = b from hx]; rfl⟩
theorem wk_none {rs : Rws} {cs : List Str} {b : Str} {k : Nat} (h : ∀ x, ¬ wk rs cs b k x) : ∀ j x, ¬ wk rs cs b (k + j) x
  | 0, x => h x
  | j + 1, x => fun z => by
    obtain ⟨_, y, hy, _⟩ := z
    exact wk_none h j y hy
/-! ### the dict of longer paths -/
def putM (M : Rws) (x : Str) (xs : List Str) : Rws := if (M.any fun m => decide (m.1 = x)) = true then M.map fun m => if m.1 = x then (m.1, xs) else m else M ++ [(x, xs)]
theorem putM_mem {M : Rws} {x : Str} {xs : List Str} {m : Str × List Str} (h : m ∈ putM M x xs) : m ∈ M ∨ m = (x, xs) := by
  unfold putM at h
  split at h
  · obtain ⟨m', hm', e⟩ := List.mem_map.mp h
    by_cases z : m'.1 = x
    · rw [if_pos z] at e
      exact .inr (by rw [← e, z])
    · rw [if_neg z] at e
      exact .inl (e ▸ hm')
  · rcases List.mem_append.mp h with h | h
    · exact .inl h
    · exact .inr (by simpa using h)
theorem putM_keys {M : Rws} {x : Str} {xs : List Str} : (putM M x xs).map Prod.fst = if (M.any fun m => decide (m.1 = x)) = true then M.map Prod.fst else M.map Prod.fst ++ [x] := by
  unfold putM
  split
  · rw [List.map_map]
    apply List.map_congr_left
    intro m _
    show (if m.1 = x then (m.1, xs) else m).1 = m.1
    split <;> rfl
  · rw [List.map_append]
    rfl
theorem any_key {M : Rws} {x : Str} : (M.any fun m => decide (m.1 = x)) = true ↔ x ∈ M.map Prod.fst := by
  rw [List.any_eq_true]
  constructor
  · rintro ⟨m, hm, e⟩
    exact List.mem_map.mpr ⟨m, hm, of_decide_eq_true e⟩
  · intro h
    obtain ⟨m, hm, e⟩ := List.mem_map.mp h
    exact ⟨m, hm, decide_eq_true e⟩
theorem putM_nodup {M : Rws} {x : Str} {xs : List Str} (nd : (M.map Prod.fst).Nodup) : ((putM M x xs).map Prod.fst).Nodup := by
  rw [putM_keys]
  split
  · exact nd
  · rename_i h
    rw [any_key] at h
    rw [List.nodup_append]
    refine ⟨nd, by simp, fun a ha b hb => ?_⟩
    have : b = x := by simpa using hb
    rw [this]
    exact fun e => h (e ▸ ha)
theorem putM_has {M : Rws} {x : Str} {xs : List Str} {z : Str} (h : z ∈ M.map Prod.fst ∨ z = x) : z ∈ (putM M x xs).map Prod.fst := by
  rw [putM_keys]
  split
  · rename_i k
    rcases h with h | h
    · exact h
    · rw [h]
      exact any_key.mp k
  · rcases h with h | h
    · exact List.mem_append_left _ h
    · rw [h]
      simp
/-- a dict from texts to lists of texts -/
def DLst (H : Hp) (kvs : List (Key × V)) (M : Rws) : Prop := Paired (fun (kv : Key × V) (m : Str × List Str) => kv.1 = kS m.1 ∧ ∃ a, kv.2 = .ref a ∧ H a = some (.lst (m.2.map .str))) kvs M
theorem DLst.same {H H' : Hp} {kvs : List (Key × V)} {M : Rws} (h : DLst H kvs M) (s : Same H H') : DLst H' kvs M := Paired.imp (fun _ _ ⟨e, a, e2, q⟩ => ⟨e, a, e2, s _ _ q⟩) h
theorem DLst.any {H : Hp} {x : Str} : ∀ {kvs : List (Key × V)} {M : Rws}, DLst H kvs M → (kvs.any fun kv => decide (kv.1 = kS x)) = (M.any fun m => decide (m.1 = x))
  | _, _, .nil => rfl
  | kv :: ks, m :: ms, .cons h t => by
    rw [List.any_cons, List.any_cons, DLst.any t]
    congr 1
    rw [h.1]
    by_cases e : m.1 = x
    · rw [decide_eq_true e, decide_eq_true (by rw [e])]
    · have e2 : ¬ kS m.1 = kS x := fun z => e (Sum.inr.inj z)
      rw [decide_eq_false e, decide_eq_false e2]
theorem DLst.repl {H : Hp} {x : Str} {xs : List Str} {q : Addr} (hq : H q = some (.lst (xs.map .str))) : ∀ {kvs : List (Key × V)} {M : Rws}, DLst H kvs M →
    DLst H (kvs.map fun kv => if kv.1 = kS x then (kv.1, .ref q) else kv) (M.map fun m => if m.1 = x then (m.1, xs) else m)
  | _, _, .nil => .nil
  | kv :: ks, m :: ms, .cons h t => by
    rw [List.map_cons, List.map_cons]
    refine .cons ?_ (DLst.repl hq t)
    by_cases e : m.1 = x
    · rw [if_pos e, if_pos (by rw [h.1, e])]
      exact ⟨h.1, q, rfl, hq⟩
    · rw [if_neg e, if_neg (by rw [h.1]; exact fun z => e (Sum.inr.inj z))]
      exact h
theorem DLst.put {H : Hp} {x : Str} {xs : List Str} {q : Addr} {kvs : List (Key × V)} {M : Rws} (h : DLst H kvs M) (hq : H q = some (.lst (xs.map .str))) : DLst H (putK kvs (kS x) (.ref q)) (putM M x xs) := by
  have e := h.any (x := x)
  unfold putK putM
  rw [e]
  split
  · exact h.repl hq
  · exact Paired.snoc h ⟨rfl, q, rfl, hq⟩
/-- a list of lists of texts -/
def PthV (H : Hp) (v : V) (q : List Str) : Prop := ∃ a, v = .ref a ∧ H a = some (.lst (q.map .str))
theorem PthV.same {H H' : Hp} {v : V} {q : List Str} (h : PthV H v q) (s : Same H H') : PthV H' v q := let ⟨a, e, b⟩ := h; ⟨a, e, s _ _ b⟩
def PathsAt (H : Hp) (l : Addr) (ps : List (List Str)) : Prop := ∃ vs, H l = some (.lst vs) ∧ Paired (PthV H) vs ps
theorem PathsAt.same {H H' : Hp} {l : Addr} {ps : List (List Str)} (h : PathsAt H l ps) (s : Same H H') : PathsAt H' l ps := let ⟨vs, e, a⟩ := h; ⟨vs, s _ _ e, Paired.imp (fun _ _ r => r.same s) a⟩
theorem DLst.vals {H : Hp} : ∀ {kvs : List (Key × V)} {M : Rws}, DLst H kvs M → Paired (PthV H) (kvs.map (·.2)) (M.map Prod.snd)
  | _, _, .nil => .nil
  | _, _, .cons h t => .cons h.2 (DLst.vals t)
theorem tgt_cell {rs : Rws} {y x : Str} (h : x ∈ tgt rs y) : x ∈ rs.map Prod.fst := by
  unfold tgt at h
  obtain ⟨r, hr, rfl⟩ := List.mem_map.mp h
  exact List.mem_map.mpr ⟨r, (List.mem_filter.mp hr).1, rfl⟩
theorem tgt_len {rs : Rws} {y : Str} : (tgt rs y).length ≤ rs.length := by
  unfold tgt
  rw [List.length_map]
  exact List.length_filter_le _ _
theorem srcs_tgt {rs : Rws} (nd : (rs.map Prod.fst).Nodup) {y : Str} (h : y ∈ rs.map Prod.fst) : srcs (rs.map fun r => (r.1, tgt rs r.1)) y = some (tgt rs y) := by
  obtain ⟨r, hr, rfl⟩ := List.mem_map.mp h
  have := srcs_at (ps := rs.map fun r => (r.1, tgt rs r.1)) (by rw [List.map_map]; exact nd) (p := (r.1, tgt rs r.1)) (List.mem_map.mpr ⟨r, hr, rfl⟩)
  exact this
/-- one cell longer -/
def spLng (K : PySem.W.Frag) (C : Addr) : Sp := fun vs H Q _ => ∃ (p l : Addr) (vc : V) (rs : Rws) (cs : List Str) (ps : List (List Str)), vs = [.ref p, vc, .ref l] ∧ IsWeb K H C p rs ∧ Good rs ∧ Seq K H vc (cs.map .str) ∧ PathsAt H l ps ∧ ps.length ≤ 1000 ∧ (∀ q ∈ ps, q.length ≤ 1000 ∧ ∃ y, q.getLast? = some y ∧ y ∈ rs.map Prod.fst) ∧
  ∀ H' l' qs, Same H H' → PathsAt H' l' qs → qs.length ≤ rs.length → Lng rs cs ps qs → Q (.ref l') H'
end WL
end L2
set_option Elab.async false
set_option linter.all false
set_option maxRecDepth 100000
set_option maxHeartbeats 4000000
namespace L2
namespace WL
open PySem PySem.Spec PyProof.Rows K1
theorem wk_trans {rs : Rws} {cs : List Str} {b z : Str} {a : Nat} (h : wk rs cs b a z) : ∀ {d : Nat} {y : Str}, wk rs cs z d y → wk rs cs b (a + d) y
  | 0, y, e => by
    rw [show y = z from e]
    exact h
  | d + 1, y, ⟨c, u, hu, t⟩ => ⟨c, u, wk_trans h hu, t⟩
theorem Pth.between {rs : Rws} {cs : List Str} {b : Str} {k : Nat} {p : List Str} (h : Pth rs cs b k p) : ∀ i j x y, i ≤ j → p[i]? = some x → p[j]? = some y → wk rs cs x (j - i) y := by
  induction h with
  | nil =>
    intro i j x y hij h1 h2
    have l1 : j < 1 := (List.getElem?_eq_some_iff.mp h2).1
    have ei : i = 0 := by omega
    have ej : j = 0 := by omega
    subst ei
    subst ej
    cases h1
    cases h2
    exact rfl
  | @snoc k p u x h l c t ih =>
    intro i j v y hij h1 h2
    have hl := h.len
    have lt : j < (p ++ [x]).length := (List.getElem?_eq_some_iff.mp h2).1
    rw [List.length_append] at lt
    have lt' : j < p.length + 1 := lt
    by_cases hj : j < p.length
    · rw [List.getElem?_append_left hj] at h2
      rw [List.getElem?_append_left (by omega)] at h1
      exact ih i j v y hij h1 h2
    · have ej : j = p.length := by omega
      rw [List.getElem?_append_right (by omega), ej, Nat.sub_self] at h2
      have e2 : y = x := (Option.some.inj h2).symm
      by_cases hi : i = j
      · rw [hi, ej, List.getElem?_append_right (by omega), Nat.sub_self] at h1
        have e1 : v = x := (Option.some.inj h1).symm
        rw [hi, Nat.sub_self, e1, e2]
        exact rfl
      · rw [List.getElem?_append_left (by omega)] at h1
        have hu : p[p.length - 1]? = some u := by
          rw [← List.getLast?_eq_getElem?]
          exact l
        have := ih i (p.length - 1) v u (by omega) h1 hu
        have e3 : j - i = (p.length - 1 - i) + 1 := by omega
        rw [e3, e2]
        exact ⟨c, u, this, t⟩
/-- the least number of arrows back -/
def Min (rs : Rws) (cs : List Str) (b : Str) (k : Nat) : Prop := clo rs cs b k ∧ ∀ j, j < k → ¬ clo rs cs b j
theorem min_of {rs : Rws} {cs : List Str} {b : Str} : ∀ {k : Nat}, clo rs cs b k → ∃ m, m ≤ k ∧ Min rs cs b m := by
  intro k
  induction k using Nat.strongRecOn with
  | _ k ih =>
    intro h
    by_cases z : ∃ j, j < k ∧ clo rs cs b j
    · obtain ⟨j, hj, hc⟩ := z
      obtain ⟨m, hm, h2⟩ := ih j hj hc
      exact ⟨m, by omega, h2⟩
    · exact ⟨k, Nat.le_refl _, h, fun j hj hc => z ⟨j, hj, hc⟩⟩
theorem wk_path {rs : Rws} {cs : List Str} {b : Str} : ∀ {k : Nat} {x : Str}, wk rs cs b k x → ∃ p, Pth rs cs b k p ∧ p.getLast? = some x
  | 0, x, e => ⟨[b], .nil, by rw [show x = b from e]; rfl⟩
  | k + 1, x, ⟨c, u, hu, t⟩ => by
    obtain ⟨p, h1, h2⟩ := wk_path hu
    exact ⟨p ++ [x], .snoc h1 h2 c t, by simp⟩
theorem min_short {rs : Rws} {cs : List Str} {b : Str} {k : Nat} (h : Min rs cs b k) (hb : b ∈ cs) (hc : ∀ x ∈ cs, x ∈ rs.map Prod.fst) : k < rs.length := by
  obtain ⟨⟨y, hy, t⟩, hm⟩ := h
  obtain ⟨p, hp, hl⟩ := wk_path hy
  have nd : p.Nodup := by
    unfold List.Nodup
    rw [List.pairwise_iff_getElem]
    intro a c hal hcl hac e
    have hlen := hp.len
    obtain ⟨z, hz⟩ : ∃ z, p[a]? = some z := ⟨_, List.getElem?_eq_getElem hal⟩
    have hz2 : p[c]? = some z := by
      rw [List.getElem?_eq_getElem hcl, ← e, ← List.getElem?_eq_getElem hal]
      exact hz
    have h1 := hp.between 0 a b z (by omega) hp.head hz
    have hy2 : p[k]? = some y := by
      rw [List.getLast?_eq_getElem?, hlen] at hl
      exact hl
    have h2 := hp.between c k z y (by omega) hz2 hy2
    have h3 := wk_trans h1 h2
    exact hm (a - 0 + (k - c)) (by omega) ⟨y, h3, t⟩
  have := pig nd (F := rs.map Prod.fst) fun x hx => hc x (hp.mem hb x hx)
  rw [hp.len, List.length_map] at this
  omega
theorem none_of {rs : Rws} {cs : List Str} {b : Str} {k : Nat} (h : ∀ j, j < k → ¬ clo rs cs b j) (hk : rs.length ≤ k) (hb : b ∈ cs) (hc : ∀ x ∈ cs, x ∈ rs.map Prod.fst) : ∀ j, ¬ clo rs cs b j := fun j hj => by
  obtain ⟨m, _, hm⟩ := min_of hj
  exact h m (by have := min_short hm hb hc; omega) hm.1
theorem none_of_empty {rs : Rws} {cs : List Str} {b : Str} {k : Nat} (h : ∀ j, j < k → ¬ clo rs cs b j) (hk : ∀ x, ¬ wk rs cs b k x) : ∀ j, ¬ clo rs cs b j := fun j ⟨y, hy, t⟩ => by
  by_cases z : j < k
  · exact h j z ⟨y, hy, t⟩
  · have e : j = k + (j - k) := by omega
    rw [e] at hy
    exact wk_none hk _ _ hy
/-- a shortest ring from one cell -/
def spRF (K : PySem.W.Frag) (C : Addr) : Sp := fun vs H Q _ => ∃ (p : Addr) (vc : V) (b : Str) (rs : Rws) (cs : List Str), vs = [.ref p, vc, .str b] ∧ IsWeb K H C p rs ∧ Good rs ∧ Seq K H vc (cs.map .str) ∧ b ∈ cs ∧ (∀ x ∈ cs, x ∈ rs.map Prod.fst) ∧
  (∀ H' q k path y, Same H H' → Min rs cs b k → Pth rs cs b k path → path.getLast? = some y → b ∈ tgt rs y → H' q = some (.lst ((path ++ [b]).map .str)) → Q (.ref q) H') ∧ (∀ H', Same H H' → (∀ k, ¬ clo rs cs b k) → Q .non H')
end WL
end L2
namespace L2
namespace WL
open PySem PySem.Spec PyProof.Rows K1
/-- q is a ring from b, of k + 1 arrows -/
def RingAt (rs : Rws) (cs : List Str) (H : Hp) (q : Addr) (b : Str) (k : Nat) : Prop := b ∈ cs ∧ Min rs cs b k ∧ ∃ path y, Pth rs cs b k path ∧ path.getLast? = some y ∧ b ∈ tgt rs y ∧ H q = some (.lst ((path ++ [b]).map .str))
theorem RingAt.same {rs : Rws} {cs : List Str} {H H' : Hp} {q : Addr} {b : Str} {k : Nat} (h : RingAt rs cs H q b k) (s : Same H H') : RingAt rs cs H' q b k := let ⟨a, c, p, y, h1, h2, h3, h4⟩ := h; ⟨a, c, p, y, h1, h2, h3, s _ _ h4⟩
theorem RingAt.len {rs : Rws} {cs : List Str} {H : Hp} {q : Addr} {b : Str} {k : Nat} (h : RingAt rs cs H q b k) : ∃ xs : List Str, H q = some (.lst (xs.map .str)) ∧ xs.length = k + 2 := by
  obtain ⟨_, _, p, y, h1, _, _, h4⟩ := h
  exact ⟨p ++ [b], h4, by rw [List.length_append, h1.len]; rfl⟩
def spRing (K : PySem.W.Frag) (C CU : Addr) : Sp := fun vs H Q E => ∃ (p : Addr) (vc : V) (xs : List V) (rs : Rws), vs = [.ref p, vc] ∧ IsWeb K H C p rs ∧ Good rs ∧ Seq K H vc xs ∧ (∀ x ∈ xs, ∃ b, IsN K H x b) ∧
  ((∃ x, xs.find? (fun x => !inWeb rs x) = some x ∧ Rz H E CU "cell" x) ∨ ∃ cs : List Str, xs = cs.map .str ∧ (∀ x ∈ cs, x ∈ rs.map Prod.fst) ∧
    (∀ H' q b k, Same H H' → RingAt rs cs H' q b k → (∀ b' ∈ cs, ∀ k', clo rs cs b' k' → k ≤ k') → Q (.ref q) H') ∧ (∀ H', Same H H' → (∀ b' ∈ cs, ∀ k, ¬ clo rs cs b' k) → Q .non H'))
end WL
end L2
set_option Elab.async false
set_option linter.all false
set_option maxRecDepth 100000
set_option maxHeartbeats 4000000
namespace L2
namespace WL
open PySem PySem.Spec PyProof.Rows K1
/-! ### going out level by level -/
theorem tgt_iff {rs : Rws} {z x : Str} : x ∈ tgt rs z ↔ ∃ r ∈ rs, z ∈ r.2 ∧ r.1 = x := by
  unfold tgt
  rw [List.mem_map]
  constructor
  · rintro ⟨r, hr, e⟩
    obtain ⟨h1, h2⟩ := List.mem_filter.mp hr
    exact ⟨r, h1, of_decide_eq_true h2, e⟩
  · rintro ⟨r, h1, h2, e⟩
    exact ⟨r, List.mem_filter.mpr ⟨h1, decide_eq_true h2⟩, e⟩
/-- is a row's cell among the told ones, with a source in the level? -/
def onto (cs L : List Str) (r : Str × List Str) : Bool := decide (r.1 ∈ cs) && (r.2.map fun s => decide (s ∈ L)).any id
theorem onto_iff {cs L : List Str} {r : Str × List Str} : onto cs L r = true ↔ r.1 ∈ cs ∧ ∃ s ∈ r.2, s ∈ L := by
  unfold onto
  rw [Bool.and_eq_true, decide_eq_true_iff, List.any_map, List.any_eq_true]
  constructor
  · rintro ⟨h1, s, h2, h3⟩
    exact ⟨h1, s, h2, of_decide_eq_true h3⟩
  · rintro ⟨h1, s, h2, h3⟩
    exact ⟨h1, s, h2, decide_eq_true h3⟩
def nxt (rs : Rws) (cs M L : List Str) : List Str := (rs.filter fun r => onto cs L r && !decide (r.1 ∈ M)).map Prod.fst
theorem nxt_iff {rs : Rws} {cs M L : List Str} {x : Str} : x ∈ nxt rs cs M L ↔ x ∈ cs ∧ x ∉ M ∧ ∃ y ∈ L, x ∈ tgt rs y := by
  unfold nxt
  rw [List.mem_map]
  constructor
  · rintro ⟨r, hr, rfl⟩
    obtain ⟨h1, h2⟩ := List.mem_filter.mp hr
    have h2' : (onto cs L r && !decide (r.1 ∈ M)) = true := h2
    rw [Bool.and_eq_true] at h2'
    obtain ⟨h3, s, h4, h5⟩ := onto_iff.mp h2'.1
    refine ⟨h3, fun h => ?_, s, h5, tgt_iff.mpr ⟨r, h1, h4, rfl⟩⟩
    have := h2'.2
    rw [decide_eq_true h] at this
    cases this
  · rintro ⟨h1, h2, y, h3, h4⟩
    obtain ⟨r, h5, h6, rfl⟩ := tgt_iff.mp h4
    refine ⟨r, List.mem_filter.mpr ⟨h5, ?_⟩, rfl⟩
    show (onto cs L r && !decide (r.1 ∈ M)) = true
    rw [onto_iff.mpr ⟨h1, y, h6, h3⟩, decide_eq_false h2]
    rfl
structure Bfs (rs : Rws) (cs : List Str) (b : Str) (k : Nat) (E L : List Str) : Prop where
  a : ∀ j y, j < k → wk rs cs b j y → y ∈ E
  e : ∀ y, wk rs cs b k y → y ∈ E ∨ y ∈ L
  c : ∀ x ∈ L, wk rs cs b k x
  d : ∀ x ∈ E, b ∉ tgt rs x ∧ ∀ z ∈ tgt rs x, z ∈ cs → z ∈ E ∨ z ∈ L
  nd : (E ++ L).Nodup
  sub : ∀ x ∈ E ++ L, x ∈ rs.map Prod.fst
theorem Bfs.zero {rs : Rws} {cs : List Str} {b : Str} (h : b ∈ rs.map Prod.fst) : Bfs rs cs b 0 [] [b] where
  a := fun j y hj _ => absurd hj (Nat.not_lt_zero _)
  e := fun y hy => .inr (by rw [show y = b from hy]; exact List.mem_cons_self ..)
  c := fun x hx => show x = b by simpa using hx
  d := fun x hx => nomatch hx
  nd := by simp
  sub := fun x hx => by
    have : x = b := by simpa using hx
    rw [this]
    exact h
theorem Bfs.next {rs : Rws} {cs : List Str} {b : Str} {k : Nat} {E L : List Str} (B : Bfs rs cs b k E L) (nd : (rs.map Prod.fst).Nodup) (hb : ∀ x ∈ L, b ∉ tgt rs x) : Bfs rs cs b (k + 1) (E ++ L) (nxt rs cs (E ++ L) L) where
  a := fun j y hj hy => by
    by_cases z : j = k
    · rw [z] at hy
      exact List.mem_append.mpr (B.e y hy)
    · exact List.mem_append_left _ (B.a j y (by omega) hy)
  e := fun z ⟨hc, y, hy, ht⟩ => by
    rcases B.e y hy with h | h
    · exact .inl (List.mem_append.mpr ((B.d y h).2 z ht hc))
    · by_cases m : z ∈ E ++ L
      · exact .inl m
      · exact .inr (nxt_iff.mpr ⟨hc, m, y, h, ht⟩)
  c := fun x hx => by
    obtain ⟨h1, h2, y, h3, h4⟩ := nxt_iff.mp hx
    exact ⟨h1, y, B.c y h3, h4⟩
  d := fun x hx => by
    rcases List.mem_append.mp hx with h | h
    · exact ⟨(B.d x h).1, fun z hz hc => .inl (List.mem_append.mpr ((B.d x h).2 z hz hc))⟩
    · refine ⟨hb x h, fun z hz hc => ?_⟩
      by_cases m : z ∈ E ++ L
      · exact .inl m
      · exact .inr (nxt_iff.mpr ⟨hc, m, x, h, hz⟩)
  nd := List.nodup_append.mpr ⟨B.nd, (List.Nodup.sublist ((List.filter_sublist ..).map _) nd), fun x hx y hy e => by
    subst e
    exact (nxt_iff.mp hy).2.1 hx⟩
  sub := fun x hx => by
    rcases List.mem_append.mp hx with h | h
    · exact B.sub x h
    · obtain ⟨r, hr, e⟩ := List.mem_map.mp h
      exact List.mem_map.mpr ⟨r, (List.mem_filter.mp hr).1, e⟩
theorem Bfs.done {rs : Rws} {cs : List Str} {b : Str} {k : Nat} {E : List Str} (B : Bfs rs cs b k E []) : ∀ j, ¬ clo rs cs b j := fun j ⟨y, hy, ht⟩ => by
  have all : ∀ j y, wk rs cs b j y → y ∈ E := by
    intro j
    induction j with
    | zero =>
      intro y hy
      by_cases z : 0 < k
      · exact B.a 0 y z hy
      · have e : k = 0 := by omega
        rcases B.e y (by rw [e]; exact hy) with h | h
        · exact h
        · cases h
    | succ j ih =>
      rintro z ⟨hc, y, hy, ht⟩
      rcases (B.d y (ih y hy)).2 z ht hc with h | h
      · exact h
      · cases h
  exact (B.d y (all j y hy)).1 ht
theorem Bfs.hit {rs : Rws} {cs : List Str} {b : Str} {k : Nat} {E L : List Str} (B : Bfs rs cs b k E L) {x : Str} (hx : x ∈ L) (ht : b ∈ tgt rs x) : Min rs cs b k :=
  ⟨⟨x, B.c x hx, ht⟩, fun j hj ⟨y, hy, h⟩ => (B.d y (B.a j y hj hy)).1 h⟩
theorem Bfs.short {rs : Rws} {cs : List Str} {b : Str} {k : Nat} {E L : List Str} (B : Bfs rs cs b k E L) : E.length + L.length ≤ rs.length := by
  have := pig B.nd B.sub
  rw [List.length_append, List.length_map] at this
  exact this
def spRound (K : PySem.W.Frag) : Sp := fun vs H Q _ => ∃ (r c : Addr) (b : Str) (rs : Rws) (cs : List Str), vs = [.ref r, .ref c, .str b] ∧ RowsAt H r rs ∧ H c = some (.lst (cs.map .str)) ∧ (rs.map Prod.fst).Nodup ∧ rs.length ≤ 900 ∧ (∀ r ∈ rs, r.2.length ≤ 900) ∧
  sOk (rs.map Prod.fst) ∧ b ∈ rs.map Prod.fst ∧ b ∈ cs ∧ (∀ H' k, Same H H' → Min rs cs b k → Q (.int ((k + 1 : Nat) : Int)) H') ∧ (∀ H', Same H H' → (∀ k, ¬ clo rs cs b k) → Q (.int 0) H')
end WL
end L2
namespace L2
namespace WL
open PySem PySem.Spec PyProof.Rows K1
theorem nxt_take {rs : Rws} {cs M L : List Str} {i : Nat} {r : Str × List Str} (h : rs[i]? = some r) : nxt (rs.take (i + 1)) cs M L = nxt (rs.take i) cs M L ++ (if onto cs L r && !decide (r.1 ∈ M) then [r.1] else []) := by
  unfold nxt
  rw [List.take_succ, h, List.filter_append, List.map_append]
  congr 1
  show ((([r] : Rws).filter fun r => onto cs L r && !decide (r.1 ∈ M)).map Prod.fst) = _
  rw [List.filter_cons]
  split <;> rfl
theorem nxt_len {rs : Rws} {cs M L : List Str} : (nxt rs cs M L).length ≤ rs.length := by
  unfold nxt
  rw [List.length_map]
  exact List.length_filter_le ..
theorem shape_lst {xs : List Str} (h : sOk xs) : SeqAt.shaped (.list (dS xs)) = true := by
  unfold SeqAt.shaped
  have e : PyData.depth (.list (dS xs)) = PyData.depthAll (dS xs) + 1 := rfl
  rw [e, dep_strs]
  show (PyData.canLayAll0 (dS xs) && true) = true
  rw [lay_strs h]
  rfl
theorem shape_nil : SeqAt.shaped (.list []) = true := rfl
theorem nohit {rs : Rws} {cs L : List Str} {b : Str} (hb : b ∈ cs) (h : ∀ r ∈ rs, onto cs L r = true → r.1 ≠ b) : ∀ x ∈ L, b ∉ tgt rs x := fun x hx ht => by
  obtain ⟨r, h1, h2, rfl⟩ := tgt_iff.mp ht
  exact h r h1 (onto_iff.mpr ⟨hb, x, h2, hx⟩) rfl
end WL
end L2
namespace L2
namespace WL
open PySem PySem.Spec PyProof.Rows K1
/-! ### comprehensions over a list, with a condition -/
theorem lcf {K : PySem.W.Frag} {a : Addr} {xs : List V} {g : TG} {tt : TT} {te tl : TE} {vs : List Nat} {σ : St} {H : Hp} {Q : VK} (hq : SqL K H a xs) (he : ∀ Q : VK, Q (.ref a) H → tl σ H Q) (hn : xs.length ≤ 1000) (f : Nat → Option V)
    (hs : ∀ i x H' (Z : Option V → Hp → Prop), xs[i]? = some x → Same H H' → (∀ H'', Same H' H'' → Z (f i) H'') → g x (wipe σ vs) H' fun σ2 H2 => wipe σ2 vs = wipe σ vs ∧ tt σ2 H2 fun b H3 => if b = true then te σ2 H3 fun y H4 => Z (some y) H4 else Z none H3)
    (hd : ∀ D H', H D = none → Same H H' → H' D = some (.lst ((List.range xs.length).filterMap f)) → Q (.ref D) H') : tLc (iList K tl) g tt te vs σ H Q := by
  refine he _ ⟨a, rfl, ⟨_, hq⟩, fun D nD => ?_⟩
  refine lc_it (walk_list (xs := xs)) (fun i H' => Same H H' ∧ H' D = some (.lst ((List.range i).filterMap f))) ⟨same_upd nD, upd_same⟩ (fun i H' _ p => p.1.seq hq) (fun i x H' H'' hi p y => ?_) (fun H' p => hd D H' nD p.1 p.2)
  obtain ⟨rfl, hx⟩ := y
  have rs : (List.range (i + 1)).filterMap f = (List.range i).filterMap f ++ [i].filterMap f := by rw [List.range_succ, List.filterMap_append]
  refine hs i x _ (fun o H4 => match o with
    | some y => ∃ acc, H4 D = some (.lst acc) ∧ acc.length < sizeLine ∧ (Same H (upd H4 D (.lst (acc ++ [y]))) ∧ (upd H4 D (.lst (acc ++ [y]))) D = some (.lst ((List.range (i + 1)).filterMap f)))
    | none => Same H H4 ∧ H4 D = some (.lst ((List.range (i + 1)).filterMap f))) hx p.1 fun H2 s2 => ?_
  cases e : f i with
  | none =>
    refine ⟨p.1.trans s2, ?_⟩
    rw [rs]
    have : [i].filterMap f = [] := by simp [e]
    rw [this, List.append_nil]
    exact s2 _ _ p.2
  | some y =>
    refine ⟨_, s2 _ _ p.2, ?_, same_over nD (p.1.trans s2), ?_⟩
    · have := List.length_filterMap_le f (List.range i)
      rw [List.length_range] at this
      rw [sizeLine_eq]
      omega
    · rw [upd_same, rs]
      have : [i].filterMap f = [y] := by simp [e]
      rw [this]
theorem lcl {K : PySem.W.Frag} {a : Addr} {xs : List V} {g : TG} {te tl : TE} {vs : List Nat} {σ : St} {H : Hp} {Q : VK} (hq : SqL K H a xs) (he : ∀ Q : VK, Q (.ref a) H → tl σ H Q) (hn : xs.length ≤ 1000) (f : Nat → V)
    (hs : ∀ i x H' (Q' : VK), xs[i]? = some x → Same H H' → (∀ H'', Same H' H'' → Q' (f i) H'') → g x (wipe σ vs) H' fun σ2 H2 => wipe σ2 vs = wipe σ vs ∧ te σ2 H2 Q')
    (hd : ∀ D H', H D = none → Same H H' → H' D = some (.lst ((List.range xs.length).map f)) → Q (.ref D) H') : tLc (iList K tl) g tYes te vs σ H Q := by
  refine lcf hq he hn (fun i => some (f i)) (fun i x H' Z hx s z => ?_) fun D H' nD s e => hd D H' nD s ?_
  · exact hs i x H' (fun y H4 => Z (some y) H4) hx s z
  · rw [e, ← List.filterMap_eq_map]
    rfl
theorem rngF {α : Type} {xs : List α} {f : α → V} (d : α) : (List.range xs.length).map (fun i => f (xs.getD i d)) = xs.map f := by
  refine List.ext_getElem (by simp) fun i h1 h2 => ?_
  rw [List.length_map, List.length_range] at h1
  rw [List.getElem_map, List.getElem_map, List.getElem_range, List.getD_eq_getElem?_getD, List.getElem?_eq_getElem h1]
  rfl
end WL
end L2
namespace L2
namespace WL
open PySem PySem.Spec PyProof.Rows K1
theorem t_b1 {r : List V → Hp → VK → Prop} {tl : TE} {σ : St} {H : Hp} {Q : Bool → Hp → Prop} (h : tl σ H fun x H1 => r [x] H1 fun y H2 => ∃ c, y = .bl c ∧ Q c H2) : tB (tCB r (tCons tl tNil)) σ H Q := h
theorem t_nb1 {r : List V → Hp → VK → Prop} {tl : TE} {σ : St} {H : Hp} {Q : Bool → Hp → Prop} (h : tl σ H fun x H1 => r [x] H1 fun y H2 => ∃ c, y = .bl c ∧ Q (!c) H2) : tNot (tB (tCB r (tCons tl tNil))) σ H Q := h
theorem t_c1 {r : List V → Hp → VK → Prop} {tl : TE} {σ : St} {H : Hp} {Q : VK} (h : tl σ H fun x H1 => r [x] H1 Q) : tCB r (tCons tl tNil) σ H Q := h
end WL
end L2
set_option Elab.async false
set_option linter.all false
set_option maxRecDepth 100000
set_option maxHeartbeats 4000000
namespace L2
namespace WL
open PySem PySem.Spec PyProof.Rows K1
/-! ### e.f of an error that a suite holds -/
def tXd (C : Addr) (a : Addr) (cls : Value) (d : Option Addr) (f : Str) (te : TE) : TE := fun σ H Q => te σ H fun x H1 => x = .ref a ∧ cls = .ref C ∧ ∃ (dd : Addr) (v : V), d = some dd ∧ H1 dd = some (.xd [(f, v)]) ∧ Q v H1
theorem pe_xd {X : Cx} {C a : Addr} {oe : Obj} {cls : Value} {d : Option Addr} {pn : List (Addr × Obj)} {e : Expr} {te : TE} {pos : Pos} {f : Str} (T : XC X.K C) (hno : PySem.W.findIn X.K (.ref C) f = some none) (hz : Zc cls d oe) (hf : ∃ vs, oe.data = .fields vs)
    (he : PE (X.suite a ((a, oe) :: pn)) e te) (hb : attributeBase e f X.env (eval e X.env) = eval e X.env := by rfl) : PE (X.suite a ((a, oe) :: pn)) (.Attribute e f pos) (tXd C a cls d f te) := by
  refine ⟨fun pins s σ H Q I h => ?_⟩
  refine attr_of hb (thn (he.run pins s σ H _ I h) fun u s1 hh => ?_)
  obtain ⟨x, H1, I1, rx, rfl, rfl, dd, v, rfl, ea, q⟩ := hh
  obtain rfl : u = Value.ref a := rx
  obtain ⟨ha, _⟩ := I1.pin (a, oe) (List.mem_append_left _ List.mem_cons_self)
  obtain ⟨vs, hd⟩ := hf
  have hx : ObjOk X.prog X.w H1 s1.heap dd (.xd [(f, v)]) := I1.hok dd _ ea
  obtain ⟨mA, hns, hr⟩ := hx
  obtain ⟨od, ho, hl⟩ := lookIn_ns hns
  have l : List.lookup f [(f, v)] = some v := by simp [List.lookup]
  obtain ⟨u, hu, ru⟩ := RelO.some_of (v := v) (o := mA f) (by rw [← l]; exact hr f)
  have J : PySem.W.InstAt s1.heap a oe C (some od) := ⟨ha, hz.1, by unfold PySem.W.notCls; rw [hd] <;> rfl, by rw [hz.2]; exact ho⟩
  exact HandSPX.exc_get I1.kIn J T.ga T.gg T.ox.exC (PySem.W.findObj_own T.hd hno rfl (by rw [hl, hu])) (handed_of ru) ⟨v, H1, I1.tok _, ru, q⟩
def spRefL (K : PySem.W.Frag) (C : Addr) : Sp := fun vs H Q _ => ∃ (p : Addr) (vc : V) (xs : List V) (rs : Rws) (x : V), vs = [.ref p, vc] ∧ IsWeb K H C p rs ∧ Good rs ∧ Seq K H vc xs ∧ (∀ x ∈ xs, ∃ b, IsN K H x b) ∧ xs.find? (fun x => !inWeb rs x) = some x ∧
  ∀ H' q, Same H H' → H' q = some (.lst [x]) → Q (.ref q) H'
end WL
end L2
set_option Elab.async false
set_option linter.all false
set_option maxRecDepth 100000
set_option maxHeartbeats 4000000
namespace L2
namespace WL
open PySem PySem.Spec PyProof.Rows K1
/-! ### the web beside the pool -/
theorem Pl.hid {H : Hp} {p b : Addr} {n : Nat} {o : HO} (h : Pl H p n) (e : H b = some o) (ho : ∀ x y z : Int, o ≠ .lst [.int x, .int y, .int z]) : hide p H b = some o := by
  obtain ⟨x, y, z, e2, _⟩ := h
  rw [hide_ne]
  · exact e
  · intro c
    rw [c, e2] at e
    exact ho x y z (Option.some.inj e).symm
theorem Pl.sqT {K : PySem.W.Frag} {H : Hp} {p b : Addr} {n : Nat} {xs : List V} (h : Pl H p n) (e : SqT K H b xs) : SqT K (hide p H) b xs := by
  rcases e with (e | ⟨o, e⟩) | e
  · exact .inl (.inl (h.hid e (by intro x y z c; cases c)))
  · exact .inl (.inr ⟨o, h.hid e (by intro x y z c; cases c)⟩)
  · exact .inr e
theorem Pl.dtup {K : PySem.W.Frag} {H : Hp} {p : Addr} {n : Nat} {ks : List (Key × V)} {rs : Rws} (h : Pl H p n) (d : DTup K H ks rs) : DTup K (hide p H) ks rs := Paired.imp (fun _ _ ⟨e, a, e2, s⟩ => ⟨e, a, e2, h.sqT s⟩) d
theorem IsWeb.hid {K : PySem.W.Frag} {H : Hp} {C p pl : Addr} {n : Nat} {rs : Rws} (w : IsWeb K H C p rs) (h : Pl H pl n) : IsWeb K (hide pl H) C p rs := by
  obtain ⟨dx, c, s, a, t, ks, kt, av, W⟩ := w
  exact ⟨dx, c, s, a, t, ks, kt, av, h.hid W.ob (by intro x y z c; cases c), h.hid W.hc (by intro x y z c; cases c), h.hid W.hs (by intro x y z c; cases c), h.dtup W.ds, h.hid W.ha (by intro x y z c; cases c),
    Paired.imp (fun _ _ ⟨q, e1, e2⟩ => ⟨q, e1, h.hid e2 (by intro x y z c; cases c)⟩) W.da, h.hid W.ht (by intro x y z c; cases c), h.dtup W.dt⟩
theorem LawRows.good {m n : Nat} {rs : Rws} (h : LawRows m n rs) (hm : m ≤ 900) (hn : n ≤ 900) : Good rs := ⟨h.nd, h.l1, Nat.le_trans h.lm hm, fun r hr => ⟨Nat.le_trans (h.sr r hr).2.1 hn, (h.sr r hr).1, (h.sr r hr).2.2.2⟩, fun r hr => (h.nm r hr).1⟩
theorem RowT.g {K : PySem.W.Frag} {H : Hp} {v : V} {r : Str × List Str} (h : RowT H v r) : RowG K H v r := by
  obtain ⟨t, l, rfl, e1, e2⟩ := h
  exact ⟨.ref l, ⟨t, rfl, .inr (SqT.of e1)⟩, ⟨l, rfl, .inl (SqL.of e2)⟩⟩
/-- what a name of the law's is not -/
theorem law_zq {z : Str} (h : lawNm z) : z ≠ "zzzzqqqq" := fun e => by
  subst e
  rcases h.2 with h | h
  · exact absurd h (by decide)
  · exact absurd (h 122 (by decide)) (by decide)
theorem law_A {z : Str} (h : lawNm z) : z ≠ "A" := fun e => by
  subst e
  exact absurd h.1 (by decide)
end WL
end L2
set_option Elab.async false
set_option linter.all false
set_option maxRecDepth 100000
set_option maxHeartbeats 4000000
namespace L2
namespace WL
open PySem PySem.Spec PyProof.Rows K1
theorem Rd.hid {H : Hp} {l p : Addr} {u : HO} (h : Rd H l u) (n : H p = none) : Rd (hide p H) l u := by
  have ne : l ≠ p := by
    rcases h with h | ⟨o, h⟩ <;> exact ne_of_none h n
  rcases h with h | ⟨o, h⟩
  · exact .inl (by rw [hide_ne ne]; exact h)
  · exact .inr ⟨o, by rw [hide_ne ne]; exact h⟩
theorem SqL.hid {K : PySem.W.Frag} {H : Hp} {l p : Addr} {xs : List V} (h : SqL K H l xs) (n : H p = none) : SqL K (hide p H) l xs := by
  rcases h with h | h
  · exact .inl (Rd.hid h n)
  · exact .inr h
theorem SqL.sm {K : PySem.W.Frag} {H H' : Hp} {l : Addr} {xs : List V} (h : SqL K H l xs) (s : Same H H') : SqL K H' l xs := s.seq h
theorem same_mk {H H3 : Hp} {x dx : Addr} {o1 o2 : HO} (nx : H x = none) (nd : H dx = none) (e : H3 = upd (upd H dx o1) x o2) : Same H (hide x H3) := fun b o h => by
  rw [hide_ne (ne_of_none h nx), e, upd_ne (ne_of_none h nx), upd_ne (ne_of_none h nd)]
  exact h
/-! ### sizes of rings -/
theorem Min.uniq {rs : Rws} {cs : List Str} {b : Str} {k j : Nat} (h : Min rs cs b k) (g : Min rs cs b j) : k = j := by
  rcases Nat.lt_trichotomy k j with z | z | z
  · exact absurd h.1 (g.2 k z)
  · exact z
  · exact absurd g.1 (h.2 j z)
open Classical in
noncomputable def sz (rs : Rws) (cs : List Str) (b : Str) : Nat := if h : ∃ k, Min rs cs b k then h.choose + 1 else 0
theorem sz_min {rs : Rws} {cs : List Str} {b : Str} {k : Nat} (h : Min rs cs b k) : sz rs cs b = k + 1 := by
  have e : ∃ k, Min rs cs b k := ⟨k, h⟩
  unfold sz
  rw [dif_pos e, Min.uniq e.choose_spec h]
theorem sz_none {rs : Rws} {cs : List Str} {b : Str} (h : ∀ k, ¬ clo rs cs b k) : sz rs cs b = 0 := by
  unfold sz
  rw [dif_neg]
  rintro ⟨k, hk⟩
  exact h k hk.1
noncomputable def due (rs : Rws) (cs : List Str) : List Nat := (cs.map (sz rs cs)).filter fun n => decide (0 < n)
theorem due_mem {rs : Rws} {cs : List Str} {n : Nat} : n ∈ due rs cs ↔ 0 < n ∧ ∃ b ∈ cs, sz rs cs b = n := by
  unfold due
  rw [List.mem_filter, List.mem_map]
  constructor
  · rintro ⟨⟨b, h1, h2⟩, h3⟩
    exact ⟨of_decide_eq_true h3, b, h1, h2⟩
  · rintro ⟨h3, b, h1, h2⟩
    exact ⟨⟨b, h1, h2⟩, decide_eq_true h3⟩
theorem sz_pos {rs : Rws} {cs : List Str} {b : Str} (h : 0 < sz rs cs b) : ∃ k, Min rs cs b k ∧ sz rs cs b = k + 1 := by
  by_cases e : ∃ k, Min rs cs b k
  · obtain ⟨k, hk⟩ := e
    exact ⟨k, hk, sz_min hk⟩
  · unfold sz at h
    rw [dif_neg e] at h
    exact absurd h (Nat.lt_irrefl _)
theorem rngM {α β : Type} {xs : List α} {f : α → Option β} (d : α) : (List.range xs.length).filterMap (fun i => f (xs.getD i d)) = xs.filterMap f := by
  have e : (List.range xs.length).map (fun i => xs.getD i d) = xs := by
    refine List.ext_getElem (by simp) fun i h1 h2 => ?_
    rw [List.getElem_map, List.getElem_range, List.getD_eq_getElem?_getD, List.getElem?_eq_getElem h2]
    rfl
  conv => rhs; rw [← e]
  rw [List.filterMap_map]
  rfl
theorem due_vs {xs : List Nat} : xs.filterMap (fun n : Nat => if 0 < n then some (V.int (n : Int)) else none) = (xs.filter fun n : Nat => decide (0 < n)).map fun n : Nat => V.int (n : Int) := by
  induction xs with
  | nil => rfl
  | cons n xs ih =>
    by_cases h : 0 < n
    · rw [List.filterMap_cons, List.filter_cons_of_pos (by simpa using h), List.map_cons, ← ih]
      simp only [h, if_true]
    · rw [List.filterMap_cons, List.filter_cons_of_neg (by simpa using h), ← ih]
      simp only [h, if_false]
theorem dp_ints {K : PySem.W.Frag} {H : Hp} : ∀ xs : List Nat, DpAll K H (xs.map fun n : Nat => V.int (n : Int)) (xs.map fun n : Nat => .int (n : Int))
  | [] => .nil
  | x :: xs => .cons (.int _) (dp_ints xs)
theorem dep_ints : ∀ xs : List Nat, PyData.depthAll (xs.map fun n : Nat => .int (n : Int)) = 0 ∧ PyData.canLayAll0 (xs.map fun n : Nat => .int (n : Int)) = true
  | [] => ⟨rfl, rfl⟩
  | x :: xs => by
    obtain ⟨h1, h2⟩ := dep_ints xs
    constructor
    · show max 0 (PyData.depthAll (xs.map fun n : Nat => .int (n : Int))) = 0
      rw [h1]
      rfl
    · show (PyData.canLay0 (.int (x : Int)) && PyData.canLayAll0 (xs.map fun n : Nat => .int (n : Int))) = true
      rw [h2]
      rfl
theorem shape_ints (xs : List Nat) : SeqAt.shaped (.list (xs.map fun n : Nat => .int (n : Int))) = true := by
  unfold SeqAt.shaped
  have e : PyData.depth (.list (xs.map fun n : Nat => .int (n : Int))) = PyData.depthAll (xs.map fun n : Nat => .int (n : Int)) + 1 := rfl
  rw [e, (dep_ints xs).1]
  show (PyData.canLayAll0 (xs.map fun n : Nat => .int (n : Int)) && true) = true
  rw [(dep_ints xs).2]
  rfl
theorem eqv_nil (xs : List Nat) : PyData.eqv (.list (xs.map fun n : Nat => .int (n : Int))) (.list []) = decide (xs = []) := by
  cases xs with
  | nil => rfl
  | cons x xs => rfl
/-- what ring tells -/
def Told (rs : Rws) (cs : List Str) (H : Hp) (v : V) : Prop := (v = .non ∧ ∀ b ∈ cs, ∀ k, ¬ clo rs cs b k) ∨ ∃ q b k, v = .ref q ∧ RingAt rs cs H q b k ∧ ∀ b' ∈ cs, ∀ k', clo rs cs b' k' → k ≤ k'
theorem told_due {rs : Rws} {cs : List Str} {H : Hp} {v : V} (h : Told rs cs H v) : decide (v = .non) = decide (due rs cs = []) := by
  rcases h with ⟨rfl, hn⟩ | ⟨q, b, k, rfl, rg, _⟩
  · rw [decide_eq_true rfl, decide_eq_true]
    rw [List.eq_nil_iff_forall_not_mem]
    intro n hn'
    obtain ⟨h1, b, h2, h3⟩ := due_mem.mp hn'
    rw [sz_none (hn b h2)] at h3
    omega
  · rw [decide_eq_false (by intro z; cases z), decide_eq_false]
    intro z
    have : k + 1 ∈ due rs cs := due_mem.mpr ⟨by omega, b, rg.1, sz_min rg.2.1⟩
    rw [z] at this
    cases this
theorem spRing_of {K : PySem.W.Frag} {C CU p : Addr} {vc : V} {rs : Rws} {cs : List Str} {H : Hp} {Q : VK} {E : XK} (hw : IsWeb K H C p rs) (g : Good rs) (hs : Seq K H vc (cs.map .str)) (hcs : ∀ x ∈ cs, x ∈ rs.map Prod.fst)
    (q : ∀ H' v, Same H H' → Told rs cs H' v → Q v H') : spRing K C CU [.ref p, vc] H Q E := by
  refine ⟨p, vc, cs.map .str, rs, rfl, hw, g, hs, fun x hx => ?_, .inr ⟨cs, rfl, hcs, fun H' q' b k s rg hl => q H' _ s (.inr ⟨q', b, k, rfl, rg, hl⟩), fun H' s hn => q H' _ s (.inl ⟨rfl, hn⟩)⟩⟩
  obtain ⟨z, hz, rfl⟩ := List.mem_map.mp hx
  obtain ⟨r, hr, e⟩ := List.mem_map.mp (hcs z hz)
  have := g.nm r hr
  rw [e] at this
  exact ⟨true, .inl ⟨z, rfl, isNm_len this, this.symm⟩⟩
theorem seq_tail {a u : TS} {D : Ends} {σ : St} {H : Hp} (Mid : Hp → Prop) (h2 : ∀ H', Mid H' → u D σ H') (h1 : (∀ H', Mid H' → u D σ H') → tSeq a u D σ H) : tSeq a u D σ H := h1 h2
/-- a sixth thing that is no cell -/
def odds (t : Addr) : List V := [.str "A", .non, .int 5, .str "zzzzqqqq", .ref t, .bl true]
theorem odd_ok {K : PySem.W.Frag} {H : Hp} {t : Addr} {rs : Rws} {i : Nat} {x : V} (hn : ∀ r ∈ rs, lawNm r.1) (ht : H t = some (.tup [.str "a"])) (hx : (odds t)[i]? = some x) :
    (∃ b, IsN K H x b) ∧ inWeb rs x = false ∧ ∃ d, Dp K H x d ∧ SeqAt.shaped (.list [d]) = true ∧ PyData.eqv (.list [d]) (.list [d]) = true := by
  have nw : ∀ z : Str, (∀ r ∈ rs, r.1 ≠ z) → inWeb rs (.str z) = false := fun z h => by
    refine decide_eq_false fun m => ?_
    obtain ⟨r, hr, e⟩ := List.mem_map.mp m
    exact h r hr e
  match i, hx with
  | 0, hx =>
    obtain rfl := (Option.some.inj hx).symm
    exact ⟨⟨_, .inl ⟨_, rfl, by decide +kernel, rfl⟩⟩, nw _ fun r hr => law_A (hn r hr), _, .str _, by decide +kernel, by decide +kernel⟩
  | 1, hx =>
    obtain rfl := (Option.some.inj hx).symm
    exact ⟨⟨_, .inr ⟨_, .base .non, rfl, rfl⟩⟩, rfl, _, .non, by decide +kernel, by decide +kernel⟩
  | 2, hx =>
    obtain rfl := (Option.some.inj hx).symm
    exact ⟨⟨_, .inr ⟨_, .base (.int _), rfl, rfl⟩⟩, rfl, _, .int _, by decide +kernel, by decide +kernel⟩
  | 3, hx =>
    obtain rfl := (Option.some.inj hx).symm
    exact ⟨⟨_, .inl ⟨_, rfl, by decide +kernel, rfl⟩⟩, nw _ fun r hr => law_zq (hn r hr), _, .str _, by decide +kernel, by decide +kernel⟩
  | 4, hx =>
    obtain rfl := (Option.some.inj hx).symm
    exact ⟨⟨_, .inr ⟨_, .base (.tup ht), rfl, rfl⟩⟩, rfl, _, .tup (SqT.of ht) (.cons (.str _) .nil), by decide +kernel, by decide +kernel⟩
  | 5, hx =>
    obtain rfl := (Option.some.inj hx).symm
    exact ⟨⟨_, .inr ⟨_, .base (.bl _), rfl, rfl⟩⟩, rfl, _, .bl _, by decide +kernel, by decide +kernel⟩
  | i + 6, hx => cases hx
end WL
end L2
namespace L2
namespace WL
open PySem PySem.Spec PyProof.Rows K1
theorem ring_step {rs : Rws} {cs : List Str} {b y : Str} {k : Nat} {path : List Str} (h : Pth rs cs b k path) (hl : path.getLast? = some y) (hb : b ∈ tgt rs y) {j : Nat} (hj : j < k + 1) :
    ∃ u w, (path ++ [b])[j]? = some u ∧ (path ++ [b])[j + 1]? = some w ∧ w ∈ tgt rs u := by
  have len := h.len
  obtain ⟨u, hu⟩ : ∃ u, path[j]? = some u := ⟨_, List.getElem?_eq_getElem (by omega)⟩
  by_cases e : j = k
  · refine ⟨u, b, by rw [List.getElem?_append_left (by omega)]; exact hu, by rw [List.getElem?_append_right (by omega), e, len, Nat.sub_self]; rfl, ?_⟩
    rw [List.getLast?_eq_getElem?, len, show k + 1 - 1 = j by omega, hu] at hl
    rw [Option.some.inj hl]
    exact hb
  · obtain ⟨w, hw⟩ : ∃ w, path[j + 1]? = some w := ⟨_, List.getElem?_eq_getElem (by omega)⟩
    refine ⟨u, w, by rw [List.getElem?_append_left (by omega)]; exact hu, by rw [List.getElem?_append_left (by omega)]; exact hw, ?_⟩
    have := h.between j (j + 1) u w (by omega) hu hw
    rw [show j + 1 - j = 1 by omega] at this
    obtain ⟨_, z, hz, t⟩ := this
    rw [show z = u from hz] at t
    exact t
theorem src_of {rs : Rws} {u w : Str} (nd : (rs.map Prod.fst).Nodup) (h : w ∈ tgt rs u) : ∃ xs, srcs rs w = some xs ∧ w ∈ rs.map Prod.fst ∧ u ∈ xs := by
  obtain ⟨r, hr, h2, rfl⟩ := tgt_iff.mp h
  exact ⟨r.2, srcs_at nd hr, List.mem_map.mpr ⟨r, hr, rfl⟩, h2⟩
theorem good_isN {K : PySem.W.Frag} {H : Hp} {rs : Rws} (g : Good rs) {z : Str} (h : z ∈ rs.map Prod.fst) : IsN K H (.str z) true := by
  obtain ⟨r, hr, rfl⟩ := List.mem_map.mp h
  exact .inl ⟨_, rfl, isNm_len (g.nm r hr), (g.nm r hr).symm⟩
theorem in_web {rs : Rws} {z : Str} (h : z ∈ rs.map Prod.fst) : inWeb rs (.str z) = true := decide_eq_true h
theorem find_odd {rs : Rws} {cs : List Str} {od : V} {m : Nat} {rest : List V} (hcs : ∀ z ∈ cs, z ∈ rs.map Prod.fst) (h : inWeb rs od = false) : ((cs.map V.str).take m ++ [od] ++ rest).find? (fun x => !inWeb rs x) = some od := by
  rw [List.append_assoc, List.find?_append]
  have e : ((cs.map V.str).take m).find? (fun x => !inWeb rs x) = none := by
    rw [List.find?_eq_none]
    intro y hy
    obtain ⟨z, hz, rfl⟩ := List.mem_map.mp (List.mem_of_mem_take hy)
    rw [in_web (hcs z hz)]
    decide
  rw [e]
  show ((od :: rest).find? fun x => !inWeb rs x) = some od
  rw [List.find?_cons, h]
  rfl
end WL
end L2
set_option Elab.async false
set_option linter.all false
set_option maxRecDepth 100000
set_option maxHeartbeats 4000000
namespace L2
namespace WL
open PySem PySem.Spec PyProof.Rows K1 LamX
/-! ### the head with the law's table of code objects -/
def isTab : Option Obj → Bool
  | some ⟨.none, none, .fields vs, sl⟩ => vs.toList.isEmpty && sl.toList.isEmpty
  | _ => false
theorem isTab_ok {o : Option Obj} (h : isTab o = true) : o = some { cls := .none, data := .fields #[] } := by
  unfold isTab at h
  split at h
  · rename_i vs sl
    obtain ⟨h1, h2⟩ := Bool.and_eq_true_iff.mp h
    have e1 : vs = #[] := by
      cases vs
      simpa using h1
    have e2 : sl = #[] := by
      cases sl
      simpa using h2
    rw [e1, e2]
  · cases h
def frT (g : Addr → Option Obj) (n : Nat) : PySem.W.Frag := He.frG g ((He.asD g n).filter fun a => !isTab (g a))
def tabB (g : Addr → Option Obj) (K : PySem.W.Frag) : Bool := match PySem.W.tabIn K "law" with
  | some (c, p) => PySem.W.codeHdIn K c p && ((K.lookup p).isNone && isTab (g p))
  | none => false
structure TabF (K : PySem.W.Frag) (h : Heap) (c p : Addr) : Prop where
  i : PySem.W.tabIn K "law" = some (c, p)
  hd : PySem.W.codeHdIn K c p = true
  no : K.lookup p = none
  ob : h.get? p = some { cls := .none, data := .fields #[] }
theorem tabB_ok {g : Addr → Option Obj} {K : PySem.W.Frag} (h : tabB g K = true) : ∃ c p, PySem.W.tabIn K "law" = some (c, p) ∧ PySem.W.codeHdIn K c p = true ∧ K.lookup p = none ∧ g p = some { cls := .none, data := .fields #[] } := by
  unfold tabB at h
  split at h
  · rename_i c p e
    obtain ⟨h1, h⟩ := Bool.and_eq_true_iff.mp h
    obtain ⟨h2, h3⟩ := Bool.and_eq_true_iff.mp h
    exact ⟨c, p, e, h1, Option.isNone_iff_eq_none.mp h2, isTab_ok h3⟩
  · cases h
abbrev AlK : Type := He.AlD × Bool
def obsT (n : Nat) (fa : List He.Fa) (fn : List He.DefD) (ex : PySem.W.Frag → Bool) (g : Addr → Option Obj) : AlK := (He.obsD fa fn (frT g n), ex (frT g n) && tabB g (frT g n))
def hookT (n : Nat) (fa : List He.Fa) (fn : List He.DefD) (ex : PySem.W.Frag → Bool) : PySem.W.Hook where
  α := AlK
  obs := fun s => obsT n fa fn ex s.heap.get?
  val := fun _ => (He.valD fn, true)
  says := fun _ h => ∃ K : PySem.W.Frag, K.In h ∧ He.SaysD fa fn K ∧ ex K = true ∧ ∃ c p, TabF K h c p
  of := fun _ _ e => by
    obtain ⟨h1, h2⟩ := Bool.and_eq_true_iff.mp (show (ex _ && tabB _ _) = true from congrArg Prod.snd e)
    obtain ⟨c, p, a1, a2, a3, a4⟩ := tabB_ok h2
    exact ⟨_, He.frG_in, congrArg Prod.fst e, h1, c, p, a1, a2, a3, a4⟩
  keeps := fun _ _ _ ⟨K, hK, c, e, c', p, t⟩ k => ⟨K, PySem.W.Frag.In.keeps hK k, c, e, c', p, t.i, t.hd, t.no, k _ _ t.ob⟩
theorem obsT_eq {n : Nat} {fa : List He.Fa} {fn : List He.DefD} {ex : PySem.W.Frag → Bool} {g : Addr → Option Obj} {s : Shared} (h : ∀ a, g a = s.heap.get? a) : obsT n fa fn ex g = (hookT n fa fn ex).obs s := by
  have e : g = s.heap.get? := funext h
  rw [e] <;> rfl
/-- a def whose code object is known -/
theorem FunD.okC {P : Program} {w : World} {K : PySem.W.Frag} {mg : Str → Option Value} {base : Heap} {x qual : Str} {params : Arguments} {body : List Stmt} {scope : Scope} {dvs : List V} {kws : List (Str × V)} {f c : Addr} {fd : FuncData} {CX : CXT} {N ps : List Str} {k : Nat} {sp : Sp}
    (F : FunD K x qual params body scope dvs kws f fd) (hc : fd.code = .ref c) (S : FnScope N ps scope) (len : ∀ vs H Q E, sp vs H Q E → vs.length = ps.length)
    (hb : ∀ (A : Around) (outer : List Env) (s : Shared) (H : Hp) (vs : List V) (Q : VK) (E : XK), Room k (A.deeper (envOfC qual scope s.heap.objs.size f (.ref c))) → sp vs H Q E →
      ∃ t, PSs (cxOf CX P w K mg base N qual scope f (.ref c) A outer s H E) body t ∧ t { nx := fun _ H' => Q .non H', rt := Q } (start N vs) H) : FnOk P w K mg base CX (k + 1) f fd ps sp := by
  obtain ⟨oc, od, dV, kV, doc, pm, an, cdv, ct, osl, rfl, lk, hcd, _, _⟩ := F.ex
  obtain rfl : cdv = .ref c := hc
  exact fn_of lk hcd S len fun A outer s H vs Q E hr hsp => hb A outer s H vs Q E hr hsp
/-! ### [x] != [x] -/
def rNe1 (K : PySem.W.Frag) : R2 := fun x y H Q => ∃ a b v, x = .ref a ∧ y = .ref b ∧ SqL K H a [v] ∧ SqL K H b [v] ∧ (flatB v = true ∨ ∃ c, v = .ref c) ∧ Q (.bl false) H
theorem op_ne1 {X : Cx} (hu : X.A.units + 64 < cLine) : OpR X (compareOp .NotEq) (rNe1 X.K) := by
  intro pins s σ H x y v u Q I rx ry h
  obtain ⟨a, b, z, rfl, rfl, ha, hb, hz, q⟩ := h
  cases (show v = Value.ref a from rx)
  cases (show u = Value.ref b from ry)
  obtain ⟨us, r1, p1, _⟩ := I.list ha
  obtain ⟨ws, r2, p2, _⟩ := I.list hb
  obtain ⟨u1, rfl, e1⟩ := r1.one
  obtain ⟨u2, rfl, e2⟩ := r2.one
  refine SeqAt.RcNeAt.lists (e := fun _ => true) p1.isList p2.isList rfl (by omega) (fun j h1 h2 => ?_) X.prog X.w _ _ ?_
  · have j0 : j = 0 := by
      have : j < 1 := h1
      omega
    subst j0
    show SeqAt.EqAt X.A.in1 s u1 u2 true
    rcases hz with f | ⟨c, rfl⟩
    · exact eqAt_same e1 e2 f
    · cases (show u1 = Value.ref c from e1)
      cases (show u2 = Value.ref c from e2)
      exact SeqAt.EqAt.same _
  · exact ⟨.bl false, H, I, rfl, q⟩
/-! ### what stays beside pool, tables and some lists -/
def offT (H : Hp) : Hp := fun b => match H b with
  | some (.tbl _) => none
  | o => o
def offS (S : List Addr) (H : Hp) : Hp := fun b => if b ∈ S then none else H b
theorem offT_some {H : Hp} {b : Addr} {o : HO} (h : offT H b = some o) : H b = some o ∧ ∀ ps, o ≠ .tbl ps := by
  unfold offT at h
  split at h
  · cases h
  · rename_i z
    exact ⟨h, fun ps e => z ps (by rw [h, e])⟩
theorem offT_at {H : Hp} {b : Addr} {o : HO} (h : H b = some o) (n : ∀ ps, o ≠ .tbl ps) : offT H b = some o := by
  unfold offT
  rw [h]
  split
  · rename_i e
    exact absurd (Option.some.inj e) (n _)
  · rfl
theorem offT_le {H : Hp} : Same (offT H) H := fun b o e => (offT_some e).1
theorem offT_same {H H' : Hp} (s : Same H H') : Same (offT H) (offT H') := fun b o e => by
  obtain ⟨h, n⟩ := offT_some e
  exact offT_at (s _ _ h) n
theorem offT_ext {H H' : Hp} (s : ExtN H H') : Same (offT H) (offT H') := fun b o e => by
  obtain ⟨h, n⟩ := offT_some e
  exact offT_at (s _ _ h n) n
theorem offS_some {S : List Addr} {H : Hp} {b : Addr} {o : HO} (h : offS S H b = some o) : b ∉ S ∧ H b = some o := by
  unfold offS at h
  by_cases e : b ∈ S
  · rw [if_pos e] at h
    cases h
  · rw [if_neg e] at h
    exact ⟨e, h⟩
theorem offS_ne {S : List Addr} {H : Hp} {b : Addr} (h : b ∉ S) : offS S H b = H b := if_neg h
theorem offS_le {S : List Addr} {H : Hp} : Same (offS S H) H := fun b o e => (offS_some e).2
theorem offS_same {S : List Addr} {H H' : Hp} (s : Same H H') : Same (offS S H) (offS S H') := fun b o e => by
  obtain ⟨h, n⟩ := offS_some e
  rw [offS_ne h]
  exact s _ _ n
theorem offS_upd {S : List Addr} {H : Hp} {b : Addr} {o : HO} (h : b ∈ S) : offS S (upd H b o) = offS S H := by
  funext c
  by_cases e : c ∈ S
  · unfold offS
    rw [if_pos e, if_pos e]
  · rw [offS_ne e, offS_ne e, upd_ne (fun z => e (by rw [z]; exact h))]
/-- of a heap in which none of S stood, all stays -/
theorem offS_new {S : List Addr} {H0 H : Hp} (s : Same H0 H) (h : ∀ b ∈ S, H0 b = none) : Same H0 (offS S H) := fun b o e => by
  rw [offS_ne (fun z => by rw [h b z] at e; cases e)]
  exact s _ _ e
/-! ### tables beside the pool -/
theorem TabS.hid {H : Hp} {p P : Addr} {n : Nat} {q : Str} (t : TabS H P q) (h : Pl H p n) : TabS (hide p H) P q := by
  obtain ⟨ps, h1, h2, h3⟩ := t
  refine ⟨ps, h.hid h1 (by intro x y z c; cases c), h2, fun pos cv hc => ?_⟩
  obtain ⟨c, e1, e2⟩ := h3 pos cv hc
  exact ⟨c, e1, h.hid e2 (by intro x y z c; unfold CodeO at c; cases c)⟩
theorem TabS.sm {H H' : Hp} {P : Addr} {q : Str} (t : TabS H P q) (s : Same H H') : TabS H' P q := t.ext s
/-- the pool stays where only tables change -/
theorem Pl.extN {H H' : Hp} {p : Addr} {n : Nat} (h : Pl H p n) (e : ExtN H H') : Pl H' p n := by
  obtain ⟨a, b, c, h1, h2⟩ := h
  exact ⟨a, b, c, e _ _ h1 (by intro ps z; cases z), h2⟩
theorem ExtN.hide {H H' : Hp} {p : Addr} (e : ExtN H H') : Same (offT (WL.hide p H)) (offT (WL.hide p H')) := fun b o h => by
  obtain ⟨h1, n⟩ := offT_some h
  obtain ⟨h2, h3⟩ := hide_some h1
  exact offT_at (by rw [hide_ne h2]; exact e _ _ h3 n) n
end WL
end L2
set_option Elab.async false
set_option linter.all false
set_option maxRecDepth 100000
set_option maxHeartbeats 0
namespace L2
namespace K63
open PySem PySem.Spec PyProof.Rows K1 WL
def top (i : Nat) : Stmt := PySem.Challenge.pw_lotmarks_k63_pieces_in_a_row.main.body.getD i (.Pass ⟨0, 0, 0, 0⟩)
abbrev s_is_list : Stmt := top 2
abbrev s_is_name : Stmt := top 3
abbrev s_is_name_list : Stmt := top 4
abbrev s_is_integer : Stmt := top 5
abbrev s_is_count : Stmt := top 6
abbrev s_BadWeb : Stmt := inClass (top 9) 0
abbrev s_UnknownCell : Stmt := inClass (top 10) 0
abbrev s_BadNumber : Stmt := inClass (top 11) 0
abbrev s_BadArrow : Stmt := inClass (top 13) 0
abbrev s_Web_init : Stmt := inClass (top 15) 0
abbrev s_Web_cells_with : Stmt := inClass (top 15) 1
abbrev s_Web_sources : Stmt := inClass (top 15) 2
abbrev s_Web_targets : Stmt := inClass (top 15) 3
abbrev s_Web_contains : Stmt := inClass (top 15) 4
abbrev s_Web_len : Stmt := inClass (top 15) 5
abbrev s_Web_iter : Stmt := inClass (top 15) 6
abbrev s_Web_eq : Stmt := inClass (top 15) 7
abbrev s_check_rows : Stmt := top 16
abbrev s_first_wrong_row : Stmt := top 17
abbrev s_is_row : Stmt := top 18
abbrev s_check_cells : Stmt := top 19
abbrev s_Piece_init : Stmt := inClass (top 22) 0
abbrev s_first_wrong_arrow : Stmt := top 23
abbrev s_is_piece_arrow : Stmt := top 24
abbrev s_check_pieces : Stmt := top 25
abbrev s_row : Stmt := top 26
abbrev s_row_sources : Stmt := top 27
abbrev s_cell : Stmt := top 29
abbrev s_pool : Stmt := top 30
abbrev s_take : Stmt := top 31
abbrev s_names : Stmt := top 32
abbrev s_picked : Stmt := top 33
abbrev s_cells : Stmt := top 34
abbrev s_piece : Stmt := top 35
abbrev s_line_of : Stmt := top 36
abbrev s_told : Stmt := top 37
abbrev s_odd_arrow : Stmt := top 38
abbrev s_law : Stmt := top 39
def dfn (x : Str) (st : Stmt) : He.DefD := ⟨(x, none), x, x, defArgs st, defBody st, defScope st, [], []⟩
def mth (c m q : Str) (st : Stmt) : He.DefD := ⟨(c, some m), m, q, defArgs st, defBody st, defScope st, [], []⟩
def fn : List He.DefD := [dfn "is_list" s_is_list, dfn "is_name" s_is_name, dfn "is_name_list" s_is_name_list, dfn "is_integer" s_is_integer, dfn "is_count" s_is_count, mth "BadWeb" "__init__" "BadWeb.__init__" s_BadWeb, mth "UnknownCell" "__init__" "UnknownCell.__init__" s_UnknownCell, mth "BadNumber" "__init__" "BadNumber.__init__" s_BadNumber, mth "BadArrow" "__init__" "BadArrow.__init__" s_BadArrow, mth "Web" "__init__" "Web.__init__" s_Web_init, mth "Web" "cells_with_source" "Web.cells_with_source" s_Web_cells_with, mth "Web" "sources" "Web.sources" s_Web_sources, mth "Web" "targets" "Web.targets" s_Web_targets, mth "Web" "__contains__" "Web.__contains__" s_Web_contains, mth "Web" "__len__" "Web.__len__" s_Web_len, mth "Web" "__iter__" "Web.__iter__" s_Web_iter, mth "Web" "__eq__" "Web.__eq__" s_Web_eq, dfn "check_rows" s_check_rows, dfn "first_wrong_row" s_first_wrong_row, dfn "is_row" s_is_row, dfn "check_cells" s_check_cells, mth "Piece" "__init__" "Piece.__init__" s_Piece_init, dfn "first_wrong_arrow" s_first_wrong_arrow, dfn "is_piece_arrow" s_is_piece_arrow, dfn "check_pieces" s_check_pieces, dfn "row" s_row, dfn "row_sources" s_row_sources, dfn "_law_cell" s_cell, dfn "_law_pool" s_pool, dfn "_law_take" s_take, dfn "_law_names" s_names, dfn "_law_picked" s_picked, dfn "_law_cells" s_cells, dfn "_law_piece" s_piece, dfn "_law_line_of" s_line_of, dfn "_law_told" s_told, dfn "_law_odd_arrow" s_odd_arrow, dfn "law" s_law]
def fa : List He.Fa := [.glo "is_list", .glo "is_name", .glo "is_name_list", .glo "is_integer", .glo "is_count", .glo "BadWeb", .glo "UnknownCell", .glo "BadNumber", .glo "BadPiece", .glo "BadArrow", .glo "Web", .glo "check_rows", .glo "first_wrong_row", .glo "is_row", .glo "check_cells", .glo "Piece", .glo "first_wrong_arrow", .glo "is_piece_arrow", .glo "check_pieces", .glo "row", .glo "row_sources", .glo "_law_cell", .glo "_law_pool", .glo "_law_take", .glo "_law_names", .glo "_law_picked", .glo "_law_cells", .glo "_law_piece", .glo "_law_line_of", .glo "_law_told", .glo "_law_odd_arrow", .glo "law",
  .free "isinstance", .free "list", .free "tuple", .free "str", .free "len", .free "all", .free "any", .free "set", .free "iter", .free "enumerate"]
def fa2 : List He.Fa := [.free "range", .free "min", .free "int", .free "bool", .str "LETTERS" "abcdefghijklmnopqrstuvwxyz", .cls "Web", .mkr "Web", .meth "Web" "cells_with_source", .meth "Web" "sources", .meth "Web" "__contains__", .noat "Web" "cells", .noat "Web" "sources_of", .noat "Web" "arrows", .noat "Web" "targets_of", .cls "Piece", .mkr "Piece", .noat "Piece" "cells", .noat "Piece" "arrows", .exc "BadPiece", .exm "BadPiece" "BadPiece" true, .exm "BadArrow" "BadPiece" false, .exm "BadArrow" "BadArrow" true, .exm "BadNumber" "BadPiece" false, .exm "BadNumber" "BadArrow" false, .exm "BadNumber" "BadNumber" true]
def fieldB (K : PySem.W.Frag) (x f : Str) : Bool := He.eqO (PySem.W.findIn K (.ref (He.ga K x)) f) (some none) && (He.eqO (PySem.W.findIn K (.ref (He.ga K x)) "__init__") (some (some (.ref (He.ma K (He.ga K x) "__init__")))) && decide (PySem.W.typeIn K (.ref (He.ma K (He.ga K x) "__init__")) = some (.type "function")))
def clsB (K : PySem.W.Frag) (x : Str) : Bool := He.eqO (PySem.W.findIn K (.ref (He.ga K x)) "__class__") (some (some (.builtin "object.__class__"))) && (He.eqO (PySem.W.specialIn K (.builtin "object.__class__") "__get__") (some (some (.builtin "getset_descriptor.__get__"))) &&
  (decide (PySem.W.takesIn K (.builtin "object.__class__") = some true) && decide (PySem.W.mroIn K (He.ga K x) (.type "object") = some true)))
def ex (K : PySem.W.Frag) : Bool := xcB K (He.ga K "BadWeb") && (xcB K (He.ga K "UnknownCell") && (xcB K (He.ga K "BadNumber") && (xcB K (He.ga K "BadArrow") && (fieldB K "BadWeb" "index" && (fieldB K "UnknownCell" "cell" && (fieldB K "BadNumber" "number" && (fieldB K "BadArrow" "index" && (clsB K "Web" && decide (PySem.W.kitOne K (.ref (He.ga K "Web")) (.ref (He.ga K "Web")) = some true)))))))))
abbrev R : PySem.W.OpenRow := PySem.W.OpenLaw.row PySem.Challenge.rw_lotmarks_k63_pieces_in_a_row
abbrev hk : PySem.W.Hook := hookT 5 (fa ++ fa2) fn ex
def ob (s : PySem.W.SharedT) : AlK := obsT 5 (fa ++ fa2) fn ex (HandSHeadRun.getT s)
theorem ob_eq (s : PySem.W.SharedT) : ob s = hk.obs s.abs := obsT_eq (HandSHeadRun.getT_eq s)
def loose1 : List Str := ["_wall", "is_list", "is_name", "is_name_list", "is_integer", "is_count", "LotError", "BadWeb", "UnknownCell", "BadNumber", "BadPiece", "BadArrow", "Web", "check_rows", "first_wrong_row", "is_row"]
def loose2 : List Str := ["LETTERS", "check_cells", "Piece", "first_wrong_arrow", "is_piece_arrow", "check_pieces", "row", "row_sources", "_law_cell", "_law_pool", "_law_take", "_law_names", "_law_picked", "_law_cells", "_law_piece", "_law_line_of", "_law_told", "_law_odd_arrow"]
def loose : List Str := loose1 ++ loose2
theorem run (w : World) : HandSHeadRun.RunEq R (PySem.W.view R.prog [39]) hk ob 60000 loose w := by
  intro os
  kernel_rfl
end K63
end L2
set_option Elab.async false
set_option linter.all false
set_option maxRecDepth 100000
set_option maxHeartbeats 4000000
namespace L2
namespace K63
open PySem PySem.Spec PyProof.Rows K1 WL
/-! ### what the head tells -/
structure Bl (mg : Str → Option Value) : Prop where
  f_isinstance : mg "isinstance" = none
  f_list : mg "list" = none
  f_tuple : mg "tuple" = none
  f_str : mg "str" = none
  f_len : mg "len" = none
  f_all : mg "all" = none
  f_any : mg "any" = none
  f_set : mg "set" = none
  f_iter : mg "iter" = none
  f_enumerate : mg "enumerate" = none
  f_range : mg "range" = none
  f_min : mg "min" = none
  f_int : mg "int" = none
theorem bl_mk {K : PySem.W.Frag} {h : Heap} {mg : Str → Option Value} (X : K.In h) (G : h.Ns mainGlobals mg) (c : He.SaysD (fa ++ fa2) fn K) : Bl mg where
  f_isinstance := He.free_ok X G (c.fact 32 (f := .free "isinstance") rfl)
  f_list := He.free_ok X G (c.fact 33 (f := .free "list") rfl)
  f_tuple := He.free_ok X G (c.fact 34 (f := .free "tuple") rfl)
  f_str := He.free_ok X G (c.fact 35 (f := .free "str") rfl)
  f_len := He.free_ok X G (c.fact 36 (f := .free "len") rfl)
  f_all := He.free_ok X G (c.fact 37 (f := .free "all") rfl)
  f_any := He.free_ok X G (c.fact 38 (f := .free "any") rfl)
  f_set := He.free_ok X G (c.fact 39 (f := .free "set") rfl)
  f_iter := He.free_ok X G (c.fact 40 (f := .free "iter") rfl)
  f_enumerate := He.free_ok X G (c.fact 41 (f := .free "enumerate") rfl)
  f_range := He.free_ok X G (c.fact 42 (f := .free "range") rfl)
  f_min := He.free_ok X G (c.fact 43 (f := .free "min") rfl)
  f_int := He.free_ok X G (c.fact 44 (f := .free "int") rfl)
abbrev FnP (K : PySem.W.Frag) (x q : Str) (st : Stmt) (f : Addr) (fd : FuncData) : Prop := FunD K x q (defArgs st) (defBody st) (defScope st) [] [] f fd
section
variable {P : Program} {w : World} {K : PySem.W.Frag} {mg : Str → Option Value} {base : Heap} {f : Addr} {fd : FuncData}
/-! ### is_list -/
theorem sc_is_list : FnScope ["thing"] ["thing"] (defScope s_is_list) := ⟨rfl, rfl, rfl, by decide +kernel, rfl, by decide +kernel, by decide +kernel⟩
theorem ok_is_list (T : Bl mg) (F : FnP K "is_list" "is_list" s_is_list f fd) : FnOk P w K mg base CX0 1 f fd ["thing"] (spIsList K) := by
  refine F.ok sc_is_list (fun vs H Q E h => ?_) (fun cdv A outer s H vs Q E hr h => ?_)
  · obtain ⟨v, t, b, rfl, _⟩ := h
    rfl
  · refine ⟨_, PSs.nox (pss_one (ps_ret (pe_callB call_isiT rfl T.f_isinstance boot_isinstance (pa_cons (pv 0) (pa_cons (pe_tup (pa_cons (pe_bltn (v := .ty "list") rfl T.f_list PyProof.Rows.boot_list rfl) (pa_cons (pe_bltn (v := .ty "tuple") rfl T.f_tuple PyProof.Rows.boot_tuple rfl) pa_nil))) pa_nil))))), ?_⟩
    obtain ⟨v, t, b, rfl, ty, kt, q⟩ := h
    exact ⟨_, rfl, (show 2 ≤ sizeLine by decide), fun p np => ⟨v, p, [.ty "list", .ty "tuple"], t, LT, b, rfl, upd_same, .cons (.ty _) (.cons (.ty _) .nil), TyX.same ty (same_upd np), kt, q _ (same_upd np)⟩⟩
/-! ### is_name -/
theorem sc_is_name : FnScope ["thing"] ["thing"] (defScope s_is_name) := ⟨rfl, rfl, rfl, by decide +kernel, rfl, by decide +kernel, by decide +kernel⟩
theorem ok_is_name (T : Bl mg) (F : FnP K "is_name" "is_name" s_is_name f fd) : FnOk P w K mg base CX0 1 f fd ["thing"] (spIsName K) := by
  refine F.ok sc_is_name (fun vs H Q E h => ?_) (fun cdv A outer s H vs Q E hr h => ?_)
  · obtain ⟨v, b, rfl, _⟩ := h
    rfl
  · have nd := sc_is_name.nd
    refine ⟨_, PSs.nox (pss_one (ps_ret (pe_and (pe_callB call_isi rfl T.f_isinstance boot_isinstance (pa_cons (pv 0) (pa_cons (pe_bltn (v := .ty "str") rfl T.f_str PyProof.Rows.boot_str rfl) pa_nil)))
      (pe_and (pe_cmpR op_le (pe_callB call_len_str rfl T.f_len boot_len (pa_cons (pv 0) pa_nil)) pe_int (nomark _))
      (pe_and (pe_m0 PySem.F.slot_str_isascii PySem.F.type_str_isascii mt_isascii (pv 0))
      (pe_and (pe_m0 PySem.F.slot_str_isalpha PySem.F.type_str_isalpha mt_isalpha (pv 0))
      (pe_one (pe_m0 PySem.F.slot_str_islower PySem.F.type_str_islower mt_islower (pv 0))))))))), ?_⟩
    obtain ⟨v, b, rfl, hb, q⟩ := h
    rcases hb with ⟨z, rfl, hz, rfl⟩ | ⟨t, ty, kt, rfl⟩
    · have q1 := q H (Same.refl H)
      rw [isNm_txt] at q1
      refine ⟨_, rfl, _, .ty "str", _, _, true, rfl, .ty "str", .base (.str z), kit_ty (by decide +kernel), true, rfl, ?_⟩
      refine ⟨_, rfl, z, rfl, hz, (z.length : Nat), 8, rfl, rfl, _, rfl, ?_⟩
      have e8 : decide (((z.length : Nat) : Int) ≤ 8) = decide (z.length ≤ 8) := decide_eq_decide.mpr (by omega)
      rw [e8]
      cases e0 : decide (z.length ≤ 8) with
      | false =>
        rw [e0] at q1
        exact q1
      | true =>
        rw [e0] at q1
        refine ⟨_, rfl, ⟨_, rfl⟩, z, rfl, rfl, trivial, _, rfl, ?_⟩
        cases e1 : Txt.isascii z with
        | false =>
          rw [e1] at q1
          exact q1
        | true =>
          refine ⟨_, rfl, ⟨_, rfl⟩, z, rfl, rfl, trivial, _, rfl, ?_⟩
          rw [e1] at q1
          cases e2 : Txt.isalpha z with
          | false =>
            rw [e2] at q1
            exact q1
          | true =>
            rw [e2] at q1
            exact ⟨_, rfl, ⟨_, rfl⟩, z, rfl, rfl, trivial, q1⟩
    · exact ⟨_, rfl, _, .ty "str", t, _, false, rfl, .ty "str", ty, kt, false, rfl, q H (Same.refl H)⟩
/-! ### is_name_list -/
theorem sc_is_name_list : FnScope ["thing", "item"] ["thing"] (defScope s_is_name_list) := ⟨rfl, rfl, rfl, by decide +kernel, rfl, by decide +kernel, by decide +kernel⟩
theorem ok_is_name_list (T : Bl mg) (Cl : Cal P w K mg base "is_list" ["thing"] 1 (spIsList K)) (Cn : Cal P w K mg base "is_name" ["thing"] 1 (spIsName K)) (F : FnP K "is_name_list" "is_name_list" s_is_name_list f fd) :
    FnOk P w K mg base CX0 2 f fd ["thing"] (spNameList K) := by
  obtain ⟨fl, fdl, Gl, gl, kl, bl⟩ := Cl.ex
  obtain ⟨fn', fdn, Gn, gn, kn, bn⟩ := Cn.ex
  refine F.ok sc_is_name_list (fun vs H Q E h => ?_) (fun cdv A outer s H vs Q E hr h => ?_)
  · obtain ⟨v, c, rfl, _⟩ := h
    rfl
  · have nd := sc_is_name_list.nd
    refine ⟨_, PSs.nox (pss_cons (ps_if (PW.pt (pw_or (pt_not (pt_val (pe_call Gl hr rfl gl kl bl .nil pass0 (pa_cons (pv 0) pa_nil))))
        (pw_or1 (pt_not (pt_val (pe_callB (cr_all rfl) rfl T.f_all PyProof.Rows.boot_all (pa_cons (pe_lc (own := [("item", 1)]) (g := gName 1) (tt := tYes) rfl nd (pi_seq (pv 0)) (blkOk_by (N := ["thing", "item"]) (sc := defScope s_is_name_list) (by decide +kernel))
          (fun _ _ _ _ _ => pg_name (i := 1) nd rfl (Or.inl rfl)) (fun _ _ _ _ _ => pts_nil) (fun _ _ _ _ _ => pe_call Gn hr rfl gn kn bn .nil pass0 (pa_cons (pv 1) pa_nil))) pa_nil))))))) (pss_one (ps_ret pe_bl)) pss_nil)
      (pss_one (ps_ret (pe_cmpR op_eq (pe_lenTxt rfl rfl T.f_len rfl T.f_set (pv 0)) (pe_callB call_len rfl T.f_len boot_len (pa_cons (pv 0) pa_nil)) (nomark _))))), ?_⟩
    obtain ⟨v, c, rfl, hc, q⟩ := h
    rcases hc with ⟨t, ty, kt, rfl⟩ | ⟨xs, bs, hs, h9, hl, hi, rfl⟩
    · exact ⟨_, rfl, v, t, false, rfl, ty, kt, fun H' s' => ⟨false, rfl, q H' s'⟩⟩
    · obtain ⟨t, ty, kt⟩ := hs.kit
      refine ⟨_, rfl, v, t, true, rfl, ty, kt, fun H1 s1 => ⟨true, rfl, iteN rfl ?_⟩⟩
      refine t_nall ?_
      refine lc_seq (hs.same s1) (fun Q q => ⟨_, rfl, q⟩) (by omega) (fun i => .bl (bs.getD i false)) (fun i x H' Q' hx s' qq => ?_) (fun D H2 s2 e2 => ?_)
      · have lt : i < bs.length := by
          rw [hl]
          exact (List.getElem?_eq_some_iff.mp hx).1
        have hb : bs[i]? = some (bs.getD i false) := by rw [List.getD_eq_getElem?_getD, List.getElem?_eq_getElem lt]; rfl
        exact ⟨rfl, _, rfl, x, _, rfl, ((hi i x _ hx hb).same s1).same s', qq⟩
      · refine ⟨D, bs, rfl, SqL.of ?_, _, rfl, ?_⟩
        · rw [e2, ← hl]
          have e3 : (List.range bs.length).map (fun i => V.bl (bs.getD i false)) = ((List.range bs.length).map fun i => bs.getD i false).map V.bl := by rw [List.map_map]; rfl
          rw [e3, rngD]
        · refine ite2 (fun ha => ?_) fun ha => ?_
          · have e : bs.all id = false := by simpa using ha
            have e2' : nlB xs bs = false := by
              unfold nlB
              rw [e]
              rfl
            rw [e2'] at q
            exact q H2 (s1.trans s2)
          · have e : bs.all id = true := by simpa using ha
            have ex := all_strs hl hi e
            obtain ⟨a, rfl, hq⟩ := (hs.same s1).same s2
            have ll : (strsOf xs).length = xs.length := by
              have z := congrArg List.length ex
              rw [List.length_map] at z
              exact z.symm
            refine ⟨_, rfl, a, strsOf xs, rfl, by rw [← ex]; exact hq, by omega, _, rfl, .ref a, xs.length, rfl, Seq.len ⟨a, rfl, hq⟩, rfl, ?_⟩
            have e4 : decide (V.int ((SSx.ddN (strsOf xs) (strsOf xs).length).length : Nat) = V.int (xs.length : Nat)) = nlB xs bs := by
              unfold nlB
              rw [e, Bool.true_and]
              have z := SSx.ddN_nodup (xs := strsOf xs)
              by_cases n : (strsOf xs).Nodup
              · rw [decide_eq_true n, z.mpr n, ll]
                exact decide_eq_true rfl
              · rw [decide_eq_false n]
                refine decide_eq_false fun y => n (z.mp ?_)
                have y2 := V.int.inj y
                omega
            rw [e4]
            exact q H2 (s1.trans s2)
/-! ### is_row -/
theorem sc_is_row : FnScope ["thing"] ["thing"] (defScope s_is_row) := ⟨rfl, rfl, rfl, by decide +kernel, rfl, by decide +kernel, by decide +kernel⟩
theorem ok_is_row (T : Bl mg) (Cl : Cal P w K mg base "is_list" ["thing"] 1 (spIsList K)) (Cn : Cal P w K mg base "is_name" ["thing"] 1 (spIsName K)) (Cm : Cal P w K mg base "is_name_list" ["thing"] 2 (spNameList K)) (F : FnP K "is_row" "is_row" s_is_row f fd) :
    FnOk P w K mg base CX0 3 f fd ["thing"] (spIsRow K) := by
  obtain ⟨fl, fdl, Gl, gl, kl, bl⟩ := Cl.ex
  obtain ⟨fn', fdn, Gn, gn, kn, bn⟩ := Cn.ex
  obtain ⟨fm, fdm, Gm, gm, km, bm⟩ := Cm.ex
  refine F.ok sc_is_row (fun vs H Q E h => ?_) (fun cdv A outer s H vs Q E hr h => ?_)
  · obtain ⟨v, c, rfl, _⟩ := h
    rfl
  · have h1 := hr.mono (show 1 ≤ 2 by decide)
    refine ⟨_, PSs.nox (pss_one (ps_ret (pe_and (pe_call Gl h1 rfl gl kl bl .nil pass0 (pa_cons (pv 0) pa_nil)) (pe_and (pe_cmpR op_eq (pe_callB call_len rfl T.f_len boot_len (pa_cons (pv 0) pa_nil)) pe_int (nomark _))
      (pe_and (pe_call Gn h1 rfl gn kn bn .nil pass0 (pa_cons (pe_ix ix_seq (pv 0) pe_int fun _ _ => rfl) pa_nil)) (pe_one (pe_call Gm hr rfl gm km bm .nil pass0 (pa_cons (pe_ix ix_seq (pv 0) pe_int fun _ _ => rfl) pa_nil)))))))), ?_⟩
    obtain ⟨v, r, rfl, hv, q⟩ := h
    rcases hv with ⟨t, ty, kt, rfl⟩ | ⟨xs, hs, hv⟩
    · exact ⟨_, rfl, v, t, false, rfl, ty, kt, fun H' s' => ⟨false, rfl, q H' s'⟩⟩
    · obtain ⟨t, ty, kt⟩ := hs.kit
      refine ⟨_, rfl, v, t, true, rfl, ty, kt, fun H1 s1 => ⟨true, rfl, ?_⟩⟩
      refine ⟨_, rfl, v, xs.length, rfl, (hs.same s1).len, rfl, _, rfl, ?_⟩
      rcases hv with ⟨hn, rfl⟩ | ⟨x, y, b, c, rfl, hx, hy, rfl⟩
      · refine iteN (decide_eq_false fun z => hn ?_) (q H1 s1)
        have z2 := V.int.inj z
        omega
      · refine ⟨_, rfl, (hs.same s1).ix (x := x) rfl ⟨x, b, rfl, hx.same s1, fun H2 s2 => ⟨b, rfl, ?_⟩⟩⟩
        cases b with
        | false => exact q H2 (s1.trans s2)
        | true => exact ⟨_, rfl, ((hs.same s1).same s2).ix (x := y) rfl ⟨y, c, rfl, (hy.same s1).same s2, fun H3 s3 => q H3 ((s1.trans s2).trans s3)⟩⟩
/-! ### first_wrong_row -/
theorem sc_first : FnScope ["rows", "cells", "index", "row"] ["rows"] (defScope s_first_wrong_row) := ⟨rfl, rfl, rfl, by decide +kernel, rfl, by decide +kernel, by decide +kernel⟩
theorem ok_first (T : Bl mg) (Cl : Cal P w K mg base "is_list" ["thing"] 1 (spIsList K)) (Cr : Cal P w K mg base "is_row" ["thing"] 3 (spIsRow K)) (F : FnP K "first_wrong_row" "first_wrong_row" s_first_wrong_row f fd) :
    FnOk P w K mg base CX0 4 f fd ["rows"] (spFirst K) := by
  obtain ⟨fl, fdl, Gl, gl, kl, bl⟩ := Cl.ex
  obtain ⟨fr, fdr, Gr, gr, kr, br⟩ := Cr.ex
  refine F.ok sc_first (fun vs H Q E h => ?_) (fun cdv A outer s H vs Q E hr h => ?_)
  · obtain ⟨v, rfl, _⟩ := h
    rfl
  · have h1 := hr.mono (show 1 ≤ 3 by decide)
    have nd := sc_first.nd
    refine ⟨_, PSs.nox (pss_cons (ps_if (PW.pt (pw_or (pt_not (pt_val (pe_call Gl h1 rfl gl kl bl .nil pass0 (pa_cons (pv 0) pa_nil)))) (pw_or1 (pt_cmpR op_eq (pe_callB call_len rfl T.f_len boot_len (pa_cons (pv 0) pa_nil)) pe_int (nomark _))))) (pss_one (ps_ret pe_int)) pss_nil)
      (pss_cons (ps_set (i := 1) nd rfl (Or.inl rfl) (pe_lst pa_nil))
      (pss_cons (ps_for PassesOwn.never rfl (pi_enumS rfl T.f_enumerate (pa_cons (pv 0) pa_nil)) (pg_tup rfl (pgs_cons (pg_name (i := 2) nd rfl (Or.inl rfl)) (pgs_cons (pg_name (i := 3) nd rfl (Or.inl rfl)) pgs_nil)))
        (pss_cons (ps_if (PW.pt (pw_or (pt_not (pt_val (pe_call Gr hr rfl gr kr br .nil pass0 (pa_cons (pv 3) pa_nil)))) (pw_or1 (pt_cmpR op_in_seq (pe_ix ix_seq (pv 3) pe_int fun _ _ => rfl) (pv 1) rfl)))) (pss_one (ps_ret (pv 2))) pss_nil)
        (pss_one (ps_expr (pe_bm PySem.F.plainAttrs_list PySem.F.slot_list_append PySem.F.type_list_append mt_append (pv 1) (pa_cons (pe_ix ix_seq (pv 3) pe_int fun _ _ => rfl) pa_nil))))))
      (pss_one (ps_ret pe_non))))), ?_⟩
    obtain ⟨v, rfl, hv⟩ := h
    rcases hv with ⟨t, ty, kt, q⟩ | ⟨ds, hs, hn, hd, q⟩
    · exact ⟨_, rfl, v, t, false, rfl, ty, kt, fun H' s' => ⟨false, rfl, q H' s'⟩⟩
    · obtain ⟨t, ty, kt⟩ := hs.kit
      refine ⟨_, rfl, _, t, true, rfl, ty, kt, fun H1 s1 => ⟨true, rfl, iteN rfl ?_⟩⟩
      refine ⟨_, rfl, v, (ds.map Prod.fst).length, rfl, (hs.same s1).len, rfl, _, rfl, ?_⟩
      refine ite2 (fun hz => ?_) fun hz => ?_
      · have e : ds = [] := by
          have y := V.int.inj (of_decide_eq_true hz)
          rw [List.length_map] at y
          exact List.length_eq_zero_iff.mp (by omega)
        subst e
        exact q H1 s1
      · have ne : ds ≠ [] := fun e => by
          subst e
          exact hz (decide_eq_true rfl)
        have q' : ∀ H', Same H H' → Q (optV (firstW (ds.map Prod.snd) [] 0)) H' := by
          unfold firstR at q
          rw [if_neg ne] at q
          exact q
        refine ⟨(show 0 ≤ sizeLine by decide), fun c nc => ?_⟩
        have nc0 : H c = none := s1.free nc
        refine g_nm ?_
        dsimp only
        refine t_seqF ?_
        refine for_enumS hs (fun Q q => ⟨_, rfl, q⟩) (fun i σ H' => Same H H' ∧ (∃ o2 o3, σ = [some v, some (.ref c), o2, o3]) ∧ H' c = some (.lst (((ds.take i).map nmOf).map .str)) ∧ firstW (ds.map Prod.snd) [] 0 = firstW ((ds.drop i).map Prod.snd) ((ds.take i).map nmOf) i)
          ⟨s1.trans (same_upd nc), ⟨_, _, rfl⟩, upd_same, rfl⟩ (fun i σ H' p => p.1) ?_ ?_
        · rintro i y σ H2 T2 ey2 ⟨s2, ⟨o2, o3, rfl⟩, e2, ef⟩ nT
          have hi' : i < ds.length := by
            have z := (List.getElem?_eq_some_iff.mp ey2).1
            simpa using z
          have ey' : y = (ds[i]).1 := by
            rw [List.getElem?_map, List.getElem?_eq_getElem hi'] at ey2
            exact (Option.some.inj ey2).symm
          subst ey'
          have s3 : Same H (upd H2 T2 (.tup [.int (i : Nat), (ds[i]).1])) := s2.trans (same_upd nT)
          have e3 : (upd H2 T2 (.tup [.int (i : Nat), (ds[i]).1])) c = some (.lst (((ds.take i).map nmOf).map .str)) := same_upd nT _ _ e2
          have eT : (upd H2 T2 (.tup [.int (i : Nat), (ds[i]).1])) T2 = some (.tup [.int (i : Nat), (ds[i]).1]) := upd_same
          generalize upd H2 T2 (.tup [.int (i : Nat), (ds[i]).1]) = H3 at *
          refine ⟨T2, [.int (i : Nat), (ds[i]).1], rfl, SqT.of eT, rfl, _, _, rfl, _, _, rfl, rfl, ?_⟩
          obtain ⟨d1, d2⟩ := hd ds[i] (List.getElem_mem hi')
          have drop : ds.drop i = ds[i] :: ds.drop (i + 1) := List.drop_eq_getElem_cons hi'
          refine ⟨_, rfl, (ds[i]).1, (ds[i]).2.1, rfl, d1.same s3, fun H4 s4 => ⟨(ds[i]).2.1, rfl, ?_⟩⟩
          have out : ((ds[i]).2.1 = false ∨ (ds[i]).2.2 ∈ (ds.take i).map nmOf) → firstW (ds.map Prod.snd) [] 0 = some i := fun z => by
            rw [ef, drop, List.map_cons]
            show firstW (((ds[i]).2.1, (ds[i]).2.2) :: _) _ _ = _
            unfold firstW
            rw [if_pos z]
          cases hrw : (ds[i]).2.1 with
          | false =>
            have e := out (.inl hrw)
            have qq := q' H4 (s3.trans s4)
            rw [e] at qq
            exact ⟨_, rfl, qq⟩
          | true =>
            obtain ⟨y2, sq⟩ := d2 hrw
            have sq4 := (sq.same s3).same s4
            refine ⟨_, rfl, sq4.ix (x := .str (ds[i]).2.2) rfl ⟨_, rfl, c, _, rfl, .inl (SqL.of (s4 _ _ e3)), rfl, flat_strs' _, _, rfl, ?_⟩⟩
            refine ite2 (fun hin => ?_) fun hin => ?_
            · have m : (ds[i]).2.2 ∈ (ds.take i).map nmOf := by
                have z : inV (.str (ds[i]).2.2) (((ds.take i).map nmOf).map .str) = true := hin
                rw [in_strs] at z
                exact of_decide_eq_true z
              have e := out (.inr m)
              have qq := q' H4 (s3.trans s4)
              rw [e] at qq
              exact ⟨_, rfl, qq⟩
            · have m : ¬ (ds[i]).2.2 ∈ (ds.take i).map nmOf := fun z => hin (by
                show inV (.str (ds[i]).2.2) (((ds.take i).map nmOf).map .str) = true
                rw [in_strs]
                exact decide_eq_true z)
              refine ⟨_, rfl, .inl ⟨rfl, _, SqL.of (s4 _ _ e3)⟩, _, rfl, sq4.ix (x := .str (ds[i]).2.2) rfl ⟨c, _, _, rfl, rfl, s4 _ _ e3, ?_, ?_⟩⟩
              · rw [List.length_map, List.length_map, List.length_take, sizeLine_eq]
                omega
              · have tk : ds.take (i + 1) = ds.take i ++ [ds[i]] := by rw [List.take_succ, List.getElem?_eq_getElem hi']; rfl
                refine ⟨same_over nc0 (s3.trans s4), ⟨_, _, rfl⟩, ?_, ?_⟩
                · rw [upd_same, tk, List.map_append, List.map_append]
                  rfl
                · rw [ef, drop, List.map_cons, tk, List.map_append]
                  show firstW (((ds[i]).2.1, (ds[i]).2.2) :: _) _ _ = _
                  conv => lhs; unfold firstW
                  rw [if_neg]
                  · rfl
                  · rintro (z | z)
                    · rw [hrw] at z
                      cases z
                    · exact m z
        · rintro σ H2 ⟨s2, ⟨o2, o3, rfl⟩, e2, ef⟩
          have e : firstW (ds.map Prod.snd) [] 0 = none := by
            rw [ef, List.length_map, List.drop_length]
            rfl
          have qq := q' H2 s2
          rw [e] at qq
          exact qq
end
end K63
end L2
set_option Elab.async false
set_option linter.all false
set_option maxRecDepth 100000
set_option maxHeartbeats 4000000
namespace L2
namespace K63
open PySem PySem.Spec PyProof.Rows K1 WL
section
variable {P : Program} {w : World} {K : PySem.W.Frag} {mg : Str → Option Value} {base : Heap} {f : Addr} {fd : FuncData}
/-! ### _law_cell -/
theorem sc_cell : FnScope ["_law_script", "_law_k"] ["_law_script", "_law_k"] (defScope s_cell) := ⟨rfl, rfl, rfl, by decide +kernel, rfl, by decide +kernel, by decide +kernel⟩
theorem ok_cell (T : Bl mg) (F : FnP K "_law_cell" "_law_cell" s_cell f fd) : FnOk P w K mg base CX0 1 f fd ["_law_script", "_law_k"] (spCellL K) := by
  refine F.ok sc_cell (fun vs H Q E h => ?_) (fun cdv A outer s H vs Q E hr h => ?_)
  · obtain ⟨l, ns, j, rfl, _⟩ := h
    rfl
  · refine ⟨_, PSs.nox (pss_cons (ps_if (pt_cmpR op_lt (pv 1) (pe_callB call_len rfl T.f_len boot_len (pa_cons (pv 0) pa_nil)) (nomark _)) (pss_one (ps_ret (pe_ix ix_list (pv 0) (pv 1) fun _ _ => rfl))) pss_nil)
      (pss_one (ps_ret pe_int))), ?_⟩
    obtain ⟨l, ns, j, rfl, hs, q⟩ := h
    refine ⟨_, rfl, _, rfl, V.ref l, (ns.map V.int).length, rfl, .inl ⟨_, hs, rfl⟩, (j : Nat), ((ns.map V.int).length : Nat), rfl, rfl, _, rfl, ?_⟩
    refine ite2 (fun z => ?_) fun z => ?_
    · have hj : j < ns.length := by
        have z2 := of_decide_eq_true z
        rw [List.length_map] at z2
        omega
      exact ⟨_, rfl, _, rfl, l, _, _, _, rfl, rfl, hs, atI_cell hj, q _⟩
    · exact q 0
/-! ### _law_pool -/
theorem sc_pool : FnScope ["_law_cell_here", "_law_folded"] ["_law_cell_here"] (defScope s_pool) := ⟨rfl, rfl, rfl, by decide +kernel, rfl, by decide +kernel, by decide +kernel⟩
theorem ok_pool (T : Bl mg) (F : FnP K "_law_pool" "_law_pool" s_pool f fd) : FnOk P w K mg base CX0 1 f fd ["_law_cell_here"] spPoolL := by
  refine F.ok sc_pool (fun vs H Q E h => ?_) (fun cdv A outer s H vs Q E hr h => ?_)
  · obtain ⟨g, rfl, _⟩ := h
    rfl
  · refine ⟨_, PSs.nox (pss_cons (ps_set (i := 1) sc_pool.nd rfl (Or.inl rfl) (pe_op op_mul pe_int (pv 0)))
      (pss_cons (ps_if (pt_cmpR op_lt (pv 0) pe_int (nomark _)) (pss_one (ps_set (i := 1) sc_pool.nd rfl (Or.inl rfl) (pe_op op_sub (pe_op op_sub pe_int (pe_op op_mul pe_int (pv 0))) pe_int))) pss_nil)
      (pss_cons (ps_if (pt_cmpR op_ge (pv 1) (pe_op op_pow pe_int pe_int) (nomark _)) (pss_one (ps_ret (pe_lst (pa_cons (pv 1) (pa_cons (pe_op op_mod (pe_callTy call_int1 rfl T.f_int PyProof.Rows.boot_int (pa_cons (pv 1) pa_nil)) pe_int) (pa_cons pe_int pa_nil)))))) pss_nil)
      (pss_one (ps_ret (pe_lst (pa_cons pe_int (pa_cons (pe_op op_mod (pe_callTy call_int1 rfl T.f_int PyProof.Rows.boot_int (pa_cons (pv 1) pa_nil)) pe_int) (pa_cons pe_int pa_nil))))))))), ?_⟩
    obtain ⟨g, rfl, q0⟩ := h
    have q : ∀ p a b, H p = none → 0 ≤ a → 0 ≤ b → b < 1000000007 → Q (.ref p) (upd H p (.lst [.int a, .int b, .int 0])) := fun p a b hp ha hb hb1 => q0 p _ hp ⟨a, b, 0, upd_same, ha, hb, hb1, Int.le_refl 0, Int.le_refl 0⟩
    have tail : ∀ (n : Int), 0 ≤ n → (tSeq (tIfS (tTest (tOp (rI0 fun i j => .bl (decide (j ≤ i))) (tVar 1) (tOp (rI CPow fun i j => .int (i ^ j.toNat)) (tC (.int 10)) (tC (.int 18)))))
        (tRet (tLst (tCons (tVar 1) (tCons (tOp (rI (fun _ j => 0 < j) fun i j => .int (i % j)) (tCB (fun xs H Q => (∃ i, xs = [.int i] ∧ Q (.int i) H) ∨ ∃ k, xs = [.bl k] ∧ Q (.int (if k then 1 else 0)) H) (tCons (tVar 1) tNil)) (tC (.int 1000000007))) (tCons (tC (.int 0)) tNil))))) tNext)
        (tRet (tLst (tCons (tC (.int 0)) (tCons (tOp (rI (fun _ j => 0 < j) fun i j => .int (i % j)) (tCB (fun xs H Q => (∃ i, xs = [.int i] ∧ Q (.int i) H) ∨ ∃ k, xs = [.bl k] ∧ Q (.int (if k then 1 else 0)) H) (tCons (tVar 1) tNil)) (tC (.int 1000000007))) (tCons (tC (.int 0)) tNil))))))
        { nx := fun _ H' => Q .non H', rt := Q } [some (.int g), some (.int n)] H := by
      intro n hn
      have m0 : 0 ≤ n % 1000000007 := Int.emod_nonneg n (by decide)
      have m1 : n % 1000000007 < 1000000007 := Int.emod_lt_of_pos n (by decide)
      refine ⟨_, rfl, 10, 18, rfl, rfl, ⟨by decide, by decide, by decide⟩, _, _, rfl, rfl, _, rfl, ?_⟩
      refine ite2 (fun _ => ?_) fun _ => ?_
      · exact ⟨_, rfl, _, rfl, .inl ⟨n, rfl, n, 1000000007, rfl, rfl, (show (0 : Int) < 1000000007 by decide), (show 3 ≤ sizeLine by decide), fun p hp => q p n (n % 1000000007) hp hn m0 m1⟩⟩
      · exact ⟨_, rfl, .inl ⟨n, rfl, n, 1000000007, rfl, rfl, (show (0 : Int) < 1000000007 by decide), (show 3 ≤ sizeLine by decide), fun p hp => q p 0 (n % 1000000007) hp (Int.le_refl 0) m0 m1⟩⟩
    refine ⟨_, rfl, 2, g, rfl, rfl, .inl ⟨by decide, by decide⟩, ?_⟩
    refine ⟨_, rfl, _, _, rfl, rfl, _, rfl, ?_⟩
    refine ite2 (fun hg => ?_) fun hg => ?_
    · have hg' : g < 0 := of_decide_eq_true hg
      refine ⟨_, rfl, 2, g, rfl, rfl, .inl ⟨by decide, by decide⟩, _, _, rfl, rfl, _, _, rfl, rfl, ?_⟩
      exact tail (0 - 2 * g - 1) (by omega)
    · have hg' : ¬ g < 0 := fun z => hg (decide_eq_true z)
      exact tail (2 * g) (by omega)
/-! ### _law_take -/
abbrev nmTK : List Str := ["_law_pool_here", "_law_many", "_law_draw", "_law_mixed"]
theorem sc_take : FnScope nmTK ["_law_pool_here", "_law_many"] (defScope s_take) := ⟨rfl, rfl, rfl, by decide +kernel, rfl, by decide +kernel, by decide +kernel⟩
theorem ok_take (T : Bl mg) (F : FnP K "_law_take" "_law_take" s_take f fd) : FnOk P w K mg base CX0 1 f fd ["_law_pool_here", "_law_many"] spTakeL := by
  refine F.ok sc_take (fun vs H Q E h => ?_) (fun cdv A outer s H vs Q E hr h => ?_)
  · obtain ⟨p, m, n, rfl, _⟩ := h
    rfl
  · refine ⟨_, PSs.nox (pss_cons (ps_if (pt_cmpR op_gt (pe_ix ix_list (pv 0) pe_int fun _ _ => rfl) pe_int (nomark _))
        (pss_cons (ps_set (i := 2) sc_take.nd rfl (Or.inl rfl) (pe_op op_mod (pe_callTy call_int1 rfl T.f_int PyProof.Rows.boot_int (pa_cons (pe_ix ix_list (pv 0) pe_int fun _ _ => rfl) pa_nil)) (pv 1)))
        (pss_cons (ps_asg (pe_op op_fdiv (pe_ix ix_list (pv 0) pe_int fun _ _ => rfl) (pv 1)) (pg_sub (pv 0) pe_int set_list))
        (pss_one (ps_ret (pv 2))))) pss_nil)
      (pss_cons (ps_asg (pe_op op_add (pe_ix ix_list (pv 0) pe_int fun _ _ => rfl) pe_int) (pg_sub (pv 0) pe_int set_list))
      (pss_cons (ps_set (i := 3) sc_take.nd rfl (Or.inl rfl) (pe_op op_mod (pe_callTy call_int1 rfl T.f_int PyProof.Rows.boot_int (pa_cons (pe_op op_pow (pe_op op_add (pe_op op_add (pe_ix ix_list (pv 0) pe_int fun _ _ => rfl) (pe_op op_mul pe_int (pe_ix ix_list (pv 0) pe_int fun _ _ => rfl))) pe_int) pe_int) pa_nil)) pe_int))
      (pss_one (ps_ret (pe_op op_mod (pe_op op_mod (pe_callTy call_int1 rfl T.f_int PyProof.Rows.boot_int (pa_cons (pe_op op_mul (pe_op op_add (pv 3) (pe_ix ix_list (pv 0) pe_int fun _ _ => rfl)) pe_int) pa_nil)) pe_int) (pv 1))))))), ?_⟩
    obtain ⟨p, m, n, rfl, hm0, hm1, ⟨a, b, c, hp, ha, hb0, hb1, hc0, hcn⟩, hn, q0⟩ := h
    have q : ∀ r a' c', 0 ≤ r → r < m → 0 ≤ a' → 0 ≤ c' → c' ≤ c + 1 → Q (.int r) (upd H p (.lst [.int a', .int b, .int c'])) := fun r a' c' h1 h2 h3 h4 h5 => by
      have e := q0 r.toNat (upd H p (.lst [.int a', .int b, .int c'])) (by omega) hide_updp ⟨a', b, c', upd_same, h3, hb0, hb1, h4, by omega⟩
      rw [Int.toNat_of_nonneg h1] at e
      exact e
    refine ⟨_, rfl, p, _, 0, .int a, rfl, rfl, SqL.of hp, rfl, a, 0, rfl, rfl, _, rfl, ?_⟩
    refine ite2 (fun hg => ?_) fun hg => ?_
    · have hg' : 0 < a := of_decide_eq_true hg
      refine ⟨_, rfl, p, _, 0, .int a, rfl, rfl, SqL.of hp, rfl, .inl ⟨a, rfl, _, rfl, a, m, rfl, rfl, hm0, ?_⟩⟩
      refine ⟨_, rfl, p, _, 0, .int a, rfl, rfl, SqL.of hp, rfl, _, rfl, a, m, rfl, rfl, ⟨hm0, by omega⟩, _, rfl, p, _, 0, 0, rfl, rfl, hp, rfl, ?_⟩
      exact ⟨_, rfl, q (a % m) (a / m) c (Int.emod_nonneg a (by omega)) (Int.emod_lt_of_pos a hm0) (Int.ediv_nonneg ha (by omega)) hc0 (by omega)⟩
    · refine ⟨_, rfl, p, _, 2, .int c, rfl, rfl, SqL.of hp, rfl, c, 1, rfl, rfl, _, rfl, p, _, 2, 2, rfl, rfl, hp, rfl, ?_⟩
      have h1 : (upd H p (.lst [.int a, .int b, .int (c + 1)])) p = some (.lst [.int a, .int b, .int (c + 1)]) := upd_same
      have e1 : 0 ≤ b + 7919 * (c + 1) + 104729 := by omega
      have e2 : b + 7919 * (c + 1) + 104729 < 2 ^ 60 := by
        have : (2 : Int) ^ 60 = 1152921504606846976 := by decide
        omega
      refine ⟨_, rfl, p, _, 1, .int b, rfl, rfl, SqL.of h1, rfl, _, rfl, p, _, 2, .int (c + 1), rfl, rfl, SqL.of h1, rfl, 7919, c + 1, rfl, rfl, .inl ⟨by decide, by decide⟩, b, _, rfl, rfl, _, _, rfl, rfl, _, 5, rfl, rfl, ⟨by decide, by decide, ?_⟩, .inl ⟨_, rfl, _, 2147483647, rfl, rfl, (show (0 : Int) < 2147483647 by decide), ?_⟩⟩
      · have : (2 : Int) ^ 60 = 1152921504606846976 := by decide
        have : (2 : Nat) ^ 64 = 18446744073709551616 := by decide
        omega
      · refine ⟨_, rfl, _, rfl, p, _, 2, .int (c + 1), rfl, rfl, SqL.of h1, rfl, _, _, rfl, rfl, _, 40692, rfl, rfl, .inr ⟨by decide, by decide⟩, .inl ⟨_, rfl, _, 2147483629, rfl, rfl, (show (0 : Int) < 2147483629 by decide), _, rfl, _, m, rfl, rfl, hm0, ?_⟩⟩
        exact q _ a (c + 1) (Int.emod_nonneg _ (by omega)) (Int.emod_lt_of_pos _ hm0) ha (by omega) (Int.le_refl _)
end
end K63
end L2
set_option Elab.async false
set_option linter.all false
set_option maxRecDepth 100000
set_option maxHeartbeats 4000000
namespace L2
namespace WL
open PySem PySem.Spec PyProof.Rows K1 LamX
/-! ### i not in r -/
theorem op_notInRng {X : Cx} : OpR X (compareOp .NotIn) (fun x y H Q => ∃ i a lo hi, x = V.int i ∧ y = V.ref a ∧ H a = some (.rng lo hi) ∧ Q (.bl (!decide (lo ≤ i ∧ i < hi))) H) := by
  intro pins s σ H x y v u Q I rx ry h
  obtain ⟨i, a, lo, hi, rfl, rfl, ha, q⟩ := h
  obtain ⟨k, rfl⟩ := rx
  obtain rfl : u = Value.ref a := ry
  obtain ⟨t1, t2, t3, ho⟩ := I.hok a _ ha
  have ty : s.TypeIs (.ref a) "range" := ⟨_, ho, rfl⟩
  have fin : wpAny (model X.prog X.w) X.A (pure (Value.bool (!(Builtin.Range.rangePlace? lo hi 1 i).isSome)) : Sem Value) (EP X pins σ Q) X.xe s := by
    rw [place1]
    exact wpAny_pure ⟨.bl _, H, I, rfl, q⟩
  show wpAny _ _ (do return Value.bool (!(← contains (Value.ref a) (Value.int i k)))) _ _ s
  exact wpAny_bind (wpAny_contains_slot (T := "range") ty PySem.F.slot_range_contains (call_meets PySem.F.slot_range_contains ty PySem.F.entry_range_contains (PySem.F.args_range_contains_2 _ _) (q_contains a lo hi i t1 t2 t3 k) ⟨ho, wpAny_truthy_bool fin⟩))
/-! ### what comes of making a web -/
inductive Out where
  | made (cs : List Str)
  | bad (i : Nat)
  | unk (z : Str)
def Out.d : Out → PyData
  | .made cs => .tuple [.str "made", .tuple (dS cs)]
  | .bad i => .tuple [.str "bad", .int (i : Nat)]
  | .unk z => .tuple [.str "unknown", .str z]
/-- what comes of rows that look so -/
def MetOf (K : PySem.W.Frag) (H : Hp) (v : V) (o : Out) : Prop := (∃ t, TyX K H v t ∧ PySem.W.kitAny K t LT = some false ∧ o = .bad 0) ∨
  ∃ ds : List (V × Bool × Str), Seq K H v (ds.map Prod.fst) ∧ ds.length ≤ 1000 ∧ (∀ d ∈ ds, RowD K H d) ∧ ((∃ i, firstR ds = some i ∧ o = .bad i) ∨
    (firstR ds = none ∧ ∃ rs : Rws, Paired (fun (d : V × Bool × Str) (r : Str × List Str) => RowG K H d.1 r ∧ r.2.length ≤ 900) ds rs ∧ ((∃ u, firstU (rs.map Prod.fst) rs = some u ∧ o = .unk u) ∨ (Good rs ∧ o = .made (rs.map Prod.fst)))))
def spMet (K : PySem.W.Frag) : Sp := fun vs H Q _ => ∃ v o, vs = [v] ∧ MetOf K H v o ∧ ∀ H' q, Same H H' → Dp K H' (.ref q) o.d → Q (.ref q) H'
theorem passLen {X : Cx} {W : WX} (tk : Takes X W) : ∀ (pins : List (Addr × Obj)) (σ : St) (H : Hp) (s : Shared) (e : Value) (s' : Shared), Inv X pins σ H s → L2.CX X.prog X.w X.stack H s (fun cls d H => ∀ σ : St, σ.length = X.N.length → W cls d σ H) e s' → X.xe e s' :=
  fun _ σ _ _ e s' I c => tk e s' (XE.of_call I (fun cls d H' h => h σ I.len) c)
theorem Rz.of {H H4 : Hp} {E : XK} {C : Addr} {f : Str} {v : V} (s : Same H H4) (h : ∀ H' d, Same H H' → H' d = some (.xd [(f, v)]) → E (.ref C) (some d) H') : Rz H4 E C f v := fun H' d s' e => h H' d (s.trans s') e
/-- web or error of rows that look so -/
theorem MetOf.init {K : PySem.W.Frag} {H H4 : Hp} {C x dx : Addr} {v : V} {o : Out} {Q : VK} {E : XK} (h : MetOf K H v o) (nx : H x = none) (nd : H dx = none) (e4 : upd (upd H dx (.own x)) x (.ins C dx []) = H4)
    (mk : ∀ rs H', Same H H' → o = .made (rs.map Prod.fst) → Good rs → IsWeb K H' C x rs → Q .non H')
    (bad : ∀ i, o = .bad i → ∀ H' d, Same H H' → H' d = some (.xd [("index", .int (i : Nat))]) → E (.ref (He.ga K "BadWeb")) (some d) H')
    (unk : ∀ z, o = .unk z → ∀ H' d, Same H H' → H' d = some (.xd [("cell", .str z)]) → E (.ref (He.ga K "UnknownCell")) (some d) H') : spInit K C [.ref x, v] H4 Q E := by
  have sx := same_mk nx nd e4.symm
  have s4 := sx.trans hide_le
  have hx : H4 x = some (.ins C dx []) := by rw [← e4]; exact upd_same
  refine ⟨x, dx, v, rfl, hx, ?_⟩
  rcases h with ⟨t, h1, h2, rfl⟩ | ⟨ds, h1, h2, h3, h⟩
  · exact .inl fun Q' => ⟨v, rfl, .inl ⟨t, TyX.same h1 s4, h2, Rz.of s4 (bad 0 rfl)⟩⟩
  · rcases h with ⟨i, hi, rfl⟩ | ⟨h0, rs, hp, ⟨u, hu, rfl⟩ | ⟨g, rfl⟩⟩
    · exact .inl fun Q' => ⟨v, rfl, .inr ⟨ds, h1.same s4, h2, fun d hd => (h3 d hd).same s4, .inl ⟨i, hi, Rz.of s4 (bad i rfl)⟩⟩⟩
    · exact .inl fun Q' => ⟨v, rfl, .inr ⟨ds, h1.same s4, h2, fun d hd => (h3 d hd).same s4, .inr ⟨h0, rs, (Paired.length hp).symm, fun i d r e1 e2 => by
        obtain ⟨r', e3, h5⟩ := Paired.getL hp e1
        rw [e2] at e3
        cases e3
        exact ⟨h5.1.same s4, h5.2⟩, .inl ⟨u, hu, Rz.of s4 (unk u rfl)⟩⟩⟩⟩
    · refine .inr ⟨ds.map Prod.fst, rs, h1.same sx, ?_, g, fun H' s' w => mk rs H' ((sx.trans s').trans hide_le) rfl g w⟩
      have key : ∀ {l : List (V × Bool × Str)} {m : Rws}, Paired (fun (d : V × Bool × Str) (r : Str × List Str) => RowG K H d.1 r ∧ r.2.length ≤ 900) l m → Paired (RowG K (hide x H4)) (l.map Prod.fst) m := by
        intro l m hp
        induction hp with
        | nil => exact .nil
        | cons a _ ih => exact .cons (a.1.same sx) ih
      exact key hp
end WL
end L2
set_option Elab.async false
set_option linter.all false
set_option maxRecDepth 100000
set_option maxHeartbeats 4000000
namespace L2
namespace WL
open PySem PySem.Spec PyProof.Rows K1 LamX
/-! ### xs != [] -/
def rNeNil (K : PySem.W.Frag) : R2 := fun x y H Q => ∃ a b xs, x = .ref a ∧ y = .ref b ∧ SqL K H a xs ∧ SqL K H b [] ∧ Q (.bl (!xs.isEmpty)) H
theorem op_neNil {X : Cx} (hu : X.A.units + 64 < cLine) : OpR X (compareOp .NotEq) (rNeNil X.K) := by
  intro pins s σ H x y v u Q I rx ry h
  obtain ⟨a, b, xs, rfl, rfl, ha, hb, q⟩ := h
  cases (show v = Value.ref a from rx)
  cases (show u = Value.ref b from ry)
  obtain ⟨us, r1, p1, _⟩ := I.list ha
  obtain ⟨ws, r2, p2, _⟩ := I.list hb
  cases r2
  cases r1 with
  | nil => exact SeqAt.RcNeAt.lists (e := fun _ => true) p1.isList p2.isList rfl (by omega) (fun j h1 h2 => absurd h1 (Nat.not_lt_zero j)) X.prog X.w _ _ ⟨.bl false, H, I, rfl, q⟩
  | cons h t => exact SeqAt.RcNeAt.lists_lengths p1.isList p2.isList (by simp) (by omega) X.prog X.w _ _ ⟨.bl true, H, I, rfl, q⟩
/-! ### rows by their looks -/
abbrev Lk : Type := Bool × Str × List Str
/-- a value that may be a list of names; what it lists if it is one -/
def NL1 (K : PySem.W.Frag) (H : Hp) (s : V) (c : Bool) (ss : List Str) : Prop := (∃ t, TyX K H s t ∧ PySem.W.kitAny K t LT = some false ∧ c = false) ∨
  ∃ (l : Addr) (xs : List V) (bs : List Bool), s = .ref l ∧ H l = some (.lst xs) ∧ xs.length ≤ 900 ∧ bs.length = xs.length ∧ (∀ (i : Nat) x b, xs[i]? = some x → bs[i]? = some b → IsN K H x b) ∧ c = nlB xs bs ∧ (c = true → xs = ss.map .str)
theorem NL1.same {K : PySem.W.Frag} {H H' : Hp} {v : V} {c : Bool} {ss : List Str} (h : NL1 K H v c ss) (s : Same H H') : NL1 K H' v c ss := by
  rcases h with ⟨t, h1, h2⟩ | ⟨l, xs, bs, h1, h2, h3, h4, h5, h6⟩
  · exact .inl ⟨t, TyX.same h1 s, h2⟩
  · exact .inr ⟨l, xs, bs, h1, s _ _ h2, h3, h4, fun i x b e e2 => (h5 i x b e e2).same s, h6⟩
theorem NL1.nlis {K : PySem.W.Frag} {H : Hp} {v : V} {c : Bool} {ss : List Str} (h : NL1 K H v c ss) : NLis K H v c := by
  rcases h with h | ⟨l, xs, bs, rfl, h2, h3, h4, h5, h6, _⟩
  · exact .inl h
  · exact .inr ⟨xs, bs, ⟨l, rfl, .inl (SqL.of h2)⟩, h3, h4, h5, h6⟩
/-- a cell and its sources, by their looks -/
def CS (K : PySem.W.Frag) (H : Hp) (c s : V) (e : Lk) : Prop := ∃ bc bs, IsN K H c bc ∧ NL1 K H s bs e.2.2 ∧ e.1 = (bc && bs) ∧ (bc = true → c = .str e.2.1)
theorem CS.same {K : PySem.W.Frag} {H H' : Hp} {c s : V} {e : Lk} (h : CS K H c s e) (q : Same H H') : CS K H' c s e := let ⟨bc, bs, h1, h2, h3⟩ := h; ⟨bc, bs, h1.same q, h2.same q, h3⟩
/-- rows as the law has them (tuples), as it hands them in (lists) -/
def ItD (K : PySem.W.Frag) (H : Hp) (v : V) (e : Lk) : Prop := (v = .non ∧ e.1 = false) ∨ ∃ t c s, v = .ref t ∧ H t = some (.tup [c, s]) ∧ CS K H c s e
def ItM (K : PySem.W.Frag) (H : Hp) (v : V) (e : Lk) : Prop := (v = .non ∧ e.1 = false) ∨ ∃ t c s, v = .ref t ∧ H t = some (.lst [c, s]) ∧ CS K H c s e
theorem ItD.same {K : PySem.W.Frag} {H H' : Hp} {v : V} {e : Lk} (h : ItD K H v e) (q : Same H H') : ItD K H' v e := by
  rcases h with h | ⟨t, c, s, h1, h2, h3⟩
  · exact .inl h
  · exact .inr ⟨t, c, s, h1, q _ _ h2, h3.same q⟩
theorem ItM.same {K : PySem.W.Frag} {H H' : Hp} {v : V} {e : Lk} (h : ItM K H v e) (q : Same H H') : ItM K H' v e := by
  rcases h with h | ⟨t, c, s, h1, h2, h3⟩
  · exact .inl h
  · exact .inr ⟨t, c, s, h1, q _ _ h2, h3.same q⟩
theorem kit_non {K : PySem.W.Frag} : PySem.W.kitAny K (.type "NoneType") LT = some false := by
  unfold PySem.W.kitAny
  rw [kit_ty (K := K) (a := "NoneType") (b := "list") (r := false) (by decide +kernel)]
  show PySem.W.kitAny K (.type "NoneType") [.type "tuple"] = some false
  unfold PySem.W.kitAny
  rw [kit_ty (K := K) (a := "NoneType") (b := "tuple") (r := false) (by decide +kernel)]
  rfl
theorem strsOf_strs (xs : List Str) : strsOf (xs.map .str) = xs := strsOf_map xs
theorem ItM.rowD {K : PySem.W.Frag} {H : Hp} {v : V} {e : Lk} (h : ItM K H v e) : RowD K H (v, e.1, e.2.1) := by
  rcases h with ⟨rfl, e1⟩ | ⟨t, c, s, rfl, h2, bc, bs, h3, h4, h5, h6⟩
  · exact ⟨.inl ⟨_, .base .non, kit_non, e1⟩, fun z => by rw [show e.1 = true from z] at e1; cases e1⟩
  · have q : Seq K H (.ref t) [c, s] := ⟨t, rfl, .inl (SqL.of h2)⟩
    refine ⟨.inr ⟨[c, s], q, .inr ⟨c, s, bc, bs, rfl, h3, h4.nlis, h5⟩⟩, fun z => ?_⟩
    rw [show e.1 = true from z] at h5
    obtain ⟨g1, _⟩ := Bool.and_eq_true_iff.mp h5.symm
    rw [← h6 g1]
    exact ⟨s, q⟩
/-- what comes of rows that look so -/
def outOf (es : List Lk) : Out := if es = [] then .bad 0 else match firstW (es.map fun e => (e.1, e.2.1)) [] 0 with
  | some i => .bad i
  | none => match firstU (es.map fun e => e.2.1) (es.map Prod.snd) with
    | some u => .unk u
    | none => .made (es.map fun e => e.2.1)
theorem firstW_no : ∀ {l : List (Bool × Str)} {seen : List Str} {i : Nat}, firstW l seen i = none → (∀ e ∈ l, e.1 = true) ∧ (l.map Prod.snd).Nodup ∧ ∀ e ∈ l, e.2 ∉ seen
  | [], _, _, _ => ⟨(fun e h => nomatch h), List.nodup_nil, (fun e h => nomatch h)⟩
  | (r, z) :: l, seen, i, h => by
    unfold firstW at h
    by_cases c : r = false ∨ z ∈ seen
    · rw [if_pos c] at h
      cases h
    · rw [if_neg c] at h
      obtain ⟨h1, h2, h3⟩ := firstW_no h
      have cr : r = true := by
        cases r with
        | true => rfl
        | false => exact absurd (.inl rfl) c
      have cz : z ∉ seen := fun m => c (.inr m)
      refine ⟨fun e he => ?_, ?_, fun e he => ?_⟩
      · rcases List.mem_cons.mp he with rfl | he
        · exact cr
        · exact h1 e he
      · rw [List.map_cons]
        refine List.nodup_cons.mpr ⟨fun m => ?_, h2⟩
        obtain ⟨e, he, ez⟩ := List.mem_map.mp m
        exact h3 e he (List.mem_append_right _ (by rw [ez]; exact List.mem_singleton.mpr rfl))
      · rcases List.mem_cons.mp he with rfl | he
        · exact cz
        · exact fun m => h3 e he (List.mem_append_left _ m)
theorem firstU_none {cells : List Str} {rs : Rws} (h : firstU cells rs = none) : ∀ r ∈ rs, ∀ s ∈ r.2, s ∈ cells := fun r hr s hs => by
  unfold firstU at h
  have := List.find?_eq_none.mp h s (List.mem_flatMap.mpr ⟨r, hr, hs⟩)
  simpa using this
theorem CS.true_ {K : PySem.W.Frag} {H : Hp} {c s : V} {e : Lk} (h : CS K H c s e) (t : e.1 = true) : c = .str e.2.1 ∧ isNm e.2.1 = true ∧ ∃ l, s = .ref l ∧ H l = some (.lst (e.2.2.map .str)) ∧ e.2.2.length ≤ 900 ∧ e.2.2.Nodup := by
  obtain ⟨bc, bs, h1, h2, h3, h4⟩ := h
  rw [t] at h3
  obtain ⟨g1, g2⟩ := Bool.and_eq_true_iff.mp h3.symm
  subst g1 g2
  have ec := h4 rfl
  refine ⟨ec, ?_, ?_⟩
  · rcases h1 with ⟨z, ez, _, en⟩ | ⟨_, _, _, e⟩
    · rw [ec] at ez
      cases ez
      exact en.symm
    · cases e
  · rcases h2 with ⟨_, _, _, e⟩ | ⟨l, xs, bs', rfl, h5, h6, h7, h8, h9, h10⟩
    · cases e
    · have ex := h10 rfl
      subst ex
      rw [List.length_map] at h6
      refine ⟨l, rfl, h5, h6, ?_⟩
      unfold nlB at h9
      have := (Bool.and_eq_true_iff.mp h9.symm).2
      rw [strsOf_strs] at this
      exact of_decide_eq_true this
theorem met_of {K : PySem.W.Frag} {H : Hp} {v : V} {vs : List V} {es : List Lk} (hq : Seq K H v vs) (hp : Paired (ItM K H) vs es) (hl : es.length ≤ 900) : MetOf K H v (outOf es) := by
  have hvl := Paired.length hp
  have ds : ∃ ds : List (V × Bool × Str), ds.map Prod.fst = vs ∧ ds.map Prod.snd = (es.map fun e => (e.1, e.2.1)) ∧ (∀ d ∈ ds, RowD K H d) ∧ Paired (fun (d : V × Bool × Str) (e : Lk) => d = (d.1, e.1, e.2.1) ∧ ItM K H d.1 e) ds es := by
    clear hq hl hvl
    induction hp with
    | nil => exact ⟨[], rfl, rfl, (fun d h => nomatch h), .nil⟩
    | @cons v e vs es h t ih =>
      obtain ⟨ds, h1, h2, h3, h4⟩ := ih
      refine ⟨(v, e.1, e.2.1) :: ds, by rw [List.map_cons, h1], by rw [List.map_cons, List.map_cons, h2], fun d hd => ?_, .cons ⟨rfl, h⟩ h4⟩
      rcases List.mem_cons.mp hd with rfl | hd
      · exact h.rowD
      · exact h3 d hd
  obtain ⟨ds, h1, h2, h3, h4⟩ := ds
  have dl : ds.length = es.length := by rw [← List.length_map (f := Prod.fst), h1, hvl]
  refine .inr ⟨ds, by rw [h1]; exact hq, by omega, h3, ?_⟩
  unfold outOf
  by_cases e0 : es = []
  · rw [if_pos e0]
    refine .inl ⟨0, ?_, rfl⟩
    have : ds = [] := List.length_eq_zero_iff.mp (by rw [dl, e0]; rfl)
    unfold firstR
    rw [if_pos this]
  · rw [if_neg e0]
    have fr : firstR ds = firstW (es.map fun e => (e.1, e.2.1)) [] 0 := by
      unfold firstR
      rw [if_neg (fun z => e0 (List.length_eq_zero_iff.mp (by rw [← dl, z]; rfl))), h2]
    cases hw : firstW (es.map fun e => (e.1, e.2.1)) [] 0 with
    | some i => exact .inl ⟨i, fr.trans hw, rfl⟩
    | none =>
      obtain ⟨w1, w2, _⟩ := firstW_no hw
      have all : ∀ e ∈ es, e.1 = true := fun e he => w1 (e.1, e.2.1) (List.mem_map.mpr ⟨e, he, rfl⟩)
      refine .inr ⟨fr.trans hw, es.map Prod.snd, ?_, ?_⟩
      · have key : ∀ {l : List (V × Bool × Str)} {m : List Lk}, Paired (fun (d : V × Bool × Str) (e : Lk) => d = (d.1, e.1, e.2.1) ∧ ItM K H d.1 e) l m → (∀ e ∈ m, e.1 = true) → Paired (fun (d : V × Bool × Str) (r : Str × List Str) => RowG K H d.1 r ∧ r.2.length ≤ 900) l (m.map Prod.snd) := by
          intro l m hp
          induction hp with
          | nil => exact fun _ => .nil
          | @cons d e l m a _ ih =>
            intro hall
            refine .cons ?_ (ih fun e he => hall e (List.mem_cons_of_mem _ he))
            have et := hall e (List.mem_cons_self ..)
            rcases a.2 with ⟨_, z⟩ | ⟨t, c, s, h1, h2, h3⟩
            · rw [et] at z
              cases z
            · obtain ⟨rfl, _, l', rfl, h5, h6, _⟩ := h3.true_ et
              rw [h1]
              exact ⟨⟨.ref l', ⟨t, rfl, .inl (SqL.of h2)⟩, ⟨l', rfl, .inl (SqL.of h5)⟩⟩, h6⟩
        exact key h4 all
      · have em : (es.map Prod.snd).map Prod.fst = es.map fun e => e.2.1 := by rw [List.map_map]; rfl
        rw [em]
        cases hu : firstU (es.map fun e => e.2.1) (es.map Prod.snd) with
        | some u => exact .inl ⟨u, rfl, rfl⟩
        | none =>
          have looks : ∀ e ∈ es, isNm e.2.1 = true ∧ e.2.2.length ≤ 900 ∧ e.2.2.Nodup := fun e he => by
            obtain ⟨i, hi⟩ := List.getElem?_of_mem he
            obtain ⟨v, _, hv⟩ := Paired.get hp hi
            rcases hv with ⟨_, z⟩ | ⟨t, c, s, _, _, h3⟩
            · rw [all e he] at z
              cases z
            · obtain ⟨_, g1, _, _, _, g2, g3⟩ := h3.true_ (all e he)
              exact ⟨g1, g2, g3⟩
          refine .inr ⟨⟨?_, ?_, ?_, fun r hr => ?_, fun r hr => ?_⟩, rfl⟩
          · rw [em]
            rw [List.map_map] at w2
            exact w2
          · rw [List.length_map]
            exact List.length_pos_iff.mpr e0
          · rw [List.length_map]
            exact hl
          · obtain ⟨e, he, rfl⟩ := List.mem_map.mp hr
            rw [em]
            exact ⟨(looks e he).2.1, (looks e he).2.2, fun s hs => firstU_none hu e.2 hr s hs⟩
          · obtain ⟨e, he, rfl⟩ := List.mem_map.mp hr
            exact (looks e he).1
def spDue (K : PySem.W.Frag) : Sp := fun vs H Q _ => ∃ (a : Addr) (xs : List V) (es : List Lk), vs = [.ref a] ∧ H a = some (.lst xs) ∧ Paired (ItD K H) xs es ∧ es.length ≤ 100 ∧ ∀ H' q, Same H H' → Dp K H' (.ref q) (outOf es).d → Q (.ref q) H'
theorem strange_vs (names l : List Str) : l.filterMap (fun s => if s ∈ names then none else some (V.str s)) = (l.filter fun s => decide (s ∉ names)).map .str := by
  induction l with
  | nil => rfl
  | cons x xs ih =>
    by_cases m : x ∈ names
    · have e1 : decide (x ∉ names) = false := decide_eq_false fun z => z m
      simp only [List.filterMap_cons, m, if_true, List.filter_cons, e1, not_true_eq_false, decide_false, Bool.false_eq_true, if_false]
      exact ih
    · have e1 : decide (x ∉ names) = true := decide_eq_true m
      simp only [List.filterMap_cons, m, if_false, List.filter_cons, not_false_eq_true, decide_true, if_true, List.map_cons]
      rw [ih]
/-- whether one of them stands ahead of itself: by places -/
theorem dup_any (ss : List Str) : ((List.range ss.length).map fun k => decide (ss.getD k Str.empty ∈ ss.take k)).any id = !decide ss.Nodup := by
  rw [Bool.eq_iff_iff, List.any_map, List.any_eq_true, Bool.not_eq_true', decide_eq_false_iff_not]
  constructor
  · rintro ⟨k, hk, h⟩ nd
    have hk' := List.mem_range.mp hk
    have h' : ss.getD k Str.empty ∈ ss.take k := of_decide_eq_true h
    rw [List.getD_eq_getElem?_getD, List.getElem?_eq_getElem hk'] at h'
    have e : ss = ss.take k ++ ss.drop k := (List.take_append_drop k ss).symm
    rw [e] at nd
    exact (List.nodup_append.mp nd).2.2 _ h' _ (by rw [List.drop_eq_getElem_cons hk']; exact List.mem_cons_self ..) rfl
  · intro nd
    refine Classical.byContradiction fun no => nd ?_
    refine List.pairwise_iff_getElem.mpr fun i j hi hj hij e => no ⟨j, List.mem_range.mpr hj, ?_⟩
    show decide _ = true
    refine decide_eq_true ?_
    rw [List.getD_eq_getElem?_getD, List.getElem?_eq_getElem hj]
    show ss[j] ∈ ss.take j
    rw [← e]
    exact List.mem_take_iff_getElem.mpr ⟨i, by omega, rfl⟩
end WL
end L2
set_option Elab.async false
set_option linter.all false
set_option maxRecDepth 100000
set_option maxHeartbeats 4000000
namespace L2
namespace WL
open PySem PySem.Spec PyProof.Rows K1 LamX
/-! ### rows spoilt -/
theorem nl1_strs {K : PySem.W.Frag} {H : Hp} {l : Addr} {xs : List Str} (h : H l = some (.lst (xs.map .str))) (hl : xs.length ≤ 900) (hn : ∀ x ∈ xs, isNm x = true) : NL1 K H (.ref l) (decide xs.Nodup) xs := by
  refine .inr ⟨l, xs.map .str, xs.map fun _ => true, rfl, h, by rw [List.length_map]; exact hl, by rw [List.length_map, List.length_map], fun i x b e1 e2 => ?_, ?_, fun _ => rfl⟩
  · rw [List.getElem?_map] at e1 e2
    obtain ⟨z, hz, rfl⟩ := Option.map_eq_some_iff.mp e1
    obtain ⟨_, _, rfl⟩ := Option.map_eq_some_iff.mp e2
    have := hn z (List.mem_of_getElem? hz)
    exact .inl ⟨z, rfl, isNm_len this, this.symm⟩
  · unfold nlB
    rw [strsOf_strs]
    have : (xs.map fun _ => true).all id = true := by simp
    rw [this, Bool.true_and]
theorem nm_is {K : PySem.W.Frag} {H : Hp} {z : Str} (h : isNm z = true) : IsN K H (.str z) true := .inl ⟨z, rfl, isNm_len h, h.symm⟩
theorem cs_strs {K : PySem.W.Frag} {H : Hp} {l : Addr} {z : Str} {xs : List Str} (hz : isNm z = true) (h : H l = some (.lst (xs.map .str))) (hl : xs.length ≤ 900) (hn : ∀ x ∈ xs, isNm x = true) : CS K H (.str z) (.ref l) (decide xs.Nodup, z, xs) :=
  ⟨true, _, nm_is hz, nl1_strs h hl hn, by rw [Bool.true_and], fun _ => rfl⟩
theorem RowT.itd {K : PySem.W.Frag} {H : Hp} {v : V} {r : Str × List Str} (h : RowT H v r) (hz : isNm r.1 = true) (hl : r.2.length ≤ 900) (hn : ∀ x ∈ r.2, isNm x = true) : ItD K H v (decide r.2.Nodup, r.1, r.2) := by
  obtain ⟨t, l, rfl, e1, e2⟩ := h
  exact .inr ⟨t, _, _, rfl, e1, cs_strs hz e2 hl hn⟩
/-- the odd things -/
def oddW (a : Addr) : List V := [.str "A", .str "", .non, .int 5, .str "abcdefghi", .ref a]
theorem odd_n {K : PySem.W.Frag} {H : Hp} {a : Addr} {i : Nat} {x : V} (ha : H a = some (.lst [.str "a"])) (hx : (oddW a)[i]? = some x) : IsN K H x false := by
  match i, hx with
  | 0, hx => obtain rfl := (Option.some.inj hx).symm; exact .inl ⟨_, rfl, by decide +kernel, by decide +kernel⟩
  | 1, hx => obtain rfl := (Option.some.inj hx).symm; exact .inl ⟨_, rfl, by decide +kernel, by decide +kernel⟩
  | 2, hx => obtain rfl := (Option.some.inj hx).symm; exact .inr ⟨_, .base .non, rfl, rfl⟩
  | 3, hx => obtain rfl := (Option.some.inj hx).symm; exact .inr ⟨_, .base (.int _), rfl, rfl⟩
  | 4, hx => obtain rfl := (Option.some.inj hx).symm; exact .inl ⟨_, rfl, by decide +kernel, by decide +kernel⟩
  | 5, hx => obtain rfl := (Option.some.inj hx).symm; exact .inr ⟨_, .base (.lst ha), rfl, rfl⟩
  | i + 6, hx => cases hx
theorem kit_none {K : PySem.W.Frag} {t : String} (h1 : PySem.W.kitOne K (.type t) (.type "list") = some false) (h2 : PySem.W.kitOne K (.type t) (.type "tuple") = some false) : PySem.W.kitAny K (.type t) LT = some false := by
  unfold PySem.W.kitAny
  rw [h1]
  show PySem.W.kitAny K (.type t) [.type "tuple"] = some false
  unfold PySem.W.kitAny
  rw [h2]
  rfl
theorem odd_l {K : PySem.W.Frag} {H : Hp} {a : Addr} {i : Nat} {x : V} (ha : H a = some (.lst [.str "a"])) (hx : (oddW a)[i]? = some x) : ∃ c ss, NL1 K H x c ss := by
  have ks : PySem.W.kitAny K (.type "str") LT = some false := kit_none (kit_ty (by decide +kernel)) (kit_ty (by decide +kernel))
  match i, hx with
  | 0, hx => obtain rfl := (Option.some.inj hx).symm; exact ⟨false, [], .inl ⟨_, .base (.str _), ks, rfl⟩⟩
  | 1, hx => obtain rfl := (Option.some.inj hx).symm; exact ⟨false, [], .inl ⟨_, .base (.str _), ks, rfl⟩⟩
  | 2, hx => obtain rfl := (Option.some.inj hx).symm; exact ⟨false, [], .inl ⟨_, .base .non, kit_non, rfl⟩⟩
  | 3, hx => obtain rfl := (Option.some.inj hx).symm; exact ⟨false, [], .inl ⟨_, .base (.int _), kit_none (kit_ty (by decide +kernel)) (kit_ty (by decide +kernel)), rfl⟩⟩
  | 4, hx => obtain rfl := (Option.some.inj hx).symm; exact ⟨false, [], .inl ⟨_, .base (.str _), ks, rfl⟩⟩
  | 5, hx => obtain rfl := (Option.some.inj hx).symm; exact ⟨_, ["a"], nl1_strs (xs := ["a"]) ha (by decide) (by decide +kernel)⟩
  | i + 6, hx => cases hx
/-- names and an odd thing behind them -/
theorem nl_odd {K : PySem.W.Frag} {H : Hp} {l : Addr} {xs : List Str} {x : V} (h : H l = some (.lst (xs.map .str ++ [x]))) (hl : xs.length ≤ 800) (hn : ∀ x ∈ xs, isNm x = true) (hx : IsN K H x false) : NL1 K H (.ref l) false [] := by
  refine .inr ⟨l, _, (xs.map fun _ => true) ++ [false], rfl, h, by rw [List.length_append, List.length_map]; show _ + 1 ≤ _; omega, by simp, fun i y b e1 e2 => ?_, ?_, fun z => nomatch z⟩
  · by_cases hi : i < xs.length
    · rw [List.getElem?_append_left (by rw [List.length_map]; exact hi), List.getElem?_map] at e1 e2
      obtain ⟨z, hz, rfl⟩ := Option.map_eq_some_iff.mp e1
      obtain ⟨_, _, rfl⟩ := Option.map_eq_some_iff.mp e2
      exact nm_is (hn z (List.mem_of_getElem? hz))
    · have hb : i < (xs.map V.str ++ [x]).length := (List.getElem?_eq_some_iff.mp e1).1
      have hi' : i = xs.length := by
        rw [List.length_append, List.length_map] at hb
        have : i < xs.length + 1 := hb
        omega
      subst hi'
      rw [List.getElem?_append_right (by rw [List.length_map]; exact Nat.le_refl _), List.length_map, Nat.sub_self] at e1 e2
      cases e1
      cases e2
      exact hx
  · unfold nlB
    rw [List.all_append]
    simp
theorem cut_one (ss : List Str) : cutV (ss.map V.str) none (some (1 : Int)) = (ss.take 1).map .str := by
  cases ss with
  | nil => rfl
  | cons x xs =>
    rw [show (1 : Int) = ((1 : Nat) : Int) from rfl, cut_to (by simp), List.map_take]
theorem paired_map {α β γ : Type} {R : α → γ → Prop} {f : β → γ} {l : List α} {m : List β} (h : Paired (fun a b => R a (f b)) l m) : Paired R l (m.map f) := by
  induction h with
  | nil => exact .nil
  | cons h _ ih => exact .cons h ih
theorem paired_take {α β : Type} {R : α → β → Prop} : ∀ (n : Nat) {l : List α} {m : List β}, Paired R l m → Paired R (l.take n) (m.take n)
  | 0, _, _, _ => by rw [List.take_zero, List.take_zero]; exact .nil
  | n + 1, _, _, .nil => .nil
  | n + 1, _, _, .cons h t => .cons h (paired_take n t)
theorem paired_drop {α β : Type} {R : α → β → Prop} : ∀ (n : Nat) {l : List α} {m : List β}, Paired R l m → Paired R (l.drop n) (m.drop n)
  | 0, _, _, h => h
  | n + 1, _, _, .nil => .nil
  | n + 1, _, _, .cons h t => paired_drop n t
/-! ### objects known, by places in a list -/
def Has (B : Hp) (L : List (Addr × HO)) : Prop := ∀ x ∈ L, B x.1 = some x.2
theorem Has.ix {B : Hp} {L : List (Addr × HO)} (h : Has B L) (i : Nat) {a : Addr} {o : HO} (e : L[i]? = some (a, o)) : B a = some o := h (a, o) (List.mem_of_getElem? e)
theorem Has.same {B B' : Hp} {L : List (Addr × HO)} (h : Has B L) (s : Same B B') : Has B' L := fun x hx => s _ _ (h x hx)
theorem alo {p d : Addr} {H B0 : Hp} {n : Nat} {L : List (Addr × HO)} {o : HO} (hL : Has (hide p H) L) (P : Pl H p n) (S : Same B0 (hide p H)) (nd : H d = none) : Has (hide p (upd H d o)) ((d, o) :: L) ∧ Pl (upd H d o) p n ∧ Same B0 (hide p (upd H d o)) := by
  obtain ⟨h1, h2, h3⟩ := hide_new (o := o) P.ne nd
  refine ⟨fun x hx => ?_, P.new nd, S.trans h2⟩
  rcases List.mem_cons.mp hx with rfl | hx
  · exact h3
  · exact h2 _ _ (hL x hx)
def spSpoilt (K : PySem.W.Frag) : Sp := fun vs H Q _ => ∃ (p q : Addr) (n : Nat) (rs : Rws), vs = [.ref p, .ref q] ∧ Pl H p n ∧ n ≤ 600000000 ∧ RowsAt (hide p H) q rs ∧ LawRows 6 6 rs ∧
  ∀ (es : List Lk) (xs : List V) H' r, Same (hide p H) (hide p H') → Pl H' p (n + 4) → hide p H r = none → hide p H' r = some (.lst xs) → Paired (ItD K (hide p H')) xs es → es.length ≤ 20 → Q (.ref r) H'
end WL
end L2
set_option Elab.async false
set_option linter.all false
set_option maxRecDepth 100000
set_option maxHeartbeats 4000000
namespace L2
namespace WL
open PySem PySem.Spec PyProof.Rows K1 LamX
/-! ### facts beside hidden things: a heap with less -/
/-- H' has all of H but some lists and tables -/
structure Less (H H' : Hp) : Prop where
  le : ∀ b o, H b = some o → (∀ xs, o ≠ .lst xs) → (∀ ps, o ≠ .tbl ps) → H' b = some o
theorem Less.sqT {K : PySem.W.Frag} {H H' : Hp} {a : Addr} {xs : List V} (L : Less H H') (h : SqT K H a xs) : SqT K H' a xs := by
  rcases h with (h | ⟨o, h⟩) | h
  · exact .inl (.inl (L.le _ _ h (fun ys z => nomatch z) fun ps z => nomatch z))
  · exact .inl (.inr ⟨o, L.le _ _ h (fun ys z => nomatch z) fun ps z => nomatch z⟩)
  · exact .inr h
theorem Less.web {K : PySem.W.Frag} {H H' : Hp} {C p : Addr} {rs : Rws} (L : Less H H') (w : IsWeb K H C p rs) : IsWeb K H' C p rs := by
  obtain ⟨dx, c, s, a, t, ks, kt, av, W⟩ := w
  have g : ∀ b o, H b = some o → (∀ xs, o ≠ .lst xs) → (∀ ps, o ≠ .tbl ps) → H' b = some o := L.le
  have dt : ∀ {ks : List (Key × V)} {rs : Rws}, DTup K H ks rs → DTup K H' ks rs := fun d => Paired.imp (fun _ _ ⟨e, a, e2, s⟩ => ⟨e, a, e2, L.sqT s⟩) d
  exact ⟨dx, c, s, a, t, ks, kt, av, g _ _ W.ob (fun _ z => nomatch z) (fun _ z => nomatch z), g _ _ W.hc (fun _ z => nomatch z) (fun _ z => nomatch z), g _ _ W.hs (fun _ z => nomatch z) (fun _ z => nomatch z), dt W.ds,
    g _ _ W.ha (fun _ z => nomatch z) (fun _ z => nomatch z), Paired.imp (fun _ _ ⟨q, e1, e2⟩ => ⟨q, e1, g _ _ e2 (fun _ z => nomatch z) (fun _ z => nomatch z)⟩) W.da, g _ _ W.ht (fun _ z => nomatch z) (fun _ z => nomatch z), dt W.dt⟩
theorem less_offS {S : List Addr} {H : Hp} (h : ∀ b ∈ S, ∃ xs, H b = some (.lst xs)) : Less H (offS S H) := ⟨fun b o e n _ => by
  rw [offS_ne]
  · exact e
  · intro m
    obtain ⟨xs, e2⟩ := h b m
    rw [e] at e2
    exact n xs (Option.some.inj e2)⟩
theorem less_hide {E : Addr} {H : Hp} {xs : List V} (h : H E = some (.lst xs)) : Less H (hide E H) := ⟨fun b o e n _ => by
  rw [hide_ne (fun z => by rw [z, h] at e; exact n xs (Option.some.inj e).symm)]
  exact e⟩
theorem less_offT {H : Hp} : Less H (offT H) := ⟨fun b o e _ n => offT_at e n⟩
theorem Less.trans {H H1 H2 : Hp} (a : Less H H1) (b : Less H1 H2) : Less H H2 := ⟨fun c o e n m => b.le _ _ (a.le _ _ e n m) n m⟩
theorem SqL.offT {K : PySem.W.Frag} {H : Hp} {l : Addr} {xs : List V} (h : SqL K H l xs) : SqL K (offT H) l xs := by
  rcases h with (h | ⟨o, h⟩) | h
  · exact .inl (.inl (offT_at h fun ps z => nomatch z))
  · exact .inl (.inr ⟨o, offT_at h fun ps z => nomatch z⟩)
  · exact .inr h
theorem RowT.offT {H : Hp} {v : V} {r : Str × List Str} (h : RowT H v r) : RowT (WL.offT H) v r := by
  obtain ⟨t, l, e, a, b⟩ := h
  exact ⟨t, l, e, offT_at a (fun ps z => nomatch z), offT_at b fun ps z => nomatch z⟩
theorem RowsAt.offT {H : Hp} {q : Addr} {rs : Rws} (h : RowsAt H q rs) : RowsAt (WL.offT H) q rs := by
  obtain ⟨vs, e, a⟩ := h
  exact ⟨vs, offT_at e (fun ps z => nomatch z), Paired.imp (fun _ _ r => RowT.offT r) a⟩
theorem RowT.hidP {H : Hp} {p : Addr} {n : Nat} {v : V} {r : Str × List Str} (h : RowT H v r) (P : Pl H p n) : RowT (hide p H) v r := by
  obtain ⟨t, l, e, a, b⟩ := h
  refine ⟨t, l, e, P.hid a (by intro x y z c; cases c), P.hid b fun x y z c => ?_⟩
  have c' : r.2.map V.str = [.int x, .int y, .int z] := HO.lst.inj c
  cases e2 : r.2 with
  | nil =>
    rw [e2] at c'
    cases c'
  | cons s ss =>
    rw [e2] at c'
    cases (List.cons.inj c').1
theorem RowsAt.hidP {H : Hp} {p q : Addr} {n : Nat} {rs : Rws} (h : RowsAt H q rs) (P : Pl H p n) (ne : rs ≠ []) : RowsAt (hide p H) q rs := by
  obtain ⟨vs, e, a⟩ := h
  refine ⟨vs, P.hid e fun x y z c => ?_, Paired.imp (fun _ _ r => r.hidP P) a⟩
  cases a with
  | nil => exact ne rfl
  | cons h t =>
    obtain ⟨t, l, rfl, _⟩ := h
    cases (List.cons.inj (HO.lst.inj c)).1
/-- what the law keeps at hand -/
structure LawSt (K : PySem.W.Frag) (C x l q p pt : Addr) (n : Nat) (ns : List Int) (rs : Rws) (nm : Str) (H : Hp) : Prop where
  hl : SqL K (WL.offT (hide p H)) l (ns.map V.int)
  w : IsWeb K (WL.offT H) C x rs
  r : RowsAt (WL.offT H) q rs
  pl : Pl H p n
  tb : TabS H pt nm
theorem LawSt.same {K : PySem.W.Frag} {C x l q p pt : Addr} {n : Nat} {ns : List Int} {rs : Rws} {nm : Str} {H H' : Hp} (h : LawSt K C x l q p pt n ns rs nm H) (s : Same H H') : LawSt K C x l q p pt n ns rs nm H' :=
  ⟨SqL.sm h.hl (offT_same (hide_same s)), h.w.same (offT_same s), h.r.same (offT_same s), h.pl.same s, LamX.TabS.ext h.tb s⟩
theorem LawSt.ext {K : PySem.W.Frag} {C x l q p pt : Addr} {n : Nat} {ns : List Int} {rs : Rws} {nm : Str} {H H' : Hp} (h : LawSt K C x l q p pt n ns rs nm H) (e : ExtN H H') (t : TabS H' pt nm) : LawSt K C x l q p pt n ns rs nm H' :=
  ⟨SqL.sm h.hl (ExtN.hide e), h.w.same (offT_ext e), h.r.same (offT_ext e), h.pl.extN e, t⟩
theorem LawSt.web {K : PySem.W.Frag} {C x l q p pt : Addr} {n : Nat} {ns : List Int} {rs : Rws} {nm : Str} {H : Hp} (h : LawSt K C x l q p pt n ns rs nm H) : IsWeb K H C x rs := h.w.same offT_le
theorem LawSt.rows {K : PySem.W.Frag} {C x l q p pt : Addr} {n : Nat} {ns : List Int} {rs : Rws} {nm : Str} {H : Hp} (h : LawSt K C x l q p pt n ns rs nm H) : RowsAt H q rs := h.r.same offT_le
/-! ### webs compared -/
theorem dEq_self {rs : Rws} (nd : (rs.map Prod.fst).Nodup) : dEq rs rs = true := by
  unfold dEq
  rw [decide_eq_true rfl, Bool.true_and, List.all_eq_true]
  exact fun p hp => decide_eq_true (srcs_at nd hp)
theorem wEq_self {rs : Rws} (g : Good rs) : wEq rs rs = true := by
  unfold wEq
  rw [decide_eq_true rfl, dEq_self g.nd]
  rfl
theorem Good.rev {rs : Rws} (g : Good rs) : Good rs.reverse := by
  have m : rs.reverse.map Prod.fst = (rs.map Prod.fst).reverse := List.map_reverse ..
  refine ⟨?_, by rw [List.length_reverse]; exact g.l1, by rw [List.length_reverse]; exact g.ln, fun r hr => ?_, fun r hr => g.nm r (List.mem_reverse.mp hr)⟩
  · rw [m]
    exact (List.reverse_perm _).nodup_iff.mpr g.nd
  · obtain ⟨h1, h2, h3⟩ := g.sr r (List.mem_reverse.mp hr)
    exact ⟨h1, h2, fun s hs => by rw [m]; exact List.mem_reverse.mpr (h3 s hs)⟩
theorem wEq_rev {rs : Rws} (g : Good rs) (h : 1 < rs.length) : wEq rs rs.reverse = false := by
  unfold wEq
  rw [decide_eq_false, Bool.false_and]
  intro e
  rw [List.map_reverse] at e
  have hl : (rs.map Prod.fst).length = rs.length := List.length_map ..
  have nd := g.nd
  generalize rs.map Prod.fst = l at e hl nd
  have h0 : 0 < l.length := by omega
  have hk : l.length - 1 < l.length := by omega
  have e2 : l[0] = l[l.length - 1] := by
    have : l[0]? = l.reverse[0]? := by rw [← e]
    rw [List.getElem?_reverse h0, List.getElem?_eq_getElem h0, List.getElem?_eq_getElem (by omega)] at this
    exact Option.some.inj this
  exact List.pairwise_iff_getElem.mp nd 0 (l.length - 1) h0 hk (by omega) e2
def revS (rs : Rws) : Rws := rs.map fun r => (r.1, r.2.reverse)
theorem revS_fst (rs : Rws) : (revS rs).map Prod.fst = rs.map Prod.fst := by
  unfold revS
  rw [List.map_map]
  rfl
theorem Good.revS {rs : Rws} (g : Good rs) : Good (revS rs) := by
  refine ⟨by rw [revS_fst]; exact g.nd, by unfold WL.revS; rw [List.length_map]; exact g.l1, by unfold WL.revS; rw [List.length_map]; exact g.ln, fun r hr => ?_, fun r hr => ?_⟩
  · obtain ⟨r', hr', rfl⟩ := List.mem_map.mp hr
    obtain ⟨h1, h2, h3⟩ := g.sr r' hr'
    exact ⟨by show r'.2.reverse.length ≤ 900; rw [List.length_reverse]; exact h1, (List.reverse_perm _).nodup_iff.mpr h2, fun s hs => by rw [revS_fst]; exact h3 s (List.mem_reverse.mp hs)⟩
  · obtain ⟨r', hr', rfl⟩ := List.mem_map.mp hr
    exact g.nm r' hr'
theorem wEq_revS {rs : Rws} (g : Good rs) : wEq rs (revS rs) = decide (revS rs = rs) := by
  have nd2 : ((revS rs).map Prod.fst).Nodup := by rw [revS_fst]; exact g.nd
  have hall : (rs.all fun p => decide (srcs (revS rs) p.1 = some p.2)) = decide (revS rs = rs) := by
    rw [Bool.eq_iff_iff, List.all_eq_true, decide_eq_true_iff]
    have at_ : ∀ r ∈ rs, srcs (revS rs) r.1 = some r.2.reverse := fun r hr => srcs_at nd2 (p := (r.1, r.2.reverse)) (List.mem_map.mpr ⟨r, hr, rfl⟩)
    constructor
    · intro h
      unfold revS
      conv => rhs; rw [← List.map_id rs]
      refine List.map_congr_left fun r hr => ?_
      have := of_decide_eq_true (h r hr)
      rw [at_ r hr] at this
      rw [Option.some.inj this]
      rfl
    · intro h r hr
      refine decide_eq_true ?_
      rw [at_ r hr]
      have : (revS rs).map id = rs.map id := by rw [h]
      unfold revS at this
      rw [List.map_map] at this
      have e := (List.map_inj_left.mp this) r hr
      have e2 : r.2.reverse = r.2 := congrArg Prod.snd e
      rw [e2]
  unfold wEq dEq
  rw [revS_fst, decide_eq_true rfl, Bool.true_and, hall]
  have : (revS rs).length = rs.length := by unfold revS; rw [List.length_map]
  rw [decide_eq_true this.symm, Bool.true_and]
/-! ### rows as data -/
def dRows (rs : Rws) : List PyData := rs.map fun r => .tuple [.str r.1, .list (dS r.2)]
theorem dp_rows {K : PySem.W.Frag} {H : Hp} : ∀ {vs : List V} {rs : Rws}, Paired (RowT H) vs rs → DpAll K H vs (dRows rs)
  | _, _, .nil => .nil
  | _, _, .cons ⟨t, l, e, a, b⟩ h => by
    subst e
    exact .cons (.tup (SqT.of a) (.cons (.str _) (.cons (.lst (SqL.of b) (dp_strs _)) .nil))) (dp_rows h)
theorem eqv_rows : ∀ as bs : Rws, PyData.eqvAll (dRows as) (dRows bs) = decide (as = bs)
  | [], [] => rfl
  | [], b :: bs => rfl
  | a :: as, [] => rfl
  | a :: as, b :: bs => by
    show (((a.1 == b.1) && (PyData.eqvAll (dS a.2) (dS b.2) && true)) && PyData.eqvAll (dRows as) (dRows bs)) = _
    rw [eqv_rows as bs, eqv_strs, Bool.and_true, Bool.eq_iff_iff]
    simp only [Bool.and_eq_true, beq_iff_eq, decide_eq_true_iff, List.cons.injEq, Prod.ext_iff]
theorem lay_rows : ∀ {rs : Rws}, (∀ r ∈ rs, sOk [r.1] ∧ sOk r.2) → PyData.canLayAll0 (dRows rs) = true
  | [], _ => rfl
  | r :: rs, h => by
    obtain ⟨h1, h2⟩ := h r (List.mem_cons_self ..)
    have l1 : (PyData.canLay0 (.str r.1) && true) = true := lay_strs h1
    rw [Bool.and_true] at l1
    show ((PyData.canLay0 (.str r.1) && (PyData.canLayAll0 (dS r.2) && true)) && PyData.canLayAll0 (dRows rs)) = true
    rw [lay_rows fun r hr => h r (List.mem_cons_of_mem _ hr), lay_strs h2, l1]
    rfl
theorem dep_rows : ∀ rs : Rws, PyData.depthAll (dRows rs) ≤ 2
  | [] => Nat.zero_le _
  | r :: rs => by
    show max (max 0 (max (PyData.depthAll (dS r.2) + 1) 0) + 1) (PyData.depthAll (dRows rs)) ≤ 2
    have := dep_rows rs
    rw [dep_strs]
    omega
theorem shape_rows {rs : Rws} (g : Good rs) : SeqAt.shaped (.list (dRows rs)) = true := by
  have ok := Good.ok g
  unfold SeqAt.shaped
  refine Bool.and_eq_true_iff.mpr ⟨lay_rows fun r hr => ⟨fun x hx => ?_, ok.2 r hr⟩, decide_eq_true ?_⟩
  · rw [show x = r.1 by simpa using hx]
    exact ok.1 _ (List.mem_map.mpr ⟨r, hr, rfl⟩)
  · show PyData.depthAll (dRows rs) + 1 ≤ 64
    have := dep_rows rs
    omega
/-! ### outcomes as data -/
theorem shape_strs2 {a : Str} {xs : List Str} (ha : sOk [a]) (h : sOk xs) : SeqAt.shaped (.tuple [.str a, .tuple (dS xs)]) = true := by
  have l1 : (PyData.canLay0 (.str a) && true) = true := lay_strs ha
  rw [Bool.and_true] at l1
  unfold SeqAt.shaped
  refine Bool.and_eq_true_iff.mpr ⟨?_, decide_eq_true ?_⟩
  · show (PyData.canLay0 (.str a) && (PyData.canLayAll0 (dS xs) && true)) = true
    rw [l1, lay_strs h]
    rfl
  · show max 0 (max (PyData.depthAll (dS xs) + 1) 0) + 1 ≤ 64
    rw [dep_strs]
    omega
theorem sOk_lit {a : Str} (h : (a.cps.toList.all fun c => decide (c < 1114112)) = true) : sOk [a] := fun x hx => by
  rw [show x = a by simpa using hx]
  intro c m
  exact of_decide_eq_true (List.all_eq_true.mp h c m)
def Out.ok : Out → Prop
  | .made cs => sOk cs
  | .bad _ => True
  | .unk z => sOk [z]
theorem shape_out {o : Out} (h : o.ok) : SeqAt.shaped o.d = true := by
  cases o with
  | made cs => exact shape_strs2 (sOk_lit (by decide +kernel)) h
  | bad i =>
    unfold SeqAt.shaped
    refine Bool.and_eq_true_iff.mpr ⟨?_, rfl⟩
    have l2 : PyData.canLay0 (.str ("bad" : Str)) = true := by decide +kernel
    show (PyData.canLay0 (.str ("bad" : Str)) && (PyData.canLay0 (.int (i : Nat)) && true)) = true
    rw [l2]
    rfl
  | unk z =>
    have l1 : (PyData.canLay0 (.str z) && true) = true := lay_strs h
    rw [Bool.and_true] at l1
    unfold SeqAt.shaped
    refine Bool.and_eq_true_iff.mpr ⟨?_, rfl⟩
    have l2 : PyData.canLay0 (.str ("unknown" : Str)) = true := by decide +kernel
    show (PyData.canLay0 (.str ("unknown" : Str)) && (PyData.canLay0 (.str z) && true)) = true
    rw [l1, l2]
    rfl
theorem out_ok {K : PySem.W.Frag} {H : Hp} {xs : List V} {es : List Lk} (hp : Paired (ItD K H) xs es) : (outOf es).ok := by
  unfold outOf
  by_cases e0 : es = []
  · rw [if_pos e0]
    exact trivial
  · rw [if_neg e0]
    cases hw : firstW (es.map fun e => (e.1, e.2.1)) [] 0 with
    | some i => exact trivial
    | none =>
      obtain ⟨w1, _, _⟩ := firstW_no hw
      have looks : ∀ e ∈ es, isNm e.2.1 = true ∧ ∀ s ∈ e.2.2, isNm s = true := fun e he => by
        have et : e.1 = true := w1 (e.1, e.2.1) (List.mem_map.mpr ⟨e, he, rfl⟩)
        obtain ⟨i, hi⟩ := List.getElem?_of_mem he
        obtain ⟨v, _, hv⟩ := Paired.get hp hi
        rcases hv with ⟨_, z⟩ | ⟨t, c, s, _, _, h3⟩
        · rw [et] at z
          cases z
        · refine ⟨(h3.true_ et).2.1, fun s hs => ?_⟩
          obtain ⟨bc, bs, h4, h5, h6, h7⟩ := h3
          rw [et] at h6
          obtain ⟨_, g2⟩ := Bool.and_eq_true_iff.mp h6.symm
          rcases h5 with ⟨_, _, _, e⟩ | ⟨l, ys, bl, _, _, _, h8, h9, h10, h11⟩
          · rw [g2] at e
            cases e
          · have ey := h11 g2
            obtain ⟨j, hj⟩ := List.getElem?_of_mem hs
            have hy : ys[j]? = some (.str s) := by rw [ey, List.getElem?_map, hj]; rfl
            have lt : j < bl.length := by rw [h8]; exact (List.getElem?_eq_some_iff.mp hy).1
            have hb : bl[j]? = some bl[j] := List.getElem?_eq_getElem lt
            rw [g2] at h10
            unfold nlB at h10
            have ha := (Bool.and_eq_true_iff.mp h10.symm).1
            have hbt : bl[j] = true := List.all_eq_true.mp ha _ (List.getElem_mem lt)
            rcases h9 j _ _ hy hb with ⟨z, e1, _, e2⟩ | ⟨_, _, _, e2⟩
            · cases e1
              rw [← e2]
              exact hbt
            · rw [hbt] at e2
              cases e2
      cases hu : firstU (es.map fun e => e.2.1) (es.map Prod.snd) with
      | some u =>
        have m := List.mem_of_find?_eq_some hu
        obtain ⟨r, hr, hs⟩ := List.mem_flatMap.mp m
        obtain ⟨e, he, rfl⟩ := List.mem_map.mp hr
        intro x hx
        rw [show x = u by simpa using hx]
        exact isNm_ok ((looks e he).2 u hs)
      | none =>
        intro x hx
        obtain ⟨e, he, rfl⟩ := List.mem_map.mp hx
        exact isNm_ok (looks e he).1
end WL
end L2
namespace L2
namespace WL
open PySem PySem.Spec PyProof.Rows K1 LamX
/-! ### rows handed in -/
/-- a tuple of a name and a list of S -/
def PrT (H : Hp) (S : List Addr) (v : V) (r : Str × List Str) : Prop := ∃ t l, v = .ref t ∧ H t = some (.tup [.str r.1, .ref l]) ∧ H l = some (.lst (r.2.map .str)) ∧ l ∈ S
theorem PrT.same {H H' : Hp} {S S' : List Addr} {v : V} {r : Str × List Str} (h : PrT H S v r) (s : Same H H') (m : ∀ b ∈ S, b ∈ S') : PrT H' S' v r := let ⟨t, l, e, a, b, c⟩ := h; ⟨t, l, e, s _ _ a, s _ _ b, m _ c⟩
/-- .. a tuple or a list -/
def HdT (H : Hp) (S : List Addr) (v : V) (r : Str × List Str) : Prop := ∃ t l, v = .ref t ∧ (H t = some (.tup [.str r.1, .ref l]) ∨ H t = some (.lst [.str r.1, .ref l])) ∧ t ∉ S ∧ H l = some (.lst (r.2.map .str)) ∧ l ∈ S
theorem HdT.same {H H' : Hp} {S : List Addr} {v : V} {r : Str × List Str} (h : HdT H S v r) (s : Same H H') : HdT H' S v r := by
  obtain ⟨t, l, e, a, b, c, d⟩ := h
  exact ⟨t, l, e, a.imp (s _ _) (s _ _), b, s _ _ c, d⟩
theorem HdT.g {K : PySem.W.Frag} {H : Hp} {S : List Addr} {v : V} {r : Str × List Str} (h : HdT H S v r) : RowG K H v r := by
  obtain ⟨t, l, rfl, a | a, b, c, d⟩ := h
  · exact ⟨.ref l, ⟨t, rfl, .inr (SqT.of a)⟩, ⟨l, rfl, .inl (SqL.of c)⟩⟩
  · exact ⟨.ref l, ⟨t, rfl, .inl (SqL.of a)⟩, ⟨l, rfl, .inl (SqL.of c)⟩⟩
/-- .. whatever the list holds by now -/
def HdW (H : Hp) (S : List Addr) (v : V) : Prop := ∃ t l z, v = .ref t ∧ (H t = some (.tup [z, .ref l]) ∨ H t = some (.lst [z, .ref l])) ∧ l ∈ S
theorem HdT.w {H : Hp} {S : List Addr} {v : V} {r : Str × List Str} (h : HdT H S v r) : HdW (offS S H) S v := by
  obtain ⟨t, l, e, a, b, c, d⟩ := h
  exact ⟨t, l, _, e, by rw [offS_ne b]; exact a, d⟩
theorem HdW.same {H H' : Hp} {S : List Addr} {v : V} (h : HdW H S v) (s : Same H H') : HdW H' S v := by
  obtain ⟨t, l, z, e, a, d⟩ := h
  exact ⟨t, l, z, e, a.imp (s _ _) (s _ _), d⟩
theorem HdW.seq {K : PySem.W.Frag} {H : Hp} {S : List Addr} {v : V} (h : HdW H S v) : ∃ l z, Seq K H v [z, .ref l] ∧ l ∈ S := by
  obtain ⟨t, l, z, rfl, a | a, d⟩ := h
  · exact ⟨l, z, ⟨t, rfl, .inr (SqT.of a)⟩, d⟩
  · exact ⟨l, z, ⟨t, rfl, .inl (SqL.of a)⟩, d⟩
theorem same_hide_new {H H' : Hp} {D : Addr} (s : Same H H') (n : H D = none) : Same H (hide D H') := fun b o e => by
  rw [hide_ne (ne_of_none e n)]
  exact s _ _ e
theorem paired_imp2 {α β : Type} {F G : α → β → Prop} {l : List α} {m : List β} (h : Paired F l m) (f : ∀ a b, F a b → G a b) : Paired G l m := Paired.imp f h
theorem thirteen {r : List (Option V)} (h : r.length = 13) : ∃ o1 o2 o3 o4 o5 o6 o7 o8 o9 o10 o11 o12 o13 : Option V, r = [o1, o2, o3, o4, o5, o6, o7, o8, o9, o10, o11, o12, o13] := by
  match r, h with
  | [o1, o2, o3, o4, o5, o6, o7, o8, o9, o10, o11, o12, o13], _ => exact ⟨o1, o2, o3, o4, o5, o6, o7, o8, o9, o10, o11, o12, o13, rfl⟩
end WL
end L2
namespace L2
namespace WL
open PySem PySem.Spec PyProof.Rows K1 LamX
theorem init_rows {K : PySem.W.Frag} {H H4 : Hp} {C x dx q : Addr} {rs : Rws} {Q : VK} {E : XK} (h : RowsAt H q rs) (g : Good rs) (nx : H x = none) (nd : H dx = none) (e4 : upd (upd H dx (.own x)) x (.ins C dx []) = H4)
    (mk : ∀ H', Same H H' → IsWeb K H' C x rs → Q .non H') : spInit K C [.ref x, .ref q] H4 Q E := by
  obtain ⟨vs, eq, hvs⟩ := h
  have sx := same_mk nx nd e4.symm
  refine ⟨x, dx, .ref q, rfl, by rw [← e4]; exact upd_same, .inr ⟨vs, rs, ⟨q, rfl, .inl (SqL.of (sx _ _ eq))⟩, ?_, g, fun H' s' w => mk H' ((sx.trans s').trans hide_le) w⟩⟩
  exact Paired.imp (fun _ _ r => RowT.g (r.same sx)) hvs
theorem paired_rev {α β : Type} {R : α → β → Prop} {l : List α} {m : List β} (h : Paired R l m) : Paired R l.reverse m.reverse := by
  induction h with
  | nil => exact .nil
  | cons h _ ih =>
    rw [List.reverse_cons, List.reverse_cons]
    exact Paired.snoc ih h
/-- the odd things that are no cells -/
def odds9 (t u d : Addr) : List V := [.str "A", .str "", .non, .int 5, .bl true, .ref t, .ref u, .ref d, .str "zzzzqqqq"]
theorem odd9_ok {K : PySem.W.Frag} {H : Hp} {t u d : Addr} {rs : Rws} {i : Nat} {x : V} (hn : ∀ r ∈ rs, lawNm r.1) (ht : H t = some (.tup [.str "a"])) (hu : H u = some (.lst [.str "a"])) (hd : H d = some (.dK [])) (hx : (odds9 t u d)[i]? = some x) :
    (∃ b, IsN K H x b) ∧ inWeb rs x = false ∧ (flatB x = true ∨ ∃ c, x = .ref c) := by
  have nw : ∀ z : Str, (∀ r ∈ rs, r.1 ≠ z) → inWeb rs (.str z) = false := fun z h => by
    refine decide_eq_false fun m => ?_
    obtain ⟨r, hr, e⟩ := List.mem_map.mp m
    exact h r hr e
  match i, hx with
  | 0, hx =>
    obtain rfl := (Option.some.inj hx).symm
    exact ⟨⟨_, .inl ⟨_, rfl, by decide +kernel, rfl⟩⟩, nw _ fun r hr => law_A (hn r hr), .inl rfl⟩
  | 1, hx =>
    obtain rfl := (Option.some.inj hx).symm
    refine ⟨⟨_, .inl ⟨_, rfl, by decide +kernel, rfl⟩⟩, nw _ fun r hr e => ?_, .inl rfl⟩
    have := (hn r hr).1
    rw [e] at this
    exact absurd this (by decide +kernel)
  | 2, hx =>
    obtain rfl := (Option.some.inj hx).symm
    exact ⟨⟨_, .inr ⟨_, .base .non, rfl, rfl⟩⟩, rfl, .inl rfl⟩
  | 3, hx =>
    obtain rfl := (Option.some.inj hx).symm
    exact ⟨⟨_, .inr ⟨_, .base (.int _), rfl, rfl⟩⟩, rfl, .inl rfl⟩
  | 4, hx =>
    obtain rfl := (Option.some.inj hx).symm
    exact ⟨⟨_, .inr ⟨_, .base (.bl _), rfl, rfl⟩⟩, rfl, .inl rfl⟩
  | 5, hx =>
    obtain rfl := (Option.some.inj hx).symm
    exact ⟨⟨_, .inr ⟨_, .base (.tup ht), rfl, rfl⟩⟩, rfl, .inr ⟨_, rfl⟩⟩
  | 6, hx =>
    obtain rfl := (Option.some.inj hx).symm
    exact ⟨⟨_, .inr ⟨_, .base (.lst hu), rfl, rfl⟩⟩, rfl, .inr ⟨_, rfl⟩⟩
  | 7, hx =>
    obtain rfl := (Option.some.inj hx).symm
    exact ⟨⟨_, .inr ⟨_, .base (.dK hd), rfl, rfl⟩⟩, rfl, .inr ⟨_, rfl⟩⟩
  | 8, hx =>
    obtain rfl := (Option.some.inj hx).symm
    exact ⟨⟨_, .inl ⟨_, rfl, by decide +kernel, rfl⟩⟩, nw _ fun r hr => law_zq (hn r hr), .inl rfl⟩
  | i + 9, hx => cases hx
theorem six6 {r : List (Option V)} (h : r.length = 6) : ∃ o1 o2 o3 o4 o5 o6 : Option V, r = [o1, o2, o3, o4, o5, o6] := by
  match r, h with
  | [o1, o2, o3, o4, o5, o6], _ => exact ⟨o1, o2, o3, o4, o5, o6, rfl⟩
end WL
end L2
namespace L2
namespace WL
open PySem PySem.Spec PyProof.Rows K1 LamX
/-- x and y, where both ways end in false -/
theorem and_tail {b : Bool} {H : Hp} {R : Bool → Hp → Prop} {tb : TT} {σ : St} (Mid : Hp → Prop) (h0 : Mid H) (h2 : ∀ H', Mid H' → R false H') (h1 : b = true → (∀ H', Mid H' → R false H') → tb σ H R) : (fun (c : Bool) (H1 : Hp) => if c = true then tb σ H1 R else R false H1) b H := by
  cases b with
  | false => exact iteN rfl (h2 H h0)
  | true => exact iteP rfl (h1 rfl h2)
end WL
end L2
namespace L2
namespace WL
open PySem PySem.Spec PyProof.Rows K1 LamX
mutual
theorem dp_same {K : PySem.W.Frag} {H H' : Hp} (s : Same H H') : ∀ {v : V} {d : PyData}, Dp K H v d → Dp K H' v d
  | _, _, .non => .non
  | _, _, .bl b => .bl b
  | _, _, .int i => .int i
  | _, _, .str x => .str x
  | _, _, .lst h a => .lst (s.seq h) (dpA_same s a)
  | _, _, .tup h a => .tup (SqT.same h s) (dpA_same s a)
theorem dpA_same {K : PySem.W.Frag} {H H' : Hp} (s : Same H H') : ∀ {vs : List V} {ds : List PyData}, DpAll K H vs ds → DpAll K H' vs ds
  | _, _, .nil => .nil
  | _, _, .cons h t => .cons (dp_same s h) (dpA_same s t)
end
/-- things of which no web comes: bad at 0 -/
def odds6 (a d t : Addr) : List V := [.ref a, .non, .int 5, .str "ab", .ref d, .ref t]
theorem odd6_met {K : PySem.W.Frag} {H : Hp} {a d t : Addr} {i : Nat} {x : V} (ha : H a = some (.lst [])) (hd : H d = some (.dK [])) (ht : H t = some (.tup [])) (hx : (odds6 a d t)[i]? = some x) : MetOf K H x (.bad 0) := by
  have emp : ∀ v, Seq K H v [] → MetOf K H v (.bad 0) := fun v h => .inr ⟨[], h, Nat.zero_le _, (fun d hd => nomatch hd), .inl ⟨0, rfl, rfl⟩⟩
  match i, hx with
  | 0, hx =>
    obtain rfl := (Option.some.inj hx).symm
    exact emp _ ⟨a, rfl, .inl (SqL.of ha)⟩
  | 1, hx =>
    obtain rfl := (Option.some.inj hx).symm
    exact .inl ⟨_, .base .non, kit_non, rfl⟩
  | 2, hx =>
    obtain rfl := (Option.some.inj hx).symm
    exact .inl ⟨_, .base (.int _), kit_none (kit_ty (by decide +kernel)) (kit_ty (by decide +kernel)), rfl⟩
  | 3, hx =>
    obtain rfl := (Option.some.inj hx).symm
    exact .inl ⟨_, .base (.str _), kit_none (kit_ty (by decide +kernel)) (kit_ty (by decide +kernel)), rfl⟩
  | 4, hx =>
    obtain rfl := (Option.some.inj hx).symm
    exact .inl ⟨_, .base (.dK hd), kit_none (kit_ty (by decide +kernel)) (kit_ty (by decide +kernel)), rfl⟩
  | 5, hx =>
    obtain rfl := (Option.some.inj hx).symm
    exact emp _ ⟨t, rfl, .inr (SqT.of ht)⟩
  | i + 6, hx => cases hx
end WL
end L2
set_option Elab.async false
set_option linter.all false
set_option maxRecDepth 100000
set_option maxHeartbeats 4000000
namespace L2
namespace WL
open PySem PySem.Spec PyProof.Rows K1 LamX
/-! ### X(), X an own error class without own __init__ -/
theorem pmk_own0 {X : Cx} {C : Addr} {bmB : List Value} {B newId initId : String} {x : Str} {p pos : Pos} (F : ExcBaseFacts B newId initId bmB) (q : PySem.W.excIn X.K C bmB newId = true) (gC : X.mg x = some (.ref C)) (kC : PySem.W.keepIn X.K (.ref C) = true) (r : Raises X (.ref C)) (hg : Gl X x)
    (hdb : (x == ("__debug__" : Str)) = false := by decide) : PMk X (.Call (.Name x p) [] [] pos) (fun _ H Q => Q (.ref C) none H) := by
  intro pins s σ H Q I h
  refine wpAny_Call_Name_kw (ld_glob I hg gC (PySem.W.callWith_K0 I.kIn kC ?_) hdb)
  obtain ⟨bm, N, nm, qn, bs, hdct, sn, sub, ab, col, dd, k0, k1, k2, k3, k5, mN, hC, hN, hni, T⟩ := exc_obj I.kIn q
  show wpAny _ _ (call (.ref C) []) _ _ _
  refine wpAny_call_exc_subT F T hC hN hni (fun h' e hm => ?_) (by show 0 ≤ sizeLine; exact Nat.zero_le _)
  exact mk_of I hm r h (I.hok.gone hm.new)
/-- what is known of such a class -/
structure E0c (K : PySem.W.Frag) (mg : Str → Option Value) (x : Str) : Prop where
  g : mg x = some (.ref (He.ga K x))
  xi : PySem.W.excIn K (He.ga K x) He.veBase "ValueError.__new__" = true
  k : PySem.W.keepIn K (.ref (He.ga K x)) = true
  s : PySem.W.subIn K (.ref (He.ga K x)) (.type "BaseException") = some true
  t : PySem.W.typeIn K (.ref (He.ga K x)) = some (.type "type")
/-! ### whole numbers that are no truths -/
def IntV (K : PySem.W.Frag) (H : Hp) (v : V) (o : Option Int) : Prop := (∃ i, v = .int i ∧ o = some i) ∨ ∃ t b1 b2, TyX K H v t ∧ PySem.W.kitOne K t (.type "int") = some b1 ∧ PySem.W.kitOne K t (.type "bool") = some b2 ∧ (b1 && !b2) = false ∧ o = none
theorem IntV.same {K : PySem.W.Frag} {H H' : Hp} {v : V} {o : Option Int} (h : IntV K H v o) (s : Same H H') : IntV K H' v o := by
  rcases h with h | ⟨t, b1, b2, h1, h2⟩
  · exact .inl h
  · exact .inr ⟨t, b1, b2, TyX.same h1 s, h2⟩
def isI : V → Option Int
  | .int i => some i
  | _ => none
theorem intV_flat {K : PySem.W.Frag} {H : Hp} {v : V} (h : flatV v = true) : IntV K H v (isI v) := by
  cases v with
  | int i => exact .inl ⟨i, rfl, rfl⟩
  | non => exact .inr ⟨_, false, false, .base .non, kit_ty (by decide +kernel), kit_ty (by decide +kernel), rfl, rfl⟩
  | bl b => exact .inr ⟨_, true, true, .base (.bl b), kit_ty (by decide +kernel), kit_ty (by decide +kernel), rfl, rfl⟩
  | str z => exact .inr ⟨_, false, false, .base (.str z), kit_ty (by decide +kernel), kit_ty (by decide +kernel), rfl, rfl⟩
  | _ => cases h
theorem intV_tup {K : PySem.W.Frag} {H : Hp} {a : Addr} {xs : List V} (h : H a = some (.tup xs)) : IntV K H (.ref a) none := .inr ⟨_, false, false, .base (.tup h), kit_ty (by decide +kernel), kit_ty (by decide +kernel), rfl, rfl⟩
def spIsInt (K : PySem.W.Frag) : Sp := fun vs H Q _ => ∃ v o, vs = [v] ∧ IntV K H v o ∧ Q (.bl o.isSome) H
def cntB (o : Option Int) : Bool := match o with
  | some i => decide (0 ≤ i)
  | none => false
def spIsCount (K : PySem.W.Frag) : Sp := fun vs H Q _ => ∃ v o, vs = [v] ∧ IntV K H v o ∧ Q (.bl (cntB o)) H
/-! ### arrows of pieces -/
abbrev A3 : Type := Str × Int × Str
def ArIs (K : PySem.W.Frag) (H : Hp) (cs : List Str) (v : V) (b : Bool) : Prop := (∃ t, TyX K H v t ∧ PySem.W.kitAny K t LT = some false ∧ b = false) ∨
  ∃ xs, Seq K H v xs ∧ ((xs.length ≠ 3 ∧ b = false) ∨ ∃ x y z o, xs = [x, y, z] ∧ IntV K H y o ∧ (o = none → b = false) ∧ ∀ i, o = some i → flatV x = true ∧ flatV z = true ∧ b = (inV x (cs.map .str) && (inV z (cs.map .str) && (decide (-1 ≤ i) && decide (i ≤ 1)))))
theorem ArIs.same {K : PySem.W.Frag} {H H' : Hp} {cs : List Str} {v : V} {b : Bool} (h : ArIs K H cs v b) (s : Same H H') : ArIs K H' cs v b := by
  rcases h with ⟨t, h1, h2⟩ | ⟨xs, h1, h⟩
  · exact .inl ⟨t, TyX.same h1 s, h2⟩
  · refine .inr ⟨xs, h1.same s, ?_⟩
    rcases h with h | ⟨x, y, z, o, e, h2, h3⟩
    · exact .inl h
    · exact .inr ⟨x, y, z, o, e, h2.same s, h3⟩
def v3 (a : A3) : List V := [.str a.1, .int a.2.1, .str a.2.2]
def d3 (a : A3) : PyData := .tuple [.str a.1, .int a.2.1, .str a.2.2]
def ArD (K : PySem.W.Frag) (H : Hp) (cs : List Str) (d : V × Bool × A3) : Prop := ArIs K H cs d.1 d.2.1 ∧ (d.2.1 = true → Seq K H d.1 (v3 d.2.2))
theorem ArD.same {K : PySem.W.Frag} {H H' : Hp} {cs : List Str} {d : V × Bool × A3} (h : ArD K H cs d) (s : Same H H') : ArD K H' cs d := ⟨h.1.same s, fun e => (h.2 e).same s⟩
def spPA (K : PySem.W.Frag) : Sp := fun vs H Q _ => ∃ c v cs b, vs = [c, v] ∧ Seq K H c ((cs : List Str).map .str) ∧ ArIs K H cs v b ∧ ∀ H', Same H H' → Q (.bl b) H'
/-- the first wrong one: by looks -/
def firstG {α : Type} [DecidableEq α] : List (Bool × α) → List α → Nat → Option Nat
  | [], _, _ => none
  | (r, z) :: l, seen, i => if r = false ∨ z ∈ seen then some i else firstG l (seen ++ [z]) (i + 1)
def spFA (K : PySem.W.Frag) : Sp := fun vs H Q _ => ∃ c v cs, vs = [c, v] ∧ Seq K H c ((cs : List Str).map .str) ∧ ((∃ t, TyX K H v t ∧ PySem.W.kitAny K t LT = some false ∧ ∀ H', Same H H' → Q (.int 0) H') ∨
  ∃ ds : List (V × Bool × A3), Seq K H v (ds.map Prod.fst) ∧ ds.length ≤ 500 ∧ (∀ d ∈ ds, ArD K H cs d ∧ (d.2.1 = true → sOk [d.2.2.1, d.2.2.2.2])) ∧ ∀ H', Same H H' → Q (optV (firstG (ds.map Prod.snd) [] 0)) H')
theorem eqv_d3 (a b : A3) : PyData.eqv (d3 a) (d3 b) = decide (a = b) := by
  show ((a.1 == b.1) && ((a.2.1 == b.2.1) && ((a.2.2 == b.2.2) && true))) = _
  rw [Bool.and_true, Bool.eq_iff_iff]
  simp only [Bool.and_eq_true, beq_iff_eq, decide_eq_true_iff, Prod.ext_iff]
theorem shape_d3 {a : A3} (h : sOk [a.1, a.2.2]) : PyData.canLay0 (d3 a) = true := by
  have l1 : (PyData.canLay0 (.str a.1) && (PyData.canLay0 (.str a.2.2) && true)) = true := lay_strs h
  rw [Bool.and_true] at l1
  obtain ⟨h1, h2⟩ := Bool.and_eq_true_iff.mp l1
  show (PyData.canLay0 (.str a.1) && (PyData.canLay0 (.int a.2.1) && (PyData.canLay0 (.str a.2.2) && true))) = true
  rw [h1, h2]
  rfl
theorem shape_d3s : ∀ {as : List A3}, (∀ a ∈ as, sOk [a.1, a.2.2]) → PyData.canLayAll0 (as.map d3) = true ∧ PyData.depthAll (as.map d3) ≤ 1
  | [], _ => ⟨rfl, Nat.zero_le _⟩
  | a :: as, h => by
    obtain ⟨h1, h2⟩ := shape_d3s fun x hx => h x (List.mem_cons_of_mem _ hx)
    constructor
    · show (PyData.canLay0 (d3 a) && PyData.canLayAll0 (as.map d3)) = true
      rw [shape_d3 (h a (List.mem_cons_self ..)), h1]
      rfl
    · show max 1 (PyData.depthAll (as.map d3)) ≤ 1
      omega
theorem shaped_d3 {a : A3} (h : sOk [a.1, a.2.2]) : SeqAt.shaped (d3 a) = true := by
  unfold SeqAt.shaped
  exact Bool.and_eq_true_iff.mpr ⟨shape_d3 h, rfl⟩
theorem shaped_l3 {as : List A3} (h : ∀ a ∈ as, sOk [a.1, a.2.2]) : SeqAt.shaped (.list (as.map d3)) = true := by
  obtain ⟨h1, h2⟩ := shape_d3s h
  unfold SeqAt.shaped
  refine Bool.and_eq_true_iff.mpr ⟨h1, decide_eq_true ?_⟩
  show PyData.depthAll (as.map d3) + 1 ≤ 64
  omega
theorem dp_v3 {K : PySem.W.Frag} {H : Hp} {q : Addr} {a : A3} (h : SqT K H q (v3 a)) : Dp K H (.ref q) (d3 a) := .tup h (.cons (.str _) (.cons (.int _) (.cons (.str _) .nil)))
theorem any_d3 (a : A3) (as : List A3) : ((as.map d3).any fun z => PyData.eqv z (d3 a)) = decide (a ∈ as) := by
  rw [List.any_map, Bool.eq_iff_iff, List.any_eq_true, decide_eq_true_iff]
  constructor
  · rintro ⟨b, hb, e⟩
    have e' : PyData.eqv (d3 b) (d3 a) = true := e
    rw [eqv_d3] at e'
    rw [← of_decide_eq_true e']
    exact hb
  · intro h
    refine ⟨a, h, ?_⟩
    show PyData.eqv (d3 a) (d3 a) = true
    rw [eqv_d3]
    exact decide_eq_true rfl
/-- a triple at an address -/
def Trip (K : PySem.W.Frag) (H : Hp) (v : V) (a : A3) : Prop := ∃ q, v = .ref q ∧ SqT K H q (v3 a)
theorem Trip.same {K : PySem.W.Frag} {H H' : Hp} {v : V} {a : A3} (h : Trip K H v a) (s : Same H H') : Trip K H' v a := let ⟨q, e, x⟩ := h; ⟨q, e, SqT.same x s⟩
theorem trips_dp {K : PySem.W.Frag} {H : Hp} : ∀ {vs : List V} {as : List A3}, Paired (Trip K H) vs as → DpAll K H vs (as.map d3)
  | _, _, .nil => .nil
  | _, _, .cons ⟨q, e, h⟩ t => by
    subst e
    exact .cons (dp_v3 h) (trips_dp t)
end WL
end L2
set_option Elab.async false
set_option linter.all false
set_option maxRecDepth 100000
set_option maxHeartbeats 4000000
namespace L2
namespace K63
open PySem PySem.Spec PyProof.Rows K1 WL
section
variable {P : Program} {w : World} {K : PySem.W.Frag} {mg : Str → Option Value} {base : Heap} {f : Addr} {fd : FuncData}
/-! ### check_rows -/
abbrev nmCR : List Str := ["rows", "wrong", "row", "cells", "source"]
theorem sc_check_rows : FnScope nmCR ["rows"] (defScope s_check_rows) := ⟨rfl, rfl, rfl, by decide +kernel, rfl, by decide +kernel, by decide +kernel⟩
theorem ok_check_rows (T : Bl mg) (Cf : Cal P w K mg base "first_wrong_row" ["rows"] 4 (spFirst K)) (EB : Er P w K mg base "BadWeb" "index") (EU : Er P w K mg base "UnknownCell" "cell") (F : FnP K "check_rows" "check_rows" s_check_rows f fd) :
    FnOk P w K mg base (L2.CX P w) 5 f fd ["rows"] (spCheckRows K) := by
  obtain ⟨ff, fdf, Gf, gf, kf, bf⟩ := Cf.ex
  obtain ⟨fdB, GB, bB⟩ := EB.ex
  obtain ⟨fdU, GU, bU⟩ := EU.ex
  refine F.ok sc_check_rows (fun vs H Q E h => ?_) (fun cdv A outer s H vs Q E hr h => ?_)
  · obtain ⟨v, rfl, _⟩ := h
    rfl
  · have h2 := hr.mono (show 2 ≤ 4 by decide)
    have nd := sc_check_rows.nd
    refine ⟨_, pss_cons (ps_set (i := 1) nd rfl (Or.inl rfl) (pe_call Gf hr rfl gf kf bf .nil pass0 (pa_cons (pv 0) pa_nil)))
      (pss_cons (ps_if (pt_cmpR op_notN (pv 1) pe_non (nomark _)) (pss_one (ps_raiseV rfl (takes_of rfl rfl rfl rfl) EB.c EB.iC EB.tI GB h2 bB rfl EB.g (pv 1))) pss_nil)
      (pss_cons (ps_setLc (i := 3) (own := [("row", 2)]) (g := gName 2) (tt := tYes) rfl nd rfl rfl (sw_true rfl rfl rfl (by decide +kernel)) (pi_seq (pv 0)) (blkOk_by (N := nmCR) (sc := defScope s_check_rows) (by decide +kernel))
        (fun _ _ _ _ _ => pg_name (i := 2) nd rfl (Or.inl rfl)) (fun _ _ _ _ _ => pts_nil) (fun _ _ _ _ _ => pe_ix (r := rIx K) ix_seq (pv 2) pe_int fun _ _ => rfl))
      (pss_one (ps_for (passes_of rfl) rfl (pi_seq (pv 0)) (pg_name (i := 2) nd rfl (Or.inl rfl))
        (pss_one (ps_for (passes_of rfl) rfl (pi_seq (pe_ix ix_seq (pv 2) pe_int fun _ _ => rfl)) (pg_name (i := 4) nd rfl (Or.inl rfl))
          (pss_one (ps_if (pt_cmpR op_notIn_seq (pv 4) (pv 3) rfl) (pss_one (ps_raiseV rfl (takes_of rfl rfl rfl rfl) EU.c EU.iC EU.tI GU h2 bU rfl EU.g (pv 4))) pss_nil)))))))), ?_⟩
    obtain ⟨v, rfl, hv⟩ := h
    rcases hv with ⟨t, ty, kt, rz⟩ | ⟨ds, hs0, hn, hd, hv⟩
    · refine ⟨_, rfl, v, rfl, .inl ⟨t, ty, kt, fun H1 s1 => ⟨_, rfl, rfl, _, rfl, ?_⟩⟩⟩
      exact ⟨_, rfl, fun H2 d s2 nd2 e2 => rz H2 d (s1.trans s2) e2⟩
    · refine ⟨_, rfl, v, rfl, .inr ⟨ds, hs0, hn, hd, fun H1 s1 => ?_⟩⟩
      rcases hv with ⟨i, ei, rz⟩ | ⟨ei, rs, hl, hg, hU⟩
      · rw [ei]
        exact ⟨_, rfl, rfl, _, rfl, ⟨_, rfl, fun H2 d s2 nd2 e2 => rz H2 d (s1.trans s2) e2⟩⟩
      · rw [ei]
        refine ⟨_, rfl, rfl, _, rfl, iteN rfl ?_⟩
        have hs1 : Seq K H1 v (ds.map Prod.fst) := hs0.same s1
        refine t_next ?_
        dsimp only
        refine t_seqAsg ?_
        refine lc_seq hs1 (fun Q q => ⟨_, rfl, q⟩) (by rw [List.length_map]; omega) (fun i => .str ((rs.map Prod.fst).getD i Str.empty)) (fun i x H' Q' hx s' qq => ?_) (fun c H2 s2 e2 => ?_)
        · rw [List.getElem?_map] at hx
          obtain ⟨d, hdx, rfl⟩ := Option.map_eq_some_iff.mp hx
          have lt : i < rs.length := by
            rw [hl]
            exact (List.getElem?_eq_some_iff.mp hdx).1
          obtain ⟨y, g1, _⟩ := (hg i d rs[i] hdx (List.getElem?_eq_getElem lt)).1
          have e0 : (rs.map Prod.fst).getD i Str.empty = (rs[i]).1 := by
            rw [List.getD_eq_getElem?_getD, List.getElem?_map, List.getElem?_eq_getElem lt]
            rfl
          rw [e0] at qq
          exact ⟨rfl, _, rfl, ((g1.same s1).same s').ix (x := .str (rs[i]).1) rfl (qq H' (Same.refl _))⟩
        · have e3 : H2 c = some (.lst ((rs.map Prod.fst).map .str)) := by
            rw [e2, ← rngS, List.length_map, List.length_map, hl]
          have s12 := s1.trans s2
          show tFor _ _ _ _ _ _
          refine for_seq (hs1.same s2) (fun Q q => ⟨_, rfl, q⟩) (fun i σ H' => Same H2 H' ∧ (∃ o2 o4, σ = [some v, some .non, o2, some (.ref c), o4]) ∧ ∀ x ∈ (rs.take i).flatMap Prod.snd, x ∈ rs.map Prod.fst) ⟨Same.refl _, ⟨_, _, rfl⟩, by simp⟩ (fun i σ H' p => p.1) ?_ ?_
          · rintro i x σ H3 hx ⟨s3, ⟨o2, o4, rfl⟩, hall⟩
            rw [List.getElem?_map] at hx
            obtain ⟨d, hdx, rfl⟩ := Option.map_eq_some_iff.mp hx
            have lt : i < rs.length := by
              rw [hl]
              exact (List.getElem?_eq_some_iff.mp hdx).1
            obtain ⟨⟨y, g1, g2⟩, g3⟩ := hg i d rs[i] hdx (List.getElem?_eq_getElem lt)
            have g1' := ((g1.same s12).same s3)
            have g2' := ((g2.same s12).same s3)
            have split : rs.flatMap Prod.snd = (rs.take i).flatMap Prod.snd ++ ((rs[i]).2 ++ (rs.drop (i + 1)).flatMap Prod.snd) := by
              conv => lhs; rw [← List.take_append_drop i rs, List.drop_eq_getElem_cons lt]
              rw [List.flatMap_append, List.flatMap_cons]
            show tFor _ _ _ _ _ _
            refine for_seq g2' (fun Q q => ⟨_, rfl, g1'.ix (x := y) rfl q⟩) (fun j σ H' => Same H3 H' ∧ (∃ o2 o4, σ = [some v, some .non, o2, some (.ref c), o4]) ∧ ∀ x ∈ (rs[i]).2.take j, x ∈ rs.map Prod.fst) ⟨Same.refl _, ⟨_, _, rfl⟩, by simp⟩ (fun j σ H' p => p.1) ?_ ?_
            · rintro j z σ H4 hz ⟨s4, ⟨o2, o4, rfl⟩, hin⟩
              rw [List.getElem?_map] at hz
              obtain ⟨u, hu, rfl⟩ := Option.map_eq_some_iff.mp hz
              have ltj : j < (rs[i]).2.length := (List.getElem?_eq_some_iff.mp hu).1
              have uj : (rs[i]).2[j] = u := by
                rw [List.getElem?_eq_getElem ltj] at hu
                exact Option.some.inj hu
              refine ⟨_, rfl, _, rfl, c, _, rfl, .inl (SqL.of (s4 _ _ (s3 _ _ e3))), rfl, flat_strs' _, _, rfl, ?_⟩
              have ein : inV (.str u) ((rs.map Prod.fst).map .str) = decide (u ∈ rs.map Prod.fst) := in_strs _ _
              refine ite2 (fun hh => ?_) fun hh => ?_
              · have nin : u ∉ rs.map Prod.fst := by
                  have hh2 : (!inV (.str u) ((rs.map Prod.fst).map .str)) = true := hh
                  rw [ein] at hh2
                  simpa using hh2
                have fu : firstU (rs.map Prod.fst) rs = some u := by
                  unfold firstU
                  rw [split]
                  have e5 : (rs[i]).2 = (rs[i]).2.take j ++ u :: (rs[i]).2.drop (j + 1) := by
                    conv => lhs; rw [← List.take_append_drop j (rs[i]).2, List.drop_eq_getElem_cons ltj, uj]
                  rw [e5, List.append_assoc, List.cons_append, ← List.append_assoc]
                  refine find_at nin fun x hx => ?_
                  rcases List.mem_append.mp hx with hx | hx
                  · exact hall x hx
                  · exact hin x hx
                rcases hU with ⟨u2, e6, rz⟩ | ⟨e6, _⟩
                · rw [fu] at e6
                  cases e6
                  exact ⟨_, rfl, fun H5 d5 s5 nd5 e7 => rz H5 d5 (((s12.trans s3).trans s4).trans s5) e7⟩
                · rw [fu] at e6
                  cases e6
              · have isin : u ∈ rs.map Prod.fst := by
                  by_cases m : u ∈ rs.map Prod.fst
                  · exact m
                  · exfalso
                    refine hh ?_
                    show (!inV (.str u) ((rs.map Prod.fst).map .str)) = true
                    rw [ein, decide_eq_false m]
                    rfl
                refine ⟨s4, ⟨_, _, rfl⟩, fun x hx => ?_⟩
                rw [List.take_succ, hu] at hx
                rcases List.mem_append.mp hx with hx | hx
                · exact hin x hx
                · have e8 : x = u := by simpa using hx
                  rw [e8]
                  exact isin
            · rintro σ H4 ⟨s4, ⟨o2, o4, rfl⟩, hin⟩
              refine ⟨s3.trans s4, ⟨_, _, rfl⟩, fun x hx => ?_⟩
              rw [List.length_map, List.take_length] at hin
              rw [List.take_succ, List.getElem?_eq_getElem lt, List.flatMap_append] at hx
              rcases List.mem_append.mp hx with hx | hx
              · exact hall x hx
              · exact hin x (by simpa using hx)
          · rintro σ H3 ⟨s3, ⟨o2, o4, rfl⟩, hall⟩
            have fn0 : firstU (rs.map Prod.fst) rs = none := by
              unfold firstU
              refine find_none fun x hx => ?_
              refine hall x ?_
              rw [List.length_map, ← hl, List.take_length]
              exact hx
            rcases hU with ⟨u2, e6, rz⟩ | ⟨_, q⟩
            · rw [fn0] at e6
              cases e6
            · exact q H3 (s12.trans s3)
end
end K63
end L2
set_option Elab.async false
set_option linter.all false
set_option maxRecDepth 100000
set_option maxHeartbeats 4000000
namespace L2
namespace K63
open PySem PySem.Spec PyProof.Rows K1 WL
section
variable {P : Program} {w : World} {K : PySem.W.Frag} {mg : Str → Option Value} {base : Heap} {f : Addr} {fd : FuncData}
/-! ### Web.cells_with_source -/
abbrev nmCW : List Str := ["self", "source", "cell"]
theorem sc_cw : FnScope nmCW ["self", "source"] (defScope s_Web_cells_with) := ⟨rfl, rfl, rfl, by decide +kernel, rfl, by decide +kernel, by decide +kernel⟩
theorem ok_cells_with {C : Addr} (T : Bl mg) (W : Wt K mg C) (F : FnP K "cells_with_source" "Web.cells_with_source" s_Web_cells_with f fd) : FnOk P w K mg base CX0 1 f fd ["self", "source"] (spCW K C) := by
  refine F.ok sc_cw (fun vs H Q E h => ?_) (fun cdv A outer s H vs Q E hr h => ?_)
  · obtain ⟨p, z, dx, fs, c, s', ks, rs, rfl, _⟩ := h
    rfl
  · have nd := sc_cw.nd
    refine ⟨_, PSs.nox (pss_one (ps_ret (pe_callTy call_tuple_of rfl T.f_tuple PyProof.Rows.boot_tuple (pa_cons (pe_lc (own := [("cell", 2)]) (g := gName 2)
      (tt := tTest (tOp (rIn K false) (tVar 1) (tDGet (tFld K (tVar 0) "sources_of") (tVar 2)))) rfl nd (pi_tup (pe_fld (pv 0) rfl)) (blkOk_by (N := nmCW) (sc := defScope s_Web_cells_with) (by decide +kernel))
      (fun _ _ _ _ _ => pg_name (i := 2) nd rfl (Or.inl rfl)) (fun _ _ _ _ _ => pts_one (pt_cmpR op_in_seq (pv 1) (pe_dget (hu_of hr) (pe_fld (pv 0) rfl) (pv 2) fun _ _ => rfl) rfl)) (fun _ _ _ _ _ => pv 2)) pa_nil)))), ?_⟩
    obtain ⟨p, z, dx, fs, c, s', ks, rs, rfl, hp, lc, ls, hc, hs, ds, hnd, hl, q⟩ := h
    refine ⟨_, rfl, p, C, dx, fs, _, rfl, hp, W.cl, W.nc, lc, c, rfl, ⟨_, SqT.of hc⟩, fun D nD => ?_⟩
    refine lc_it (walk_tup (xs := (rs.map Prod.fst).map .str)) (fun i H' => Same H H' ∧ H' D = some (.lst ((tgt (rs.take i) z).map .str))) ⟨same_upd nD, upd_same⟩ (fun _ H' _ p => SqT.of (p.1 _ _ hc)) ?_ ?_
    · rintro i x H1 H1' hi ⟨s1, e1⟩ ⟨rfl, hx⟩
      rw [List.getElem?_map, List.getElem?_map] at hx
      obtain ⟨n', hn', rfl⟩ := Option.map_eq_some_iff.mp hx
      obtain ⟨r, hr', rfl⟩ := Option.map_eq_some_iff.mp hn'
      have mem : r ∈ rs := List.mem_of_getElem? hr'
      have ds1 := ds.same s1
      have gs := srcs_at hnd mem
      rcases ds1.get (z := r.1) with ⟨xs, a, g1, g2, g3⟩ | ⟨g1, _⟩
      · rw [gs] at g1
        cases g1
        refine ⟨rfl, _, rfl, _, rfl, p, C, dx, fs, _, rfl, s1 _ _ hp, W.cl, W.ns, ls, _, rfl, s', _, rfl, ?_, a, _, rfl, .inr g3, rfl, flat_strs' _, _, rfl, ?_⟩
        · rw [← g2]
          exact DGet.k (k := kS r.1) (s1 _ _ hs)
        · by_cases m : z ∈ r.2
          · have eb : inV (.str z) (r.2.map V.str) = true := by rw [in_strs, decide_eq_true m]
            refine iteP eb ⟨_, rfl, _, e1, ?_, same_over nD s1, ?_⟩
            · rw [List.length_map, sizeLine_eq]
              unfold tgt
              rw [List.length_map]
              have l1 := List.length_filter_le (fun r : Str × List Str => decide (z ∈ r.2)) (rs.take i)
              rw [List.length_take] at l1
              omega
            · rw [upd_same, tgt_take hr', if_pos m, List.map_append]
              rfl
          · have eb : inV (.str z) (r.2.map V.str) = false := by rw [in_strs, decide_eq_false m]
            refine iteN eb ⟨s1, ?_⟩
            rw [e1, tgt_take hr', if_neg m, List.append_nil]
      · rw [gs] at g1
        cases g1
    · rintro H1 ⟨s1, e1⟩
      rw [List.length_map, List.length_map, List.take_length] at e1
      refine ⟨D, _, rfl, .inl ⟨SqL.of e1, fun l nl => q l _ (s1.trans (same_upd nl)) (s1.free nl) upd_same⟩⟩
end
end K63
end L2
set_option Elab.async false
set_option linter.all false
set_option maxRecDepth 100000
set_option maxHeartbeats 4000000
namespace L2
namespace K63
open PySem PySem.Spec PyProof.Rows K1 WL
section
variable {P : Program} {w : World} {K : PySem.W.Frag} {mg : Str → Option Value} {base : Heap} {f : Addr} {fd : FuncData}
/-! ### Web.__init__ -/
abbrev nmWI : List Str := ["self", "rows", "row", "cell", "told", "source"]
theorem sc_wi : FnScope nmWI ["self", "rows"] (defScope s_Web_init) := ⟨rfl, rfl, rfl, by decide +kernel, rfl, by decide +kernel, by decide +kernel⟩
theorem ok_web_init {C fc : Addr} {fdc : FuncData} (T : Bl mg) (W : Wt K mg C) (Cc : ∃ f fd, FnOk P w K mg base (L2.CX P w) 5 f fd ["rows"] (spCheckRows K) ∧ mg "check_rows" = some (.ref f) ∧ PySem.W.keepIn K (.ref f) = true ∧ Binds K fd ["rows"] [])
    (Gw : FnOk P w K mg base CX0 1 fc fdc ["self", "source"] (spCW K C)) (bw : Binds K fdc ["self", "source"] []) (mw : Meth K C "cells_with_source" fc) (F : FnP K "__init__" "Web.__init__" s_Web_init f fd) : FnOk P w K mg base (L2.CX P w) 6 f fd ["self", "rows"] (spInit K C) := by
  obtain ⟨fr, fdr, Gr, gr, kr, br⟩ := Cc
  refine F.ok sc_wi (fun vs H Q E h => ?_) (fun cdv A outer s H vs Q E hr h => ?_)
  · obtain ⟨p, dx, v, rfl, _⟩ := h
    rfl
  · have nd := sc_wi.nd
    have h1 := hr.mono (show 1 ≤ 5 by decide)
    refine ⟨_, pss_cons (ps_expr (pe_call Gr hr rfl gr kr br .nil (passes_call (takes_of rfl rfl rfl rfl) fun _ _ _ _ h => h) (pa_cons (pv 1) pa_nil)))
      (pss_cons (ps_fld (pv 0) (pe_callTy call_tuple_of rfl T.f_tuple PyProof.Rows.boot_tuple (pa_cons (pe_lc (own := [("row", 2)]) (g := gName 2) (tt := tYes) (te := tOp (rIx K) (tVar 2) (tC (.int 0))) rfl nd (pi_seq (pv 1)) (blkOk_by (N := nmWI) (sc := defScope s_Web_init) (by decide +kernel))
        (fun _ _ _ _ _ => pg_name (i := 2) nd rfl (Or.inl rfl)) (fun _ _ _ _ _ => pts_nil) (fun _ _ _ _ _ => pe_ix (r := rIx K) ix_seq (pv 2) pe_int fun _ _ => rfl)) pa_nil)) rfl)
      (pss_cons (ps_fld (pv 0) (pe_dc (own := [("cell", 3), ("told", 4)]) (g := gSeq K 2 (gCons (gName 3) (gCons (gName 4) gNil))) (tt := tYes) (tk := tVar 3) (tv := tCB (rTupS K) (tCons (tVar 4) tNil)) rfl nd (pi_seq (pv 1)) (blkOk_by (N := nmWI) (sc := defScope s_Web_init) (by decide +kernel))
        (fun _ _ _ _ _ => pg_seq rfl (pgs_cons (pg_name (i := 3) nd rfl (Or.inl rfl)) (pgs_cons (pg_name (i := 4) nd rfl (Or.inl rfl)) pgs_nil))) (fun _ _ _ _ _ => pts_nil) (fun _ _ _ _ _ => pv 3) (fun _ _ _ _ _ => pe_callTy call_tupS rfl T.f_tuple PyProof.Rows.boot_tuple (pa_cons (pv 4) pa_nil))) rfl)
      (pss_cons (ps_fld (pv 0) (pe_callTy call_tuple_of rfl T.f_tuple PyProof.Rows.boot_tuple (pa_cons (pe_lc2 (own := [("cell", 3), ("source", 5)]) (vs1 := [5]) (g := gName 3) (g1 := gName 5) (tt := tYes) (tt1 := tYes) (wi1 := iTup K (tDGet (tFld K (tVar 0) "sources_of") (tVar 3))) (te := tTup (tCons (tVar 5) (tCons (tVar 3) tNil))) rfl nd (pi_tup (pe_fld (pv 0) rfl)) (blkOk_by (N := nmWI) (sc := defScope s_Web_init) (by decide +kernel)) (by decide)
        (fun _ _ _ _ _ => pg_name (i := 3) nd rfl (Or.inl rfl)) (fun _ _ _ _ _ => pts_nil) (fun _ _ _ _ _ => pi_tup (pe_dget (hu_of hr) (pe_fld (pv 0) rfl) (pv 3) fun _ _ => rfl)) (fun _ _ _ _ _ => pg_name (i := 5) nd rfl (Or.inl rfl)) (fun _ _ _ _ _ => pts_nil) (fun _ _ _ _ _ => pe_tup (pa_cons (pv 5) (pa_cons (pv 3) pa_nil)))) pa_nil)) rfl)
      (pss_one (ps_fld (pv 0) (pe_dc (own := [("cell", 3)]) (g := gName 3) (tt := tYes) (tk := tVar 3) (tv := tMeth C "cells_with_source" (spCW K C) [] E0 (tVar 0) (tCons (tVar 3) tNil)) rfl nd (pi_tup (pe_fld (pv 0) rfl)) (blkOk_by (N := nmWI) (sc := defScope s_Web_init) (by decide +kernel))
        (fun _ _ _ _ _ => pg_name (i := 3) nd rfl (Or.inl rfl)) (fun _ _ _ _ _ => pts_nil) (fun _ _ _ _ _ => pv 3) (fun _ _ _ _ _ => pe_meth (pv 0) W.cl mw Gw h1 bw .nil pass0 (pa_cons (pv 3) pa_nil))) rfl))))), ?_⟩
    obtain ⟨p, dx, v, rfl, hp, hb | ⟨xs, rs, hsh, hrh, g, q⟩⟩ := h
    · refine ⟨_, rfl, ?_⟩
      refine t_nil ?_
      dsimp only
      exact hb _
    · have hs : Seq K H v xs := hsh.same hide_le
      have hrow : Paired (RowG K H) xs rs := Paired.imp (fun _ _ r => r.same hide_le) hrh
      refine ⟨_, rfl, ?_⟩
      refine t_nil ?_
      dsimp only
      refine good_check hs hrow g fun H1 s1 => ?_
      have hlen : xs.length = rs.length := Paired.length hrow
      have hp1 := s1 _ _ hp
      -- self.cells
      refine t_seqFld ?_
      refine t_cb1 ?_
      refine lc_seq (hs.same s1) (fun Q q => ⟨_, rfl, q⟩) (by have := g.ln; omega) (fun i => .str ((rs.map Prod.fst).getD i Str.empty)) (fun i x H' Q' hx s' qq => ?_) (fun D H2 s2 e2 => ?_)
      · obtain ⟨r, hr, y, g1, _⟩ := Paired.getL hrow hx
        have e0 : (rs.map Prod.fst).getD i Str.empty = r.1 := by
          rw [List.getD_eq_getElem?_getD, List.getElem?_map, hr]
          rfl
        rw [e0] at qq
        exact ⟨rfl, _, rfl, ((g1.same s1).same s').ix (x := .str r.1) rfl (qq H' (Same.refl _))⟩
      have e3 : H2 D = some (.lst ((rs.map Prod.fst).map .str)) := by
        rw [e2, ← rngS, List.length_map, hlen]
      refine ⟨D, _, rfl, .inl ⟨SqL.of e3, fun c nc => ?_⟩⟩
      have s12 := s1.trans s2
      have pc : c ≠ p := fun z => by
        rw [z, s2 _ _ hp1] at nc
        cases nc
      have hcH : H2 c = none := nc
      refine ⟨_, rfl, p, C, dx, [], rfl, same_upd nc _ _ (s2 _ _ hp1), W.cl, W.nc, by decide, ?_⟩
      have sA : Same (hide p H) (hide p (upd (upd H2 c (.tup ((rs.map Prod.fst).map .str))) p (.ins C dx (putF "cells" (.ref c) [])))) := by
        rw [hide_updp]
        exact (hide_same s12).trans (hide_same (same_upd nc))
      have eA : (upd (upd H2 c (.tup ((rs.map Prod.fst).map .str))) p (.ins C dx (putF "cells" (.ref c) []))) p = some (.ins C dx (putF "cells" (.ref c) [])) := upd_same
      have cA : hide p (upd (upd H2 c (.tup ((rs.map Prod.fst).map .str))) p (.ins C dx (putF "cells" (.ref c) []))) c = some (.tup ((rs.map Prod.fst).map .str)) := by
        rw [hide_updp, hide_ne pc]
        exact upd_same
      generalize upd (upd H2 c (.tup ((rs.map Prod.fst).map .str))) p (.ins C dx (putF "cells" (.ref c) [])) = HA at sA eA cA ⊢
      clear e3 e2 s2 s12 nc hcH
      -- self.sources_of
      refine t_seqFld ?_
      refine dc_seq hsh (sA.trans hide_le) (fun Q q => ⟨_, rfl, q⟩) (fun D i H' => Same HA H' ∧ HA D = none ∧ ∃ kvs, H' D = some (.dK kvs) ∧ WL.DTup K (hide D H') kvs (rs.take i)) (fun D nD => ⟨same_upd nD, nD, [], upd_same, Paired.nil⟩)
        (fun D i H' p => (sA.trans hide_le).trans p.1) (fun D i x H' hx p => ?_) (fun D H' p => ?_)
      · obtain ⟨sB, nD, kvs, eD, dt⟩ := p
        obtain ⟨r, hr, y, g1, g2⟩ := Paired.getL hrh hx
        have sAB := (sA.trans hide_le).trans sB
        refine ⟨_, g1.same sAB, rfl, _, _, rfl, _, _, rfl, rfl, rfl, _, rfl, _, rfl, y, _, rfl, g2.same sAB, fun H3 l s3 sq => ?_⟩
        have e3 := s3 _ _ eD
        refine ⟨kvs, kS r.1, rfl, e3, ?_, same_over nD (sB.trans s3), nD, _, upd_same, ?_⟩
        · rw [dt.len, List.length_take, sizeLine_eq]
          have := g.ln
          omega
        · rw [hide_updp, List.take_succ, hr]
          exact (dt.same (hide_same s3)).snoc (sqt_hideD sq e3) (nodup_take g.nd hr)
      obtain ⟨sB, nD, ks, eD, dt⟩ := p
      rw [hlen, List.take_length] at dt
      have Dp : D ≠ p := fun z => by
        rw [z, eA] at nD
        cases nD
      have eB := sB _ _ eA
      refine ⟨_, rfl, p, C, dx, _, rfl, eB, W.cl, W.ns, (show 1 < 1000 by decide), ?_⟩
      have dtB : WL.DTup K (hide p H') ks rs := (dt.same hide_le).hide eB (fun _ z => nomatch z) (fun _ _ z => nomatch z)
      have sH : Same (hide p H) (hide p (upd H' p (.ins C dx (putF "sources_of" (.ref D) (putF "cells" (.ref c) []))))) := by
        rw [hide_updp]
        exact sA.trans (hide_same sB)
      have cB : hide p (upd H' p (.ins C dx (putF "sources_of" (.ref D) (putF "cells" (.ref c) [])))) c = some (.tup ((rs.map Prod.fst).map .str)) := by
        rw [hide_updp]
        exact hide_same sB _ _ cA
      have kB : hide p (upd H' p (.ins C dx (putF "sources_of" (.ref D) (putF "cells" (.ref c) [])))) D = some (.dK ks) := by
        rw [hide_updp, hide_ne Dp]
        exact eD
      have dB : WL.DTup K (hide p (upd H' p (.ins C dx (putF "sources_of" (.ref D) (putF "cells" (.ref c) []))))) ks rs := by
        rw [hide_updp]
        exact dtB
      have pB : (upd H' p (.ins C dx (putF "sources_of" (.ref D) (putF "cells" (.ref c) [])))) p = some (.ins C dx (putF "sources_of" (.ref D) (putF "cells" (.ref c) []))) := upd_same
      generalize upd H' p (.ins C dx (putF "sources_of" (.ref D) (putF "cells" (.ref c) []))) = HB at sH cB kB dB pB ⊢
      clear dtB eB Dp dt eD sB nD sA eA cA
      have lB1 : (putF "sources_of" (V.ref D) (putF "cells" (.ref c) [])).lookup ("cells" : Str) = some (.ref c) := rfl
      have lB2 : (putF "sources_of" (V.ref D) (putF "cells" (.ref c) [])).lookup ("sources_of" : Str) = some (.ref D) := rfl
      have gsrc : ∀ {H'' : Hp} {r : Str × List Str}, Same HB H'' → r ∈ rs → ∃ a, DGet H'' D (.str r.1) (some (.ref a)) ∧ SqT K H'' a (r.2.map .str) := fun {H'' r} s3 hr => by
        rcases ((dB.same hide_le).same s3).get (z := r.1) with ⟨ys, a, g1, g2, g3⟩ | ⟨g1, _⟩
        · rw [srcs_at g.nd hr] at g1
          cases g1
          refine ⟨a, ?_, g3⟩
          rw [← g2]
          exact DGet.k (k := kS r.1) (s3 _ _ (hide_some kB).2)
        · rw [srcs_at g.nd hr] at g1
          cases g1
      -- self.arrows
      refine t_seqFld ?_
      refine t_cb1 ?_
      refine ⟨_, rfl, p, C, dx, _, _, rfl, pB, W.cl, W.nc, lB1, c, rfl, ⟨_, SqT.of (hide_some cB).2⟩, fun D2 nD2 => ?_⟩
      refine lc2_it (walk_tup (xs := (rs.map Prod.fst).map .str)) (fun i H' => Same HB H' ∧ ∃ av, H' D2 = some (.lst av) ∧ Paired (PairT (hide D2 H')) av (arr (rs.take i))) ⟨same_upd nD2, [], upd_same, Paired.nil⟩ (fun _ H' _ p => SqT.of (p.1 _ _ (hide_some cB).2)) ?_ ?_
      · rintro i x H3 H3' hi ⟨s3, av, e3, d3⟩ ⟨rfl, hx⟩
        rw [List.getElem?_map, List.getElem?_map] at hx
        obtain ⟨n', hn', rfl⟩ := Option.map_eq_some_iff.mp hx
        obtain ⟨r, hr', rfl⟩ := Option.map_eq_some_iff.mp hn'
        have mem : r ∈ rs := List.mem_of_getElem? hr'
        obtain ⟨a, g2, g3⟩ := gsrc s3 mem
        refine ⟨rfl, _, rfl, p, C, dx, _, _, rfl, s3 _ _ pB, W.cl, W.ns, lB2, _, rfl, D, _, rfl, g2, a, rfl, ⟨_, g3⟩, ?_⟩
        have li : i < rs.length := (List.getElem?_eq_some_iff.mp hr').1
        have lr := (g.sr r mem).1
        refine lc2_in (walk_tup (xs := r.2.map .str)) (fun j H' => Same HB H' ∧ ∃ av, H' D2 = some (.lst av) ∧ Paired (PairT (hide D2 H')) av (arr (rs.take i) ++ (r.2.take j).map fun s => (s, r.1))) ⟨s3, av, e3, by simpa using d3⟩ (fun j H' _ p => ?_) ?_ ?_
        · obtain ⟨a', g2', g3'⟩ := gsrc p.1 mem
          have ea : a' = a := by
            rcases (dB.same hide_le).get (z := r.1) with ⟨ys, a2, h1, h2, h3⟩ | ⟨h1, _⟩
            · have k1 := (s3 _ _ (hide_some kB).2)
              have k2 := (p.1 _ _ (hide_some kB).2)
              have w1 := dget_inj g2 k1 (k := kS r.1)
              have w2 := dget_inj g2' k2 (k := kS r.1)
              rw [w1] at w2
              exact (V.ref.inj (Option.some.inj w2)).symm
            · rw [srcs_at g.nd mem] at h1
              cases h1
          rw [← ea]
          exact g3'
        · rintro j x H4 H4' hj ⟨s4, av, e4, d4⟩ ⟨rfl, hx2⟩
          rw [List.getElem?_map] at hx2
          obtain ⟨z, hz, rfl⟩ := Option.map_eq_some_iff.mp hx2
          refine ⟨rfl, _, rfl, _, rfl, (show 2 ≤ sizeLine by decide), fun t nt => ?_⟩
          have e4' := same_upd (o := .tup [.str z, .str r.1]) nt _ _ e4
          have td : t ≠ D2 := fun y => by
            rw [y, e4] at nt
            cases nt
          refine ⟨av, e4', ?_, same_over nD2 (s4.trans (same_upd nt)), _, upd_same, ?_⟩
          · have l1 := Paired.length d4
            have l2 := arr_len (l := rs.take i) fun r hr => (g.sr r (List.mem_of_mem_take hr)).1
            rw [List.length_append, List.length_map, List.length_take] at l1
            rw [List.length_take] at l2
            have := g.ln
            rw [sizeLine_eq]
            have : min i rs.length * 900 ≤ 900 * 900 := Nat.mul_le_mul_right _ (by omega)
            omega
          · rw [hide_updp, List.take_succ, hz, List.map_append, ← List.append_assoc]
            refine Paired.snoc (Paired.imp (fun _ _ r => r.same (hide_same (same_upd nt))) d4) ⟨t, rfl, ?_⟩
            rw [hide_ne td]
            exact upd_same
        · rintro H4 ⟨s4, av, e4, d4⟩
          rw [List.length_map, List.take_length, ← arr_take hr'] at d4
          exact ⟨s4, av, e4, d4⟩
      rintro H3 ⟨s3, av, e3, d3⟩
      rw [List.length_map, List.length_map, List.take_length] at d3
      refine ⟨D2, av, rfl, .inl ⟨SqL.of e3, fun t nt => ?_⟩⟩
      have s3t := s3.trans (same_upd (o := .tup av) nt)
      have tp : t ≠ p := fun z => by
        rw [z, s3 _ _ pB] at nt
        cases nt
      refine ⟨_, rfl, p, C, dx, _, rfl, s3t _ _ pB, W.cl, W.na, (show 2 < 1000 by decide), ?_⟩
      have d3' : Paired (PairT (hide p (upd H3 t (.tup av)))) av (arr rs) := Paired.imp (fun _ _ r => ((r.same hide_le).same (same_upd nt)).hide (s3t _ _ pB) (fun _ z => nomatch z)) d3
      have sC : Same (hide p HB) (hide p (upd (upd H3 t (.tup av)) p (.ins C dx (putF "arrows" (.ref t) (putF "sources_of" (.ref D) (putF "cells" (.ref c) [])))))) := by
        rw [hide_updp]
        exact hide_same s3t
      have dC : Paired (PairT (hide p (upd (upd H3 t (.tup av)) p (.ins C dx (putF "arrows" (.ref t) (putF "sources_of" (.ref D) (putF "cells" (.ref c) []))))))) av (arr rs) := by
        rw [hide_updp]
        exact d3'
      have tC : hide p (upd (upd H3 t (.tup av)) p (.ins C dx (putF "arrows" (.ref t) (putF "sources_of" (.ref D) (putF "cells" (.ref c) []))))) t = some (.tup av) := by
        rw [hide_updp, hide_ne tp]
        exact upd_same
      have pC : (upd (upd H3 t (.tup av)) p (.ins C dx (putF "arrows" (.ref t) (putF "sources_of" (.ref D) (putF "cells" (.ref c) []))))) p = some (.ins C dx (putF "arrows" (.ref t) (putF "sources_of" (.ref D) (putF "cells" (.ref c) [])))) := upd_same
      generalize upd (upd H3 t (.tup av)) p (.ins C dx (putF "arrows" (.ref t) (putF "sources_of" (.ref D) (putF "cells" (.ref c) [])))) = HC at sC dC tC pC ⊢
      clear d3' tp s3t nt d3 e3 s3 gsrc
      have cC := sC _ _ cB
      have kC := sC _ _ kB
      have dsC := dB.same sC
      have lC1 : (putF "arrows" (V.ref t) (putF "sources_of" (V.ref D) (putF "cells" (.ref c) []))).lookup ("cells" : Str) = some (.ref c) := rfl
      have lC2 : (putF "arrows" (V.ref t) (putF "sources_of" (V.ref D) (putF "cells" (.ref c) []))).lookup ("sources_of" : Str) = some (.ref D) := rfl
      have lC3 : (putF "arrows" (V.ref t) (putF "sources_of" (V.ref D) (putF "cells" (.ref c) []))).lookup ("cells_with_source" : Str) = none := rfl
      -- self.targets_of
      refine t_fld ?_
      refine ⟨_, rfl, p, C, dx, _, _, rfl, pC, W.cl, W.nc, lC1, c, rfl, ⟨_, SqT.of (hide_some cC).2⟩, fun D3 nD3 => ?_⟩
      refine dc_it (walk_tup (xs := (rs.map Prod.fst).map .str)) (fun i H' => Same HC H' ∧ ∃ kvs, H' D3 = some (.dK kvs) ∧ WL.DTup K (hide D3 H') kvs ((rs.take i).map fun r => (r.1, tgt rs r.1))) ⟨same_upd nD3, [], upd_same, Paired.nil⟩ (fun _ H' _ p => SqT.of (p.1 _ _ (hide_some cC).2)) ?_ ?_
      · rintro i x H3 H3' hi ⟨s3, kvs, e3, d3⟩ ⟨rfl, hx⟩
        rw [List.getElem?_map, List.getElem?_map] at hx
        obtain ⟨n', hn', rfl⟩ := Option.map_eq_some_iff.mp hx
        obtain ⟨r, hr', rfl⟩ := Option.map_eq_some_iff.mp hn'
        refine ⟨rfl, _, rfl, _, rfl, p, dx, _, rfl, s3 _ _ pC, lC3, _, rfl, p, r.1, dx, _, c, D, ks, rs, rfl, s3 _ _ pC, lC1, lC2, s3 _ _ (hide_some cC).2, s3 _ _ (hide_some kC).2, (dsC.same hide_le).same s3, g.nd, g.ln, fun q2 H4 s4 nq eq => ?_⟩
        have e4 := s4 _ _ e3
        refine ⟨kvs, kS r.1, rfl, e4, ?_, same_over nD3 (s3.trans s4), _, upd_same, ?_⟩
        · rw [d3.len, List.length_map, List.length_take, sizeLine_eq]
          have := g.ln
          omega
        · rw [hide_updp, List.take_succ, hr', List.map_append]
          refine (d3.same (hide_same s4)).snoc (sqt_hideD (SqT.of eq) e4) ?_
          rw [List.map_map]
          exact nodup_take g.nd hr'
      · rintro H3 ⟨s3, kvs, e3, d3⟩
        rw [List.length_map, List.length_map, List.take_length] at d3
        have e3p := s3 _ _ pC
        refine ⟨_, rfl, p, C, dx, _, rfl, e3p, W.cl, W.nt, (show 3 < 1000 by decide), ?_⟩
        have s4 : Same (hide p HC) (hide p (upd H3 p (.ins C dx (putF "targets_of" (.ref D3) (putF "arrows" (.ref t) (putF "sources_of" (.ref D) (putF "cells" (.ref c) []))))))) := by
          rw [hide_updp]
          exact hide_same s3
        have D3p : D3 ≠ p := fun z => by
          rw [z, pC] at nD3
          cases nD3
        refine q _ ((sH.trans sC).trans s4) ⟨dx, c, D, t, D3, ks, kvs, av, ⟨upd_same, (hide_some (s4 _ _ cC)).2, (hide_some (s4 _ _ kC)).2, (dsC.same s4).same hide_le, (hide_some (s4 _ _ tC)).2, Paired.imp (fun _ _ r => (r.same s4).same hide_le) dC, ?_, ?_⟩⟩
        · rw [upd_ne D3p]
          exact e3
        · have d4 : WL.DTup K (hide p (upd H3 p (.ins C dx (putF "targets_of" (.ref D3) (putF "arrows" (.ref t) (putF "sources_of" (.ref D) (putF "cells" (.ref c) []))))))) kvs (rs.map fun r => (r.1, tgt rs r.1)) := by
            rw [hide_updp]
            exact (d3.same hide_le).hide e3p (fun _ z => nomatch z) (fun _ _ z => nomatch z)
          exact d4.same hide_le
end
end K63
end L2
set_option Elab.async false
set_option linter.all false
set_option maxRecDepth 100000
set_option maxHeartbeats 4000000
namespace L2
namespace K63
open PySem PySem.Spec PyProof.Rows K1 WL
section
variable {P : Program} {w : World} {K : PySem.W.Frag} {mg : Str → Option Value} {base : Heap} {f : Addr} {fd : FuncData}
/-! ### Web.__contains__, __len__, __iter__ -/
theorem sc_con : FnScope ["self", "x"] ["self", "x"] (defScope s_Web_contains) := ⟨rfl, rfl, rfl, by decide +kernel, rfl, by decide +kernel, by decide +kernel⟩
theorem ok_con {C : Addr} (T : Bl mg) (W : Wt K mg C) (Cn : Cal P w K mg base "is_name" ["thing"] 1 (spIsName K)) (F : FnP K "__contains__" "Web.__contains__" s_Web_contains f fd) : FnOk P w K mg base CX0 2 f fd ["self", "x"] (spCon K C) := by
  refine F.ok sc_con (fun vs H Q E h => ?_) (fun cdv A outer s H vs Q E hr h => ?_)
  · obtain ⟨p, x, b, rs, rfl, _⟩ := h
    rfl
  · refine ⟨_, PSs.nox (pss_one (ps_ret (pe_and (pe_callB call_isi rfl T.f_isinstance boot_isinstance (pa_cons (pv 1) (pa_cons (pe_bltn (v := .ty "str") rfl T.f_str PyProof.Rows.boot_str rfl) pa_nil))) (pe_one (pe_cmp (pc_din (hu_of hr) (pv 1) (pe_fld (pv 0) rfl)) rfl))))), ?_⟩
    obtain ⟨p, x, b, rs, rfl, hw, g, hn, q⟩ := h
    have q1 := q H (Same.refl H)
    obtain ⟨i1, i2⟩ := isn_in g hn
    rcases hn with ⟨z, rfl, hz, _⟩ | ⟨t, ty, kt, eb⟩
    · refine ⟨_, rfl, _, .ty "str", _, _, true, rfl, .ty "str", .base (.str z), kit_ty (by decide +kernel), true, rfl, ?_⟩
      obtain ⟨dx, c, s', a, t, ks, kt, av, W1⟩ := hw
      refine ⟨_, rfl, _, rfl, p, C, dx, _, _, rfl, W1.ob, W.cl, W.ns, rfl, s', _, rfl, DGet.k (k := kS z) W1.hs, ?_⟩
      have e : (valV ks (kS z)).isSome = inWeb rs (.str z) := by
        rcases W1.ds.get (z := z) with ⟨xs, a', g1, g2, _⟩ | ⟨g1, g2⟩
        · rw [g2]
          symm
          refine decide_eq_true ?_
          obtain ⟨p', hp', rfl, _⟩ := srcs_mem g1
          exact List.mem_map.mpr ⟨p', hp', rfl⟩
        · rw [g2]
          symm
          exact decide_eq_false (srcs_none.mp g1)
      rw [e]
      exact q1
    · rw [i1 eb] at q1
      exact ⟨_, rfl, _, .ty "str", t, _, false, rfl, .ty "str", ty, kt, false, rfl, q1⟩
theorem sc_len : FnScope ["self"] ["self"] (defScope s_Web_len) := ⟨rfl, rfl, rfl, by decide +kernel, rfl, by decide +kernel, by decide +kernel⟩
theorem ok_len {C : Addr} (T : Bl mg) (W : Wt K mg C) (F : FnP K "__len__" "Web.__len__" s_Web_len f fd) : FnOk P w K mg base CX0 1 f fd ["self"] (spLenW K C) := by
  refine F.ok sc_len (fun vs H Q E h => ?_) (fun cdv A outer s H vs Q E hr h => ?_)
  · obtain ⟨p, rs, rfl, _⟩ := h
    rfl
  · refine ⟨_, PSs.nox (pss_one (ps_ret (pe_callB call_len rfl T.f_len boot_len (pa_cons (pe_fld (pv 0) rfl) pa_nil)))), ?_⟩
    obtain ⟨p, rs, rfl, ⟨dx, c, s', a, t, ks, kt, av, W1⟩, q⟩ := h
    refine ⟨_, rfl, p, C, dx, _, _, rfl, W1.ob, W.cl, W.nc, rfl, .ref c, rs.length, rfl, .inr ⟨_, SqT.of W1.hc, by rw [List.length_map, List.length_map]⟩, q⟩
theorem sc_iter : FnScope ["self"] ["self"] (defScope s_Web_iter) := ⟨rfl, rfl, rfl, by decide +kernel, rfl, by decide +kernel, by decide +kernel⟩
theorem own_it {C : Addr} (T : Bl mg) (W : Wt K mg C) (M : Spc K C "__iter__" f) (b : Binds K fd ["self"] []) (F : FnP K "__iter__" "Web.__iter__" s_Web_iter f fd) : OwnIt P w K mg base C f fd "cells" :=
  ⟨M, b, fun A outer s H p dx t fs zs Q E hr e0 hb hp hl ht q => run_at (k := 0) (vs := [.ref p]) F sc_iter rfl hr e0 hb (.cons (show RelV (.ref p) (.ref p) from rfl) .nil) fun cdv hr' => ⟨_, pss_one (ps_ret (pe_callB call_iterT rfl T.f_iter PyProof.Rows.boot_iter (pa_cons (pe_fld (pv 0) rfl) pa_nil))),
    ⟨_, rfl, p, C, dx, fs, _, rfl, hp, W.cl, W.nc, hl, t, zs, rfl, ht, fun it n1 n2 => q it n1 n2⟩⟩⟩
end
end K63
end L2
set_option Elab.async false
set_option linter.all false
set_option maxRecDepth 100000
set_option maxHeartbeats 4000000
namespace L2
namespace K63
open PySem PySem.Spec PyProof.Rows K1 WL
section
variable {P : Program} {w : World} {K : PySem.W.Frag} {mg : Str → Option Value} {base : Heap} {f : Addr} {fd : FuncData}
/-! ### Web.__eq__ -/
theorem sc_eq : FnScope ["self", "other"] ["self", "other"] (defScope s_Web_eq) := ⟨rfl, rfl, rfl, by decide +kernel, rfl, by decide +kernel, by decide +kernel⟩
theorem ok_eq {C : Addr} (T : Bl mg) (W : Wt K mg C) (Wi : Wk K C) (F : FnP K "__eq__" "Web.__eq__" s_Web_eq f fd) : FnOk P w K mg base CX0 1 f fd ["self", "other"] (spEqW K C) := by
  refine F.ok sc_eq (fun vs H Q E h => ?_) (fun cdv A outer s H vs Q E hr h => ?_)
  · obtain ⟨p, y, rs, rfl, _⟩ := h
    rfl
  · have hu65 : (A.deeper (envOfC "Web.__eq__" (defScope s_Web_eq) s.heap.objs.size f cdv)).units + 65 < cLine := by
      have := hr.un
      omega
    refine ⟨_, PSs.nox (pss_one (ps_ret (pe_and (pe_callB call_isi rfl T.f_isinstance boot_isinstance (pa_cons (pv 1) (pa_cons (pe_glob (v := .ref C) rfl W.mg rfl (by decide +kernel)) pa_nil)))
      (pe_and (pe_cmpR (op_eqD hr.units) (pe_fld (pv 0) rfl) (pe_fld (pv 1) rfl) (nomark _)) (pe_one (pe_cmpR (op_eqDT hu65) (pe_fld (pv 0) rfl) (pe_fld (pv 1) rfl) (nomark _))))))), ?_⟩
    obtain ⟨p, y, rs, rfl, ⟨dx, c, s', a, t, ks, kt, av, W1⟩, ok, hy⟩ := h
    rcases hy with ⟨ty, tx, kt', q⟩ | ⟨p2, qs, rfl, ⟨dx2, c2, s2, a2, t2, ks2, kt2, av2, W2⟩, ok2, q⟩
    · exact ⟨_, rfl, _, .ref C, ty, _, false, rfl, .own C, tx, kt', false, rfl, q⟩
    · refine ⟨_, rfl, _, .ref C, .ref C, _, true, rfl, .own C, Wi.ins W2.ob, Wi.self, true, rfl, ?_⟩
      refine ⟨_, rfl, p, C, dx, _, _, rfl, W1.ob, W.cl, W.nc, rfl, _, rfl, p2, C, dx2, _, _, rfl, W2.ob, W.cl, W.nc, rfl, .tuple (dS (rs.map Prod.fst)), .tuple (dS (qs.map Prod.fst)), .tup (SqT.of W1.hc) (dp_strs _), .tup (SqT.of W2.hc) (dp_strs _), shape_tup ok.1, shape_tup ok2.1, _, rfl, ?_⟩
      have e1 : PyData.eqv (.tuple (dS (rs.map Prod.fst))) (.tuple (dS (qs.map Prod.fst))) = decide (rs.map Prod.fst = qs.map Prod.fst) := eqv_strs _ _
      have e2 : wEq rs qs = (PyData.eqv (.tuple (dS (rs.map Prod.fst))) (.tuple (dS (qs.map Prod.fst))) && dEq rs qs) := by rw [e1]; rfl
      rw [e2] at q
      cases hh : PyData.eqv (.tuple (dS (rs.map Prod.fst))) (.tuple (dS (qs.map Prod.fst))) with
      | false =>
        rw [hh] at q
        exact q
      | true =>
        rw [hh] at q
        exact ⟨_, rfl, p, C, dx, _, _, rfl, W1.ob, W.cl, W.ns, rfl, _, rfl, p2, C, dx2, _, _, rfl, W2.ob, W.cl, W.ns, rfl, s', s2, ks, ks2, rs, qs, rfl, rfl, W1.hs, W2.hs, W1.ds, W2.ds, ok.2, ok2.2, q⟩
/-! ### check_cells, Web.sources, Web.targets -/
abbrev nmCC : List Str := ["web", "things", "thing"]
theorem sc_cc : FnScope nmCC ["web", "things"] (defScope s_check_cells) := ⟨rfl, rfl, rfl, by decide +kernel, rfl, by decide +kernel, by decide +kernel⟩
theorem ok_cc {C fc : Addr} {fdc : FuncData} (T : Bl mg) (M : Spc K C "__contains__" fc) (Gc : FnOk P w K mg base CX0 2 fc fdc ["self", "x"] (spCon K C)) (bc : Binds K fdc ["self", "x"] []) (EU : Er P w K mg base "UnknownCell" "cell") (F : FnP K "check_cells" "check_cells" s_check_cells f fd) :
    FnOk P w K mg base (L2.CX P w) 3 f fd ["web", "things"] (spCC K C (He.ga K "UnknownCell")) := by
  obtain ⟨fdU, GU, bU⟩ := EU.ex
  refine F.ok sc_cc (fun vs H Q E h => ?_) (fun cdv A outer s H vs Q E hr h => ?_)
  · obtain ⟨p, v, xs, rs, rfl, _⟩ := h
    rfl
  · have nd := sc_cc.nd
    refine ⟨_, pss_one (ps_for (passes_of rfl) rfl (pi_seq (pv 1)) (pg_name (i := 2) nd rfl (Or.inl rfl))
      (pss_one (ps_if (pt_cmpR (op_notInO M Gc hr bc pass0) (pv 2) (pv 0) rfl) (pss_one (ps_raiseV rfl (takes_of rfl rfl rfl rfl) EU.c EU.iC EU.tI GU hr bU rfl EU.g (pv 2))) pss_nil))), ?_⟩
    obtain ⟨p, v, xs, rs, rfl, hs, hw, g, hx, hU⟩ := h
    show tFor _ _ _ _ _ _
    refine for_seq hs (fun Q q => ⟨_, rfl, q⟩) (fun i σ H' => Same H H' ∧ (∃ o, σ = [some (.ref p), some v, o]) ∧ (xs.take i).all (inWeb rs) = true) ⟨Same.refl H, ⟨_, rfl⟩, by simp⟩ (fun i σ H' p => p.1) ?_ ?_
    · rintro i x σ H1 hxi ⟨s1, ⟨o, rfl⟩, hall⟩
      obtain ⟨b, hb⟩ := hx x (List.mem_of_getElem? hxi)
      have hw1 := hw.same s1
      obtain ⟨dx, c, s', a, t, ks, kt, av, W1⟩ := id hw1
      refine ⟨_, rfl, _, rfl, p, dx, _, rfl, W1.ob, p, x, b, rs, rfl, hw1, g, hb.same s1, fun H2 s2 => ⟨_, rfl, _, rfl, ?_⟩⟩
      have tk : xs.take (i + 1) = xs.take i ++ [x] := by rw [List.take_succ, hxi]; rfl
      have split : xs = xs.take i ++ x :: xs.drop (i + 1) := by
        have lt : i < xs.length := (List.getElem?_eq_some_iff.mp hxi).1
        conv => lhs; rw [← List.take_append_drop i xs, List.drop_eq_getElem_cons lt]
        rw [List.getElem?_eq_getElem lt] at hxi
        rw [Option.some.inj hxi]
      refine ite2 (fun hh => ?_) fun hh => ?_
      · have hx0 : inWeb rs x = false := by
          have hh2 : (!inWeb rs x) = true := hh
          simpa using hh2
        have fu : xs.find? (fun x => !inWeb rs x) = some x := by
          rw [split, List.find?_append]
          have e1 : (xs.take i).find? (fun x => !inWeb rs x) = none := by
            rw [List.find?_eq_none]
            intro y hy
            have := List.all_eq_true.mp hall y hy
            simp [this]
          rw [e1, List.find?_cons, hx0]
          rfl
        rcases hU with ⟨ha, _⟩ | ⟨x2, e2, rz⟩
        · exfalso
          rw [split, List.all_append, List.all_cons, hx0, Bool.false_and, Bool.and_false] at ha
          cases ha
        · rw [fu] at e2
          cases e2
          exact ⟨_, rfl, fun H5 d5 s5 nd5 e7 => rz H5 d5 ((s1.trans s2).trans s5) e7⟩
      · have hx1 : inWeb rs x = true := by
          cases z : inWeb rs x with
          | true => rfl
          | false =>
            exfalso
            refine hh ?_
            show (!inWeb rs x) = true
            rw [z]
            rfl
        refine ⟨s1.trans s2, ⟨_, rfl⟩, ?_⟩
        rw [tk, List.all_append, hall, List.all_cons, hx1]
        rfl
    · rintro σ H1 ⟨s1, ⟨o, rfl⟩, hall⟩
      rw [List.take_length] at hall
      rcases hU with ⟨_, q⟩ | ⟨x2, e2, rz⟩
      · exact q H1 s1
      · exfalso
        have := List.find?_some e2
        rw [List.all_eq_true.mp hall x2 (List.mem_of_find?_eq_some e2)] at this
        cases this
theorem cc_one {C CU p : Addr} {x : V} {b : Bool} {rs : Rws} {H : Hp} {Q : VK} {E : XK} {T1 : Addr} (hw : IsWeb K H C p rs) (g : Good rs) (hb : IsN K H x b) (nt : H T1 = none)
    (h : (inWeb rs x = true ∧ ∀ H', Same (upd H T1 (.tup [x])) H' → Q .non H') ∨ (inWeb rs x = false ∧ Rz H E CU "cell" x)) : spCC K C CU [.ref p, .ref T1] (upd H T1 (.tup [x])) Q E := by
  have s1 := same_upd (o := .tup [x]) nt
  refine ⟨p, .ref T1, [x], rs, rfl, ⟨T1, rfl, .inr (SqT.of upd_same)⟩, hw.same s1, g, fun y hy => ?_, ?_⟩
  · have : y = x := by simpa using hy
    rw [this]
    exact ⟨b, hb.same s1⟩
  · rcases h with ⟨h1, q⟩ | ⟨h1, rz⟩
    · exact .inl ⟨by rw [List.all_cons, h1]; rfl, q⟩
    · exact .inr ⟨x, by rw [List.find?_cons, h1]; rfl, rz.up s1⟩
theorem sc_src : FnScope ["self", "cell"] ["self", "cell"] (defScope s_Web_sources) := ⟨rfl, rfl, rfl, by decide +kernel, rfl, by decide +kernel, by decide +kernel⟩
theorem ok_sources {C : Addr} (T : Bl mg) (W : Wt K mg C) (Cc : ∃ f fd, FnOk P w K mg base (L2.CX P w) 3 f fd ["web", "things"] (spCC K C (He.ga K "UnknownCell")) ∧ mg "check_cells" = some (.ref f) ∧ PySem.W.keepIn K (.ref f) = true ∧ Binds K fd ["web", "things"] [])
    (F : FnP K "sources" "Web.sources" s_Web_sources f fd) : FnOk P w K mg base (L2.CX P w) 4 f fd ["self", "cell"] (spSrc K C (He.ga K "UnknownCell") id) := by
  obtain ⟨fr, fdr, Gr, gr, kr, br⟩ := Cc
  refine F.ok sc_src (fun vs H Q E h => ?_) (fun cdv A outer s H vs Q E hr h => ?_)
  · obtain ⟨p, x, b, rs, rfl, _⟩ := h
    rfl
  · refine ⟨_, pss_cons (ps_expr (pe_call Gr hr rfl gr kr br .nil (passes_call (takes_of rfl rfl rfl rfl) fun _ _ _ _ h => h) (pa_cons (pv 0) (pa_cons (pe_tup (pa_cons (pv 1) pa_nil)) pa_nil))))
      (pss_one (ps_ret (pe_dget (hu_of hr) (pe_fld (pv 0) rfl) (pv 1) fun _ _ => rfl))), ?_⟩
    obtain ⟨p, x, b, rs, rfl, hw, g, hb, h⟩ := h
    refine ⟨_, rfl, _, rfl, (show 1 ≤ sizeLine by decide), fun T1 nt => ?_⟩
    refine t_nil ?_
    dsimp only
    refine cc_one hw g hb nt ?_
    rcases h with ⟨z, xs, rfl, hz, hm, q⟩ | ⟨h1, rz⟩
    · refine .inl ⟨decide_eq_true hm, fun H' s1 => ?_⟩
      have s2 := (same_upd (o := .tup [.str z]) nt).trans s1
      obtain ⟨dx, c, s', a, t, ks, kt, av, W1⟩ := hw.same s2
      rcases W1.ds.get (z := z) with ⟨ys, a', g1, g2, g3⟩ | ⟨g1, _⟩
      · rw [show srcs rs z = some xs from hz] at g1
        cases g1
        refine ⟨_, rfl, p, C, dx, _, _, rfl, W1.ob, W.cl, W.ns, rfl, _, rfl, s', .ref a', rfl, ?_, q H' a' s2 g3⟩
        rw [← g2]
        exact DGet.k (k := kS z) W1.hs
      · rw [show srcs rs z = some xs from hz] at g1
        cases g1
    · exact .inr ⟨h1, rz⟩
end
end K63
end L2
set_option Elab.async false
set_option linter.all false
set_option maxRecDepth 100000
set_option maxHeartbeats 4000000
namespace L2
namespace K63
open PySem PySem.Spec PyProof.Rows K1 WL LamX
section
variable {P : Program} {w : World} {K : PySem.W.Frag} {mg : Str → Option Value} {base : Heap} {f : Addr} {fd : FuncData}
/-! ### is_integer, is_count -/
theorem sc_isint : FnScope ["thing"] ["thing"] (defScope s_is_integer) := ⟨rfl, rfl, rfl, by decide +kernel, rfl, by decide +kernel, by decide +kernel⟩
theorem ok_isint (T : Bl mg) (fb : mg "bool" = none) (F : FnP K "is_integer" "is_integer" s_is_integer f fd) : FnOk P w K mg base CX0 1 f fd ["thing"] (spIsInt K) := by
  refine F.ok sc_isint (fun vs H Q E h => ?_) (fun cdv A outer s H vs Q E hr h => ?_)
  · obtain ⟨v, o, rfl, _⟩ := h
    rfl
  · refine ⟨_, PSs.nox (pss_one (ps_ret (pe_and (pe_callB call_isi rfl T.f_isinstance boot_isinstance (pa_cons (pv 0) (pa_cons (pe_bltn (v := .ty "int") rfl T.f_int PyProof.Rows.boot_int rfl) pa_nil)))
      (pe_one (pe_not (pe_callB call_isi rfl T.f_isinstance boot_isinstance (pa_cons (pv 0) (pa_cons (pe_bltn (v := .ty "bool") rfl fb (by decide +kernel) rfl) pa_nil)))))))), ?_⟩
    obtain ⟨v, o, rfl, hv, q⟩ := h
    rcases hv with ⟨i, rfl, rfl⟩ | ⟨t, b1, b2, ty, k1, k2, hb, rfl⟩
    · refine ⟨_, rfl, _, .ty "int", .type "int", _, true, rfl, .ty "int", .base (.int i), kit_ty (by decide +kernel), true, rfl, ?_⟩
      exact ⟨_, rfl, _, .ty "bool", .type "int", _, false, rfl, .ty "bool", .base (.int i), kit_ty (by decide +kernel), false, rfl, q⟩
    · refine ⟨_, rfl, v, .ty "int", t, _, b1, rfl, .ty "int", ty, k1, b1, rfl, ?_⟩
      cases b1 with
      | false => exact q
      | true =>
        have e2 : b2 = true := by simpa using hb
        subst e2
        exact ⟨_, rfl, v, .ty "bool", t, _, true, rfl, .ty "bool", ty, k2, true, rfl, q⟩
theorem sc_iscnt : FnScope ["thing"] ["thing"] (defScope s_is_count) := ⟨rfl, rfl, rfl, by decide +kernel, rfl, by decide +kernel, by decide +kernel⟩
theorem ok_iscnt (Ci : Cal P w K mg base "is_integer" ["thing"] 1 (spIsInt K)) (F : FnP K "is_count" "is_count" s_is_count f fd) : FnOk P w K mg base CX0 2 f fd ["thing"] (spIsCount K) := by
  obtain ⟨fi, fdi, Gi, gi, ki, bi⟩ := Ci.ex
  refine F.ok sc_iscnt (fun vs H Q E h => ?_) (fun cdv A outer s H vs Q E hr h => ?_)
  · obtain ⟨v, o, rfl, _⟩ := h
    rfl
  · refine ⟨_, PSs.nox (pss_one (ps_ret (pe_and (pe_call Gi hr rfl gi ki bi .nil pass0 (pa_cons (pv 0) pa_nil)) (pe_one (pe_cmpR op_ge (pv 0) pe_int (nomark _)))))), ?_⟩
    obtain ⟨v, o, rfl, hv, q⟩ := h
    refine ⟨_, rfl, v, o, rfl, hv, o.isSome, rfl, ?_⟩
    rcases hv with ⟨i, rfl, rfl⟩ | ⟨t, b1, b2, ty, k1, k2, hb, rfl⟩
    · refine iteP rfl ⟨_, rfl, i, 0, rfl, rfl, ?_⟩
      exact q
    · exact iteN rfl q
/-! ### is_piece_arrow -/
theorem sc_pa : FnScope ["cells", "thing"] ["cells", "thing"] (defScope s_is_piece_arrow) := ⟨rfl, rfl, rfl, by decide +kernel, rfl, by decide +kernel, by decide +kernel⟩
theorem ok_pa (T : Bl mg) (Cl : Cal P w K mg base "is_list" ["thing"] 1 (spIsList K)) (Ci : Cal P w K mg base "is_integer" ["thing"] 1 (spIsInt K)) (F : FnP K "is_piece_arrow" "is_piece_arrow" s_is_piece_arrow f fd) : FnOk P w K mg base CX0 2 f fd ["cells", "thing"] (spPA K) := by
  obtain ⟨fl, fdl, Gl, gl, kl, bl⟩ := Cl.ex
  obtain ⟨fi, fdi, Gi, gi, ki, bi⟩ := Ci.ex
  refine F.ok sc_pa (fun vs H Q E h => ?_) (fun cdv A outer s H vs Q E hr h => ?_)
  · obtain ⟨c, v, cs, b, rfl, _⟩ := h
    rfl
  · refine ⟨_, PSs.nox (pss_cons (ps_if (PW.pt (pw_or (pt_not (pt_val (pe_call Gl hr rfl gl kl bl .nil pass0 (pa_cons (pv 1) pa_nil)))) (pw_or (pt_cmpR op_ne (pe_callB call_len rfl T.f_len boot_len (pa_cons (pv 1) pa_nil)) pe_int (nomark _))
        (pw_or1 (pt_not (pt_val (pe_call Gi hr rfl gi ki bi .nil pass0 (pa_cons (pe_ix ix_seq (pv 1) pe_int fun _ _ => rfl) pa_nil)))))))) (pss_one (ps_ret pe_bl)) pss_nil)
      (pss_one (ps_ret (pe_and (pe_cmpR op_in_seq (pe_ix ix_seq (pv 1) pe_int fun _ _ => rfl) (pv 0) rfl) (pe_and (pe_cmpR op_in_seq (pe_ix ix_seq (pv 1) pe_int fun _ _ => rfl) (pv 0) rfl)
        (pe_one (pe_chain op_le op_le (pe_un un_neg pe_int) (pe_ix ix_seq (pv 1) pe_int fun _ _ => rfl) pe_int))))))), ?_⟩
    obtain ⟨c, v, cs, b, rfl, hc, hv, q⟩ := h
    have ps0 : ∀ {xs : List V} {i : Nat} {x : V}, xs[i]? = some x → atI xs (i : Int) = some x := fun h => atI_nat h
    rcases hv with ⟨t, ty, kt, rfl⟩ | ⟨xs, hs, hv⟩
    · exact ⟨_, rfl, v, t, false, rfl, ty, kt, fun H' s' => ⟨false, rfl, iteP rfl (iteP rfl (q H' s'))⟩⟩
    · obtain ⟨t, ty, kt⟩ := hs.kit
      refine ⟨_, rfl, v, t, true, rfl, ty, kt, fun H1 s1 => ⟨true, rfl, iteN rfl ?_⟩⟩
      refine ⟨_, rfl, v, xs.length, rfl, (hs.same s1).len, rfl, _, rfl, ?_⟩
      rcases hv with ⟨hn, rfl⟩ | ⟨x, y, z, o, rfl, hy, h0, h1⟩
      · refine iteP ?_ (iteP rfl (q H1 s1))
        have : ¬ (V.int (xs.length : Nat) = V.int 3) := fun e => hn (by
          have := V.int.inj e
          omega)
        rw [decide_eq_false this]
        rfl
      · refine iteN (by rfl) ?_
        refine ⟨_, rfl, (hs.same s1).ix (x := y) rfl ⟨y, o, rfl, hy.same s1, o.isSome, rfl, ?_⟩⟩
        cases o with
        | none => rw [h0 rfl] at q; exact iteP rfl (q H1 s1)
        | some i =>
          obtain ⟨fx, fz, rfl⟩ := h1 i rfl
          obtain ⟨ca, rfl, hcs⟩ := hc
          have hcs1 : SqL K H1 ca (cs.map .str) ∨ SqT K H1 ca (cs.map .str) := by
            rcases hcs with h | h
            · exact .inl (s1.seq h)
            · exact .inr (SqT.same h s1)
          have q1 := q H1 s1
          have yi : y = .int i := by
            rcases hy with ⟨j, rfl, e⟩ | ⟨_, _, _, _, _, _, _, e⟩
            · cases e
              rfl
            · cases e
          subst yi
          refine iteN rfl ?_
          refine ⟨_, rfl, (hs.same s1).ix (x := x) rfl ⟨_, rfl, ca, _, rfl, hcs1, fx, flat_strs' _, ?_⟩⟩
          refine ⟨inV x (cs.map .str), rfl, ?_⟩
          cases e1 : inV x (cs.map .str) with
          | false => rw [e1] at q1; exact q1
          | true =>
            rw [e1] at q1
            refine iteP rfl ⟨_, rfl, (hs.same s1).ix (x := z) rfl ⟨_, rfl, ca, _, rfl, hcs1, fz, flat_strs' _, ?_⟩⟩
            refine ⟨inV z (cs.map .str), rfl, ?_⟩
            cases e2 : inV z (cs.map .str) with
            | false => rw [e2] at q1; exact q1
            | true =>
              rw [e2] at q1
              refine iteP rfl ?_
              refine ⟨1, rfl, _, rfl, (hs.same s1).ix (x := .int i) rfl ⟨-1, i, rfl, rfl, _, rfl, ?_⟩⟩
              cases e3 : decide ((-1 : Int) ≤ i) with
              | false => rw [e3] at q1; exact q1
              | true =>
                rw [e3] at q1
                exact ⟨i, 1, rfl, rfl, q1⟩
/-! ### first_wrong_arrow -/
theorem sc_fa : FnScope ["cells", "arrows", "met", "index", "arrow"] ["cells", "arrows"] (defScope s_first_wrong_arrow) := ⟨rfl, rfl, rfl, by decide +kernel, rfl, by decide +kernel, by decide +kernel⟩
theorem ok_fa (T : Bl mg) (Cl : Cal P w K mg base "is_list" ["thing"] 1 (spIsList K)) (Cr : Cal P w K mg base "is_piece_arrow" ["cells", "thing"] 2 (spPA K)) (F : FnP K "first_wrong_arrow" "first_wrong_arrow" s_first_wrong_arrow f fd) : FnOk P w K mg base CX0 3 f fd ["cells", "arrows"] (spFA K) := by
  obtain ⟨fl, fdl, Gl, gl, kl, bl⟩ := Cl.ex
  obtain ⟨fr, fdr, Gr, gr, kr, br⟩ := Cr.ex
  refine F.ok sc_fa (fun vs H Q E h => ?_) (fun cdv A outer s H vs Q E hr h => ?_)
  · obtain ⟨c, v, cs, rfl, _⟩ := h
    rfl
  · have h1 := hr.mono (show 1 ≤ 2 by decide)
    have nd := sc_fa.nd
    have hu65 : (A.deeper (envOfC "first_wrong_arrow" (defScope s_first_wrong_arrow) s.heap.objs.size f cdv)).units + 65 < cLine := by
      have := hr.un
      omega
    refine ⟨_, PSs.nox (pss_cons (ps_if (pt_not (pt_val (pe_call Gl h1 rfl gl kl bl .nil pass0 (pa_cons (pv 1) pa_nil)))) (pss_one (ps_ret pe_int)) pss_nil)
      (pss_cons (ps_set (i := 2) nd rfl (Or.inl rfl) (pe_lst pa_nil))
      (pss_cons (ps_for PassesOwn.never rfl (pi_enumS rfl T.f_enumerate (pa_cons (pv 1) pa_nil)) (pg_tup rfl (pgs_cons (pg_name (i := 3) nd rfl (Or.inl rfl)) (pgs_cons (pg_name (i := 4) nd rfl (Or.inl rfl)) pgs_nil)))
        (pss_cons (ps_if (PW.pt (pw_or (pt_not (pt_val (pe_call Gr hr rfl gr kr br .nil pass0 (pa_cons (pv 0) (pa_cons (pv 4) pa_nil))))) (pw_or1 (pt_cmpR (op_inD hu65) (pe_callTy call_tupS rfl T.f_tuple PyProof.Rows.boot_tuple (pa_cons (pv 4) pa_nil)) (pv 2) rfl)))) (pss_one (ps_ret (pv 3))) pss_nil)
        (pss_one (ps_expr (pe_bm PySem.F.plainAttrs_list PySem.F.slot_list_append PySem.F.type_list_append mt_append (pv 2) (pa_cons (pe_callTy call_tupS rfl T.f_tuple PyProof.Rows.boot_tuple (pa_cons (pv 4) pa_nil)) pa_nil))))))
      (pss_one (ps_ret pe_non))))), ?_⟩
    obtain ⟨c, v, cs, rfl, hc, hv⟩ := h
    rcases hv with ⟨t, ty, kt, q⟩ | ⟨ds, hs, hn, hd, q⟩
    · exact ⟨_, rfl, v, t, false, rfl, ty, kt, fun H' s' => ⟨false, rfl, q H' s'⟩⟩
    · obtain ⟨t, ty, kt⟩ := hs.kit
      refine ⟨_, rfl, _, t, true, rfl, ty, kt, fun H1 s1 => ⟨true, rfl, iteN rfl ?_⟩⟩
      refine t_next ?_
      dsimp only
      refine t_seqAsg ?_
      refine ⟨(show 0 ≤ sizeLine by decide), fun m nm => ?_⟩
      have nm0 : H m = none := s1.free nm
      have s2 : Same H (hide m (upd H1 m (.lst []))) := by rw [hide_updp]; exact same_hide_new s1 nm0
      have em : (upd H1 m (.lst [])) m = some (.lst []) := upd_same
      generalize upd H1 m (.lst []) = H2 at *
      refine g_nm ?_
      refine t_seqF ?_
      refine for_enumS hs (fun Q q => ⟨_, rfl, q⟩) (fun i σ H' => Same H (hide m H') ∧ (∃ o3 o4, σ = [some c, some v, some (.ref m), o3, o4]) ∧ ∃ mv, H' m = some (.lst mv) ∧ Paired (Trip K (hide m H')) mv ((ds.take i).map fun d => d.2.2) ∧ (∀ d ∈ ds.take i, d.2.1 = true) ∧ firstG (ds.map Prod.snd) [] 0 = firstG ((ds.drop i).map Prod.snd) ((ds.take i).map fun d => d.2.2) i)
        ⟨s2, ⟨_, _, rfl⟩, [], em, .nil, (fun d h => nomatch h), rfl⟩ (fun i σ H' p => p.1.trans hide_le) ?_ ?_
      · rintro i y σ H3 T2 ey2 ⟨s3, ⟨o3, o4, rfl⟩, mv, emv, hmv, hall, ef⟩ nT
        have hi' : i < ds.length := by
          have z := (List.getElem?_eq_some_iff.mp ey2).1
          simpa using z
        have ey' : y = (ds[i]).1 := by
          rw [List.getElem?_map, List.getElem?_eq_getElem hi'] at ey2
          exact (Option.some.inj ey2).symm
        subst ey'
        have Tm : T2 ≠ m := fun e => by rw [e, emv] at nT; cases nT
        have st : Same H3 (upd H3 T2 (.tup [.int (i : Nat), (ds[i]).1])) := same_upd nT
        have eT : (upd H3 T2 (.tup [.int (i : Nat), (ds[i]).1])) T2 = some (.tup [.int (i : Nat), (ds[i]).1]) := upd_same
        generalize upd H3 T2 (.tup [.int (i : Nat), (ds[i]).1]) = H4 at *
        have s4 := s3.trans (hide_same (p := m) st)
        have hmv4 : Paired (Trip K (hide m H4)) mv ((ds.take i).map fun d => d.2.2) := Paired.imp (fun _ _ h => h.same (hide_same (p := m) st)) hmv
        have emv4 := st _ _ emv
        refine ⟨T2, [.int (i : Nat), (ds[i]).1], rfl, SqT.of eT, rfl, _, _, rfl, _, _, rfl, rfl, ?_⟩
        obtain ⟨⟨d1, d2⟩, dok⟩ := hd ds[i] (List.getElem_mem hi')
        have drop : ds.drop i = ds[i] :: ds.drop (i + 1) := List.drop_eq_getElem_cons hi'
        have tk : ds.take (i + 1) = ds.take i ++ [ds[i]] := by rw [List.take_succ, List.getElem?_eq_getElem hi']; rfl
        have sH4 : Same H H4 := s4.trans hide_le
        have out : ((ds[i]).2.1 = false ∨ (ds[i]).2.2 ∈ (ds.take i).map fun d => d.2.2) → firstG (ds.map Prod.snd) [] 0 = some i := fun z => by
          rw [ef, drop, List.map_cons]
          show firstG (((ds[i]).2.1, (ds[i]).2.2) :: _) _ _ = _
          unfold firstG
          rw [if_pos z]
        refine ⟨_, rfl, _, rfl, c, (ds[i]).1, cs, (ds[i]).2.1, rfl, hc.same sH4, d1.same sH4, fun H5 s5 => ⟨(ds[i]).2.1, rfl, ?_⟩⟩
        cases hrw : (ds[i]).2.1 with
        | false =>
          have qq := q H5 (sH4.trans s5)
          rw [out (.inl hrw)] at qq
          exact ⟨_, rfl, qq⟩
        | true =>
          have sq := d2 hrw
          refine ⟨_, rfl, (ds[i]).1, v3 (ds[i]).2.2, rfl, (sq.same sH4).same s5, fun H6 q6 s6 sq6 => ?_⟩
          have s46 := s5.trans s6
          have hmv6 : Paired (Trip K H6) mv ((ds.take i).map fun d => d.2.2) := Paired.imp (fun _ _ h => (h.same hide_le).same s46) hmv4
          have emv6 := s46 _ _ emv4
          have okl : ∀ a ∈ (ds.take i).map fun d => d.2.2, sOk [a.1, a.2.2] := fun a ha => by
            obtain ⟨d, hdm, rfl⟩ := List.mem_map.mp ha
            exact (hd d (List.mem_of_mem_take hdm)).2 (hall d hdm)
          refine ⟨_, rfl, d3 (ds[i]).2.2, ((ds.take i).map fun d : V × Bool × A3 => d.2.2).map d3, dp_v3 sq6, .lst (SqL.of emv6) (trips_dp hmv6), shaped_d3 (dok hrw), shaped_l3 okl, _, rfl, ?_⟩
          rw [any_d3]
          refine ite2 (fun hin => ?_) fun hin => ?_
          · have qq := q H6 (sH4.trans s46)
            rw [out (.inr (of_decide_eq_true hin))] at qq
            exact ⟨_, rfl, qq⟩
          · have nin : (ds[i]).2.2 ∉ (ds.take i).map fun d => d.2.2 := fun z => hin (decide_eq_true z)
            refine t_next ?_
            dsimp only
            refine ⟨_, rfl, .inl ⟨rfl, _, SqL.of emv6⟩, _, rfl, (ds[i]).1, v3 (ds[i]).2.2, rfl, ((sq.same sH4).same s46), fun H7 q7 s7 sq7 => ?_⟩
            have emv7 := s7 _ _ emv6
            have s47 := s46.trans s7
            have hs47 := hide_same (p := m) s47
            refine ⟨m, mv, .ref q7, rfl, rfl, emv7, ?_, ?_⟩
            · rw [Paired.length hmv, List.length_map, List.length_take, sizeLine_eq]
              omega
            · refine ⟨by rw [hide_updp]; exact s4.trans hs47, ⟨_, _, rfl⟩, mv ++ [.ref q7], upd_same, ?_, ?_, ?_⟩
              · rw [hide_updp, tk, List.map_append]
                exact Paired.snoc (Paired.imp (fun _ _ h => h.same hs47) hmv4) ⟨q7, rfl, sqt_hide sq7 emv7 (fun ys z => nomatch z) fun q' ys z => nomatch z⟩
              · intro d hdm
                rw [tk] at hdm
                rcases List.mem_append.mp hdm with hdm | hdm
                · exact hall d hdm
                · rw [show d = ds[i] by simpa using hdm]
                  exact hrw
              · rw [ef, drop, List.map_cons, tk, List.map_append]
                show firstG (((ds[i]).2.1, (ds[i]).2.2) :: _) _ _ = _
                conv => lhs; unfold firstG
                rw [if_neg]
                · rfl
                · rintro (z | z)
                  · rw [hrw] at z
                    cases z
                  · exact nin z
      · rintro σ H3 ⟨s3, ⟨o3, o4, rfl⟩, mv, emv, hmv, hall, ef⟩
        have e : firstG (ds.map Prod.snd) [] 0 = none := by
          rw [ef, List.length_map, List.drop_length]
          rfl
        have qq := q H3 (s3.trans hide_le)
        rw [e] at qq
        exact qq
end
end K63
end L2
set_option Elab.async false
set_option linter.all false
set_option maxRecDepth 100000
set_option maxHeartbeats 4000000
namespace L2
namespace WL
open PySem PySem.Spec PyProof.Rows K1 LamX
/-! ### pieces in a row -/
def ltr (k : Nat) : Str := ⟨#[97 + k]⟩
theorem cps_app (a b : Str) : (a ++ b).cps.toList = a.cps.toList ++ b.cps.toList := by
  show (a.cps ++ b.cps).toList = _
  exact Array.toList_append
theorem len_cps (z : Str) : z.length = z.cps.toList.length := by simp [Str.length]
theorem app_len (c : Str) (k : Nat) : (c ++ ltr k).length = c.length + 1 := by
  rw [len_cps, len_cps, cps_app, List.length_append]
  rfl
theorem str_ext {a b : Str} (h : a.cps.toList = b.cps.toList) : a = b := by
  cases a
  cases b
  congr 1
  exact Array.toList_inj.mp h
theorem app_inj {c c' : Str} {k k' : Nat} (h : c ++ ltr k = c' ++ ltr k') : c = c' ∧ k = k' := by
  have e : c.cps.toList ++ [97 + k] = c'.cps.toList ++ [97 + k'] := by
    have := congrArg (fun z : Str => z.cps.toList) h
    simp only [cps_app] at this
    exact this
  obtain ⟨e1, e2⟩ := List.append_inj' e rfl
  exact ⟨str_ext e1, by have := (List.cons.inj e2).1; omega⟩
theorem app_nm {c : Str} {k : Nat} (h : isNm c = true) (h7 : c.length ≤ 7) (hk : k < 26) : isNm (c ++ ltr k) = true := by
  unfold isNm at h ⊢
  obtain ⟨h1, h2⟩ := Bool.and_eq_true_iff.mp h
  obtain ⟨_, h3⟩ := Bool.and_eq_true_iff.mp h2
  rw [app_len, decide_eq_true (by omega), decide_eq_true (by omega), cps_app, List.all_append, h3]
  show (true && (true && (true && (okc (97 + k) && true)))) = true
  have : okc (97 + k) = true := by
    unfold okc
    rw [decide_eq_true (by omega), decide_eq_true (by omega)]
    rfl
  rw [this]
  rfl
def fnd (as : List A3) (c : Str) (k : Nat) : List (Str × Int) := (as.filter fun a => decide (a.2.2 = c)).map fun a => (a.1, (k : Int) + a.2.1)
def srcsOf (as : List A3) (c : Str) (k n : Nat) : List Str := ((fnd as c k).filter fun e => decide (0 ≤ e.2) && decide (e.2 < (n : Int))).map fun e => e.1 ++ ltr e.2.toNat
def rowsOf (cs : List Str) (as : List A3) (n : Nat) : Rws := (List.range n).flatMap fun k => cs.map fun c => (c ++ ltr k, srcsOf as c k n)
structure PcOk (cs : List Str) (as : List A3) : Prop where
  nd : cs.Nodup
  ne : cs ≠ []
  nm : ∀ c ∈ cs, isNm c = true ∧ c.length ≤ 7
  lc : cs.length ≤ 30
  na : as.Nodup
  la : as.length ≤ 500
  ar : ∀ a ∈ as, a.1 ∈ cs ∧ a.2.2 ∈ cs ∧ -1 ≤ a.2.1 ∧ a.2.1 ≤ 1
theorem rows_fst (cs : List Str) (as : List A3) (n : Nat) : (rowsOf cs as n).map Prod.fst = (List.range n).flatMap fun k => cs.map fun c => c ++ ltr k := by
  unfold rowsOf
  rw [List.map_flatMap]
  congr 1
  funext k
  rw [List.map_map]
  rfl
theorem fm_len {α β : Type} (g : Nat → α → β) (cs : List α) : ∀ n, ((List.range n).flatMap fun k => cs.map (g k)).length = n * cs.length := fun n => by
  induction n with
  | zero => simp
  | succ n ih =>
    rw [List.range_succ, List.flatMap_append, List.length_append, ih]
    simp [Nat.succ_mul]
theorem rows_len (cs : List Str) (as : List A3) (n : Nat) : (rowsOf cs as n).length = n * cs.length := fm_len _ cs n
theorem rows_good {cs : List Str} {as : List A3} {n : Nat} (h : PcOk cs as) (h1 : 1 ≤ n) (h26 : n ≤ 26) : Good (rowsOf cs as n) := by
  have lc := h.lc
  have lp : 0 < cs.length := List.length_pos_iff.mpr h.ne
  have hmem : ∀ {c : Str} {k : Nat}, c ∈ cs → k < n → c ++ ltr k ∈ (rowsOf cs as n).map Prod.fst := fun {c k} hc hk => by
    rw [rows_fst]
    exact List.mem_flatMap.mpr ⟨k, List.mem_range.mpr hk, List.mem_map.mpr ⟨c, hc, rfl⟩⟩
  refine ⟨?_, ?_, ?_, fun r hr => ?_, fun r hr => ?_⟩
  · rw [rows_fst]
    refine List.pairwise_flatMap.mpr ⟨fun k _ => List.pairwise_map.mpr (List.Pairwise.imp (fun hab e => hab (app_inj e).1) h.nd), ?_⟩
    refine List.Pairwise.imp (fun hab x hx y hy e => ?_) List.nodup_range
    obtain ⟨c, _, rfl⟩ := List.mem_map.mp hx
    obtain ⟨c', _, rfl⟩ := List.mem_map.mp hy
    exact hab (app_inj e).2
  · rw [rows_len]
    exact Nat.mul_pos h1 lp
  · rw [rows_len]
    exact Nat.le_trans (Nat.mul_le_mul h26 lc) (by decide)
  · obtain ⟨k, hk, hr2⟩ := List.mem_flatMap.mp hr
    obtain ⟨c, hc, rfl⟩ := List.mem_map.mp hr2
    have hk' := List.mem_range.mp hk
    refine ⟨?_, ?_, fun s hs => ?_⟩
    · show (srcsOf as c k n).length ≤ 900
      unfold srcsOf fnd
      rw [List.length_map]
      refine Nat.le_trans (List.length_filter_le ..) ?_
      rw [List.length_map]
      exact Nat.le_trans (List.length_filter_le ..) (Nat.le_trans h.la (by decide))
    · show (srcsOf as c k n).Nodup
      unfold srcsOf
      have nf : (fnd as c k).Nodup := by
        unfold fnd
        refine List.pairwise_map.mpr (List.Pairwise.imp_of_mem (fun {a b} ha hb (hab : a ≠ b) e => hab ?_) (h.na.filter _))
        have ta := of_decide_eq_true (List.mem_filter.mp ha).2
        have tb := of_decide_eq_true (List.mem_filter.mp hb).2
        have e1 : a.1 = b.1 := (Prod.mk.inj e).1
        have e2 : (k : Int) + a.2.1 = (k : Int) + b.2.1 := (Prod.mk.inj e).2
        exact (fun {x y : A3} (h1 : x.1 = y.1) (h2 : x.2.1 = y.2.1) (h3 : x.2.2 = y.2.2) => (Prod.ext h1 (Prod.ext h2 h3) : x = y)) e1 (by omega) (ta.trans tb.symm)
      refine List.pairwise_map.mpr (List.Pairwise.imp_of_mem (fun {a b} ha hb (hab : a ≠ b) e => hab ?_) (nf.filter _))
      have pa := (Bool.and_eq_true_iff.mp (List.mem_filter.mp ha).2).1
      have pb := (Bool.and_eq_true_iff.mp (List.mem_filter.mp hb).2).1
      have pa' : 0 ≤ a.2 := of_decide_eq_true pa
      have pb' : 0 ≤ b.2 := of_decide_eq_true pb
      obtain ⟨e1, e2⟩ := app_inj e
      exact Prod.ext e1 (by omega)
    · obtain ⟨e, he, rfl⟩ := List.mem_map.mp (show s ∈ srcsOf as c k n from hs)
      obtain ⟨he1, he2⟩ := List.mem_filter.mp he
      obtain ⟨a, ha, rfl⟩ := List.mem_map.mp he1
      obtain ⟨b1, b2⟩ := Bool.and_eq_true_iff.mp he2
      have b1' := of_decide_eq_true b1
      have b2' := of_decide_eq_true b2
      exact hmem (h.ar a (List.mem_filter.mp ha).1).1 (by omega)
  · obtain ⟨k, hk, hr2⟩ := List.mem_flatMap.mp hr
    obtain ⟨c, hc, rfl⟩ := List.mem_map.mp hr2
    have hk' := List.mem_range.mp hk
    exact app_nm (h.nm c hc).1 (h.nm c hc).2 (by omega)
/-! ### what a piece is in the heap -/
def pFld (c a : Addr) : List (Str × V) := [("cells", .ref c), ("arrows", .ref a)]
structure PcAt (K : PySem.W.Frag) (H : Hp) (C p : Addr) (cs : List Str) (as : List A3) (dx c a : Addr) (av : List V) : Prop where
  ob : H p = some (.ins C dx (pFld c a))
  hc : SqT K H c (cs.map .str)
  ha : SqT K H a av
  da : Paired (Trip K H) av as
theorem PcAt.same {K : PySem.W.Frag} {H H' : Hp} {C p : Addr} {cs : List Str} {as : List A3} {dx c a : Addr} {av : List V} (h : PcAt K H C p cs as dx c a av) (s : Same H H') : PcAt K H' C p cs as dx c a av :=
  ⟨s _ _ h.ob, SqT.same h.hc s, SqT.same h.ha s, Paired.imp (fun _ _ x => x.same s) h.da⟩
def IsPc (K : PySem.W.Frag) (H : Hp) (C p : Addr) (cs : List Str) (as : List A3) : Prop := ∃ dx c a av, PcAt K H C p cs as dx c a av
theorem IsPc.same {K : PySem.W.Frag} {H H' : Hp} {C p : Addr} {cs : List Str} {as : List A3} (h : IsPc K H C p cs as) (s : Same H H') : IsPc K H' C p cs as := let ⟨dx, c, a, av, x⟩ := h; ⟨dx, c, a, av, x.same s⟩
/-- what the head tells of the class Piece -/
structure Pt (K : PySem.W.Frag) (mg : Str → Option Value) (C : Addr) : Prop where
  cl : Cls K C
  nc : NoAttr K C "cells"
  na : NoAttr K C "arrows"
  mg : mg "Piece" = some (.ref C)
def Bz (H : Hp) (E : XK) (C : Addr) : Prop := ∀ H', Same H H' → E (.ref C) none H'
def spPiece (K : PySem.W.Frag) (C : Addr) : Sp := fun vs H Q E => ∃ (p dx : Addr) (cv av : V), vs = [.ref p, cv, av] ∧ H p = some (.ins C dx []) ∧ ((NLis K H cv false ∧ Bz H E (He.ga K "BadPiece")) ∨
  ∃ cs : List Str, NLis K H cv true ∧ Seq K H cv (cs.map .str) ∧ cs.length ≤ 900 ∧ (∀ c ∈ cs, c.length ≤ 1000) ∧ ((cs = [] ∧ Bz H E (He.ga K "BadPiece")) ∨ (cs ≠ [] ∧ (cs.all fun c => decide (c.length ≤ 7)) = false ∧ Bz H E (He.ga K "BadPiece")) ∨
    (cs ≠ [] ∧ (cs.all fun c => decide (c.length ≤ 7)) = true ∧ ((∃ t, TyX K H av t ∧ PySem.W.kitAny K t LT = some false ∧ Rz H E (He.ga K "BadArrow") "index" (.int 0)) ∨
      ∃ ds : List (V × Bool × A3), Seq K H av (ds.map Prod.fst) ∧ ds.length ≤ 500 ∧ (∀ d ∈ ds, ArD K H cs d ∧ (d.2.1 = true → sOk [d.2.2.1, d.2.2.2.2])) ∧ ((∃ i, firstG (ds.map Prod.snd) [] 0 = some i ∧ Rz H E (He.ga K "BadArrow") "index" (.int (i : Nat))) ∨
        (firstG (ds.map Prod.snd) [] 0 = none ∧ (∀ d ∈ ds, d.2.1 = true) ∧ ∀ H', Same (hide p H) (hide p H') → IsPc K H' C p cs (ds.map fun d => d.2.2) → Q .non H'))))))
/-- comprehensions over either, any elements -/
theorem lc_seqI {K : PySem.W.Frag} {v : V} {xs : List V} {g : TG} {tt : TT} {te tl : TE} {vs : List Nat} {σ : St} {H0 H : Hp} {Q : VK} (hq : Seq K H0 v xs) (s0 : Same H0 H) (he : ∀ Q : VK, Q v H → tl σ H Q) (Pv : Addr → Nat → Hp → Prop) (h0 : ∀ D, H D = none → Pv D 0 (upd H D (.lst [])))
    (hl : ∀ D i H', Pv D i H' → Same H0 H') (hs : ∀ D i x H', H D = none → xs[i]? = some x → Pv D i H' → g x (wipe σ vs) H' fun σ2 H2 => wipe σ2 vs = wipe σ vs ∧ tt σ2 H2 fun b H3 =>
      if b = true then te σ2 H3 fun y H4 => ∃ acc, H4 D = some (.lst acc) ∧ acc.length < sizeLine ∧ Pv D (i + 1) (upd H4 D (.lst (acc ++ [y]))) else Pv D (i + 1) H3) (hd : ∀ D H', H D = none → Pv D xs.length H' → Q (.ref D) H') : tLc (iSeq K tl) g tt te vs σ H Q := by
  obtain ⟨a, rfl, hq⟩ := hq
  rcases hq with hq | hq
  · exact he _ ⟨a, xs, rfl, .inl ⟨s0.seq hq, fun D nD => lc_it (walk_list (xs := xs)) (Pv D) (h0 D nD) (fun i H' _ p => (hl D i H' p).seq hq) (fun i x H' H'' _ p y => by
      obtain ⟨rfl, hx⟩ := y
      exact hs D i x _ nD hx p) (fun H' p => hd D H' nD p)⟩⟩
  · exact he _ ⟨a, xs, rfl, .inr ⟨SqT.same hq s0, fun D nD => lc_it (walk_tup (xs := xs)) (Pv D) (h0 D nD) (fun i H' _ p => SqT.same hq (hl D i H' p)) (fun i x H' H'' _ p y => by
      obtain ⟨rfl, hx⟩ := y
      exact hs D i x _ nD hx p) (fun H' p => hd D H' nD p)⟩⟩
theorem seq_hide {K : PySem.W.Frag} {H : Hp} {p : Addr} {C dx : Addr} {fs : List (Str × V)} {v : V} {xs : List V} (h : Seq K H v xs) (e : H p = some (.ins C dx fs)) : Seq K (hide p H) v xs := by
  obtain ⟨a, rfl, h | h⟩ := h
  · refine ⟨a, rfl, .inl ?_⟩
    rcases h with (h | ⟨o, h⟩) | h
    · exact .inl (.inl (by rw [hide_ne (fun z => by rw [z, e] at h; cases h)]; exact h))
    · exact .inl (.inr ⟨o, by rw [hide_ne (fun z => by rw [z, e] at h; cases h)]; exact h⟩)
    · exact .inr h
  · exact ⟨a, rfl, .inr (sqt_hide h e (fun ys z => nomatch z) fun q ys z => nomatch z)⟩
end WL
end L2
set_option Elab.async false
set_option linter.all false
set_option maxRecDepth 100000
set_option maxHeartbeats 4000000
namespace L2
namespace K63
open PySem PySem.Spec PyProof.Rows K1 WL LamX
section
variable {P : Program} {w : World} {K : PySem.W.Frag} {mg : Str → Option Value} {base : Heap} {f : Addr} {fd : FuncData}
theorem rng_g {α : Type} (l : List α) (d : α) : (List.range l.length).map (fun i => l.getD i d) = l := by
  refine List.ext_getElem (by simp) fun i h1 h2 => ?_
  rw [List.getElem_map, List.getElem_range, List.getD_eq_getElem?_getD, List.getElem?_eq_getElem h2]
  rfl
/-! ### Piece.__init__ -/
def pFc (c : Addr) : List (Str × V) := [("cells", .ref c)]
abbrev nmPI : List Str := ["self", "cells", "arrows", "wrong", "cell", "arrow"]
theorem sc_pi : FnScope nmPI ["self", "cells", "arrows"] (defScope s_Piece_init) := ⟨rfl, rfl, rfl, by decide +kernel, rfl, by decide +kernel, by decide +kernel⟩
theorem ok_pi {C : Addr} (T : Bl mg) (W : Pt K mg C) (Cn : Cal P w K mg base "is_name_list" ["thing"] 2 (spNameList K)) (Cf : Cal P w K mg base "first_wrong_arrow" ["cells", "arrows"] 3 (spFA K)) (EP : E0c K mg "BadPiece") (EA : Er P w K mg base "BadArrow" "index")
    (F : FnP K "__init__" "Piece.__init__" s_Piece_init f fd) : FnOk P w K mg base (L2.CX P w) 4 f fd ["self", "cells", "arrows"] (spPiece K C) := by
  obtain ⟨fn, fdn, Gn, gn, kn, bn⟩ := Cn.ex
  obtain ⟨ff, fdf, Gf, gf, kf, bf⟩ := Cf.ex
  obtain ⟨fdA, GA, bA⟩ := EA.ex
  refine F.ok sc_pi (fun vs H Q E h => ?_) (fun cdv A outer s H vs Q E hr h => ?_)
  · obtain ⟨p, dx, cv, av, rfl, _⟩ := h
    rfl
  · have nd := sc_pi.nd
    have h2 := hr.mono (show 2 ≤ 3 by decide)
    refine ⟨_, pss_cons (ps_if (PW.pt (pw_or (pt_not (pt_val (pe_call Gn h2 rfl gn kn bn .nil pass0 (pa_cons (pv 1) pa_nil)))) (pw_or (pt_cmpR op_eq (pe_callB call_len rfl T.f_len boot_len (pa_cons (pv 1) pa_nil)) pe_int (nomark _))
        (pw_or1 (pt_not (pt_val (pe_callB (cr_all rfl) rfl T.f_all PyProof.Rows.boot_all (pa_cons (pe_lc (own := [("cell", 4)]) (g := gName 4) (tt := tYes) rfl nd (pi_seq (pv 1)) (blkOk_by (N := nmPI) (sc := defScope s_Piece_init) (by decide +kernel))
          (fun _ _ _ _ _ => pg_name (i := 4) nd rfl (Or.inl rfl)) (fun _ _ _ _ _ => pts_nil) (fun _ _ _ _ _ => pe_cmpR op_le (pe_callB call_len_str rfl T.f_len boot_len (pa_cons (pv 4) pa_nil)) pe_int (nomark _))) pa_nil)))))))) (pss_one (ps_raise rfl (takes_of rfl rfl rfl rfl) (pmk_own0 PySem.F.excBase_ValueError EP.xi EP.g EP.k (raises_own EP.s EP.t) rfl))) pss_nil)
      (pss_cons (ps_set (i := 3) nd rfl (Or.inl rfl) (pe_call Gf hr rfl gf kf bf .nil pass0 (pa_cons (pv 1) (pa_cons (pv 2) pa_nil))))
      (pss_cons (ps_if (pt_cmpR op_notN (pv 3) pe_non (nomark _)) (pss_one (ps_raiseV rfl (takes_of rfl rfl rfl rfl) EA.c EA.iC EA.tI GA h2 bA rfl EA.g (pv 3))) pss_nil)
      (pss_cons (ps_fld (pv 0) (pe_callTy call_tupS rfl T.f_tuple PyProof.Rows.boot_tuple (pa_cons (pv 1) pa_nil)) rfl)
      (pss_one (ps_fld (pv 0) (pe_callTy call_tuple_of rfl T.f_tuple PyProof.Rows.boot_tuple (pa_cons (pe_lc (own := [("arrow", 5)]) (g := gName 5) (tt := tYes) (te := tCB (rTupS K) (tCons (tVar 5) tNil)) rfl nd (pi_seq (pv 2)) (blkOk_by (N := nmPI) (sc := defScope s_Piece_init) (by decide +kernel))
        (fun _ _ _ _ _ => pg_name (i := 5) nd rfl (Or.inl rfl)) (fun _ _ _ _ _ => pts_nil) (fun _ _ _ _ _ => pe_callTy call_tupS rfl T.f_tuple PyProof.Rows.boot_tuple (pa_cons (pv 5) pa_nil))) pa_nil)) rfl))))), ?_⟩
    obtain ⟨p, dx, cv, av, rfl, hp, hv⟩ := h
    rcases hv with ⟨hn, bz⟩ | ⟨cs, hn, hs, hc9, hcl, hv⟩
    · refine ⟨_, rfl, cv, false, rfl, hn, fun H1 s1 => ⟨false, rfl, iteP rfl (iteP rfl ?_)⟩⟩
      exact bz _ s1
    · refine ⟨_, rfl, cv, true, rfl, hn, fun H1 s1 => ⟨true, rfl, iteN rfl ?_⟩⟩
      refine ⟨_, rfl, cv, _, rfl, (hs.same s1).len, rfl, _, rfl, ?_⟩
      rcases hv with ⟨rfl, bz⟩ | hv
      · exact iteP rfl (iteP rfl (bz _ s1))
      have hne : cs ≠ [] := hv.elim (fun z => z.1) fun z => z.1
      have hv : ((cs.all fun c => decide (c.length ≤ 7)) = false ∧ Bz H E (He.ga K "BadPiece")) ∨ ((cs.all fun c => decide (c.length ≤ 7)) = true ∧ ((∃ t, TyX K H av t ∧ PySem.W.kitAny K t LT = some false ∧ Rz H E (He.ga K "BadArrow") "index" (.int 0)) ∨
          ∃ ds : List (V × Bool × A3), Seq K H av (ds.map Prod.fst) ∧ ds.length ≤ 500 ∧ (∀ d ∈ ds, ArD K H cs d ∧ (d.2.1 = true → sOk [d.2.2.1, d.2.2.2.2])) ∧ ((∃ i, firstG (ds.map Prod.snd) [] 0 = some i ∧ Rz H E (He.ga K "BadArrow") "index" (.int (i : Nat))) ∨
            (firstG (ds.map Prod.snd) [] 0 = none ∧ (∀ d ∈ ds, d.2.1 = true) ∧ ∀ H', Same (hide p H) (hide p H') → IsPc K H' C p cs (ds.map fun d => d.2.2) → Q .non H')))) := by
        rcases hv with ⟨_, a, b⟩ | ⟨_, a, b⟩
        · exact .inl ⟨a, b⟩
        · exact .inr ⟨a, b⟩
      have l0 : decide (V.int ((cs.map V.str).length : Nat) = V.int 0) = false := decide_eq_false fun e => hne (List.length_eq_zero_iff.mp (by
        have e1 := V.int.inj e
        rw [List.length_map] at e1
        omega))
      refine iteN (by exact l0) ?_
      refine t_nall ?_
      refine lc_seq (hs.same s1) (fun Q q => ⟨_, rfl, q⟩) (by rw [List.length_map]; omega) (fun i => .bl (decide ((cs.getD i Str.empty).length ≤ 7))) (fun i x H' Q' hx s' qq => ?_) (fun D H2 s2 e2 => ?_)
      · rw [List.getElem?_map] at hx
        obtain ⟨c, hc, rfl⟩ := Option.map_eq_some_iff.mp hx
        have ec : cs.getD i Str.empty = c := by rw [List.getD_eq_getElem?_getD, hc]; rfl
        rw [ec] at qq
        have lc1 : c.length ≤ sizeLine := by
          have := hcl c (List.mem_of_getElem? hc)
          rw [sizeLine_eq]
          omega
        refine ⟨rfl, _, rfl, _, rfl, lc1, _, _, rfl, rfl, ?_⟩
        have : decide ((c.length : Int) ≤ 7) = decide (c.length ≤ 7) := by
          rw [decide_eq_decide]
          omega
        rw [← this] at qq
        exact qq _ (Same.refl _)
      · refine ⟨D, (List.range cs.length).map fun i => decide ((cs.getD i Str.empty).length ≤ 7), rfl, SqL.of (by rw [e2, List.length_map, List.map_map]; rfl), _, rfl, ?_⟩
        have ea : (((List.range cs.length).map fun i => decide ((cs.getD i Str.empty).length ≤ 7)).all id) = cs.all fun c => decide (c.length ≤ 7) := by
          have e1 : ((List.range cs.length).map fun i => decide ((cs.getD i Str.empty).length ≤ 7)) = ((List.range cs.length).map fun i => cs.getD i Str.empty).map fun c : Str => decide (c.length ≤ 7) := by rw [List.map_map]; rfl
          rw [e1, rng_g, List.all_map]
          rfl
        rw [ea]
        have s12 := s1.trans s2
        rcases hv with ⟨e7, bz⟩ | ⟨e7, hv⟩
        · rw [e7]
          exact iteP rfl (bz _ s12)
        rw [e7]
        refine iteN rfl ?_
        refine t_next ?_
        dsimp only
        refine t_seqAsg ?_
        refine ⟨_, rfl, _, rfl, cv, av, cs, rfl, hs.same s12, ?_⟩
        rcases hv with ⟨t, ty, kt, rz⟩ | ⟨ds, hs2, hd5, hd, hv⟩
        · refine .inl ⟨t, TyX.same ty s12, kt, fun H3 s3 => ⟨_, rfl, rfl, _, rfl, ⟨_, rfl, fun H4 d s4 nd4 e4 => rz H4 d ((s12.trans s3).trans s4) e4⟩⟩⟩
        · refine .inr ⟨ds, hs2.same s12, hd5, fun d h => ⟨(hd d h).1.same s12, (hd d h).2⟩, fun H3 s3 => ?_⟩
          have s13 := s12.trans s3
          rcases hv with ⟨i, ei, rz⟩ | ⟨ei, hall, q⟩
          · rw [ei]
            exact ⟨_, rfl, rfl, _, rfl, ⟨_, rfl, fun H4 d s4 nd4 e4 => rz H4 d (s13.trans s4) e4⟩⟩
          rw [ei]
          refine ⟨_, rfl, rfl, _, rfl, iteN rfl ?_⟩
          refine t_next ?_
          dsimp only
          refine t_seqFld ?_
          refine t_cb1 ?_
          refine ⟨_, rfl, cv, _, rfl, hs.same s13, fun H4 q4 s4 sq4 => ?_⟩
          have s14 := s13.trans s4
          have ep := s14 _ _ hp
          refine ⟨_, rfl, p, C, dx, [], rfl, ep, W.cl, W.nc, by decide, ?_⟩
          have hid : ∀ {H' : Hp} {l : Addr} {xs : List V}, H' p = some (.ins C dx []) → SqT K H' l xs → SqT K (hide p H') l xs := fun e h => sqt_hide h e (fun ys z => nomatch z) fun q ys z => nomatch z
          have sA : Same (hide p H) (hide p (upd H4 p (.ins C dx (putF "cells" (.ref q4) [])))) := by
            rw [hide_updp]
            exact hide_same s14
          have cA : SqT K (hide p (upd H4 p (.ins C dx (putF "cells" (.ref q4) [])))) q4 (cs.map .str) := by
            rw [hide_updp]
            exact hid ep sq4
          have pA : (upd H4 p (.ins C dx (putF "cells" (.ref q4) []))) p = some (.ins C dx (pFc q4)) := upd_same
          have hs3 : Seq K (upd H4 p (.ins C dx (putF "cells" (.ref q4) []))) av (ds.map Prod.fst) := (seq_hide hs2 hp).same (sA.trans hide_le)
          have hdA : ∀ d ∈ ds, Seq K (upd H4 p (.ins C dx (putF "cells" (.ref q4) []))) d.1 (v3 d.2.2) := fun d h => (seq_hide ((hd d h).1.2 (hall d h)) hp).same (sA.trans hide_le)
          generalize upd H4 p (.ins C dx (putF "cells" (.ref q4) [])) = HA at sA cA pA hs3 hdA ⊢
          refine t_fld ?_
          refine t_cb1 ?_
          refine lc_seqI hs3 (Same.refl _) (fun Q q => ⟨_, rfl, q⟩) (fun D i H' => Same HA H' ∧ HA D = none ∧ ∃ acc, H' D = some (.lst acc) ∧ Paired (Trip K (hide D H')) acc ((ds.take i).map fun d => d.2.2))
            (fun D nD => ⟨same_upd nD, nD, [], upd_same, .nil⟩) (fun D i H' p => p.1) (fun D i x H' nD hx p => ?_) (fun D H' nD p => ?_)
          · obtain ⟨sB, nD0, acc, eD, hacc⟩ := p
            rw [List.getElem?_map] at hx
            obtain ⟨d, hdx, rfl⟩ := Option.map_eq_some_iff.mp hx
            have hmem := List.mem_of_getElem? hdx
            refine ⟨rfl, _, rfl, d.1, _, rfl, (hdA d hmem).same sB, fun H5 q5 s5 sq5 => ?_⟩
            have e5 := s5 _ _ eD
            refine ⟨acc, e5, ?_, same_over nD0 (sB.trans s5), nD0, _, upd_same, ?_⟩
            · rw [Paired.length hacc, List.length_map, List.length_take, sizeLine_eq]
              omega
            · rw [hide_updp, List.take_succ, hdx, List.map_append]
              exact Paired.snoc (Paired.imp (fun _ _ h => h.same (hide_same s5)) hacc) ⟨q5, rfl, sqt_hide sq5 e5 (fun ys z => nomatch z) fun q ys z => nomatch z⟩
          obtain ⟨sB, nD0, acc, eD, hacc⟩ := p
          rw [List.length_map, List.take_length] at hacc
          refine ⟨D, acc, rfl, .inl ⟨SqL.of eD, fun t nt => ?_⟩⟩
          have sC := sB.trans (same_upd (o := .tup acc) nt)
          have eC := sC _ _ pA
          refine ⟨_, rfl, _, C, dx, _, rfl, eC, W.cl, W.na, (show 1 < 1000 by decide), ?_⟩
          have sF : Same (hide p HA) (hide p (upd (upd H' t (.tup acc)) p (.ins C dx (putF "arrows" (.ref t) (pFc q4))))) := by
            rw [hide_updp]
            exact hide_same sC
          have hidC : ∀ {l : Addr} {xs : List V}, SqT K (upd H' t (.tup acc)) l xs → SqT K (hide p (upd (upd H' t (.tup acc)) p (.ins C dx (putF "arrows" (.ref t) (pFc q4))))) l xs := fun h => by
            rw [hide_updp]
            exact sqt_hide h eC (fun ys z => nomatch z) fun q ys z => nomatch z
          refine q _ (sA.trans sF) ⟨dx, q4, t, acc, upd_same, SqT.same (SqT.same cA sF) hide_le, SqT.same (hidC (SqT.of upd_same)) hide_le, Paired.imp (fun _ _ h => ?_) hacc⟩
          obtain ⟨a, e, h2⟩ := h
          exact ⟨a, e, SqT.same (hidC (SqT.same (SqT.same h2 hide_le) (same_upd nt))) hide_le⟩
end
end K63
end L2
set_option Elab.async false
set_option linter.all false
set_option maxRecDepth 100000
set_option maxHeartbeats 4000000
namespace L2
namespace K63
open PySem PySem.Spec PyProof.Rows K1 WL LamX
section
variable {P : Program} {w : World} {K : PySem.W.Frag} {mg : Str → Option Value} {base : Heap} {f : Addr} {fd : FuncData}
def LET : Str := "abcdefghijklmnopqrstuvwxyz"
theorem let_at : ∀ {k : Nat}, k < 26 → atI LET.cps.toList (k : Int) = some (97 + k) := by decide +kernel
theorem let_len : LET.length = 26 := by decide +kernel
def cntOk (o : Option Int) : Bool := match o with
  | some i => decide (1 ≤ i) && decide (i ≤ 26)
  | none => false
def spCkP (K : PySem.W.Frag) : Sp := fun vs H Q E => ∃ v o, vs = [v] ∧ IntV K H v o ∧ ((cntOk o = false ∧ Rz H E (He.ga K "BadNumber") "number" v) ∨ (cntOk o = true ∧ ∀ H', Same H H' → Q .non H'))
/-! ### check_pieces -/
theorem sc_ckp : FnScope ["n"] ["n"] (defScope s_check_pieces) := ⟨rfl, rfl, rfl, by decide +kernel, rfl, by decide +kernel, by decide +kernel⟩
theorem ok_ckp (T : Bl mg) (hL : ∃ t, mg "LETTERS" = some (.str LET t)) (Cc : Cal P w K mg base "is_count" ["thing"] 2 (spIsCount K)) (EN : Er P w K mg base "BadNumber" "number") (F : FnP K "check_pieces" "check_pieces" s_check_pieces f fd) : FnOk P w K mg base (L2.CX P w) 3 f fd ["n"] (spCkP K) := by
  obtain ⟨fc, fdc, Gc, gc, kc, bc⟩ := Cc.ex
  obtain ⟨fdN, GN, bN⟩ := EN.ex
  obtain ⟨tL, gL⟩ := hL
  refine F.ok sc_ckp (fun vs H Q E h => ?_) (fun cdv A outer s H vs Q E hr h => ?_)
  · obtain ⟨v, o, rfl, _⟩ := h
    rfl
  · refine ⟨_, pss_one (ps_if (PW.pt (pw_or (pt_not (pt_val (pe_call Gc hr rfl gc kc bc .nil pass0 (pa_cons (pv 0) pa_nil)))) (pw_or1 (pt_not (pt_chain op_le op_le pe_int (pv 0) (pe_callB call_len_str rfl T.f_len boot_len (pa_cons (pe_glob (v := .str LET) rfl gL ⟨_, rfl⟩) pa_nil)))))))
      (pss_one (ps_raiseV rfl (takes_of rfl rfl rfl rfl) EN.c EN.iC EN.tI GN hr bN rfl EN.g (pv 0))) pss_nil), ?_⟩
    obtain ⟨v, o, rfl, hv, q⟩ := h
    refine ⟨_, rfl, v, o, rfl, hv, cntB o, rfl, ?_⟩
    have fin : cntOk o = false → Rz H E (He.ga K "BadNumber") "number" v := fun e => by
      rcases q with ⟨_, z⟩ | ⟨z, _⟩
      · exact z
      · rw [e] at z
        cases z
    cases o with
    | none => exact iteP rfl (iteP rfl ⟨_, rfl, fun H2 d s2 nd2 e2 => fin rfl H2 d s2 e2⟩)
    | some i =>
      have ev : v = .int i := by
        rcases hv with ⟨j, rfl, e⟩ | ⟨_, _, _, _, _, _, _, e⟩
        · cases e
          rfl
        · cases e
      subst ev
      by_cases h0 : 0 ≤ i
      · refine iteN (by show (!decide (0 ≤ i)) = false; rw [decide_eq_true h0]; rfl) ?_
        refine ⟨_, rfl, 1, i, rfl, rfl, decide ((1 : Int) ≤ i), rfl, ?_⟩
        cases e1 : decide ((1 : Int) ≤ i) with
        | false => exact ⟨false, rfl, iteP rfl ⟨_, rfl, fun H2 d s2 nd2 e2 => fin (by show (decide (1 ≤ i) && decide (i ≤ 26)) = false; rw [e1]; rfl) H2 d s2 e2⟩⟩
        | true =>
          refine ⟨LET, rfl, by rw [let_len]; decide, i, LET.length, rfl, rfl, ?_⟩
          have el : decide (i ≤ (LET.length : Nat)) = decide (i ≤ 26) := by rw [let_len]; rfl
          refine ⟨decide (i ≤ (LET.length : Nat)), rfl, ?_⟩
          rw [el]
          cases e2 : decide (i ≤ 26) with
          | false => exact iteP rfl ⟨_, rfl, fun H2 d s2 nd2 e3 => fin (by show (decide (1 ≤ i) && decide (i ≤ 26)) = false; rw [e1, e2]; rfl) H2 d s2 e3⟩
          | true =>
            refine iteN rfl ?_
            rcases q with ⟨z, _⟩ | ⟨_, q⟩
            · rw [show cntOk (some i) = (decide (1 ≤ i) && decide (i ≤ 26)) from rfl, e1, e2] at z
              cases z
            · exact q _ (Same.refl _)
      · refine iteP (by show (!decide (0 ≤ i)) = true; rw [decide_eq_false h0]; rfl) (iteP rfl ⟨_, rfl, fun H2 d s2 nd2 e2 => fin ?_ H2 d s2 e2⟩)
        show (decide (1 ≤ i) && decide (i ≤ 26)) = false
        rw [decide_eq_false (show ¬ (1 : Int) ≤ i by omega)]
        rfl
/-! ### row_sources -/
def FndAt (K : PySem.W.Frag) (H : Hp) (v : V) (e : Str × Int) : Prop := ∃ q, v = .ref q ∧ SqT K H q [.str e.1, .int e.2]
def spRS (K : PySem.W.Frag) (C : Addr) : Sp := fun vs H Q _ => ∃ p c k n cs as, vs = [.ref p, .str c, .int (k : Nat), .int (n : Nat)] ∧ IsPc K H C p cs as ∧ PcOk cs as ∧ k < n ∧ n ≤ 26 ∧ ∀ D H', Same H H' → H D = none → H' D = some (.lst ((srcsOf as c k n).map .str)) → Q (.ref D) H'
theorem filt_take {α : Type} {l : List α} {i : Nat} {x : α} {p : α → Bool} (h : l[i]? = some x) : (l.take (i + 1)).filter p = (l.take i).filter p ++ if p x = true then [x] else [] := by
  rw [List.take_succ, h, List.filter_append]
  congr 1
  show List.filter p [x] = _
  rw [List.filter_cons, List.filter_nil]
abbrev nmRS : List Str := ["piece", "cell", "k", "n", "found", "source", "offset", "target", "at"]
theorem sc_rs : FnScope nmRS ["piece", "cell", "k", "n"] (defScope s_row_sources) := ⟨rfl, rfl, rfl, by decide +kernel, rfl, by decide +kernel, by decide +kernel⟩
theorem ok_rs {C : Addr} (T : Bl mg) (W : Pt K mg C) (hL : ∃ t, mg "LETTERS" = some (.str LET t)) (F : FnP K "row_sources" "row_sources" s_row_sources f fd) : FnOk P w K mg base CX0 1 f fd ["piece", "cell", "k", "n"] (spRS K C) := by
  obtain ⟨tL, gL⟩ := hL
  refine F.ok sc_rs (fun vs H Q E h => ?_) (fun cdv A outer s H vs Q E hr h => ?_)
  · obtain ⟨p, c, k, n, cs, as, rfl, _⟩ := h
    rfl
  · have nd := sc_rs.nd
    refine ⟨_, PSs.nox (pss_cons (ps_setLc (i := 4) (own := [("source", 5), ("offset", 6), ("target", 7)]) (g := gSeq K 3 (gCons (gName 5) (gCons (gName 6) (gCons (gName 7) gNil)))) rfl nd rfl rfl (sw_true rfl rfl rfl (by decide +kernel)) (pi_tup (pe_fld (pv 0) rfl)) (blkOk_by (N := nmRS) (sc := defScope s_row_sources) (by decide +kernel))
        (fun _ _ _ _ _ => pg_seq rfl (pgs_cons (pg_name (i := 5) nd rfl (Or.inl rfl)) (pgs_cons (pg_name (i := 6) nd rfl (Or.inl rfl)) (pgs_cons (pg_name (i := 7) nd rfl (Or.inl rfl)) pgs_nil)))) (fun _ _ _ _ _ => pts_one (pt_cmpR op_eq (pv 7) (pv 1) (nomark _))) (fun _ _ _ _ _ => pe_tup (pa_cons (pv 5) (pa_cons (pe_op op_add (pv 2) (pv 6)) pa_nil))))
      (pss_one (ps_ret (pe_lc (own := [("source", 5), ("at", 8)]) (g := gSeq K 2 (gCons (gName 5) (gCons (gName 8) gNil))) rfl nd (pi_list (pv 4)) (blkOk_by (N := nmRS) (sc := defScope s_row_sources) (by decide +kernel))
        (fun _ _ _ _ _ => pg_seq rfl (pgs_cons (pg_name (i := 5) nd rfl (Or.inl rfl)) (pgs_cons (pg_name (i := 8) nd rfl (Or.inl rfl)) pgs_nil))) (fun _ _ _ _ _ => pts_one (pt_chain op_le op_lt pe_int (pv 8) (pv 3))) (fun _ _ _ _ _ => pe_op op_add_str (pv 5) (pe_ix ix_str (pe_glob (v := .str LET) rfl gL ⟨_, rfl⟩) (pv 8) fun _ _ => rfl)))))), ?_⟩
    obtain ⟨p, c, k, n, cs, as, rfl, ⟨dx, ca, aa, av, pc⟩, ok, hkn, hn, q⟩ := h
    refine t_seqAsg ?_
    refine ⟨_, rfl, p, C, dx, _, _, rfl, pc.ob, W.cl, W.na, (show (pFld ca aa).lookup ("arrows" : Str) = some (.ref aa) from rfl), aa, rfl, ⟨_, pc.ha⟩, fun D nD => ?_⟩
    have la : av.length = as.length := Paired.length pc.da
    refine lc_it (walk_tup (xs := av)) (fun i H' => Same H H' ∧ ∃ fl, H' D = some (.lst fl) ∧ Paired (FndAt K (hide D H')) fl (fnd (as.take i) c k)) ⟨same_upd nD, [], upd_same, .nil⟩ (fun i H' _ p => SqT.same pc.ha p.1) ?_ ?_
    · rintro i x H1 H1' hi ⟨s1, fl, e1, hf⟩ ⟨rfl, hx⟩
      obtain ⟨a, hai, q1, rfl, sq⟩ := Paired.getL pc.da hx
      refine ⟨_, ⟨q1, rfl, .inr (SqT.same sq s1)⟩, rfl, _, _, rfl, _, _, rfl, _, _, rfl, rfl, rfl, ?_⟩
      refine ⟨_, rfl, _, rfl, rfl, _, rfl, ?_⟩
      have ft : fnd (as.take (i + 1)) c k = fnd (as.take i) c k ++ (if decide (a.2.2 = c) = true then [(a.1, (k : Int) + a.2.1)] else []) := by
        unfold fnd
        rw [filt_take hai, List.map_append]
        cases decide (a.2.2 = c) <;> rfl
      have ed : decide (V.str a.2.2 = V.str c) = decide (a.2.2 = c) := by
        rw [decide_eq_decide]
        exact ⟨fun e => V.str.inj e, fun e => by rw [e]⟩
      cases et : decide (a.2.2 = c) with
      | false =>
        rw [et] at ft ed
        refine iteN ed ⟨s1, fl, e1, ?_⟩
        rw [ft]
        simpa using hf
      | true =>
        rw [et] at ft ed
        refine iteP ed ⟨_, rfl, _, rfl, _, rfl, _, _, rfl, rfl, (show 2 ≤ sizeLine by decide), fun t nt => ?_⟩
        have st : Same H1' (upd H1' t (.tup [.str a.1, .int ((k : Int) + a.2.1)])) := same_upd nt
        have e2 := st _ _ e1
        have tD : t ≠ D := fun z => by
          rw [z, e1] at nt
          cases nt
        refine ⟨fl, e2, ?_, same_over nD (s1.trans st), _, upd_same, ?_⟩
        · rw [Paired.length hf, sizeLine_eq]
          unfold fnd
          have l1 := List.length_filter_le (fun a : A3 => decide (a.2.2 = c)) (as.take i)
          rw [List.length_take] at l1
          rw [List.length_map]
          have := ok.la
          omega
        · rw [hide_updp, ft, if_pos rfl]
          refine Paired.snoc (Paired.imp (fun _ _ h => ?_) hf) ⟨t, rfl, SqT.of ?_⟩
          · obtain ⟨q2, e, h2⟩ := h
            exact ⟨q2, e, SqT.same h2 (hide_same st)⟩
          · rw [hide_ne tD]
            exact upd_same
    · rintro H1 ⟨s1, fl, e1, hf⟩
      rw [la, List.take_length] at hf
      have hf1 : Paired (FndAt K H1) fl (fnd as c k) := Paired.imp (fun _ _ h => by
        obtain ⟨q2, e, h2⟩ := h
        exact ⟨q2, e, SqT.same h2 hide_le⟩) hf
      clear hf
      refine ⟨_, rfl, D, rfl, ⟨_, SqL.of e1⟩, fun D2 nD2 => ?_⟩
      refine lc_it (walk_list (xs := fl)) (fun i H' => Same H1 H' ∧ H' D2 = some (.lst ((((((fnd as c k).take i).filter fun e => decide (0 ≤ e.2) && decide (e.2 < (n : Int))).map fun e => e.1 ++ ltr e.2.toNat)).map .str))) ⟨same_upd nD2, upd_same⟩ (fun i H' _ p => SqL.of (p.1 _ _ e1)) ?_ ?_
      · rintro i x H2 H2' hi ⟨s2, e2⟩ ⟨rfl, hx⟩
        obtain ⟨e, hei, q2, rfl, sq⟩ := Paired.getL hf1 hx
        refine ⟨_, ⟨q2, rfl, .inr (SqT.same sq s2)⟩, rfl, _, _, rfl, _, _, rfl, rfl, rfl, ?_⟩
        have ft := filt_take (p := fun e : Str × Int => decide (0 ≤ e.2) && decide (e.2 < (n : Int))) hei
        refine ⟨_, rfl, _, _, rfl, rfl, _, rfl, ?_⟩
        have no : (decide (0 ≤ e.2) && decide (e.2 < (n : Int))) = false → H2' D2 = some (.lst ((((((fnd as c k).take (i + 1)).filter fun e => decide (0 ≤ e.2) && decide (e.2 < (n : Int))).map fun e => e.1 ++ ltr e.2.toNat)).map .str)) := fun z => by
          rw [ft, if_neg (by rw [z]; decide), List.append_nil]
          exact e2
        cases e3 : decide (0 ≤ e.2) with
        | false => exact ⟨false, rfl, iteN rfl ⟨s2, no (by rw [e3]; rfl)⟩⟩
        | true =>
          refine ⟨_, rfl, _, _, rfl, rfl, decide (e.2 < (n : Int)), rfl, ?_⟩
          cases e4 : decide (e.2 < (n : Int)) with
          | false => exact iteN rfl ⟨s2, no (by rw [e3, e4]; rfl)⟩
          | true =>
            have h0 := of_decide_eq_true e3
            have h1 := of_decide_eq_true e4
            have hm : e.2.toNat < 26 := by omega
            have hat := let_at hm
            rw [show ((e.2.toNat : Nat) : Int) = e.2 by omega] at hat
            have hsrc : e.1.length ≤ 7 := by
              obtain ⟨a, ha, rfl⟩ := List.mem_map.mp (List.mem_of_getElem? hei)
              exact (ok.nm _ (ok.ar a (List.mem_filter.mp ha).1).1).2
            refine iteP rfl ⟨_, rfl, _, rfl, LET, e.2, _, rfl, rfl, by rw [let_len, sizeLine_eq]; decide, hat, _, _, rfl, rfl, ?_, ?_⟩
            · show e.1.length + (ltr e.2.toNat).length ≤ sizeLine
              have : (ltr e.2.toNat).length = 1 := rfl
              rw [this, sizeLine_eq]
              omega
            refine ⟨_, e2, ?_, same_over nD2 s2, ?_⟩
            · rw [List.length_map, List.length_map, sizeLine_eq]
              have l1 := List.length_filter_le (fun e : Str × Int => decide (0 ≤ e.2) && decide (e.2 < (n : Int))) ((fnd as c k).take i)
              rw [List.length_take] at l1
              have l2 : (fnd as c k).length ≤ as.length := by
                unfold fnd
                rw [List.length_map]
                exact List.length_filter_le ..
              have := ok.la
              omega
            · rw [ft, if_pos (by rw [e3, e4]; rfl), List.map_append, List.map_append]
              exact upd_same
      · rintro H2 ⟨s2, e2⟩
        rw [Paired.length hf1, List.take_length] at e2
        exact q D2 H2 (s1.trans s2) (s1.free nD2) e2
end
end K63
end L2
set_option Elab.async false
set_option linter.all false
set_option maxRecDepth 100000
set_option maxHeartbeats 4000000
namespace L2
namespace K63
open PySem PySem.Spec PyProof.Rows K1 WL LamX
section
variable {P : Program} {w : World} {K : PySem.W.Frag} {mg : Str → Option Value} {base : Heap} {f : Addr} {fd : FuncData}
/-! ### row -/
def rowF (cs : List Str) (as : List A3) (n k : Nat) : Rws := cs.map fun c => (c ++ ltr k, srcsOf as c k n)
def rowsP (cs : List Str) (as : List A3) (n i : Nat) : Rws := (List.range i).flatMap (rowF cs as n)
theorem rowsP_len (cs : List Str) (as : List A3) (n i : Nat) : (rowsP cs as n i).length = i * cs.length := fm_len _ cs i
theorem rowsP_succ (cs : List Str) (as : List A3) (n i : Nat) : rowsP cs as n (i + 1) = rowsP cs as n i ++ rowF cs as n i := by
  unfold rowsP
  rw [List.range_succ, List.flatMap_append, List.flatMap_cons, List.flatMap_nil, List.append_nil]
def spRow (K : PySem.W.Frag) (CP CW : Addr) : Sp := fun vs H Q E => ∃ p v o cs as, vs = [.ref p, v] ∧ IsPc K H CP p cs as ∧ PcOk cs as ∧ IntV K H v o ∧ ((cntOk o = false ∧ Rz H E (He.ga K "BadNumber") "number" v) ∨ (cntOk o = true ∧ ∀ x H', Same H H' → IsWeb K H' CW x (rowsOf cs as (o.getD 0).toNat) → Q (.ref x) H'))
abbrev nmRW : List Str := ["piece", "n", "k", "cell"]
theorem sc_row : FnScope nmRW ["piece", "n"] (defScope s_row) := ⟨rfl, rfl, rfl, by decide +kernel, rfl, by decide +kernel, by decide +kernel⟩
theorem ok_row {CP CW fi : Addr} {fdi : FuncData} (T : Bl mg) (W : Pt K mg CP) (Ww : Wt K mg CW) (Mw : Mk K CW fi) (Gi : FnOk P w K mg base (L2.CX P w) 6 fi fdi ["self", "rows"] (spInit K CW)) (bi : Binds K fdi ["self", "rows"] []) (fr : mg "range" = none) (hL : ∃ t, mg "LETTERS" = some (.str LET t))
    (Cc : ∃ f fd, FnOk P w K mg base (L2.CX P w) 3 f fd ["n"] (spCkP K) ∧ mg "check_pieces" = some (.ref f) ∧ PySem.W.keepIn K (.ref f) = true ∧ Binds K fd ["n"] [])
    (Cs : Cal P w K mg base "row_sources" ["piece", "cell", "k", "n"] 1 (spRS K CP)) (F : FnP K "row" "row" s_row f fd) : FnOk P w K mg base (L2.CX P w) 8 f fd ["piece", "n"] (spRow K CP CW) := by
  obtain ⟨fc, fdc, Gc, gc, kc, bc⟩ := Cc
  obtain ⟨fs, fds, Gs, gs, ks, bs⟩ := Cs.ex
  obtain ⟨tL, gL⟩ := hL
  refine F.ok sc_row (fun vs H Q E h => ?_) (fun cdv A outer s H vs Q E hr h => ?_)
  · obtain ⟨p, v, o, cs, as, rfl, _⟩ := h
    rfl
  · have nd := sc_row.nd
    have h1 := hr.mono (show 1 ≤ 7 by decide)
    have h3 := hr.mono (show 3 ≤ 7 by decide)
    refine ⟨_, pss_cons (ps_expr (pe_call Gc h3 rfl gc kc bc .nil (passes_call (takes_of rfl rfl rfl rfl) fun _ _ _ _ h => h) (pa_cons (pv 1) pa_nil)))
      (pss_one (ps_ret (pe_make Mw Gi hr rfl Ww.mg bi .nil (passes_call (takes_of rfl rfl rfl rfl) fun _ _ _ _ h => h) (pa_cons (pe_lc2 (own := [("k", 2), ("cell", 3)]) (vs1 := [3]) (g := gName 2) (g1 := gName 3) (tt := tYes) (tt1 := tYes) (wi1 := iTup K (tFld K (tVar 0) "cells")) rfl nd (pi_range1 rfl fr (pa_cons (pv 1) pa_nil)) (blkOk_by (N := nmRW) (sc := defScope s_row) (by decide +kernel)) (by decide)
        (fun _ _ _ _ _ => pg_name (i := 2) nd rfl (Or.inl rfl)) (fun _ _ _ _ _ => pts_nil) (fun _ _ _ _ _ => pi_tup (pe_fld (pv 0) rfl)) (fun _ _ _ _ _ => pg_name (i := 3) nd rfl (Or.inl rfl)) (fun _ _ _ _ _ => pts_nil)
        (fun _ _ _ _ _ => pe_tup (pa_cons (pe_op op_add_str (pv 3) (pe_ix ix_str (pe_glob (v := .str LET) rfl gL ⟨_, rfl⟩) (pv 2) fun _ _ => rfl)) (pa_cons (pe_call Gs h1 rfl gs ks bs .nil pass0 (pa_cons (pv 0) (pa_cons (pv 3) (pa_cons (pv 2) (pa_cons (pv 1) pa_nil))))) pa_nil)))) pa_nil)))), ?_⟩
    obtain ⟨p, v, o, cs, as, rfl, hpc, ok, hv, q⟩ := h
    refine ⟨_, rfl, v, o, rfl, hv, ?_⟩
    rcases q with ⟨e, rz⟩ | ⟨e, q⟩
    · exact .inl ⟨e, rz⟩
    refine .inr ⟨e, fun H1 s1 => ?_⟩
    cases o with
    | none => cases e
    | some i =>
      have ev : v = .int i := by
        rcases hv with ⟨j, rfl, e⟩ | ⟨_, _, _, _, _, _, _, e⟩
        · cases e
          rfl
        · cases e
      subst ev
      obtain ⟨e1, e2⟩ := Bool.and_eq_true_iff.mp (show (decide (1 ≤ i) && decide (i ≤ 26)) = true from e)
      have i1 := of_decide_eq_true e1
      have i26 := of_decide_eq_true e2
      obtain ⟨n, rfl⟩ : ∃ n : Nat, i = n := ⟨i.toNat, by omega⟩
      refine ⟨_, rfl, _, rfl, by omega, by omega, fun D nD => ?_⟩
      rw [Int.toNat_natCast]
      obtain ⟨dx, ca, aa, av, pc⟩ := id hpc
      refine lc2_it walk_range (fun i H' => Same H1 H' ∧ ∃ rl, H' D = some (.lst rl) ∧ Paired (RowT (hide D H')) rl (rowsP cs as n i)) ⟨same_upd nD, [], upd_same, .nil⟩ (fun _ _ _ _ => trivial) ?_ ?_
      · rintro j x H2 H2' hj ⟨s2, rl, er, hrl⟩ ⟨rfl, rfl⟩
        rw [show (fun i : Nat => V.int (0 + (i : Int))) = fun i : Nat => V.int (i : Int) from funext fun i => by rw [Int.zero_add]]
        have s12 := s1.trans s2
        have lr : rl.length = j * cs.length := by rw [Paired.length hrl, rowsP_len]
        have lj : j * cs.length ≤ 25 * 30 := Nat.mul_le_mul (by omega) ok.lc
        refine ⟨rfl, _, rfl, p, CP, dx, _, _, rfl, s12 _ _ pc.ob, W.cl, W.nc, (show (pFld ca aa).lookup ("cells" : Str) = some (.ref ca) from rfl), ca, rfl, ⟨_, SqT.same pc.hc s12⟩, ?_⟩
        refine lc2_in (walk_tup (xs := cs.map .str)) (fun m H' => Same H1 H' ∧ ∃ rl, H' D = some (.lst rl) ∧ Paired (RowT (hide D H')) rl (rowsP cs as n j ++ (rowF cs as n j).take m)) ⟨s2, rl, er, by simpa using hrl⟩ (fun m H' _ z => SqT.same pc.hc (s1.trans z.1)) ?_ ?_
        · rintro m x H3 H3' hm ⟨s3, rl3, er3, hrl3⟩ ⟨rfl, hx⟩
          rw [List.getElem?_map] at hx
          obtain ⟨c, hc, rfl⟩ := Option.map_eq_some_iff.mp hx
          have s13 := s1.trans s3
          have hcl := (ok.nm c (List.mem_of_getElem? hc)).2
          refine ⟨rfl, _, rfl, _, rfl, LET, (j : Int), _, rfl, rfl, by rw [let_len, sizeLine_eq]; decide, let_at (by omega), _, _, rfl, rfl, ?_, ?_⟩
          · show c.length + (ltr j).length ≤ sizeLine
            have : (ltr j).length = 1 := rfl
            rw [this, sizeLine_eq]
            omega
          refine ⟨_, rfl, _, rfl, _, rfl, _, rfl, p, c, j, n, cs, as, rfl, hpc.same s13, ok, hj, by omega, fun d H4 s4 nd4 e4 => ?_⟩
          refine ⟨(show 2 ≤ sizeLine by decide), fun t nt => ?_⟩
          have er4 := s4 _ _ er3
          have st : Same H4 (upd H4 t (.tup [.str (c ++ ltr j), .ref d])) := same_upd nt
          have er5 := st _ _ er4
          have tD : t ≠ D := fun z => by
            rw [z, er4] at nt
            cases nt
          have dD : d ≠ D := fun z => by
            rw [z, er3] at nd4
            cases nd4
          have lm : (rowF cs as n j).length = cs.length := by unfold rowF; rw [List.length_map]
          refine ⟨rl3, er5, ?_, same_over nD (s3.trans (s4.trans st)), _, upd_same, ?_⟩
          · have := Paired.length hrl3
            rw [List.length_append, rowsP_len, List.length_take, lm] at this
            have := ok.lc
            rw [sizeLine_eq]
            omega
          · have et : (rowF cs as n j).take (m + 1) = (rowF cs as n j).take m ++ [(c ++ ltr j, srcsOf as c j n)] := by
              rw [List.take_succ, show (rowF cs as n j)[m]? = some (c ++ ltr j, srcsOf as c j n) by unfold rowF; rw [List.getElem?_map, hc]; rfl]
              rfl
            rw [hide_updp, et, ← List.append_assoc]
            refine Paired.snoc (Paired.imp (fun _ _ h => RowT.same h (hide_same (s4.trans st))) hrl3) ⟨t, d, rfl, ?_, ?_⟩
            · rw [hide_ne tD]
              exact upd_same
            · rw [hide_ne dD]
              exact st _ _ e4
        · rintro H3 ⟨s3, rl3, er3, hrl3⟩
          refine ⟨s3, rl3, er3, ?_⟩
          rw [rowsP_succ]
          have : (rowF cs as n j).take ((cs.map V.str).length) = rowF cs as n j := List.take_of_length_le (by simp [rowF])
          rw [this] at hrl3
          exact hrl3
      · rintro H2 ⟨s2, rl, er, hrl⟩
        intro x dx2 nx nd2 ne
        refine init_rows (rs := rowsOf cs as n) ⟨rl, er, ?_⟩ (rows_good ok (by omega) (by omega)) nx nd2 rfl fun H5 s5 w5 => ⟨rfl, q x H5 ((s1.trans s2).trans s5) w5⟩
        exact Paired.imp (fun _ _ h => RowT.same h hide_le) hrl
end
end K63
end L2
set_option Elab.async false
set_option linter.all false
set_option maxRecDepth 100000
set_option maxHeartbeats 4000000
namespace L2
namespace K63
open PySem PySem.Spec PyProof.Rows K1 WL LamX
section
variable {P : Program} {w : World} {K : PySem.W.Frag} {mg : Str → Option Value} {base : Heap} {f : Addr} {fd : FuncData}
def stems : List Str := ["m", "c", "zz", "abcdefgh", "k", "ba", "x", "again", "d", "lot", "a", "y"]
theorem erase_perm {α : Type} : ∀ {l : List α} {n : Nat} {x : α}, l[n]? = some x → (x :: l.eraseIdx n).Perm l
  | [], n, x, h => by simp at h
  | a :: l, 0, x, h => by
    cases h
    exact List.Perm.refl _
  | a :: l, n + 1, x, h => (List.Perm.swap a x _).trans (List.Perm.cons a (erase_perm h))
theorem erase_map {α β : Type} (f : α → β) : ∀ (l : List α) (n : Nat), (l.map f).eraseIdx n = (l.eraseIdx n).map f
  | [], n => rfl
  | a :: l, 0 => rfl
  | a :: l, n + 1 => by
    show f a :: (l.map f).eraseIdx n = f a :: (l.eraseIdx n).map f
    rw [erase_map f l n]
theorem pick_perm {α : Type} {found left xs : List α} {r : Nat} {x : α} (hx : left[r]? = some x) (h : (found ++ left).Perm xs) : ((found ++ [x]) ++ left.eraseIdx r).Perm xs := by
  rw [List.append_assoc]
  exact (List.Perm.append_left found (erase_perm hx)).trans h
def spNames63 (K : PySem.W.Frag) : Sp := fun vs H Q _ => ∃ (p : Addr) (m n : Nat), vs = [.ref p, .int (m : Nat)] ∧ m ≤ 8 ∧ Pl H p n ∧ n ≤ 800000000 ∧
  ∀ (zs : List Str) H' q, Same (hide p H) (hide p H') → Pl H' p (n + m) → zs.length = m → zs.Nodup → (∀ z ∈ zs, z ∈ stems) → hide p H q = none → hide p H' q = some (.lst (zs.map .str)) → Q (.ref q) H'
/-! ### _law_names -/
abbrev nmNA : List Str := ["_law_pool_here", "_law_many", "_law_stems", "_law_found", "_law_k"]
theorem sc_names : FnScope nmNA ["_law_pool_here", "_law_many"] (defScope s_names) := ⟨rfl, rfl, rfl, by decide +kernel, rfl, by decide +kernel, by decide +kernel⟩
theorem ok_names (T : Bl mg) (fr : mg "range" = none) (Ct : Cal P w K mg base "_law_take" ["_law_pool_here", "_law_many"] 1 spTakeL) (F : FnP K "_law_names" "_law_names" s_names f fd) : FnOk P w K mg base CX0 2 f fd ["_law_pool_here", "_law_many"] (spNames63 K) := by
  obtain ⟨ft, fdt, Gt, gt, kt, bt⟩ := Ct.ex
  refine F.ok sc_names (fun vs H Q E h => ?_) (fun cdv A outer s H vs Q E hr h => ?_)
  · obtain ⟨p, m, n, rfl, _⟩ := h
    rfl
  · have nd := sc_names.nd
    refine ⟨_, PSs.nox (pss_cons (ps_set (i := 2) nd rfl (Or.inl rfl) (pe_lst (pa_cons pe_str (pa_cons pe_str (pa_cons pe_str (pa_cons pe_str (pa_cons pe_str (pa_cons pe_str (pa_cons pe_str (pa_cons pe_str (pa_cons pe_str (pa_cons pe_str (pa_cons pe_str (pa_cons pe_str pa_nil))))))))))))))
      (pss_cons (ps_set (i := 3) nd rfl (Or.inl rfl) (pe_lst pa_nil))
      (pss_cons (ps_for PassesOwn.never rfl (pi_range1 rfl fr (pa_cons (pv 1) pa_nil)) (pg_name (i := 4) nd rfl (Or.inl rfl))
        (pss_one (ps_expr (pe_bm PySem.F.plainAttrs_list PySem.F.slot_list_append PySem.F.type_list_append mt_append (pv 3) (pa_cons
          (pe_bm PySem.F.plainAttrs_list PySem.F.slot_list_pop PySem.F.type_list_pop mt_popAt (pv 2) (pa_cons (pe_call Gt hr rfl gt kt bt .nil pass0 (pa_cons (pv 0) (pa_cons (pe_callB call_len rfl T.f_len boot_len (pa_cons (pv 2) pa_nil)) pa_nil))) pa_nil)) pa_nil)))))
      (pss_one (ps_ret (pv 3)))))), ?_⟩
    obtain ⟨p, m, n, rfl, hm, hP, hn, q⟩ := h
    refine ⟨(show 12 ≤ sizeLine by decide), fun l nl => ?_⟩
    obtain ⟨lp, sl, el⟩ := hide_new (o := .lst (stems.map .str)) hP.ne nl
    have P1 := hP.new (o := .lst (stems.map .str)) nl
    show tSeq _ _ _ _ (upd H l (.lst (stems.map .str)))
    have eL : (upd H l (.lst (stems.map .str))) l = some (.lst (stems.map .str)) := upd_same
    have nlp : hide p H l = none := hide_none nl
    generalize upd H l (.lst (stems.map .str)) = HA at *
    refine ⟨(show 0 ≤ sizeLine by decide), fun c nc => ?_⟩
    obtain ⟨cp, sc, ec⟩ := hide_new (o := .lst []) P1.ne nc
    have P2 := P1.new (o := .lst []) nc
    have lc : l ≠ c := ne_of_none eL nc
    have ncp : hide p H c = none := by
      have z : hide p HA c = none := hide_none nc
      cases e : hide p H c with
      | none => rfl
      | some o =>
        have := sl _ _ e
        rw [z] at this
        cases this
    have eC : (upd HA c (.lst [])) c = some (.lst []) := upd_same
    have eL2 : (upd HA c (.lst [])) l = some (.lst (stems.map .str)) := same_upd nc _ _ eL
    have s2 := sl.trans sc
    generalize upd HA c (.lst []) = HB at *
    refine g_nm ?_
    dsimp only
    refine t_seqF ?_
    refine ⟨_, rfl, _, rfl, by omega, by omega, ?_⟩
    rw [Int.toNat_natCast]
    refine for_range (fun i σ H' => ∃ (left found : List Str) (o4 : Option V), σ = [some (.ref p), some (.int (m : Nat)), some (.ref l), some (.ref c), o4] ∧ Same (hide p H) (hide p H') ∧ Pl H' p (n + i) ∧ H' l = some (.lst (left.map .str)) ∧ H' c = some (.lst (found.map .str)) ∧
      (found ++ left).Perm stems ∧ found.length = i) ⟨stems, [], _, rfl, s2, P2, eL2, eC, List.Perm.refl _, rfl⟩ ?_ ?_
    · rintro i σ H3 hi ⟨left, found, o4, rfl, s3, P3, el3, ef3, hp, hlen⟩
      have hl12 : left.length + i = 12 := by
        have := hp.length_eq
        rw [List.length_append] at this
        have e12 : stems.length = 12 := rfl
        omega
      refine g_nm ?_
      refine ⟨_, rfl, .inl ⟨rfl, _, SqL.of ef3⟩, _, rfl, .inl ⟨rfl, _, SqL.of el3⟩, _, rfl, _, rfl, .ref l, (left.map V.str).length, rfl, .inl ⟨_, SqL.of el3, rfl⟩, p, (left.map V.str).length, n + i, rfl, by rw [List.length_map]; omega, by rw [List.length_map]; omega, P3, by omega, fun r H4 hr4 h4 P4 => ?_⟩
      have lp3 : l ≠ p := lp
      have eat : ∀ b o, b ≠ p → H3 b = some o → H4 b = some o := fun b o hb e => by
        rw [← hide_ne (H := H4) hb, h4, hide_ne hb]
        exact e
      have el4 := eat _ _ lp el3
      have ef4 := eat _ _ cp ef3
      rw [List.length_map] at hr4
      have hr5 : r < left.length := by omega
      obtain ⟨x, hx⟩ : ∃ x, left[r]? = some x := ⟨_, List.getElem?_eq_getElem hr5⟩
      have hxv : (left.map V.str)[r]? = some (.str x) := by rw [List.getElem?_map, hx]; rfl
      have hsi : seqIndex? (r : Int) (left.map V.str).length = some r := by
        rw [seqIndex_of (by omega) (by rw [List.length_map]; omega), Int.toNat_natCast]
      refine ⟨l, _, (r : Int), r, .str x, rfl, rfl, el4, by omega, by omega, hsi, hxv, ?_⟩
      refine ⟨c, found.map V.str, .str x, rfl, rfl, by rw [upd_ne (Ne.symm lc)]; exact ef4, by rw [List.length_map, sizeLine_eq]; omega, ?_⟩
      refine ⟨left.eraseIdx r, found ++ [x], _, rfl, ?_, (P4.upd lp).upd cp, ?_, ?_, pick_perm hx hp, by rw [List.length_append, hlen]; rfl⟩
      · rw [hide_upd cp, hide_upd lp, h4]
        exact same_over ncp (same_over nlp s3)
      · rw [upd_ne lc, upd_same, erase_map]
      · rw [upd_same, List.map_append]
        rfl
    · rintro σ H3 ⟨left, found, o4, rfl, s3, P3, el3, ef3, hp, hlen⟩
      refine ⟨_, rfl, q found H3 c s3 P3 hlen ?_ ?_ ncp (by rw [hide_ne cp]; exact ef3)⟩
      · exact (List.nodup_append.mp (hp.nodup_iff.mpr (by decide +kernel))).1
      · exact fun z hz => hp.subset (List.mem_append_left _ hz)
end
end K63
end L2
set_option Elab.async false
set_option linter.all false
set_option maxRecDepth 100000
set_option maxHeartbeats 4000000
namespace L2
namespace K63
open PySem PySem.Spec PyProof.Rows K1 WL LamX
section
variable {P : Program} {w : World} {K : PySem.W.Frag} {mg : Str → Option Value} {base : Heap} {f : Addr} {fd : FuncData}
theorem pick_perm3 {α : Type} {found dr left xs : List α} {r : Nat} {x : α} (hx : left[r]? = some x) (h : (found ++ dr ++ left).Perm xs) : ((found ++ [x]) ++ dr ++ left.eraseIdx r).Perm xs ∧ (found ++ (dr ++ [x]) ++ left.eraseIdx r).Perm xs := by
  have h2 : (found ++ (dr ++ [x]) ++ left.eraseIdx r).Perm xs := by
    have := pick_perm hx h
    rw [← List.append_assoc]
    exact this
  refine ⟨?_, h2⟩
  refine List.Perm.trans ?_ h2
  refine List.Perm.append_right _ ?_
  rw [List.append_assoc]
  exact List.Perm.append_left _ (List.perm_append_comm)
def spPicked (K : PySem.W.Frag) : Sp := fun vs H Q _ => ∃ (p a : Addr) (sh : Int) (xs : List V) (n : Nat), vs = [.ref p, .ref a, .int sh] ∧ SqL K (hide p H) a xs ∧ xs.length ≤ 1000 ∧ Pl H p n ∧ n ≤ 800000000 ∧
  ∀ (ys zs : List V) H' q, (ys ++ zs).Perm xs → Same (hide p H) (hide p H') → Pl H' p (n + 2 * xs.length) → hide p H q = none → hide p H' q = some (.lst ys) → Q (.ref q) H'
/-! ### _law_picked -/
abbrev nmPK : List Str := ["_law_pool_here", "_law_things", "_law_share", "_law_left", "_law_found", "_law_k", "_law_thing"]
theorem sc_picked : FnScope nmPK ["_law_pool_here", "_law_things", "_law_share"] (defScope s_picked) := ⟨rfl, rfl, rfl, by decide +kernel, rfl, by decide +kernel, by decide +kernel⟩
theorem ok_picked (T : Bl mg) (fr : mg "range" = none) (Ct : Cal P w K mg base "_law_take" ["_law_pool_here", "_law_many"] 1 spTakeL) (F : FnP K "_law_picked" "_law_picked" s_picked f fd) : FnOk P w K mg base CX0 2 f fd ["_law_pool_here", "_law_things", "_law_share"] (spPicked K) := by
  obtain ⟨ft, fdt, Gt, gt, kt, bt⟩ := Ct.ex
  refine F.ok sc_picked (fun vs H Q E h => ?_) (fun cdv A outer s H vs Q E hr h => ?_)
  · obtain ⟨p, a, sh, xs, n, rfl, _⟩ := h
    rfl
  · have nd := sc_picked.nd
    refine ⟨_, PSs.nox (pss_cons (ps_set (i := 3) nd rfl (Or.inl rfl) (pe_callTy call_list_of rfl T.f_list PyProof.Rows.boot_list (pa_cons (pv 1) pa_nil)))
      (pss_cons (ps_set (i := 4) nd rfl (Or.inl rfl) (pe_lst pa_nil))
      (pss_cons (ps_for PassesOwn.never rfl (pi_range1 rfl fr (pa_cons (pe_callB call_len rfl T.f_len boot_len (pa_cons (pv 1) pa_nil)) pa_nil)) (pg_name (i := 5) nd rfl (Or.inl rfl))
        (pss_cons (ps_set (i := 6) nd rfl (Or.inl rfl) (pe_bm PySem.F.plainAttrs_list PySem.F.slot_list_pop PySem.F.type_list_pop mt_popAt (pv 3) (pa_cons (pe_call Gt hr rfl gt kt bt .nil pass0 (pa_cons (pv 0) (pa_cons (pe_callB call_len rfl T.f_len boot_len (pa_cons (pv 3) pa_nil)) pa_nil))) pa_nil)))
        (pss_one (ps_if (pt_cmpR op_lt (pe_call Gt hr rfl gt kt bt .nil pass0 (pa_cons (pv 0) (pa_cons pe_int pa_nil))) (pv 2) (nomark _)) (pss_one (ps_expr (pe_bm PySem.F.plainAttrs_list PySem.F.slot_list_append PySem.F.type_list_append mt_append (pv 4) (pa_cons (pv 6) pa_nil)))) pss_nil))))
      (pss_one (ps_ret (pv 4)))))), ?_⟩
    obtain ⟨p, a, sh, xs, n, rfl, hs, hl, hP, hn, q⟩ := h
    have hsH : SqL K H a xs := Same.seq hide_le hs
    refine ⟨_, rfl, a, xs, rfl, .inl hsH, fun l nl => ?_⟩
    obtain ⟨lp, sl, el⟩ := hide_new (o := .lst xs) hP.ne nl
    have P1 := hP.new (o := .lst xs) nl
    have eL : (upd H l (.lst xs)) l = some (.lst xs) := upd_same
    have nlp : hide p H l = none := hide_none nl
    generalize upd H l (.lst xs) = HA at *
    refine ⟨(show 0 ≤ sizeLine by decide), fun c nc => ?_⟩
    obtain ⟨cp, sc, ec⟩ := hide_new (o := .lst []) P1.ne nc
    have P2 := P1.new (o := .lst []) nc
    have lc : l ≠ c := ne_of_none eL nc
    have ncp : hide p H c = none := by
      have z : hide p HA c = none := hide_none nc
      cases e : hide p H c with
      | none => rfl
      | some o =>
        have := sl _ _ e
        rw [z] at this
        cases this
    have eC : (upd HA c (.lst [])) c = some (.lst []) := upd_same
    have eL2 : (upd HA c (.lst [])) l = some (.lst xs) := same_upd nc _ _ eL
    have s2 := sl.trans sc
    generalize upd HA c (.lst []) = HB at *
    have hs2 : SqL K HB a xs := Same.seq hide_le (s2.seq hs)
    refine g_nm ?_
    dsimp only
    refine t_seqF ?_
    refine ⟨_, rfl, .ref a, xs.length, rfl, .inl ⟨_, hs2, rfl⟩, _, rfl, by omega, by omega, ?_⟩
    rw [Int.toNat_natCast]
    refine for_range (fun i σ H' => ∃ (left found dr : List V) (o5 o6 : Option V), σ = [some (.ref p), some (.ref a), some (.int sh), some (.ref l), some (.ref c), o5, o6] ∧ Same (hide p H) (hide p H') ∧ Pl H' p (n + 2 * i) ∧ H' l = some (.lst left) ∧ H' c = some (.lst found) ∧
      (found ++ dr ++ left).Perm xs ∧ left.length + i = xs.length) ⟨xs, [], [], _, _, rfl, s2, P2, eL2, eC, List.Perm.refl _, rfl⟩ ?_ ?_
    · rintro i σ H3 hi ⟨left, found, dr, o5, o6, rfl, s3, P3, el3, ef3, hp, hlen⟩
      refine g_nm ?_
      refine ⟨_, rfl, .inl ⟨rfl, _, SqL.of el3⟩, _, rfl, _, rfl, .ref l, left.length, rfl, .inl ⟨_, SqL.of el3, rfl⟩, p, left.length, n + 2 * i, rfl, by omega, by omega, P3, by omega, fun r H4 hr4 h4 P4 => ?_⟩
      have eat : ∀ b o, b ≠ p → H3 b = some o → H4 b = some o := fun b o hb e => by
        rw [← hide_ne (H := H4) hb, h4, hide_ne hb]
        exact e
      have el4 := eat _ _ lp el3
      have ef4 := eat _ _ cp ef3
      have hr5 : r < left.length := by omega
      obtain ⟨x, hx⟩ : ∃ x, left[r]? = some x := ⟨_, List.getElem?_eq_getElem hr5⟩
      have hsi : seqIndex? (r : Int) left.length = some r := by
        rw [seqIndex_of (by omega) (by omega), Int.toNat_natCast]
      refine ⟨l, _, (r : Int), r, x, rfl, rfl, el4, by omega, by omega, hsi, hx, ?_⟩
      obtain ⟨k1, k2⟩ := pick_perm3 hx hp
      have e2 : (left.eraseIdx r).length + (i + 1) = xs.length := by
        have := List.length_eraseIdx_of_lt hr5
        omega
      have el5 : (upd H4 l (.lst (left.eraseIdx r))) l = some (.lst (left.eraseIdx r)) := upd_same
      have ef5 : (upd H4 l (.lst (left.eraseIdx r))) c = some (.lst found) := by rw [upd_ne (Ne.symm lc)]; exact ef4
      have s5 : Same (hide p H) (hide p (upd H4 l (.lst (left.eraseIdx r)))) := by
        rw [hide_upd lp, h4]
        exact same_over nlp s3
      have P5 := P4.upd (o := .lst (left.eraseIdx r)) lp
      generalize upd H4 l (.lst (left.eraseIdx r)) = H5 at *
      refine g_nm ?_
      refine ⟨_, rfl, p, 4, n + 2 * i + 1, rfl, by omega, by omega, P5, by omega, fun r2 H6 hr6 h6 P6 => ?_⟩
      have eat6 : ∀ b o, b ≠ p → H5 b = some o → H6 b = some o := fun b o hb e => by
        rw [← hide_ne (H := H6) hb, h6, hide_ne hb]
        exact e
      have el6 := eat6 _ _ lp el5
      have ef6 := eat6 _ _ cp ef5
      have s6 : Same (hide p H) (hide p H6) := by rw [h6]; exact s5
      refine ⟨_, rfl, _, _, rfl, rfl, _, rfl, ?_⟩
      refine ite2 (fun _ => ?_) fun _ => ?_
      · refine ⟨_, rfl, .inl ⟨rfl, _, SqL.of ef6⟩, _, rfl, c, found, x, rfl, rfl, ef6, ?_, ?_⟩
        · rw [sizeLine_eq]
          have := hp.length_eq
          rw [List.length_append, List.length_append] at this
          omega
        refine ⟨left.eraseIdx r, found ++ [x], dr, _, _, rfl, ?_, (P6.upd cp).le (by omega), ?_, upd_same, k1, e2⟩
        · rw [hide_upd cp]
          exact same_over ncp s6
        · rw [upd_ne lc]
          exact el6
      · exact ⟨left.eraseIdx r, found, dr ++ [x], _, _, rfl, s6, P6.le (by omega), el6, ef6, k2, e2⟩
    · rintro σ H3 ⟨left, found, dr, o5, o6, rfl, s3, P3, el3, ef3, hp, hlen⟩
      have e0 : left = [] := List.length_eq_zero_iff.mp (by omega)
      subst e0
      rw [List.append_nil] at hp
      exact ⟨_, rfl, q found dr H3 c hp s3 P3 ncp (by rw [hide_ne cp]; exact ef3)⟩
/-! ### _law_cells -/
def RowL (H : Hp) (v : V) (r : Str × List Str) : Prop := ∃ t l, v = .ref t ∧ H t = some (.lst [.str r.1, .ref l]) ∧ H l = some (.lst (r.2.map .str))
theorem RowL.same {H H' : Hp} {v : V} {r : Str × List Str} (h : RowL H v r) (s : Same H H') : RowL H' v r := let ⟨t, l, e, a, b⟩ := h; ⟨t, l, e, s _ _ a, s _ _ b⟩
def spCellsL (K : PySem.W.Frag) : Sp := fun vs H Q _ => ∃ (a : Addr) (vl : List V) (rs : Rws), vs = [.ref a] ∧ SqL K H a vl ∧ Paired (RowL H) vl rs ∧ rs.length ≤ 1000 ∧ ∀ D H', Same H H' → H' D = some (.lst ((rs.map Prod.fst).map .str)) → Q (.ref D) H'
theorem sc_cells : FnScope ["_law_rows", "_law_cell_here", "_law_sources"] ["_law_rows"] (defScope s_cells) := ⟨rfl, rfl, rfl, by decide +kernel, rfl, by decide +kernel, by decide +kernel⟩
theorem ok_cells (F : FnP K "_law_cells" "_law_cells" s_cells f fd) : FnOk P w K mg base CX0 1 f fd ["_law_rows"] (spCellsL K) := by
  refine F.ok sc_cells (fun vs H Q E h => ?_) (fun cdv A outer s H vs Q E hr h => ?_)
  · obtain ⟨a, vl, rs, rfl, _⟩ := h
    rfl
  · have nd := sc_cells.nd
    refine ⟨_, PSs.nox (pss_one (ps_ret (pe_lc (own := [("_law_cell_here", 1), ("_law_sources", 2)]) (g := gSeq K 2 (gCons (gName 1) (gCons (gName 2) gNil))) (tt := tYes) (te := tVar 1) rfl nd (pi_list (pv 0)) (blkOk_by (N := ["_law_rows", "_law_cell_here", "_law_sources"]) (sc := defScope s_cells) (by decide +kernel))
      (fun _ _ _ _ _ => pg_seq rfl (pgs_cons (pg_name (i := 1) nd rfl (Or.inl rfl)) (pgs_cons (pg_name (i := 2) nd rfl (Or.inl rfl)) pgs_nil))) (fun _ _ _ _ _ => pts_nil) (fun _ _ _ _ _ => pv 1)))), ?_⟩
    obtain ⟨a, vl, rs, rfl, hs, hrow, hl, q⟩ := h
    have lv := Paired.length hrow
    refine ⟨_, rfl, a, rfl, ⟨_, hs⟩, fun D nD => ?_⟩
    refine lc_it (walk_list (xs := vl)) (fun i H' => Same H H' ∧ H' D = some (.lst (((rs.take i).map Prod.fst).map .str))) ⟨same_upd nD, upd_same⟩ (fun i H' _ p => p.1.seq hs) ?_ ?_
    · rintro i x H1 H1' hi ⟨s1, e1⟩ ⟨rfl, hx⟩
      obtain ⟨r, hri, t, l, rfl, et, el⟩ := Paired.getL hrow hx
      refine ⟨_, ⟨t, rfl, .inl (SqL.of (s1 _ _ et))⟩, rfl, _, _, rfl, _, _, rfl, rfl, rfl, _, rfl, _, e1, ?_, same_over nD s1, ?_⟩
      · rw [List.length_map, List.length_map, List.length_take, sizeLine_eq]
        omega
      · rw [List.take_succ, hri, List.map_append, List.map_append]
        exact upd_same
    · rintro H1 ⟨s1, e1⟩
      rw [lv, List.take_length] at e1
      exact q D H1 s1 e1
end
end K63
end L2
set_option Elab.async false
set_option linter.all false
set_option maxRecDepth 100000
set_option maxHeartbeats 4000000
namespace L2
namespace K63
open PySem PySem.Spec PyProof.Rows K1 WL LamX
section
variable {P : Program} {w : World} {K : PySem.W.Frag} {mg : Str → Option Value} {base : Heap} {f : Addr} {fd : FuncData}
def cut7 (z : Str) : Str := cutS z none (some 7)
def stem7 : List Str := stems.map cut7
def arrO (cs : List Str) (s : Str) (o : Int) : List A3 := cs.map fun c => (s, o, c)
def arrS (cs : List Str) (s : Str) : List A3 := [(-1 : Int), 0, 1].flatMap (arrO cs s)
def arrAll (cs : List Str) : List A3 := cs.flatMap (arrS cs)
theorem arr_mem {cs : List Str} {a : A3} (h : a ∈ arrAll cs) : a.1 ∈ cs ∧ a.2.2 ∈ cs ∧ -1 ≤ a.2.1 ∧ a.2.1 ≤ 1 := by
  obtain ⟨s, hs, h1⟩ := List.mem_flatMap.mp h
  obtain ⟨o, ho, h2⟩ := List.mem_flatMap.mp h1
  obtain ⟨c, hc, rfl⟩ := List.mem_map.mp h2
  refine ⟨hs, hc, ?_⟩
  show (-1 : Int) ≤ o ∧ o ≤ 1
  rcases List.mem_cons.mp ho with rfl | ho
  · decide
  rcases List.mem_cons.mp ho with rfl | ho
  · decide
  rcases List.mem_cons.mp ho with rfl | ho
  · decide
  · nomatch ho
theorem arr_nodup {cs : List Str} (h : cs.Nodup) : (arrAll cs).Nodup := by
  refine List.pairwise_flatMap.mpr ⟨fun s hs => ?_, List.Pairwise.imp (fun {s s'} hss x hx y hy e => ?_) h⟩
  · refine List.pairwise_flatMap.mpr ⟨fun o ho => List.pairwise_map.mpr (List.Pairwise.imp (fun hab e => hab (congrArg (fun z : A3 => z.2.2) e)) h), ?_⟩
    refine List.Pairwise.imp (R := fun a b : Int => a ≠ b) (fun {o o'} hoo x hx y hy e => ?_) (by decide)
    obtain ⟨c, _, rfl⟩ := List.mem_map.mp hx
    obtain ⟨c', _, rfl⟩ := List.mem_map.mp hy
    exact hoo (congrArg (fun z : A3 => z.2.1) e)
  · obtain ⟨o, _, h2⟩ := List.mem_flatMap.mp hx
    obtain ⟨c, _, rfl⟩ := List.mem_map.mp h2
    obtain ⟨o', _, h2'⟩ := List.mem_flatMap.mp hy
    obtain ⟨c', _, rfl⟩ := List.mem_map.mp h2'
    exact hss (congrArg (fun z : A3 => z.1) e)
theorem arrO_len (cs : List Str) (s : Str) (o : Int) : (arrO cs s o).length = cs.length := List.length_map _
theorem arrS_len (cs : List Str) (s : Str) : (arrS cs s).length = 3 * cs.length := by
  show (arrO cs s (-1) ++ (arrO cs s 0 ++ (arrO cs s 1 ++ []))).length = _
  rw [List.length_append, List.length_append, List.length_append, arrO_len, arrO_len, arrO_len]
  simp
  omega
theorem arrT_len (cs : List Str) : ∀ l : List Str, (l.flatMap (arrS cs)).length = l.length * (3 * cs.length)
  | [] => by simp
  | a :: l => by
    rw [List.flatMap_cons, List.length_append, arrT_len cs l, arrS_len, List.length_cons, Nat.add_mul, Nat.one_mul, Nat.add_comm]
theorem arrJ_len (cs : List Str) (s : Str) : ∀ l : List Int, (l.flatMap (arrO cs s)).length = l.length * cs.length
  | [] => by simp
  | a :: l => by
    rw [List.flatMap_cons, List.length_append, arrJ_len cs s l, arrO_len, List.length_cons, Nat.add_mul, Nat.one_mul, Nat.add_comm]
theorem cut_le {xs : List V} {i : Nat} : cutV xs none (some (i : Int)) = xs.take i := by
  by_cases h : i ≤ xs.length
  · exact cut_to h
  · have e2 : HT.sIx xs.length xs.length (some (i : Int)) = xs.length := by
      rw [HT.sIx_nat]
      omega
    unfold cutV
    rw [e2]
    show (xs.drop 0).take (xs.length - 0) = _
    rw [List.drop_zero, Nat.sub_zero, List.take_length, List.take_of_length_le (by omega)]
theorem stem_ok : ∀ z ∈ stem7, isNm z = true ∧ z.length ≤ 7 := by decide +kernel
theorem stem_inj : ∀ a ∈ stems, ∀ b ∈ stems, cut7 a = cut7 b → a = b := by decide +kernel
theorem stem_len : ∀ a ∈ stems, a.length ≤ 8 := by decide +kernel
theorem cut7_nodup {zs : List Str} (h : zs.Nodup) (hs : ∀ z ∈ zs, z ∈ stems) : (zs.map cut7).Nodup :=
  List.pairwise_map.mpr (List.Pairwise.imp_of_mem (fun {a b} ha hb (hab : a ≠ b) e => hab (stem_inj a (hs a ha) b (hs b hb) e)) h)
theorem paired_perm {α β : Type} {R : α → β → Prop} {l l' : List α} (p : l.Perm l') : ∀ {m : List β}, Paired R l m → ∃ m', m.Perm m' ∧ Paired R l' m' := by
  induction p with
  | nil => exact fun h => ⟨_, List.Perm.refl _, h⟩
  | cons x _ ih =>
    intro m h
    cases h with
    | cons h t =>
      obtain ⟨m', p, h'⟩ := ih t
      exact ⟨_, List.Perm.cons _ p, .cons h h'⟩
  | swap x y l =>
    intro m h
    cases h with
    | cons h t =>
      cases t with
      | cons h2 t => exact ⟨_, List.Perm.swap _ _ _, .cons h2 (.cons h t)⟩
  | trans _ _ ih1 ih2 =>
    intro m h
    obtain ⟨m1, p1, h1⟩ := ih1 h
    obtain ⟨m2, p2, h2⟩ := ih2 h1
    exact ⟨m2, p1.trans p2, h2⟩
theorem paired_append {α β : Type} {R : α → β → Prop} : ∀ {l1 l2 : List α} {m1 m2 : List β}, Paired R l1 m1 → Paired R l2 m2 → Paired R (l1 ++ l2) (m1 ++ m2)
  | _, _, _, _, .nil, h => h
  | _, _, _, _, .cons h t, h2 => .cons h (paired_append t h2)
theorem paired_app {α β : Type} {R : α → β → Prop} : ∀ {l1 l2 : List α} {m : List β}, Paired R (l1 ++ l2) m → ∃ m1 m2, m = m1 ++ m2 ∧ Paired R l1 m1 ∧ Paired R l2 m2
  | [], l2, m, h => ⟨[], m, rfl, .nil, h⟩
  | a :: l1, l2, m, h => by
    cases h with
    | cons h t =>
      obtain ⟨m1, m2, rfl, h1, h2⟩ := paired_app t
      exact ⟨_ :: m1, m2, rfl, .cons h h1, h2⟩
/-! ### _law_piece -/
/-- what the law's helper makes -/
structure PcMade (cs : List Str) (as : List A3) : Prop where
  ok : PcOk cs as
  l3 : cs.length ≤ 3
  l10 : as.length ≤ 10
  st : ∀ c ∈ cs, c ∈ stem7
def spPieceL (K : PySem.W.Frag) : Sp := fun vs H Q _ => ∃ (p : Addr) (n : Nat), vs = [.ref p, .int 3] ∧ Pl H p n ∧ n ≤ 700000000 ∧
  ∀ (cs : List Str) (as : List A3) (av : List V) H' t lc la, PcMade cs as → Same (hide p H) (hide p H') → Pl H' p (n + 100) → hide p H t = none → hide p H lc = none → hide p H la = none → t ≠ lc → t ≠ la → lc ≠ la →
    hide p H' t = some (.tup [.ref lc, .ref la]) → hide p H' lc = some (.lst (cs.map .str)) → hide p H' la = some (.lst av) → Paired (Trip K (hide p H')) av as → Q (.ref t) H'
abbrev nmLP : List Str := ["_law_pool_here", "_law_most", "_law_cells_here", "_law_some", "_law_source", "_law_offset", "_law_name", "_law_cell_here"]
theorem sc_piece : FnScope nmLP ["_law_pool_here", "_law_most"] (defScope s_piece) := ⟨rfl, rfl, rfl, by decide +kernel, rfl, by decide +kernel, by decide +kernel⟩
theorem ok_piece (T : Bl mg) (Ct : Cal P w K mg base "_law_take" ["_law_pool_here", "_law_many"] 1 spTakeL) (Cn : Cal P w K mg base "_law_names" ["_law_pool_here", "_law_many"] 2 (spNames63 K)) (Cp : Cal P w K mg base "_law_picked" ["_law_pool_here", "_law_things", "_law_share"] 2 (spPicked K))
    (F : FnP K "_law_piece" "_law_piece" s_piece f fd) : FnOk P w K mg base CX0 3 f fd ["_law_pool_here", "_law_most"] (spPieceL K) := by
  obtain ⟨ft, fdt, Gt, gt, kt, bt⟩ := Ct.ex
  obtain ⟨fn, fdn, Gn, gn, kn, bn⟩ := Cn.ex
  obtain ⟨fp, fdp, Gp, gp, kp, bp⟩ := Cp.ex
  refine F.ok sc_piece (fun vs H Q E h => ?_) (fun cdv A outer s H vs Q E hr h => ?_)
  · obtain ⟨p, n, rfl, _⟩ := h
    rfl
  · have nd := sc_piece.nd
    have h1 := hr.mono (show 1 ≤ 2 by decide)
    refine ⟨_, PSs.nox (pss_cons (ps_setLc (i := 2) (own := [("_law_name", 6)]) (g := gName 6) (tt := tYes) rfl nd rfl rfl (sw_true rfl rfl rfl (by decide +kernel)) (pi_list (pe_call Gn hr rfl gn kn bn .nil pass0 (pa_cons (pv 0) (pa_cons (pe_op op_add pe_int (pe_call Gt h1 rfl gt kt bt .nil pass0 (pa_cons (pv 0) (pa_cons (pv 1) pa_nil)))) pa_nil))))
        (blkOk_by (N := nmLP) (sc := defScope s_piece) (by decide +kernel)) (fun _ _ _ _ _ => pg_name (i := 6) nd rfl (Or.inl rfl)) (fun _ _ _ _ _ => pts_nil) (fun _ _ _ _ _ => pe_slice sl_str (pv 6) po_none (po_some pe_int)))
      (pss_cons (ps_set (i := 3) nd rfl (Or.inl rfl) (pe_lst pa_nil))
      (pss_cons (ps_for PassesOwn.never rfl (pi_list (pv 2)) (pg_name (i := 4) nd rfl (Or.inr rfl))
        (pss_one (ps_for PassesOwn.never rfl (pi_tup (pe_tup (pa_cons (pe_un un_neg pe_int) (pa_cons pe_int (pa_cons pe_int pa_nil))))) (pg_name (i := 5) nd rfl (Or.inr rfl))
          (pss_one (ps_expr (pe_bm PySem.F.plainAttrs_list PySem.F.slot_list_extend PySem.F.type_list_extend mt_extend (pv 3) (pa_cons (pe_lc (own := [("_law_cell_here", 7)]) (g := gName 7) (tt := tYes) rfl nd (pi_list (pv 2)) (blkOk_by (N := nmLP) (sc := defScope s_piece) (by decide +kernel))
            (fun _ _ _ _ _ => pg_name (i := 7) nd rfl (Or.inl rfl)) (fun _ _ _ _ _ => pts_nil) (fun _ _ _ _ _ => pe_tup (pa_cons (pv 4) (pa_cons (pv 5) (pa_cons (pv 7) pa_nil))))) pa_nil)))))))
      (pss_one (ps_ret (pe_tup (pa_cons (pv 2) (pa_cons (pe_slice sl_list (pe_call Gp hr rfl gp kp bp .nil pass0 (pa_cons (pv 0) (pa_cons (pv 3) (pa_cons (pe_op op_add pe_int (pe_call Gt h1 rfl gt kt bt .nil pass0 (pa_cons (pv 0) (pa_cons pe_int pa_nil)))) pa_nil)))) po_none (po_some pe_int)) pa_nil)))))))), ?_⟩
    obtain ⟨p, n, rfl, hP, hn, q⟩ := h
    refine t_seqAsg ?_
    refine ⟨_, rfl, _, rfl, _, rfl, p, 3, n, rfl, by decide, by decide, hP, by omega, fun r H1 hr1 e1 P1 => ?_⟩
    refine ⟨1, r, rfl, rfl, p, 1 + r, n + 1, (show ([V.ref p, V.int (1 + (r : Int))] : List V) = [V.ref p, V.int ((1 + r : Nat) : Int)] by rw [show ((1 + r : Nat) : Int) = 1 + (r : Int) by omega]), by omega, P1, by omega, fun zs H2 l s2 P2 hlen hnd hst fl el => ?_⟩
    rw [e1] at s2 fl
    refine ⟨l, rfl, ⟨_, SqL.of (hide_some el).2⟩, fun D nD => ?_⟩
    refine lc_it (walk_list (xs := zs.map .str)) (fun i H' => Same H2 H' ∧ H' D = some (.lst (((zs.take i).map cut7).map .str))) ⟨same_upd nD, upd_same⟩ (fun i H' _ p => SqL.of (p.1 _ _ (hide_some el).2)) ?_ ?_
    · rintro i x H3 H3' hi ⟨s3, e3⟩ ⟨rfl, hx⟩
      rw [List.getElem?_map] at hx
      obtain ⟨z, hz, rfl⟩ := Option.map_eq_some_iff.mp hx
      refine ⟨rfl, _, rfl, _, rfl, z, rfl, ?_, _, e3, ?_, same_over nD s3, ?_⟩
      · have := stem_len z (hst z (List.mem_of_getElem? hz))
        rw [sizeLine_eq]
        omega
      · rw [List.length_map, List.length_map, List.length_take, sizeLine_eq]
        omega
      · rw [List.take_succ, hz, List.map_append, List.map_append]
        exact upd_same
    rintro HC ⟨sC, eD⟩
    rw [List.length_map, List.take_length] at eD
    have lcs : (zs.map cut7).length ≤ 3 := by rw [List.length_map]; omega
    have hst7 : ∀ c ∈ zs.map cut7, c ∈ stem7 := fun c hc => by
      obtain ⟨z, hz, rfl⟩ := List.mem_map.mp hc
      exact List.mem_map_of_mem (hst z hz)
    have ncs : (zs.map cut7).Nodup := cut7_nodup hnd hst
    have necs : zs.map cut7 ≠ [] := fun e => by
      have := congrArg List.length e
      rw [List.length_map, hlen] at this
      simp at this
    generalize zs.map cut7 = cs at *
    have DH : hide p H D = none := by
      cases e : hide p H D with
      | none => rfl
      | some o =>
        have := hide_le _ _ (s2 _ _ e)
        rw [nD] at this
        cases this
    have PC := P2.same sC
    have Dp : D ≠ p := fun e => PC.ne (by
      exfalso
      exact P2.ne (e ▸ nD))
    refine g_nm ?_
    dsimp only
    refine t_seqAsg ?_
    refine ⟨(show 0 ≤ sizeLine by decide), fun c nc => ?_⟩
    have cp : c ≠ p := fun e => PC.ne (e ▸ nc)
    have cD : c ≠ D := fun e => by rw [e, eD] at nc; cases nc
    refine g_nm ?_
    refine t_seqF ?_
    refine ⟨_, rfl, D, rfl, ⟨_, SqL.of (same_upd nc _ _ eD)⟩, ?_⟩
    refine for_it (walk_list (xs := cs.map .str)) (fun i σ H' => ∃ (vl : List V) (o4 o5 o6 o7 : Option V), σ = [some (.ref p), some (.int 3), some (.ref D), some (.ref c), o4, o5, o6, o7] ∧ Same HC H' ∧ H' c = some (.lst vl) ∧ Paired (Trip K (hide c H')) vl ((cs.take i).flatMap (arrS cs)))
      ⟨[], _, _, _, _, rfl, same_upd nc, upd_same, .nil⟩ (fun i σ H' _ ⟨vl, _, _, _, _, _, s3, _⟩ => SqL.of (s3 _ _ eD)) ?_ ?_
    · rintro i x σ H3o H3 hi ⟨vl, o4, o5, o6, o7, rfl, s3, ec3, hvl⟩ ⟨rfl, hx⟩
      rw [List.getElem?_map] at hx
      obtain ⟨s, hsi, rfl⟩ := Option.map_eq_some_iff.mp hx
      refine g_nm ?_
      refine ⟨_, rfl, (show 3 ≤ sizeLine by decide), fun t nt => ?_⟩
      have st : Same H3 (upd H3 t (.tup [(fun i : Int => V.int (-i)) 1, V.int 0, V.int 1])) := same_upd nt
      have et : (upd H3 t (.tup [(fun i : Int => V.int (-i)) 1, V.int 0, V.int 1])) t = some (.tup ([-1, 0, 1].map V.int)) := upd_same
      have ec4 := st _ _ ec3
      have tc : t ≠ c := fun e => by rw [e, ec3] at nt; cases nt
      have hvl4 : Paired (Trip K (hide c (upd H3 t (.tup [(fun i : Int => V.int (-i)) 1, V.int 0, V.int 1])))) vl ((cs.take i).flatMap (arrS cs)) := Paired.imp (fun _ _ h => h.same (hide_same st)) hvl
      have s4 := s3.trans st
      refine ⟨t, rfl, ⟨_, SqT.of et⟩, ?_⟩
      generalize upd H3 t (.tup [(fun i : Int => V.int (-i)) 1, V.int 0, V.int 1]) = H4 at *
      refine for_it (walk_tup (xs := [-1, 0, 1].map V.int)) (fun j σ H' => ∃ (vl : List V) (o5 o6 o7 : Option V), σ = [some (.ref p), some (.int 3), some (.ref D), some (.ref c), some (.str s), o5, o6, o7] ∧ (Same HC H' ∧ H' t = some (.tup ([-1, 0, 1].map V.int))) ∧ H' c = some (.lst vl) ∧ Paired (Trip K (hide c H')) vl ((cs.take i).flatMap (arrS cs) ++ ([-1, 0, 1].take j).flatMap (arrO cs s)))
        ⟨vl, _, _, _, rfl, ⟨s4, et⟩, ec4, by simpa using hvl4⟩ (fun j σ H' _ ⟨vl, _, _, _, _, s5, _⟩ => SqT.of s5.2) ?_ ?_
      · rintro j x σ H5o H5 hj ⟨vl, o5, o6, o7, rfl, ⟨s35, et5⟩, ec5, hvl5⟩ ⟨rfl, hx⟩
        rw [List.getElem?_map] at hx
        obtain ⟨o, hoj, rfl⟩ := Option.map_eq_some_iff.mp hx
        have eD5 := s35 _ _ eD
        refine g_nm ?_
        refine ⟨_, rfl, .inl ⟨rfl, _, SqL.of ec5⟩, _, rfl, D, rfl, ⟨_, SqL.of eD5⟩, fun D2 nD2 => ?_⟩
        have D2c : D2 ≠ c := fun e => by rw [e, ec5] at nD2; cases nD2
        refine lc_it (walk_list (xs := cs.map .str)) (fun m H' => Same H5 H' ∧ ∃ nl, H' D2 = some (.lst nl) ∧ Paired (Trip K (hide D2 H')) nl ((arrO cs s o).take m)) ⟨same_upd nD2, [], upd_same, .nil⟩ (fun m H' _ z => SqL.of (z.1 _ _ eD5)) ?_ ?_
        · rintro m x H6o H6 hm ⟨s6, nl, e6, hnl⟩ ⟨rfl, hx⟩
          rw [List.getElem?_map] at hx
          obtain ⟨z, hz, rfl⟩ := Option.map_eq_some_iff.mp hx
          refine ⟨rfl, _, rfl, _, rfl, _, rfl, (show 3 ≤ sizeLine by decide), fun u nu => ?_⟩
          have su : Same H6 (upd H6 u (.tup [.str s, .int o, .str z])) := same_upd nu
          have e7 := su _ _ e6
          have uD2 : u ≠ D2 := fun e => by rw [e, e6] at nu; cases nu
          refine ⟨nl, e7, ?_, same_over nD2 (s6.trans su), _, upd_same, ?_⟩
          · rw [Paired.length hnl, List.length_take, arrO_len, sizeLine_eq]
            omega
          · have et : (arrO cs s o).take (m + 1) = (arrO cs s o).take m ++ [(s, o, z)] := by
              rw [List.take_succ, show (arrO cs s o)[m]? = some (s, o, z) by unfold arrO; rw [List.getElem?_map, hz]; rfl]
              rfl
            rw [hide_updp, et]
            refine Paired.snoc (Paired.imp (fun _ _ h => h.same (hide_same su)) hnl) ⟨u, rfl, SqT.of ?_⟩
            rw [hide_ne uD2]
            exact upd_same
        · rintro H6 ⟨s6, nl, e6, hnl⟩
          have el6 : (arrO cs s o).take ((cs.map V.str).length) = arrO cs s o := List.take_of_length_le (by rw [arrO_len, List.length_map]; exact Nat.le_refl _)
          rw [el6] at hnl
          have ec6 := s6 _ _ ec5
          have trc : ∀ {v a}, Trip K H6 v a → Trip K (hide c H6) v a := fun h => by
            obtain ⟨q1, e, h2⟩ := h
            exact ⟨q1, e, sqt_hide h2 ec6 (fun ys z => nomatch z) fun q ys z => nomatch z⟩
          refine ⟨c, D2, vl, nl, rfl, rfl, ec6, e6, ?_, vl ++ nl, _, _, _, rfl, ?_, upd_same, ?_⟩
          · rw [Paired.length hvl5, Paired.length hnl, arrO_len, List.length_append, arrT_len, arrJ_len, List.length_take, List.length_take, sizeLine_eq]
            have z1 : min i cs.length * (3 * cs.length) ≤ 3 * 9 := Nat.mul_le_mul (by omega) (by omega)
            have z2 : min j ([-1, 0, 1] : List Int).length * cs.length ≤ 3 * 3 := Nat.mul_le_mul (Nat.le_trans (Nat.min_le_right _ _) (by decide)) (by omega)
            omega
          · exact ⟨same_over nc (s35.trans s6), by rw [upd_ne tc]; exact s6 _ _ et5⟩
          · have e3 : ([-1, 0, 1].take (j + 1)).flatMap (arrO cs s) = ([-1, 0, 1].take j).flatMap (arrO cs s) ++ arrO cs s o := by
              rw [List.take_succ, hoj, List.flatMap_append]
              simp
            rw [hide_updp, e3, ← List.append_assoc]
            exact paired_append (Paired.imp (fun _ _ h => h.same (hide_same s6)) hvl5) (Paired.imp (fun _ _ h => trc (h.same hide_le)) hnl)
      · rintro σ H5 ⟨vl, o5, o6, o7, rfl, ⟨s35, et5⟩, ec5, hvl5⟩
        refine ⟨vl, _, _, _, _, rfl, s35, ec5, ?_⟩
        have e3 : (cs.take (i + 1)).flatMap (arrS cs) = (cs.take i).flatMap (arrS cs) ++ arrS cs s := by
          rw [List.take_succ, hsi, List.flatMap_append]
          simp
        rw [e3]
        exact hvl5
    · rintro σ H3 ⟨vl, o4, o5, o6, o7, rfl, s3, ec3, hvl⟩
      rw [List.length_map, List.take_length] at hvl
      have P3 := PC.same s3
      have eD3 := s3 _ _ eD
      refine ⟨_, rfl, _, rfl, _, rfl, _, rfl, p, 2, n + 1 + (1 + r), rfl, by decide, by decide, P3, by omega, fun r2 H4 hr4 h4 P4 => ?_⟩
      have hc4 : hide p H4 c = some (.lst vl) := by rw [h4, hide_ne cp]; exact ec3
      have hlv : vl.length ≤ 27 := by
        rw [Paired.length hvl, arrT_len]
        have : cs.length * (3 * cs.length) ≤ 3 * 9 := Nat.mul_le_mul (by omega) (by omega)
        omega
      refine ⟨1, r2, rfl, rfl, p, c, _, vl, n + 1 + (1 + r) + 1, rfl, SqL.of hc4, by omega, P4, by omega, fun ys zs H5 q5 hperm s5 P5 fq eq => ?_⟩
      refine ⟨_, rfl, q5, ys, rfl, SqL.of (hide_some eq).2, fun d nd5 => ?_⟩
      refine ⟨(show 2 ≤ sizeLine by decide), fun t nt => ?_⟩
      have c10 : cutV ys none (some 10) = ys.take 10 := cut_le (i := 10)
      rw [c10] at nt ⊢
      obtain ⟨m', pm, hm'⟩ := paired_perm hperm.symm hvl
      obtain ⟨m1, m2, rfl, hm1, _⟩ := paired_app hm'
      have nm1 : m1.Nodup := (List.nodup_append.mp (pm.nodup_iff.mp (arr_nodup ncs))).1
      have hmem : ∀ a ∈ m1.take 10, a ∈ arrAll cs := fun a ha => pm.symm.subset (List.mem_append_left _ (List.mem_of_mem_take ha))
      have hl10 : (m1.take 10).length ≤ 10 := by rw [List.length_take]; omega
      have made : PcMade cs (m1.take 10) := ⟨⟨ncs, necs, fun c hc => stem_ok c (hst7 c hc), by omega, nm1.sublist (List.take_sublist _ _), by omega, fun a ha => arr_mem (hmem a ha)⟩, lcs, hl10, hst7⟩
      have s23 : Same (hide p H) (hide p H3) := s2.trans (hide_same (sC.trans s3))
      rw [h4] at s5 fq
      have s25 := s23.trans s5
      obtain ⟨dp, sd, ed⟩ := hide_new (o := .lst (ys.take 10)) P5.ne nd5
      have P6 := P5.new (o := .lst (ys.take 10)) nd5
      obtain ⟨tp, st, et⟩ := hide_new (o := .tup [.ref D, .ref d]) P6.ne nt
      have P7 := P6.new (o := .tup [.ref D, .ref d]) nt
      have td : d ≠ t := ne_of_none upd_same nt
      have eD5 := s5 _ _ (show hide p H3 D = _ by rw [hide_ne Dp]; exact eD3)
      have eD6 := sd _ _ eD5
      have eD7 := st _ _ eD6
      have tD : t ≠ D := fun e => by
        have := (hide_some eD6).2
        rw [← e, nt] at this
        cases this
      have dD : D ≠ d := fun e => by
        have := (hide_some eD5).2
        rw [e, nd5] at this
        cases this
      obtain ⟨a1, a2, a3, ep3, _⟩ := id P3
      have tr : ∀ {v : V} {a : A3}, Trip K (hide c H3) v a → Trip K (hide p (upd (upd H5 d (.lst (ys.take 10))) t (.tup [.ref D, .ref d]))) v a := fun h => by
        obtain ⟨q1, e, h2⟩ := h
        exact ⟨q1, e, SqT.same (sqt_hide (SqT.same h2 hide_le) ep3 (fun ys z => nomatch z) fun q ys z => nomatch z) ((s5.trans sd).trans st)⟩
      refine q cs (m1.take 10) (ys.take 10) _ t D d made ((s25.trans sd).trans st) (P7.le ?_) ((s25.trans sd).free (hide_none nt)) DH (s25.free (hide_none nd5)) tD (Ne.symm td) dD et eD7 (st _ _ ed) (paired_take 10 (Paired.imp (fun _ _ h => tr h) hm1))
      omega
end
end K63
end L2
set_option Elab.async false
set_option linter.all false
set_option maxRecDepth 100000
set_option maxHeartbeats 4000000
namespace L2
namespace K63
open PySem PySem.Spec PyProof.Rows K1 WL LamX
section
variable {P : Program} {w : World} {K : PySem.W.Frag} {mg : Str → Option Value} {base : Heap} {f : Addr} {fd : FuncData}
theorem srcs_step {as : List A3} {c : Str} {k n j : Nat} {a : A3} (h : as[j]? = some a) : srcsOf (as.take (j + 1)) c k n = srcsOf (as.take j) c k n ++ (if (decide (a.2.2 = c) && (decide (0 ≤ (k : Int) + a.2.1) && decide ((k : Int) + a.2.1 < (n : Int)))) = true then [a.1 ++ ltr ((k : Int) + a.2.1).toNat] else []) := by
  unfold srcsOf fnd
  rw [filt_take h]
  cases decide (a.2.2 = c) with
  | false => simp
  | true =>
    rw [if_pos rfl, List.map_append, List.filter_append, List.map_append, Bool.true_and]
    congr 1
    show List.map _ (List.filter _ [(a.1, (k : Int) + a.2.1)]) = _
    rw [List.filter_cons, List.filter_nil]
    cases (decide (0 ≤ (k : Int) + a.2.1) && decide ((k : Int) + a.2.1 < (n : Int))) <;> rfl
def spLine (K : PySem.W.Frag) : Sp := fun vs H Q _ => ∃ (lc la : Addr) (cs : List Str) (as : List A3) (av : List V) (n : Nat), vs = [.ref lc, .ref la, .int (n : Nat)] ∧ SqL K H lc (cs.map .str) ∧ SqL K H la av ∧ Paired (Trip K H) av as ∧ PcOk cs as ∧ n ≤ 26 ∧
  ∀ D vl H', Same H H' → H D = none → H' D = some (.lst vl) → Paired (RowL H') vl (rowsOf cs as n) → Q (.ref D) H'
/-! ### _law_line_of -/
abbrev nmLO : List Str := ["_law_cells_here", "_law_arrows", "_law_n", "_law_found", "_law_k", "_law_cell_here", "_law_near", "_law_source", "_law_offset", "_law_target"]
theorem sc_line : FnScope nmLO ["_law_cells_here", "_law_arrows", "_law_n"] (defScope s_line_of) := ⟨rfl, rfl, rfl, by decide +kernel, rfl, by decide +kernel, by decide +kernel⟩
theorem ok_line (fr : mg "range" = none) (F : FnP K "_law_line_of" "_law_line_of" s_line_of f fd) : FnOk P w K mg base CX0 1 f fd ["_law_cells_here", "_law_arrows", "_law_n"] (spLine K) := by
  refine F.ok sc_line (fun vs H Q E h => ?_) (fun cdv A outer s H vs Q E hr h => ?_)
  · obtain ⟨lc, la, cs, as, av, n, rfl, _⟩ := h
    rfl
  · have nd := sc_line.nd
    refine ⟨_, PSs.nox (pss_cons (ps_set (i := 3) nd rfl (Or.inl rfl) (pe_lst pa_nil))
      (pss_cons (ps_for PassesOwn.never rfl (pi_range1 rfl fr (pa_cons (pv 2) pa_nil)) (pg_name (i := 4) nd rfl (Or.inl rfl))
        (pss_one (ps_for PassesOwn.never rfl (pi_list (pv 0)) (pg_name (i := 5) nd rfl (Or.inl rfl))
          (pss_cons (ps_set (i := 6) nd rfl (Or.inl rfl) (pe_lst pa_nil))
          (pss_cons (ps_for PassesOwn.never rfl (pi_list (pv 1)) (pg_seq rfl (pgs_cons (pg_name (i := 7) nd rfl (Or.inl rfl)) (pgs_cons (pg_name (i := 8) nd rfl (Or.inl rfl)) (pgs_cons (pg_name (i := 9) nd rfl (Or.inl rfl)) pgs_nil))))
            (pss_one (ps_if (PW.pt (pw_and (pt_cmpR op_eq (pv 9) (pv 5) (nomark _)) (pw_and1 (pt_chain op_le op_lt pe_int (pe_op op_add (pv 4) (pv 8)) (pv 2))))) (pss_one (ps_expr (pe_bm PySem.F.plainAttrs_list PySem.F.slot_list_append PySem.F.type_list_append mt_append (pv 6) (pa_cons
              (pe_op op_add_str (pv 7) (pe_ix ix_str pe_str (pe_op op_add (pv 4) (pv 8)) fun _ _ => rfl)) pa_nil)))) pss_nil)))
          (pss_one (ps_expr (pe_bm PySem.F.plainAttrs_list PySem.F.slot_list_append PySem.F.type_list_append mt_append (pv 3) (pa_cons (pe_lst (pa_cons (pe_op op_add_str (pv 5) (pe_ix ix_str pe_str (pv 4) fun _ _ => rfl)) (pa_cons (pv 6) pa_nil))) pa_nil)))))))))
      (pss_one (ps_ret (pv 3))))), ?_⟩
    obtain ⟨lc, la, cs, as, av, n, rfl, hlc, hla, hav, ok, hn, q⟩ := h
    have lav : av.length = as.length := Paired.length hav
    refine ⟨(show 0 ≤ sizeLine by decide), fun c nc => ?_⟩
    refine g_nm ?_
    dsimp only
    refine t_seqF ?_
    refine ⟨_, rfl, _, rfl, by omega, by omega, ?_⟩
    rw [Int.toNat_natCast]
    refine for_range (fun i σ H' => ∃ (vl : List V) (o4 o5 o6 o7 o8 o9 : Option V), σ = [some (.ref lc), some (.ref la), some (.int (n : Nat)), some (.ref c), o4, o5, o6, o7, o8, o9] ∧ Same H H' ∧ H' c = some (.lst vl) ∧ Paired (RowL (hide c H')) vl (rowsP cs as n i))
      ⟨[], _, _, _, _, _, _, rfl, same_upd nc, upd_same, .nil⟩ ?_ ?_
    · rintro i σ H3 hi ⟨vl, o4, o5, o6, o7, o8, o9, rfl, s3, ec3, hvl⟩
      rw [show (0 : Int) + (i : Int) = (i : Nat) by omega]
      refine g_nm ?_
      refine ⟨_, rfl, lc, rfl, ⟨_, s3.seq hlc⟩, ?_⟩
      refine for_it (walk_list (xs := cs.map .str)) (fun m σ H' => ∃ (vl : List V) (o5 o6 o7 o8 o9 : Option V), σ = [some (.ref lc), some (.ref la), some (.int (n : Nat)), some (.ref c), some (.int (i : Nat)), o5, o6, o7, o8, o9] ∧ Same H H' ∧ H' c = some (.lst vl) ∧ Paired (RowL (hide c H')) vl (rowsP cs as n i ++ (rowF cs as n i).take m))
        ⟨vl, _, _, _, _, _, rfl, s3, ec3, by simpa using hvl⟩ (fun m σ H' _ ⟨vl, _, _, _, _, _, _, s4, _⟩ => s4.seq hlc) ?_ ?_
      · rintro m x σ H4o H4 hm ⟨vl, o5, o6, o7, o8, o9, rfl, s4, ec4, hvl4⟩ ⟨rfl, hx⟩
        rw [List.getElem?_map] at hx
        obtain ⟨z, hz, rfl⟩ := Option.map_eq_some_iff.mp hx
        refine g_nm ?_
        refine ⟨(show 0 ≤ sizeLine by decide), fun d ndd => ?_⟩
        have dc : d ≠ c := fun e => by rw [e, ec4] at ndd; cases ndd
        refine g_nm ?_
        dsimp only
        refine t_seqF ?_
        refine ⟨_, rfl, la, rfl, ⟨_, (s4.trans (same_upd ndd)).seq hla⟩, ?_⟩
        refine for_it (walk_list (xs := av)) (fun j σ H' => ∃ (o7 o8 o9 : Option V), σ = [some (.ref lc), some (.ref la), some (.int (n : Nat)), some (.ref c), some (.int (i : Nat)), some (.str z), some (.ref d), o7, o8, o9] ∧ Same H4 H' ∧ H' d = some (.lst ((srcsOf (as.take j) z i n).map .str)))
          ⟨_, _, _, rfl, same_upd ndd, upd_same⟩ (fun j σ H' _ ⟨_, _, _, _, s5, _⟩ => (s4.trans s5).seq hla) ?_ ?_
        · rintro j x σ H5o H5 hj ⟨o7, o8, o9, rfl, s5, e5⟩ ⟨rfl, hx⟩
          obtain ⟨a, haj, q1, rfl, sq⟩ := Paired.getL hav hx
          refine ⟨_, ⟨q1, rfl, .inr (SqT.same sq (s4.trans s5))⟩, rfl, _, _, rfl, _, _, rfl, _, _, rfl, rfl, ?_⟩
          refine ⟨_, rfl, _, rfl, rfl, _, rfl, ?_⟩
          have ft := srcs_step (c := z) (k := i) (n := n) haj
          have ed : decide (V.str a.2.2 = V.str z) = decide (a.2.2 = z) := by
            rw [decide_eq_decide]
            exact ⟨fun e => V.str.inj e, fun e => by rw [e]⟩
          have no : (decide (a.2.2 = z) && (decide (0 ≤ (i : Int) + a.2.1) && decide ((i : Int) + a.2.1 < (n : Int)))) = false → H5 d = some (.lst ((srcsOf (as.take (j + 1)) z i n).map .str)) := fun zz => by
            rw [ft, if_neg (by rw [zz]; decide), List.append_nil]
            exact e5
          cases et : decide (a.2.2 = z) with
          | false =>
            rw [et] at ed
            exact iteN ed (iteN rfl ⟨_, _, _, rfl, s5, no (by rw [et]; rfl)⟩)
          | true =>
            rw [et] at ed
            refine iteP ed ⟨_, rfl, _, rfl, _, _, rfl, rfl, _, _, rfl, rfl, _, rfl, ?_⟩
            cases e3 : decide (0 ≤ (i : Int) + a.2.1) with
            | false => exact ⟨false, rfl, iteN rfl ⟨_, _, _, rfl, s5, no (by rw [et, e3]; rfl)⟩⟩
            | true =>
              refine ⟨_, rfl, _, _, rfl, rfl, decide ((i : Int) + a.2.1 < (n : Int)), rfl, ?_⟩
              cases e4 : decide ((i : Int) + a.2.1 < (n : Int)) with
              | false => exact iteN rfl ⟨_, _, _, rfl, s5, no (by rw [et, e3, e4]; rfl)⟩
              | true =>
                have h0 := of_decide_eq_true e3
                have h1 := of_decide_eq_true e4
                have hm26 : ((i : Int) + a.2.1).toNat < 26 := by omega
                have hat := let_at hm26
                rw [show ((((i : Int) + a.2.1).toNat : Nat) : Int) = (i : Int) + a.2.1 by omega] at hat
                have hsrc : a.1.length ≤ 7 := (ok.nm _ (ok.ar a (List.mem_of_getElem? haj)).1).2
                refine iteP rfl ⟨_, rfl, .inl ⟨rfl, _, SqL.of e5⟩, _, rfl, _, rfl, _, rfl, _, _, rfl, rfl, LET, _, _, rfl, rfl, by rw [let_len, sizeLine_eq]; decide, hat, _, _, rfl, rfl, ?_, ?_⟩
                · show a.1.length + (ltr ((i : Int) + a.2.1).toNat).length ≤ sizeLine
                  have : (ltr ((i : Int) + a.2.1).toNat).length = 1 := rfl
                  rw [this, sizeLine_eq]
                  omega
                refine ⟨d, _, _, rfl, rfl, e5, ?_, _, _, _, rfl, same_over ndd s5, ?_⟩
                · rw [List.length_map, sizeLine_eq]
                  unfold srcsOf fnd
                  rw [List.length_map]
                  have l1 := List.length_filter_le (fun e : Str × Int => decide (0 ≤ e.2) && decide (e.2 < (n : Int))) (((as.take j).filter fun a => decide (a.2.2 = z)).map fun a => (a.1, (i : Int) + a.2.1))
                  rw [List.length_map] at l1
                  have l2 := List.length_filter_le (fun a : A3 => decide (a.2.2 = z)) (as.take j)
                  rw [List.length_take] at l2
                  have := ok.la
                  omega
                · rw [ft, if_pos (by rw [et, e3, e4]; rfl), List.map_append]
                  exact upd_same
        · rintro σ H5 ⟨o7, o8, o9, rfl, s5, e5⟩
          rw [lav, List.take_length] at e5
          have ec5 := s5 _ _ ec4
          have s45 := s4.trans s5
          have lm : (rowF cs as n i).length = cs.length := by unfold rowF; rw [List.length_map]
          have hzl := (ok.nm z (List.mem_of_getElem? hz)).2
          refine ⟨_, rfl, .inl ⟨rfl, _, SqL.of ec5⟩, _, rfl, _, rfl, LET, _, _, rfl, rfl, by rw [let_len, sizeLine_eq]; decide, let_at (by omega), _, _, rfl, rfl, ?_, _, rfl, (show 2 ≤ sizeLine by decide), fun t nt => ?_⟩
          · show z.length + (ltr i).length ≤ sizeLine
            have : (ltr i).length = 1 := rfl
            rw [this, sizeLine_eq]
            omega
          have st : Same H5 (upd H5 t (.lst [.str (z ++ ltr i), .ref d])) := same_upd nt
          have ec6 := st _ _ ec5
          have tc : t ≠ c := fun e => by rw [e, ec5] at nt; cases nt
          refine ⟨c, vl, _, rfl, rfl, ec6, ?_, _, _, _, _, _, _, rfl, same_over nc (s45.trans st), upd_same, ?_⟩
          · have := Paired.length hvl4
            rw [List.length_append, rowsP_len, List.length_take, lm] at this
            have l1 : i * cs.length ≤ 26 * 30 := Nat.mul_le_mul (by omega) ok.lc
            have := ok.lc
            rw [sizeLine_eq]
            omega
          · have et : (rowF cs as n i).take (m + 1) = (rowF cs as n i).take m ++ [(z ++ ltr i, srcsOf as z i n)] := by
              rw [List.take_succ, show (rowF cs as n i)[m]? = some (z ++ ltr i, srcsOf as z i n) by unfold rowF; rw [List.getElem?_map, hz]; rfl]
              rfl
            rw [hide_updp, et, ← List.append_assoc]
            refine Paired.snoc (Paired.imp (fun _ _ h => RowL.same h (hide_same (s5.trans st))) hvl4) ⟨t, d, rfl, ?_, ?_⟩
            · rw [hide_ne tc]
              exact upd_same
            · rw [hide_ne dc]
              exact st _ _ e5
      · rintro σ H4 ⟨vl, o5, o6, o7, o8, o9, rfl, s4, ec4, hvl4⟩
        refine ⟨vl, _, _, _, _, _, _, rfl, s4, ec4, ?_⟩
        rw [rowsP_succ]
        have : (rowF cs as n i).take ((cs.map V.str).length) = rowF cs as n i := List.take_of_length_le (by simp [rowF])
        rw [this] at hvl4
        exact hvl4
    · rintro σ H3 ⟨vl, o4, o5, o6, o7, o8, o9, rfl, s3, ec3, hvl⟩
      exact ⟨_, rfl, q c vl H3 s3 nc ec3 (Paired.imp (fun _ _ h => h.same hide_le) hvl)⟩
end
end K63
end L2
set_option Elab.async false
set_option linter.all false
set_option maxRecDepth 100000
set_option maxHeartbeats 4000000
namespace L2
namespace K63
open PySem PySem.Spec PyProof.Rows K1 WL LamX
section
variable {P : Program} {w : World} {K : PySem.W.Frag} {mg : Str → Option Value} {base : Heap} {f : Addr} {fd : FuncData}
theorem ar_no {K : PySem.W.Frag} {H : Hp} {cs : List Str} {v : V} {t : String} (ty : TyX K H v (.type t)) (h1 : PySem.W.kitOne K (.type t) (.type "list") = some false) (h2 : PySem.W.kitOne K (.type t) (.type "tuple") = some false) : ArIs K H cs v false := .inl ⟨_, ty, kit_none h1 h2, rfl⟩
theorem ar_ln {K : PySem.W.Frag} {H : Hp} {cs : List Str} {t : Addr} {xs : List V} (h : H t = some (.tup xs)) (n : xs.length ≠ 3) : ArIs K H cs (.ref t) false := .inr ⟨xs, ⟨t, rfl, .inr (SqT.of h)⟩, .inl ⟨n, rfl⟩⟩
theorem ar_oi {K : PySem.W.Frag} {H : Hp} {cs : List Str} {t : Addr} {x y z : V} (h : H t = some (.tup [x, y, z])) (fy : flatV y = true) (n : isI y = none) : ArIs K H cs (.ref t) false := .inr ⟨_, ⟨t, rfl, .inr (SqT.of h)⟩, .inr ⟨x, y, z, _, rfl, intV_flat fy, fun _ => rfl, fun i e => by rw [n] at e; cases e⟩⟩
theorem ar_by {K : PySem.W.Frag} {H : Hp} {cs : List Str} {t : Addr} {x z : V} {i : Int} {b : Bool} (h : H t = some (.tup [x, .int i, z])) (fx : flatV x = true) (fz : flatV z = true) (e : b = (inV x (cs.map .str) && (inV z (cs.map .str) && (decide (-1 ≤ i) && decide (i ≤ 1))))) : ArIs K H cs (.ref t) b :=
  .inr ⟨_, ⟨t, rfl, .inr (SqT.of h)⟩, .inr ⟨x, .int i, z, some i, rfl, .inl ⟨i, rfl, rfl⟩, (fun z => nomatch z), fun j ej => by cases ej; exact ⟨fx, fz, e⟩⟩⟩
theorem in_strsV (z : Str) (cs : List Str) : inV (.str z) (cs.map V.str) = decide (z ∈ cs) := in_strs z cs
theorem in_nonV (cs : List Str) : inV .non (cs.map V.str) = false := by
  induction cs with
  | nil => rfl
  | cons a l ih => exact ih
/-- what the drawn thing is -/
def OddA (K : PySem.W.Frag) (H : Hp) (cs : List Str) (as : List A3) (v : V) : Prop := ∃ b a', ArD K H cs (v, b, a') ∧ (b = true → a' ∈ as)
theorem OddA.same {K : PySem.W.Frag} {H H' : Hp} {cs : List Str} {as : List A3} {v : V} (h : OddA K H cs as v) (s : Same H H') : OddA K H' cs as v := let ⟨b, a', h1, h2⟩ := h; ⟨b, a', h1.same s, h2⟩
theorem odd_of {K : PySem.W.Frag} {H : Hp} {cs : List Str} {as : List A3} {v : V} (h : ArIs K H cs v false) : OddA K H cs as v := ⟨false, (Str.empty, 0, Str.empty), ⟨h, fun z => nomatch z⟩, fun z => nomatch z⟩
theorem strange_no : ("strange" : Str) ∉ stem7 := by decide +kernel
theorem trip_ar {K : PySem.W.Frag} {H : Hp} {cs : List Str} {v : V} {a : A3} (h : Trip K H v a) (m : a.1 ∈ cs ∧ a.2.2 ∈ cs ∧ -1 ≤ a.2.1 ∧ a.2.1 ≤ 1) : ArD K H cs (v, true, a) := by
  obtain ⟨q, rfl, h2⟩ := h
  refine ⟨.inr ⟨_, ⟨q, rfl, .inr h2⟩, .inr ⟨.str a.1, .int a.2.1, .str a.2.2, some a.2.1, rfl, .inl ⟨_, rfl, rfl⟩, (fun z => nomatch z), fun j ej => ?_⟩⟩, fun _ => ⟨q, rfl, .inr h2⟩⟩
  cases ej
  refine ⟨rfl, rfl, ?_⟩
  rw [in_strsV, in_strsV, decide_eq_true m.1, decide_eq_true m.2.1, decide_eq_true m.2.2.1, decide_eq_true m.2.2.2]
  rfl
theorem trip_offT {K : PySem.W.Frag} {H : Hp} {v : V} {a : A3} (h : Trip K H v a) : Trip K (offT H) v a := let ⟨q, e, x⟩ := h; ⟨q, e, less_offT.sqT x⟩
def spOddA (K : PySem.W.Frag) : Sp := fun vs H Q _ => ∃ (p lc la : Addr) (cs : List Str) (as : List A3) (av : List V) (n : Nat), vs = [.ref p, .ref lc, .ref la] ∧ Pl H p n ∧ n ≤ 600000000 ∧ hide p H lc = some (.lst (cs.map .str)) ∧ hide p H la = some (.lst av) ∧ Paired (Trip K (hide p H)) av as ∧ cs ≠ [] ∧ (∀ c ∈ cs, c ∈ stem7) ∧ as.length ≤ 10 ∧
  (∀ a ∈ as, a.1 ∈ cs ∧ a.2.2 ∈ cs ∧ -1 ≤ a.2.1 ∧ a.2.1 ≤ 1) ∧ ∀ v H', Same (hide p H) (hide p H') → Pl H' p (n + 1) → OddA K (offT (hide p H')) cs as v → Q v H'
/-! ### _law_odd_arrow -/
abbrev nmOA : List Str := ["_law_pool_here", "_law_cells_here", "_law_arrows", "_law_cell_here", "_law_odd"]
theorem sc_odd : FnScope nmOA ["_law_pool_here", "_law_cells_here", "_law_arrows"] (defScope s_odd_arrow) := ⟨rfl, rfl, rfl, by decide +kernel, rfl, by decide +kernel, by decide +kernel⟩
theorem ok_odd (T : Bl mg) (Ct : Cal P w K mg base "_law_take" ["_law_pool_here", "_law_many"] 1 spTakeL) (F : FnP K "_law_odd_arrow" "_law_odd_arrow" s_odd_arrow f fd) : FnOk P w K mg base CX0 2 f fd ["_law_pool_here", "_law_cells_here", "_law_arrows"] (spOddA K) := by
  obtain ⟨ft, fdt, Gt, gt, kt, bt⟩ := Ct.ex
  refine F.ok sc_odd (fun vs H Q E h => ?_) (fun cdv A outer s H vs Q E hr h => ?_)
  · obtain ⟨p, lc, la, cs, as, av, n, rfl, _⟩ := h
    rfl
  · have nd := sc_odd.nd
    refine ⟨_, PSs.nox (pss_cons (ps_set (i := 3) nd rfl (Or.inl rfl) (pe_ix ix_list (pv 1) pe_int fun _ _ => rfl))
      (pss_cons (ps_set (i := 4) nd rfl (Or.inl rfl) (pe_lst (pa_cons pe_non (pa_cons pe_int (pa_cons pe_str (pa_cons (pe_tup (pa_cons (pv 3) (pa_cons pe_int pa_nil))) (pa_cons (pe_tup (pa_cons (pv 3) (pa_cons pe_int (pa_cons (pv 3) pa_nil)))) (pa_cons (pe_tup (pa_cons (pv 3) (pa_cons (pe_un un_neg pe_int) (pa_cons (pv 3) pa_nil))))
        (pa_cons (pe_tup (pa_cons (pv 3) (pa_cons pe_bl (pa_cons (pv 3) pa_nil)))) (pa_cons (pe_tup (pa_cons (pv 3) (pa_cons pe_str (pa_cons (pv 3) pa_nil)))) pa_nil))))))))))
      (pss_cons (ps_set (i := 4) nd rfl (Or.inl rfl) (pe_op op_cat (pe_op op_cat (pv 4) (pe_lst (pa_cons (pe_tup (pa_cons pe_str (pa_cons pe_int (pa_cons (pv 3) pa_nil)))) (pa_cons (pe_tup (pa_cons (pv 3) (pa_cons pe_int (pa_cons pe_non pa_nil)))) (pa_cons (pe_tup (pa_cons (pv 3) (pa_cons pe_non (pa_cons (pv 3) pa_nil))))
        (pa_cons (pe_tup (pa_cons (pv 3) (pa_cons pe_int (pa_cons (pv 3) (pa_cons pe_int pa_nil))))) pa_nil)))))) (pe_slice sl_list (pv 2) po_none (po_some pe_int))))
      (pss_one (ps_ret (pe_ix ix_list (pv 4) (pe_call Gt hr rfl gt kt bt .nil pass0 (pa_cons (pv 0) (pa_cons (pe_callB call_len rfl T.f_len boot_len (pa_cons (pv 4) pa_nil)) pa_nil))) fun _ _ => rfl)))))), ?_⟩
    obtain ⟨p, lc, la, cs, as, av, n, rfl, hP, hn, elc, ela, hav, hne, hst, hl10, hmm, q⟩ := h
    have lav : av.length = as.length := Paired.length hav
    obtain ⟨z, hz⟩ : ∃ z, cs[0]? = some z := ⟨_, List.getElem?_eq_getElem (List.length_pos_iff.mpr hne)⟩
    have hz7 : z ∈ stem7 := hst z (List.mem_of_getElem? hz)
    have hzc : z ∈ cs := List.mem_of_getElem? hz
    have hzv : (cs.map V.str)[0]? = some (.str z) := by rw [List.getElem?_map, hz]; rfl
    have S : Same (hide p H) (hide p H) := Same.refl _
    have hL : Has (hide p H) [(lc, .lst (cs.map .str)), (la, .lst av)] := by
      intro x hx
      rcases List.mem_cons.mp hx with rfl | hx
      · exact elc
      rw [show x = (la, .lst av) by simpa using hx]
      exact ela
    have hav0 := hav
    have q0 := q
    obtain ⟨B0, eB0⟩ : ∃ B0, hide p H = B0 := ⟨_, rfl⟩
    rw [eB0] at S hav0 q0
    clear q hav elc ela
    refine ⟨_, rfl, lc, cs.map .str, 0, .str z, rfl, rfl, SqL.of (hide_le _ _ (hL.ix 0 rfl)), atI_nat (j := 0) hzv, ?_⟩
    rw [eB0] at hL
    rw [← eB0] at hL S
    refine g_nm ?_
    dsimp only
    refine t_seqAsg ?_
    refine ⟨_, rfl, (show 2 ≤ sizeLine by decide), fun t1 nt1 => ?_⟩
    obtain ⟨hL, hP, S⟩ := alo (o := .tup [.str z, .int 0]) hL hP S nt1
    generalize upd H t1 (.tup [.str z, .int 0]) = G1 at *
    refine ⟨_, rfl, _, rfl, (show 3 ≤ sizeLine by decide), fun t2 nt2 => ?_⟩
    obtain ⟨hL, hP, S⟩ := alo (o := .tup [.str z, .int 2, .str z]) hL hP S nt2
    generalize upd G1 t2 (.tup [.str z, .int 2, .str z]) = G2 at *
    refine ⟨_, rfl, _, rfl, _, rfl, (show 3 ≤ sizeLine by decide), fun t3 nt3 => ?_⟩
    obtain ⟨hL, hP, S⟩ := alo (o := .tup [.str z, (fun i : Int => V.int (-i)) 2, .str z]) hL hP S nt3
    generalize upd G2 t3 (.tup [.str z, (fun i : Int => V.int (-i)) 2, .str z]) = G3 at *
    refine ⟨_, rfl, _, rfl, (show 3 ≤ sizeLine by decide), fun t4 nt4 => ?_⟩
    obtain ⟨hL, hP, S⟩ := alo (o := .tup [.str z, .bl true, .str z]) hL hP S nt4
    generalize upd G3 t4 (.tup [.str z, .bl true, .str z]) = G4 at *
    refine ⟨_, rfl, _, rfl, (show 3 ≤ sizeLine by decide), fun t5 nt5 => ?_⟩
    obtain ⟨hL, hP, S⟩ := alo (o := .tup [.str z, .str "0", .str z]) hL hP S nt5
    generalize upd G4 t5 (.tup [.str z, .str "0", .str z]) = G5 at *
    refine t_nil ?_
    try dsimp only
    refine ⟨(show 8 ≤ sizeLine by decide), fun l1 nl1 => ?_⟩
    obtain ⟨hL, hP, S⟩ := alo (o := .lst [.non, .int 5, .str "", .ref t1, .ref t2, .ref t3, .ref t4, .ref t5]) hL hP S nl1
    generalize upd G5 l1 (.lst [.non, .int 5, .str "", .ref t1, .ref t2, .ref t3, .ref t4, .ref t5]) = G6 at *
    refine g_nm ?_
    try dsimp only
    refine t_seqAsg ?_
    refine ⟨_, rfl, _, rfl, (show 3 ≤ sizeLine by decide), fun t6 nt6 => ?_⟩
    obtain ⟨hL, hP, S⟩ := alo (o := .tup [.str "strange", .int 0, .str z]) hL hP S nt6
    generalize upd G6 t6 (.tup [.str "strange", .int 0, .str z]) = G7 at *
    refine ⟨_, rfl, (show 3 ≤ sizeLine by decide), fun t7 nt7 => ?_⟩
    obtain ⟨hL, hP, S⟩ := alo (o := .tup [.str z, .int 0, .non]) hL hP S nt7
    generalize upd G7 t7 (.tup [.str z, .int 0, .non]) = G8 at *
    refine ⟨_, rfl, _, rfl, (show 3 ≤ sizeLine by decide), fun t8 nt8 => ?_⟩
    obtain ⟨hL, hP, S⟩ := alo (o := .tup [.str z, .non, .str z]) hL hP S nt8
    generalize upd G8 t8 (.tup [.str z, .non, .str z]) = G9 at *
    refine ⟨_, rfl, _, rfl, (show 4 ≤ sizeLine by decide), fun t9 nt9 => ?_⟩
    obtain ⟨hL, hP, S⟩ := alo (o := .tup [.str z, .int 0, .str z, .int 0]) hL hP S nt9
    generalize upd G9 t9 (.tup [.str z, .int 0, .str z, .int 0]) = G10 at *
    refine t_nil ?_
    try dsimp only
    refine ⟨(show 4 ≤ sizeLine by decide), fun l2 nl2 => ?_⟩
    obtain ⟨hL, hP, S⟩ := alo (o := .lst [.ref t6, .ref t7, .ref t8, .ref t9]) hL hP S nl2
    generalize upd G10 l2 (.lst [.ref t6, .ref t7, .ref t8, .ref t9]) = G11 at *
    refine ⟨l1, l2, _, _, rfl, rfl, hide_le _ _ (hL.ix 5 rfl), hide_le _ _ (hL.ix 0 rfl), (show 12 ≤ sizeLine by decide), fun l3 n3 => ?_⟩
    obtain ⟨hL, hP, S⟩ := alo (o := .lst (([.non, .int 5, .str "", .ref t1, .ref t2, .ref t3, .ref t4, .ref t5] : List V) ++ [V.ref t6, V.ref t7, V.ref t8, V.ref t9])) hL hP S n3
    generalize upd G11 l3 (.lst (([.non, .int 5, .str "", .ref t1, .ref t2, .ref t3, .ref t4, .ref t5] : List V) ++ [V.ref t6, V.ref t7, V.ref t8, V.ref t9])) = G12 at *
    refine ⟨_, rfl, (1 : Int), rfl, la, av, rfl, SqL.of (hide_le _ _ (hL.ix 13 rfl)), fun l4 n4 => ?_⟩
    rw [show cutV av none (some (1 : Int)) = av.take 1 from cut_le (i := 1)] at *
    obtain ⟨hL, hP, S⟩ := alo (o := .lst (av.take 1)) hL hP S n4
    generalize upd G12 l4 (.lst (av.take 1)) = G13 at *
    have la1 : (av.take 1).length ≤ 1 := by rw [List.length_take]; omega
    refine ⟨l3, l4, _, _, rfl, rfl, hide_le _ _ (hL.ix 1 rfl), hide_le _ _ (hL.ix 0 rfl), by rw [sizeLine_eq]; show 12 + (av.take 1).length ≤ _; omega, fun l5 n5 => ?_⟩
    obtain ⟨hL, hP, S⟩ := alo (o := .lst (([.non, .int 5, .str "", .ref t1, .ref t2, .ref t3, .ref t4, .ref t5] : List V) ++ [V.ref t6, V.ref t7, V.ref t8, V.ref t9] ++ av.take 1)) hL hP S n5
    generalize upd G13 l5 (.lst (([.non, .int 5, .str "", .ref t1, .ref t2, .ref t3, .ref t4, .ref t5] : List V) ++ [V.ref t6, V.ref t7, V.ref t8, V.ref t9] ++ av.take 1)) = G14 at *
    have lx : (([.non, .int 5, .str "", .ref t1, .ref t2, .ref t3, .ref t4, .ref t5] : List V) ++ [V.ref t6, V.ref t7, V.ref t8, V.ref t9] ++ av.take 1).length = 12 + (av.take 1).length := by rw [List.length_append]; rfl
    refine g_nm ?_
    refine ⟨_, rfl, _, rfl, _, rfl, .ref l5, _, rfl, .inl ⟨_, SqL.of (hide_le _ _ (hL.ix 0 rfl)), rfl⟩, p, _, n, rfl, by rw [lx]; omega, by rw [lx]; omega, hP, by omega, fun r H2 hr2 h2 hP => ?_⟩
    rw [lx] at hr2
    rw [← h2] at hL S
    obtain ⟨y, hy⟩ : ∃ y, (([.non, .int 5, .str "", .ref t1, .ref t2, .ref t3, .ref t4, .ref t5] : List V) ++ [V.ref t6, V.ref t7, V.ref t8, V.ref t9] ++ av.take 1)[r]? = some y := ⟨_, List.getElem?_eq_getElem (by rw [lx]; omega)⟩
    refine ⟨l5, _, _, y, rfl, rfl, SqL.of (hide_le _ _ (hL.ix 0 rfl)), atI_nat hy, q0 y H2 (by rw [← eB0]; exact S) hP ?_⟩
    by_cases r12 : r < 12
    · rw [List.getElem?_append_left (by exact r12)] at hy
      have hm := List.mem_of_getElem? hy
      rcases List.mem_cons.mp hm with rfl | hm
      · exact odd_of (ar_no (.base .non) (kit_ty (by decide +kernel)) (kit_ty (by decide +kernel)))
      rcases List.mem_cons.mp hm with rfl | hm
      · exact odd_of (ar_no (.base (.int _)) (kit_ty (by decide +kernel)) (kit_ty (by decide +kernel)))
      rcases List.mem_cons.mp hm with rfl | hm
      · exact odd_of (ar_no (.base (.str _)) (kit_ty (by decide +kernel)) (kit_ty (by decide +kernel)))
      rcases List.mem_cons.mp hm with rfl | hm
      · exact odd_of (ar_ln (offT_at (hL.ix 13 rfl) (fun ps z => nomatch z)) (show (2 : Nat) ≠ 3 by decide))
      rcases List.mem_cons.mp hm with rfl | hm
      · exact odd_of (ar_by (i := 2) (offT_at (hL.ix 12 rfl) (fun ps z => nomatch z)) rfl rfl (by rw [in_strsV, decide_eq_true hzc]; rfl))
      rcases List.mem_cons.mp hm with rfl | hm
      · exact odd_of (ar_by (i := -2) (offT_at (hL.ix 11 rfl) (fun ps z => nomatch z)) rfl rfl (by rw [in_strsV, decide_eq_true hzc]; rfl))
      rcases List.mem_cons.mp hm with rfl | hm
      · exact odd_of (ar_oi (offT_at (hL.ix 10 rfl) (fun ps z => nomatch z)) rfl rfl)
      rcases List.mem_cons.mp hm with rfl | hm
      · exact odd_of (ar_oi (offT_at (hL.ix 9 rfl) (fun ps z => nomatch z)) rfl rfl)
      rcases List.mem_cons.mp hm with rfl | hm
      · exact odd_of (ar_by (i := 0) (offT_at (hL.ix 7 rfl) (fun ps z => nomatch z)) rfl rfl (by rw [in_strsV, decide_eq_false fun e => strange_no (hst _ e)]; rfl))
      rcases List.mem_cons.mp hm with rfl | hm
      · exact odd_of (ar_by (i := 0) (offT_at (hL.ix 6 rfl) (fun ps z => nomatch z)) rfl rfl (by rw [in_nonV, Bool.false_and, Bool.and_false]))
      rcases List.mem_cons.mp hm with rfl | hm
      · exact odd_of (ar_oi (offT_at (hL.ix 5 rfl) (fun ps z => nomatch z)) rfl rfl)
      rcases List.mem_cons.mp hm with rfl | hm
      · exact odd_of (ar_ln (offT_at (hL.ix 4 rfl) (fun ps z => nomatch z)) (show (4 : Nat) ≠ 3 by decide))
      · nomatch hm
    · rw [List.getElem?_append_right (by show 12 ≤ r; omega)] at hy
      have hy2 : (av.take 1)[r - 12]? = some y := hy
      have r0 : r - 12 = 0 := by omega
      rw [r0, List.getElem?_take] at hy2
      obtain ⟨a, ha, tr⟩ := Paired.getL hav0 (show av[0]? = some y by simpa using hy2)
      have hma := List.mem_of_getElem? ha
      exact ⟨true, a, trip_ar (trip_offT (tr.same (by rw [← eB0]; exact S))) (hmm a hma), fun _ => hma⟩
end
end K63
end L2
set_option Elab.async false
set_option linter.all false
set_option maxRecDepth 100000
set_option maxHeartbeats 4000000
namespace L2
namespace K63
open PySem PySem.Spec PyProof.Rows K1 WL LamX
section
variable {P : Program} {w : World} {K : PySem.W.Frag} {mg : Str → Option Value} {base : Heap}
def tLen (n : Nat) (t : TE) : TE := fun σ H Q => σ.length = n → t σ H Q
theorem pe_len {X : Cx} {e : Expr} {t : TE} {n : Nat} (h : PE X e t) (hn : X.N.length = n) : PE X e (tLen n t) := ⟨fun pins s σ H Q I q => h.run pins s σ H Q I (q (I.len.trans hn))⟩
theorem two {α : Type} {σ : List α} (h : σ.length = 2) : ∃ a b, σ = [a, b] := by
  match σ, h with
  | [a, b], _ => exact ⟨a, b, rfl⟩
/-- what the three classes are to one another -/
structure Ex3 (K : PySem.W.Frag) (mg : Str → Option Value) : Prop where
  gP : mg "BadPiece" = some (.ref (He.ga K "BadPiece"))
  gA : mg "BadArrow" = some (.ref (He.ga K "BadArrow"))
  gN : mg "BadNumber" = some (.ref (He.ga K "BadNumber"))
  cA : XC K (He.ga K "BadArrow")
  cN : XC K (He.ga K "BadNumber")
  nA : PySem.W.findIn K (.ref (He.ga K "BadArrow")) "index" = some none
  nN : PySem.W.findIn K (.ref (He.ga K "BadNumber")) "number" = some none
  pp : PySem.W.exmOne K (.ref (He.ga K "BadPiece")) (.ref (He.ga K "BadPiece")) = some true
  ap : PySem.W.exmOne K (.ref (He.ga K "BadArrow")) (.ref (He.ga K "BadPiece")) = some false
  aa : PySem.W.exmOne K (.ref (He.ga K "BadArrow")) (.ref (He.ga K "BadArrow")) = some true
  np : PySem.W.exmOne K (.ref (He.ga K "BadNumber")) (.ref (He.ga K "BadPiece")) = some false
  na : PySem.W.exmOne K (.ref (He.ga K "BadNumber")) (.ref (He.ga K "BadArrow")) = some false
  nn : PySem.W.exmOne K (.ref (He.ga K "BadNumber")) (.ref (He.ga K "BadNumber")) = some true
def Etold (K : PySem.W.Frag) (Q : VK) : XK := fun cls d H' =>
  (cls = .ref (He.ga K "BadPiece") ∧ ∀ q, H' q = none → Q (.ref q) (upd H' q (.tup [.str "piece", .non]))) ∨
  (cls = .ref (He.ga K "BadArrow") ∧ ∃ dd v, d = some dd ∧ H' dd = some (.xd [("index", v)]) ∧ ∀ q, H' q = none → Q (.ref q) (upd H' q (.tup [.str "arrow", v]))) ∨
  (cls = .ref (He.ga K "BadNumber") ∧ ∃ dd v t b, d = some dd ∧ H' dd = some (.xd [("number", v)]) ∧ TyX K H' v t ∧ PySem.W.kitOne K t (.type "bool") = some b ∧ ∀ q, H' q = none → ∀ q2, (upd H' q (.lst [v, .bl b])) q2 = none → Q (.ref q2) (upd (upd H' q (.lst [v, .bl b])) q2 (.tup [.str "number", .ref q])))
def TTtold (K : PySem.W.Frag) : (XK → Hp → VK → Prop) → Hp → VK → Prop := fun tl H Q => tl (Etold K Q) H fun v H' => 2 ≤ sizeLine ∧ ∀ q, H' q = none → Q (.ref q) (upd H' q (.tup [.str "told", v]))
/-! ### _law_told, that calls what it got -/
abbrev nmTO : List Str := ["_law_ask", "e"]
theorem sc_told : FnScope nmTO ["_law_ask"] (defScope s_told) := ⟨rfl, rfl, rfl, by decide +kernel, rfl, by decide +kernel, by decide +kernel⟩
theorem told_gives {X : Cx} {g : Addr} {cdg : Value} {q : Str} (T : Bl X.mg) (fb : X.mg "bool" = none) (e3 : Ex3 X.K X.mg) : GivesTo X nmTO "_law_told" (defScope s_told) g cdg (defBody s_told) "_law_ask" q (TTtold X.K) := by
  intro f c' s H Q tl act hc h
  have nd := sc_told.nd
  refine ⟨_, pss_one (ps_try_all (X := (cxOf C8.CX0 X.prog X.w X.K X.mg X.base nmTO "_law_told" (defScope s_told) g cdg X.A X.stack s H C8.E0).nox) (Wo := fun _ _ _ _ => False)
      (tb := fun W D σ H => ∃ Ech : XK, (∀ cls d σ' H', Ech cls d H' → W cls d σ' H') ∧ σ[0]? = some (some (.ref f)) ∧ H c' = some (CodeO c' q) ∧ tl Ech H fun v H' => 2 ≤ sizeLine ∧ ∀ q, H' q = none → D.rt (.ref q) (upd H' q (.tup [.str "told", v])))
      (l := [(.ref (He.ga X.K "BadPiece"), none, fun a cls d => tRet (tTup (tCons (tC (.str "piece")) (tCons (tC .non) tNil)))), (.ref (He.ga X.K "BadArrow"), some 1, fun a cls d => tRet (tTup (tCons (tC (.str "arrow")) (tCons (tXd (He.ga X.K "BadArrow") a cls d "index" (tLen 2 (tVar 1))) tNil)))),
        (.ref (He.ga X.K "BadNumber"), some 1, fun a cls d => tRet (tTup (tCons (tC (.str "number")) (tCons (tLst (tCons (tXd (He.ga X.K "BadNumber") a cls d "number" (tLen 2 (tVar 1))) (tCons (tCB (rIsi X.K) (tCons (tXd (He.ga X.K "BadNumber") a cls d "number" (tLen 2 (tVar 1))) (tCons (tC (.ty "bool")) tNil))) tNil))) tNil))))])
      rfl rfl L2.takes0 (fun W pn xe tk _ => ?_)
      (.plain ⟨rfl, by decide, Or.inl e3.gP⟩ (fun a oe cls d pn hz hf => pss_one (ps_ret (pe_tup (pa_cons pe_str (pa_cons pe_non pa_nil)))))
        (.named ⟨rfl, by decide, Or.inl e3.gA⟩ nd rfl rfl (fun a oe cls d pn hz hf => pss_one (ps_ret (pe_tup (pa_cons pe_str (pa_cons (pe_xd e3.cA e3.nA hz hf (pe_len (pv 1) rfl)) pa_nil)))))
          (.named ⟨rfl, by decide, Or.inl e3.gN⟩ nd rfl rfl (fun a oe cls d pn hz hf => pss_one (ps_ret (pe_tup (pa_cons pe_str (pa_cons (pe_lst (pa_cons (pe_xd e3.cN e3.nN hz hf (pe_len (pv 1) rfl)) (pa_cons (pe_callB call_isi rfl T.f_isinstance boot_isinstance (pa_cons (pe_xd e3.cN e3.nN hz hf (pe_len (pv 1) rfl)) (pa_cons (pe_bltn (v := .ty "bool") rfl fb (by decide +kernel) rfl) pa_nil))) pa_nil))) pa_nil))))) .nil)))), ?_⟩
  · refine ⟨fun pins s' σ H' D I h' => ?_⟩
    obtain ⟨Ech, hW, h1, h2, h3⟩ := h'
    refine (pss_one (ps_ret (pe_tup (pa_cons pe_str (pa_cons (act W pn xe Ech _ _ tk hW) pa_nil))))).run pins s' σ H' D I ?_
    exact ⟨h1, h2, h3⟩
  · refine ⟨Etold X.K Q, fun cls d σ' H' he => ?_, rfl, hc, h⟩
    rcases he with ⟨rfl, e2⟩ | ⟨rfl, dd, v, rfl, e1, e2⟩ | ⟨rfl, dd, v, t, b, rfl, e1, ty, kb, e2⟩
    · exact ⟨true, e3.pp, fun _ a na => ⟨(show 2 ≤ sizeLine by decide), fun l nl => e2 l nl⟩, fun z => nomatch z⟩
    · refine ⟨false, e3.ap, (fun z => nomatch z), fun _ => ⟨true, e3.aa, fun _ a na => ?_, fun z => nomatch z⟩⟩
      intro hl
      obtain ⟨a0, b0, e⟩ := two (show σ'.length = 2 by rw [show (setAt (some 1) a σ').length = σ'.length from List.length_set ..] at hl; exact hl)
      subst e
      exact ⟨_, rfl, rfl, rfl, dd, v, rfl, e1, (show 2 ≤ sizeLine by decide), fun l nl => e2 l nl⟩
    · refine ⟨false, e3.np, (fun z => nomatch z), fun _ => ⟨false, e3.na, (fun z => nomatch z), fun _ => ⟨true, e3.nn, fun _ a na => ?_, fun z => nomatch z⟩⟩⟩
      intro hl
      obtain ⟨a0, b0, e⟩ := two (show σ'.length = 2 by rw [show (setAt (some 1) a σ').length = σ'.length from List.length_set ..] at hl; exact hl)
      subst e
      refine ⟨_, rfl, rfl, rfl, dd, v, rfl, e1, ?_⟩
      intro _
      refine ⟨_, rfl, rfl, rfl, dd, v, rfl, e1, ?_⟩
      refine ⟨v, .ty "bool", t, _, b, rfl, .ty "bool", ty, kb, (show 2 ≤ sizeLine by decide), fun l nl => ⟨(show 2 ≤ sizeLine by decide), fun u nu => e2 l nl u nu⟩⟩
end
end K63
end L2
set_option Elab.async false
set_option linter.all false
set_option maxRecDepth 100000
set_option maxHeartbeats 4000000
namespace L2
namespace K63
open PySem PySem.Spec PyProof.Rows K1 WL LamX
section
variable {K : PySem.W.Frag}
theorem sOk_nm {z : Str} (h : isNm z = true) : ∀ c ∈ z.cps.toList, c < 1114112 := fun c hc => by
  unfold isNm at h
  obtain ⟨_, h2⟩ := Bool.and_eq_true_iff.mp h
  obtain ⟨_, h3⟩ := Bool.and_eq_true_iff.mp h2
  have := List.all_eq_true.mp h3 c hc
  unfold okc at this
  obtain ⟨h4, h5⟩ := Bool.and_eq_true_iff.mp this
  have := of_decide_eq_true h5
  omega
theorem sOk2 {a b : Str} (h1 : isNm a = true) (h2 : isNm b = true) : sOk [a, b] := fun x hx => by
  rcases List.mem_cons.mp hx with rfl | hx
  · exact sOk_nm h1
  · rw [show x = b by simpa using hx]
    exact sOk_nm h2
/-- triples given as lists or tuples, with what they tell -/
theorem zip_ar {H : Hp} {cs : List Str} : ∀ {hv : List V} {as : List A3}, Paired (fun v a => Seq K H v (v3 a)) hv as → (∀ a ∈ as, a.1 ∈ cs ∧ a.2.2 ∈ cs ∧ -1 ≤ a.2.1 ∧ a.2.1 ≤ 1) → ∃ ds : List (V × Bool × A3), ds.map Prod.fst = hv ∧ (ds.map fun d => d.2.2) = as ∧ ∀ d ∈ ds, d.2.1 = true ∧ ArD K H cs d
  | _, _, .nil, _ => ⟨[], rfl, rfl, fun d h => nomatch h⟩
  | v :: hv, a :: as, .cons h t, hm => by
    obtain ⟨ds, e1, e2, e3⟩ := zip_ar t fun x hx => hm x (List.mem_cons_of_mem _ hx)
    have m := hm a (List.mem_cons_self ..)
    refine ⟨(v, true, a) :: ds, by rw [List.map_cons, e1], by rw [List.map_cons, e2], fun d hd => ?_⟩
    rcases List.mem_cons.mp hd with rfl | hd
    · refine ⟨rfl, .inr ⟨_, h, .inr ⟨.str a.1, .int a.2.1, .str a.2.2, some a.2.1, rfl, .inl ⟨_, rfl, rfl⟩, (fun z => nomatch z), fun j ej => ?_⟩⟩, fun _ => h⟩
      cases ej
      refine ⟨rfl, rfl, ?_⟩
      show true = _
      rw [in_strsV, in_strsV, decide_eq_true m.1, decide_eq_true m.2.1, decide_eq_true m.2.2.1, decide_eq_true m.2.2.2]
      rfl
    · exact e3 d hd
theorem firstG_none {α : Type} [DecidableEq α] : ∀ {l : List (Bool × α)} {seen : List α} {i : Nat}, (∀ d ∈ l, d.1 = true) → (l.map Prod.snd).Nodup → (∀ z ∈ seen, z ∉ l.map Prod.snd) → firstG l seen i = none
  | [], _, _, _, _, _ => rfl
  | (r, z) :: l, seen, i, h, nd, hs => by
    have hr : r = true := h (r, z) (List.mem_cons_self ..)
    obtain ⟨n1, n2⟩ := List.nodup_cons.mp nd
    unfold firstG
    rw [if_neg]
    · refine firstG_none (fun d hd => h d (List.mem_cons_of_mem _ hd)) n2 fun y hy => ?_
      rcases List.mem_append.mp hy with hy | hy
      · exact fun m => hs y hy (List.mem_cons_of_mem _ m)
      · rw [show y = z by simpa using hy]
        exact n1
    · rintro (e | m)
      · rw [hr] at e
        cases e
      · exact hs z m (List.mem_cons_self ..)
/-- .. with a first wrong one behind right ones -/
theorem firstG_at {α : Type} [DecidableEq α] {b : Bool} {z : α} {r : List (Bool × α)} : ∀ {l : List (Bool × α)} {seen : List α} {i : Nat}, (∀ d ∈ l, d.1 = true) → (l.map Prod.snd).Nodup → (∀ z ∈ seen, z ∉ l.map Prod.snd) → (b = true → z ∈ seen ++ l.map Prod.snd) → firstG (l ++ (b, z) :: r) seen i = some (i + l.length)
  | [], seen, i, _, _, _, hb => by
    show firstG ((b, z) :: r) seen i = some (i + 0)
    unfold firstG
    rw [if_pos]
    · rfl
    · cases b with
      | false => exact .inl rfl
      | true => exact .inr (by simpa using hb rfl)
  | (q, y) :: l, seen, i, h, nd, hs, hb => by
    have hr : q = true := h (q, y) (List.mem_cons_self ..)
    obtain ⟨n1, n2⟩ := List.nodup_cons.mp nd
    show firstG ((q, y) :: (l ++ (b, z) :: r)) seen i = _
    unfold firstG
    rw [if_neg]
    · have := firstG_at (b := b) (z := z) (r := r) (l := l) (seen := seen ++ [y]) (i := i + 1) (fun d hd => h d (List.mem_cons_of_mem _ hd)) n2 (fun u hu => by
        rcases List.mem_append.mp hu with hu | hu
        · exact fun m => hs u hu (List.mem_cons_of_mem _ m)
        · rw [show u = y by simpa using hu]
          exact n1) (fun e => by
        have := hb e
        rw [List.map_cons] at this
        rw [List.append_assoc]
        exact this)
      rw [this, List.length_cons]
      congr 1
      omega
    · rintro (e | m)
      · rw [hr] at e
        cases e
      · exact hs y m (List.mem_cons_self ..)
theorem all7 {cs : List Str} (h : ∀ c ∈ cs, isNm c = true ∧ c.length ≤ 7) : (cs.all fun c => decide (c.length ≤ 7)) = true := List.all_eq_true.mpr fun c hc => decide_eq_true (h c hc).2
/-- a piece is made -/
theorem piece_made {H : Hp} {C x dx : Addr} {cv av : V} {cs : List Str} {as : List A3} {hv : List V} {Q : VK} {E : XK} (ok : PcOk cs as) (hx : H x = some (.ins C dx [])) (hc : Seq K H cv (cs.map .str)) (ha : Seq K H av hv) (hp : Paired (fun v a => Seq K H v (v3 a)) hv as)
    (q : ∀ H', Same (hide x H) (hide x H') → IsPc K H' C x cs as → Q .non H') : spPiece K C [.ref x, cv, av] H Q E := by
  obtain ⟨ds, e1, e2, e3⟩ := zip_ar (cs := cs) hp ok.ar
  have ls : ds.length = as.length := by rw [← e2, List.length_map]
  have la := ok.la
  refine ⟨x, dx, cv, av, rfl, hx, .inr ⟨cs, nl_strs hc (Nat.le_trans ok.lc (by decide)) (fun z hz => (ok.nm z hz).1) ok.nd, hc, Nat.le_trans ok.lc (by decide), fun c hc => Nat.le_trans (ok.nm c hc).2 (by decide), .inr (.inr ⟨ok.ne, all7 ok.nm, .inr ⟨ds, by rw [e1]; exact ha, by omega, fun d hd => ⟨(e3 d hd).2, fun _ => ?_⟩, .inr ⟨?_, fun d hd => (e3 d hd).1, fun H' s' p' => q H' s' (by rw [e2] at p'; exact p')⟩⟩⟩)⟩⟩
  · have hm : d.2.2 ∈ as := by rw [← e2]; exact List.mem_map_of_mem hd
    have m := ok.ar _ hm
    exact sOk2 (ok.nm _ m.1).1 (ok.nm _ m.2.1).1
  · refine firstG_none (fun d hd => ?_) ?_ fun z hz => nomatch hz
    · obtain ⟨d', hd', rfl⟩ := List.mem_map.mp hd
      exact (e3 d' hd').1
    · rw [List.map_map, show (Prod.snd ∘ Prod.snd : V × Bool × A3 → A3) = fun d => d.2.2 from rfl, e2]
      exact ok.na
/-- .. refused for its first wrong arrow -/
theorem piece_arrow {H : Hp} {C x dx : Addr} {cv av : V} {cs : List Str} {as : List A3} {h1 h2 : List V} {y : V} {b : Bool} {a' : A3} {at' : Nat} {Q : VK} {E : XK} (ok : PcOk cs as) (hx : H x = some (.ins C dx [])) (hc : Seq K H cv (cs.map .str)) (ha : Seq K H av (h1 ++ y :: (h2 ++ [.non])))
    (hat : at' ≤ as.length) (hp1 : Paired (fun v a => Seq K H v (v3 a)) h1 (as.take at')) (hp2 : Paired (fun v a => Seq K H v (v3 a)) h2 (as.drop at')) (hy : ArD K H cs (y, b, a')) (hb : b = true → a' ∈ as.take at') (h200 : as.length ≤ 200) (rz : Rz H E (He.ga K "BadArrow") "index" (.int (at' : Nat))) : spPiece K C [.ref x, cv, av] H Q E := by
  obtain ⟨d1, e1, e2, e3⟩ := zip_ar (cs := cs) hp1 fun a h => ok.ar a (List.mem_of_mem_take h)
  obtain ⟨d2, f1, f2, f3⟩ := zip_ar (cs := cs) hp2 fun a h => ok.ar a (List.mem_of_mem_drop h)
  have l1 : d1.length = at' := by
    have := congrArg List.length e2
    rw [List.length_map, List.length_take] at this
    omega
  have l2 : d2.length ≤ as.length := by
    have := congrArg List.length f2
    rw [List.length_map, List.length_drop] at this
    omega
  have la := ok.la
  have nmA : ∀ a ∈ as, sOk [a.1, a.2.2] := fun a h => sOk2 (ok.nm _ (ok.ar a h).1).1 (ok.nm _ (ok.ar a h).2.1).1
  refine ⟨x, dx, cv, av, rfl, hx, .inr ⟨cs, nl_strs hc (Nat.le_trans ok.lc (by decide)) (fun z hz => (ok.nm z hz).1) ok.nd, hc, Nat.le_trans ok.lc (by decide), fun c hc => Nat.le_trans (ok.nm c hc).2 (by decide), .inr (.inr ⟨ok.ne, all7 ok.nm, .inr ⟨d1 ++ (y, b, a') :: (d2 ++ [(.non, false, a')]), ?_, ?_, fun d hd => ?_, .inl ⟨at', ?_, rz⟩⟩⟩)⟩⟩
  · rw [List.map_append, List.map_cons, List.map_append, e1, f1]
    exact ha
  · rw [List.length_append, List.length_cons, List.length_append]
    show d1.length + (d2.length + 1 + 1) ≤ 500
    have : as.length ≤ 200 := h200
    omega
  · rcases List.mem_append.mp hd with hd | hd
    · refine ⟨(e3 d hd).2, fun _ => nmA _ (List.mem_of_mem_take (i := at') (by rw [← e2]; exact List.mem_map_of_mem hd))⟩
    rcases List.mem_cons.mp hd with rfl | hd
    · exact ⟨hy, fun e => nmA _ (List.mem_of_mem_take (hb e))⟩
    rcases List.mem_append.mp hd with hd | hd
    · refine ⟨(f3 d hd).2, fun _ => nmA _ (List.mem_of_mem_drop (i := at') (by rw [← f2]; exact List.mem_map_of_mem hd))⟩
    · rw [show d = (.non, false, a') by simpa using hd]
      exact ⟨⟨ar_no (.base .non) (kit_ty (by decide +kernel)) (kit_ty (by decide +kernel)), fun z => nomatch z⟩, fun z => nomatch z⟩
  · rw [List.map_append, List.map_cons]
    have e2' : (d1.map Prod.snd).map Prod.snd = as.take at' := by rw [List.map_map]; exact e2
    have hd1 : ∀ d ∈ d1.map Prod.snd, d.1 = true := fun d hd => by
      obtain ⟨d', hd', rfl⟩ := List.mem_map.mp hd
      exact (e3 d' hd').1
    rw [firstG_at (b := b) (z := a') (seen := []) (i := 0) hd1 (by rw [e2']; exact ok.na.sublist (List.take_sublist _ _)) (fun z hz => (fun h => nomatch h : z ∉ []) hz |>.elim) (fun e => by rw [e2', List.nil_append]; exact hb e), List.length_map, l1, Nat.zero_add]
theorem piece_no {H : Hp} {C x dx : Addr} {cv av : V} {Q : VK} {E : XK} (hx : H x = some (.ins C dx [])) (hn : NLis K H cv false) (bz : Bz H E (He.ga K "BadPiece")) : spPiece K C [.ref x, cv, av] H Q E := ⟨x, dx, cv, av, rfl, hx, .inl ⟨hn, bz⟩⟩
theorem piece_ne {H : Hp} {C x dx : Addr} {cv av : V} {Q : VK} {E : XK} (hx : H x = some (.ins C dx [])) (h : Seq K H cv []) (bz : Bz H E (He.ga K "BadPiece")) : spPiece K C [.ref x, cv, av] H Q E :=
  ⟨x, dx, cv, av, rfl, hx, .inr ⟨[], nl_strs (xs := []) h (by decide) (fun z hz => nomatch hz) List.nodup_nil, h, by decide, (fun c hc => nomatch hc), .inl ⟨rfl, bz⟩⟩⟩
theorem piece_no_list {H : Hp} {C x dx : Addr} {cv av : V} {cs : List Str} {as : List A3} {t : Value} {Q : VK} {E : XK} (ok : PcOk cs as) (hx : H x = some (.ins C dx [])) (hc : Seq K H cv (cs.map .str)) (ty : TyX K H av t) (kt : PySem.W.kitAny K t LT = some false) (rz : Rz H E (He.ga K "BadArrow") "index" (.int 0)) : spPiece K C [.ref x, cv, av] H Q E :=
  ⟨x, dx, cv, av, rfl, hx, .inr ⟨cs, nl_strs hc (Nat.le_trans ok.lc (by decide)) (fun z hz => (ok.nm z hz).1) ok.nd, hc, Nat.le_trans ok.lc (by decide), fun c hc => Nat.le_trans (ok.nm c hc).2 (by decide), .inr (.inr ⟨ok.ne, all7 ok.nm, .inl ⟨t, ty, kt, rz⟩⟩)⟩⟩
end
end K63
end L2
set_option Elab.async false
set_option linter.all false
set_option maxRecDepth 100000
set_option maxHeartbeats 4000000
namespace L2
namespace K63
open PySem PySem.Spec PyProof.Rows K1 WL LamX
section
variable {K : PySem.W.Frag}
/-- what cannot be the cells of a piece -/
def BadC (K : PySem.W.Frag) (H : Hp) (y : V) : Prop := NLis K H y false ∨ Seq K H y [] ∨ ∃ cs : List Str, Seq K H y (cs.map .str) ∧ NLis K H y true ∧ cs ≠ [] ∧ cs.length ≤ 900 ∧ (∀ c ∈ cs, c.length ≤ 1000) ∧ (cs.all fun c => decide (c.length ≤ 7)) = false
theorem BadC.same {H H' : Hp} {y : V} (h : BadC K H y) (s : Same H H') : BadC K H' y := by
  rcases h with h | h | ⟨cs, h1, h2, h3⟩
  · exact .inl (h.same s)
  · exact .inr (.inl (h.same s))
  · exact .inr (.inr ⟨cs, h1.same s, h2.same s, h3⟩)
theorem BadC.piece {H : Hp} {C x dx : Addr} {y av : V} {Q : VK} {E : XK} (h : BadC K H y) (hx : H x = some (.ins C dx [])) (bz : Bz H E (He.ga K "BadPiece")) : spPiece K C [.ref x, y, av] H Q E := by
  rcases h with h | h | ⟨cs, h1, h2, h3, h4, h5, h6⟩
  · exact piece_no hx h bz
  · exact piece_ne hx h bz
  · exact ⟨x, dx, y, av, rfl, hx, .inr ⟨cs, h2, h1, h4, h5, .inr (.inl ⟨h3, h6, bz⟩)⟩⟩
theorem bad_ty {H : Hp} {y : V} {t : String} (ty : TyX K H y (.type t)) (h1 : PySem.W.kitOne K (.type t) (.type "list") = some false) (h2 : PySem.W.kitOne K (.type t) (.type "tuple") = some false) : BadC K H y := .inl (.inl ⟨_, ty, kit_none h1 h2, rfl⟩)
theorem bad_long {H : Hp} {b : Addr} (h : H b = some (.lst [.str "abcdefgh"])) : BadC K H (.ref b) :=
  .inr (.inr ⟨["abcdefgh"], ⟨b, rfl, .inl (SqL.of h)⟩, nl_strs (xs := ["abcdefgh"]) ⟨b, rfl, .inl (SqL.of h)⟩ (by decide) (by decide +kernel) (by decide +kernel), (fun z => nomatch z), by decide, by decide +kernel, by decide +kernel⟩)
theorem bad_twice {H : Hp} {b : Addr} {cs : List Str} (h : H b = some (.lst (cs.map .str ++ (cs.map .str).take 1))) (ne : cs ≠ []) (hl : cs.length ≤ 800) (hn : ∀ c ∈ cs, isNm c = true) : BadC K H (.ref b) := by
  have e : cs.map V.str ++ (cs.map V.str).take 1 = (cs ++ cs.take 1).map .str := by rw [List.map_append, List.map_take]
  rw [e] at h
  have n := (nl1_strs (K := K) h (by rw [List.length_append, List.length_take]; omega) fun x hx => (List.mem_append.mp hx).elim (hn x) fun hx => hn x (List.mem_of_mem_take hx)).nlis
  have nn : ¬ (cs ++ cs.take 1).Nodup := fun nd => by
    cases cs with
    | nil => exact ne rfl
    | cons a l => exact (List.nodup_append.mp nd).2.2 a (List.mem_cons_self ..) a (List.mem_cons_self ..) rfl
  rw [decide_eq_false nn] at n
  exact .inl n
end
end K63
end L2
set_option Elab.async false
set_option linter.all false
set_option maxRecDepth 100000
set_option maxHeartbeats 16000000
namespace L2
namespace K63
open PySem PySem.Spec PyProof.Rows K1 WL LamX
section
variable {P : Program} {w : World} {K : PySem.W.Frag} {mg : Str → Option Value} {base : Heap} {f : Addr} {fd : FuncData}
abbrev ENo : XK := fun _ _ _ => False
theorem passN {X : Cx} : Passes (L2.CX X.prog X.w) X ENo := passes_call takes_none5 fun _ _ _ _ h => h.elim
/-! ### law -/
abbrev nmLA : List Str := ["_law_script", "_law_turn", "_law_pool_here", "_law_arrows", "_law_given", "_law_part", "_law_n", "_law_due", "_law_found", "_law_cell_here", "_law_sources", "_law_at", "_law_bad", "_law_cells_here", "_law_odd", "_law_piece_here", "_law_wrong", "_law_arrow"]
theorem sc_law : FnScope nmLA ["_law_script"] (defScope s_law) := ⟨rfl, rfl, rfl, by decide +kernel, rfl, by decide +kernel, by decide +kernel⟩
abbrev lamQ : Str := (envOfC "law" (defScope s_law) 0 0 .none).qual ++ "<lambda>"
def spLaw (K : PySem.W.Frag) (pt : Addr) : Sp := fun vs H Q _ => ∃ (a : Addr) (ns : List Int), vs = [.ref a] ∧ SqL K H a (ns.map V.int) ∧ H pt = some (.tbl #[]) ∧ ∀ H', Q (.bl true) H'
theorem seventeen {r : List (Option V)} (h : r.length = 17) : ∃ o1 o2 o3 o4 o5 o6 o7 o8 o9 o10 o11 o12 o13 o14 o15 o16 o17 : Option V, r = [o1, o2, o3, o4, o5, o6, o7, o8, o9, o10, o11, o12, o13, o14, o15, o16, o17] := by
  match r, h with
  | [o1, o2, o3, o4, o5, o6, o7, o8, o9, o10, o11, o12, o13, o14, o15, o16, o17], _ => exact ⟨o1, o2, o3, o4, o5, o6, o7, o8, o9, o10, o11, o12, o13, o14, o15, o16, o17, rfl⟩
/-- what stays true of the law's own things, in the heap beside the pool and the law's table -/
structure Fx0 (K : PySem.W.Frag) (l lc la : Addr) (ns : List Int) (cs : List Str) (as : List A3) (av : List V) (B : Hp) : Prop where
  hl : SqL K B l (ns.map V.int)
  ec : B lc = some (.lst (cs.map .str))
  ea : B la = some (.lst av)
  tr : Paired (Trip K B) av as
theorem Fx0.same {K : PySem.W.Frag} {l lc la : Addr} {ns : List Int} {cs : List Str} {as : List A3} {av : List V} {B B' : Hp} (h : Fx0 K l lc la ns cs as av B) (s : Same B B') : Fx0 K l lc la ns cs as av B' := ⟨SqL.sm h.hl s, s _ _ h.ec, s _ _ h.ea, Paired.imp (fun _ _ x => x.same s) h.tr⟩
theorem t_seqIf {c : TT} {t e u : TS} {D : Ends} {σ : St} {H : Hp} (h : c σ H fun b H1 => if b = true then t { D with nx := u D } σ H1 else e { D with nx := u D } σ H1) : tSeq (tIfS c t e) u D σ H := h
theorem t_ifS {c : TT} {t e : TS} {D : Ends} {σ : St} {H : Hp} (h : c σ H fun b H1 => if b = true then t D σ H1 else e D σ H1) : tIfS c t e D σ H := h
theorem shaped_t3 {as : List A3} (h : ∀ a ∈ as, sOk [a.1, a.2.2]) : SeqAt.shaped (.tuple (as.map d3)) = true := by
  obtain ⟨h1, h2⟩ := shape_d3s h
  unfold SeqAt.shaped
  refine Bool.and_eq_true_iff.mpr ⟨h1, decide_eq_true ?_⟩
  show PyData.depthAll (as.map d3) + 1 ≤ 64
  omega
theorem sOk_cs {cs : List Str} (h : ∀ c ∈ cs, isNm c = true) : sOk cs := fun x hx => sOk_nm (h x hx)
/-- all but lists stay -/
def LL (H H' : Hp) : Prop := ∀ b o, H b = some o → (∀ xs, o ≠ .lst xs) → H' b = some o
theorem LL.refl (H : Hp) : LL H H := fun _ _ h _ => h
theorem LL.list {H H' : Hp} {g : Addr} {xs ys : List V} (h : LL H H') (e : H' g = some (.lst xs)) : LL H (upd H' g (.lst ys)) := fun b o hb n => by
  have := h b o hb n
  rw [upd_ne]
  · exact this
  · intro z
    rw [z, e] at this
    exact n xs (Option.some.inj this).symm
theorem TabS_ll {H H' : Hp} {P : Addr} {q : Str} (t : TabS H P q) (e : LL H H') : TabS H' P q := by
  obtain ⟨ps, h1, h2, h3⟩ := t
  refine ⟨ps, e _ _ h1 (fun _ z => nomatch z), h2, fun pos cv hc => ?_⟩
  obtain ⟨c, e1, e2⟩ := h3 pos cv hc
  exact ⟨c, e1, e _ _ e2 (fun xs z => by unfold CodeO at z; cases z)⟩
abbrev hT (p : Addr) (H : Hp) : Hp := offT (hide p H)
theorem hT_le {p : Addr} {H : Hp} : Same (hT p H) H := offT_le.trans hide_le
theorem hT_hl {p : Addr} {H : Hp} : Same (hT p H) (hide p H) := offT_le
theorem hT_same {p : Addr} {H H' : Hp} (s : Same (hide p H) (hide p H')) : Same (hT p H) (hT p H') := offT_same s
theorem hT_over {B H : Hp} {p g : Addr} {o : HO} (n : B g = none) (s : Same B (hT p H)) (gp : g ≠ p) : Same B (hT p (upd H g o)) := fun b u e => by
  have bg : b ≠ g := fun z => by rw [z, n] at e; cases e
  obtain ⟨h1, h2⟩ := offT_some (s _ _ e)
  refine offT_at ?_ h2
  rw [hide_upd gp, upd_ne bg]
  exact h1
theorem hT_none {p b : Addr} {H : Hp} (h : H b = none) : hT p H b = none := by
  cases e : hT p H b with
  | none => rfl
  | some o =>
    have := hT_le _ _ e
    rw [h] at this
    cases this
theorem IsPc_less {K : PySem.W.Frag} {H H' : Hp} {C p : Addr} {cs : List Str} {as : List A3} (h : IsPc K H C p cs as) (L : Less H H') : IsPc K H' C p cs as := by
  obtain ⟨dx, c, a, av, h⟩ := h
  exact ⟨dx, c, a, av, L.le _ _ h.ob (fun _ z => nomatch z) (fun _ z => nomatch z), L.sqT h.hc, L.sqT h.ha, Paired.imp (fun _ _ ⟨q, e, x⟩ => ⟨q, e, L.sqT x⟩) h.da⟩
theorem IsPc.ll {K : PySem.W.Frag} {H H' : Hp} {C p x : Addr} {cs : List Str} {as : List A3} {n : Nat} (h : IsPc K H C x cs as) (L : LL H H') (P : Pl H' p n) : IsPc K (hT p H') C x cs as := by
  obtain ⟨a, b, c, e, _⟩ := P
  exact IsPc_less (IsPc_less h ⟨fun b o e n _ => L b o e n⟩) ((less_hide e).trans less_offT)
def OddN (K : PySem.W.Frag) (H : Hp) (y : V) : Prop := ∃ o t b d, IntV K H y o ∧ cntOk o = false ∧ TyX K H y t ∧ PySem.W.kitOne K t (.type "bool") = some b ∧ Dp K H y d ∧ SeqAt.shaped (.tuple [.str "number", .list [d, .bool b]]) = true
theorem OddN.same {K : PySem.W.Frag} {H H' : Hp} {y : V} (h : OddN K H y) (s : Same H H') : OddN K H' y := by
  obtain ⟨o, t, b, d, h1, h2, h3, h4, h5, h6⟩ := h
  exact ⟨o, t, b, d, h1.same s, h2, TyX.same h3 s, h4, WL.dp_same s h5, h6⟩
theorem oddN_int {K : PySem.W.Frag} {H : Hp} {i : Int} (h : cntOk (some i) = false) (hs : SeqAt.shaped (.tuple [.str "number", .list [.int i, .bool false]]) = true) : OddN K H (.int i) := ⟨some i, _, false, .int i, .inl ⟨i, rfl, rfl⟩, h, .base (.int i), kit_ty (by decide +kernel), .int i, hs⟩
theorem oddN_str {K : PySem.W.Frag} {H : Hp} : OddN K H (.str "1") := ⟨none, _, false, .str "1", intV_flat rfl, rfl, .base (.str _), kit_ty (by decide +kernel), .str _, by decide +kernel⟩
theorem oddN_non {K : PySem.W.Frag} {H : Hp} : OddN K H .non := ⟨none, _, false, .none, intV_flat rfl, rfl, .base .non, kit_ty (by decide +kernel), .non, by decide +kernel⟩
theorem oddN_bl {K : PySem.W.Frag} {H : Hp} : OddN K H (.bl true) := ⟨none, _, true, .bool true, intV_flat rfl, rfl, .base (.bl true), kit_ty (by decide +kernel), .bl true, by decide +kernel⟩
theorem oddN_tup {K : PySem.W.Frag} {H : Hp} {u : Addr} (h : H u = some (.tup [.int 1])) : OddN K H (.ref u) := ⟨none, _, false, .tuple [.int 1], intV_tup h, rfl, .base (.tup h), kit_ty (by decide +kernel), .tup (SqT.of h) (.cons (.int 1) .nil), by decide +kernel⟩
structure St63 (K : PySem.W.Frag) (CP x l p pt lc la : Addr) (n : Nat) (ns : List Int) (cs : List Str) (as : List A3) (av : List V) (nm : Str) (H : Hp) : Prop where
  F : Fx0 K l lc la ns cs as av (hT p H)
  pc : IsPc K (hT p H) CP x cs as
  pl : Pl H p n
  tb : TabS H pt nm
section
variable {K : PySem.W.Frag} {CP x l p pt lc la : Addr} {n m : Nat} {ns : List Int} {cs : List Str} {as : List A3} {av : List V} {nm : Str} {H H' : Hp}
theorem St63.same (h : St63 K CP x l p pt lc la n ns cs as av nm H) (s : Same H H') : St63 K CP x l p pt lc la n ns cs as av nm H' := ⟨h.F.same (hT_same (hide_same s)), h.pc.same (hT_same (hide_same s)), h.pl.same s, LamX.TabS.ext h.tb s⟩
theorem St63.step (h : St63 K CP x l p pt lc la n ns cs as av nm H) (s : Same (hide p H) (hide p H')) (P : Pl H' p m) : St63 K CP x l p pt lc la m ns cs as av nm H' := ⟨h.F.same (hT_same s), h.pc.same (hT_same s), P, LamX.TabS.ext (LamX.TabS.ext (WL.TabS.hid h.tb h.pl) s) hide_le⟩
theorem St63.take (h : St63 K CP x l p pt lc la n ns cs as av nm H) (s : hide p H' = hide p H) (P : Pl H' p m) : St63 K CP x l p pt lc la m ns cs as av nm H' := h.step (by rw [s]; exact Same.refl _) P
theorem St63.ext (h : St63 K CP x l p pt lc la n ns cs as av nm H) (e : ExtN H H') (t : TabS H' pt nm) : St63 K CP x l p pt lc la n ns cs as av nm H' := ⟨h.F.same (ExtN.hide e), h.pc.same (ExtN.hide e), h.pl.extN e, t⟩
theorem St63.le (h : St63 K CP x l p pt lc la n ns cs as av nm H) (k : n ≤ m) : St63 K CP x l p pt lc la m ns cs as av nm H := ⟨h.F, h.pc, h.pl.le k, h.tb⟩
theorem St63.lcs (h : St63 K CP x l p pt lc la n ns cs as av nm H) : Seq K H (.ref lc) (cs.map .str) := ⟨lc, rfl, .inl (SqL.of (hT_le _ _ h.F.ec))⟩
theorem St63.las (h : St63 K CP x l p pt lc la n ns cs as av nm H) : Seq K H (.ref la) av := ⟨la, rfl, .inl (SqL.of (hT_le _ _ h.F.ea))⟩
theorem St63.trs (h : St63 K CP x l p pt lc la n ns cs as av nm H) : Paired (Trip K H) av as := Paired.imp (fun _ _ x => x.same hT_le) h.F.tr
end
theorem ok_law {C CP fpi fs ff cc pt : Addr} {fdpi fds fdf : FuncData} (T : Bl mg) (fr : mg "range" = none) (fint : mg "int" = none) (fb : mg "bool" = none) (W : Wt K mg C) (Wp : Pt K mg CP) (Mp : Mk K CP fpi) (Gpi : FnOk P w K mg base (L2.CX P w) 4 fpi fdpi ["self", "cells", "arrows"] (spPiece K CP)) (bpi : Binds K fdpi ["self", "cells", "arrows"] [])
    (Cro : ∃ f fd, FnOk P w K mg base (L2.CX P w) 8 f fd ["piece", "n"] (spRow K CP C) ∧ mg "row" = some (.ref f) ∧ PySem.W.keepIn K (.ref f) = true ∧ Binds K fd ["piece", "n"] [])
    (Gs : FnOk P w K mg base (L2.CX P w) 4 fs fds ["self", "cell"] (spSrc K C (He.ga K "UnknownCell") id)) (bs : Binds K fds ["self", "cell"] []) (ms : Meth K C "sources" fs)
    (Wi : Wk K C) (kk : PySem.W.kitOne K (.ref C) (.ref C) = some true) (e3 : Ex3 K mg)
    (Fr : FnP K "_law_told" "_law_told" s_told ff fdf) (gf : mg "_law_told" = some (.ref ff)) (bf : Binds K fdf ["_law_ask"] [])
    (Cc : Cal P w K mg base "_law_cell" ["_law_script", "_law_k"] 1 (spCellL K)) (Cp : Cal P w K mg base "_law_pool" ["_law_cell_here"] 1 spPoolL) (Ct : Cal P w K mg base "_law_take" ["_law_pool_here", "_law_many"] 1 spTakeL)
    (Cpc : Cal P w K mg base "_law_piece" ["_law_pool_here", "_law_most"] 3 (spPieceL K)) (Cl : Cal P w K mg base "_law_line_of" ["_law_cells_here", "_law_arrows", "_law_n"] 1 (spLine K)) (Cce : Cal P w K mg base "_law_cells" ["_law_rows"] 1 (spCellsL K))
    (Co : Cal P w K mg base "_law_odd_arrow" ["_law_pool_here", "_law_cells_here", "_law_arrows"] 2 (spOddA K)) (F : FnP K "law" "law" s_law f fd) (hc : fd.code = .ref cc) (TB : TabB base mg cc pt) :
    FnOk P w K mg base CX0 11 f fd ["_law_script"] (spLaw K pt) := by
  obtain ⟨fc', fdc', Gc', gc, kc, bc'⟩ := Cc.ex
  obtain ⟨fp, fdp, Gp, gp, kp, bp⟩ := Cp.ex
  obtain ⟨ft', fdt', Gt', gt, kt, bt'⟩ := Ct.ex
  obtain ⟨fpc, fdpc, Gpc, gpc, kpc, bpc⟩ := Cpc.ex
  obtain ⟨fl', fdl', Gl, gl, kl, bl'⟩ := Cl.ex
  obtain ⟨fce, fdce, Gce, gce, kce, bce⟩ := Cce.ex
  obtain ⟨fo, fdo, Go, go, ko, bo⟩ := Co.ex
  obtain ⟨fro, fdro, Gro, gro, kro, bro⟩ := Cro
  obtain ⟨oc, od, dV, kV, doc, pm, an, cdr, ct, osl, efd, lkr, hcr, _, _⟩ := Fr.ex
  refine FunD.okC F hc sc_law (fun vs H Q E h => ?_) (fun A outer s H vs Q E hr h => ?_)
  · obtain ⟨a, ns, rfl, _⟩ := h
    rfl
  · have nd := sc_law.nd
    have hu := hr.units
    have hu1 := hu_of hr
    have hu0 := Nat.lt_of_succ_lt hu1
    have h1 := hr.mono (show 1 ≤ 10 by decide)
    have h2 := hr.mono (show 2 ≤ 10 by decide)
    have h3 := hr.mono (show 3 ≤ 10 by decide)
    have h4 := hr.mono (show 4 ≤ 10 by decide)
    have h5 := hr.mono (show 5 ≤ 10 by decide)
    have h7 := hr.mono (show 7 ≤ 10 by decide)
    have h8 := hr.mono (show 8 ≤ 10 by decide)
    refine ⟨_, PSs.nox (pss_cons (ps_for PassesOwn.never rfl (pi_range1 rfl fr (pa_cons pe_int pa_nil)) (pg_name (i := 1) nd rfl (Or.inl rfl))
      (pss_cons (ps_set (i := 2) nd rfl (Or.inr rfl) (pe_call Gp h1 rfl gp kp bp .nil pass0 (pa_cons (pe_op op_add (pe_call Gc' h1 rfl gc kc bc' .nil pass0 (pa_cons (pv 0) (pa_cons (pv 1) pa_nil))) (pv 1)) pa_nil)))
      (pss_cons (ps_asg (pe_call Gpc h3 rfl gpc kpc bpc .nil pass0 (pa_cons (pv 2) (pa_cons pe_int pa_nil))) (pg_tup rfl (pgs_cons (pg_name (i := 13) nd rfl (Or.inr rfl)) (pgs_cons (pg_name (i := 3) nd rfl (Or.inl rfl)) pgs_nil))))
      (pss_cons (ps_set (i := 4) nd rfl (Or.inl rfl) (pe_lst (pa_cons (pe_callTy call_list_of rfl T.f_list PyProof.Rows.boot_list (pa_cons (pv 13) pa_nil)) (pa_cons (pe_lc (own := [("_law_arrow", 17)]) (g := gName 17) (tt := tYes) (te := tOp (rIxL K) (tLst (tCons (tCB (fun xs H Q => ∃ p ys, xs = [.ref p] ∧ (SqL K H p ys ∨ SqT K H p ys) ∧ ∀ l, H l = none → Q (.ref l) (upd H l (.lst ys))) (tCons (tVar 17) tNil)) (tCons (tVar 17) tNil))) (tCall spTakeL [] E0 (tCons (tVar 2) (tCons (tC (.int 2)) tNil)))) rfl nd (pi_list (pv 3)) (blkOk_by (N := nmLA) (sc := defScope s_law) (by decide +kernel)) (fun _ _ _ _ _ => pg_name (i := 17) nd rfl (Or.inl rfl)) (fun _ _ _ _ _ => pts_nil) (fun _ _ _ _ _ => pe_ix ix_list (pe_lst (pa_cons (pe_callTy call_list_of rfl T.f_list PyProof.Rows.boot_list (pa_cons (pv 17) pa_nil)) (pa_cons (pv 17) pa_nil))) (pe_call Gt' h1 rfl gt kt bt' .nil pass0 (pa_cons (pv 2) (pa_cons pe_int pa_nil))) fun _ _ => rfl)) pa_nil))))
      (pss_cons (ps_set (i := 15) nd rfl (Or.inr rfl) (pe_make Mp Gpi h5 rfl Wp.mg bpi .nil passN (pa_cons (pe_ix ix_list (pv 4) pe_int fun _ _ => rfl) (pa_cons (pe_ix ix_list (pv 4) pe_int fun _ _ => rfl) pa_nil))))
      (pss_cons (ps_for PassesOwn.never rfl (pi_list (pv 4)) (pg_name (i := 5) nd rfl (Or.inl rfl)) (pss_one (ps_expr (pe_bm PySem.F.plainAttrs_list PySem.F.slot_list_append PySem.F.type_list_append mt_append (pv 5) (pa_cons pe_str pa_nil)))))
      (pss_cons (ps_if (PW.pt (pw_or (pt_cmpR (op_neD hu) (pe_fld (pv 15) rfl) (pe_callTy call_tupS rfl T.f_tuple PyProof.Rows.boot_tuple (pa_cons (pv 13) pa_nil)) (nomark _)) (pw_or1 (pt_cmpR (op_neD hu) (pe_fld (pv 15) rfl) (pe_callTy call_tupS rfl T.f_tuple PyProof.Rows.boot_tuple (pa_cons (pv 3) pa_nil)) (nomark _))))) (pss_one (ps_ret pe_bl)) pss_nil)
      (pss_cons (ps_for PassesOwn.never rfl (pi_tup (pe_tup (pa_cons pe_int (pa_cons pe_int (pa_cons pe_int (pa_cons (pe_op op_add pe_int (pe_call Gt' h1 rfl gt kt bt' .nil pass0 (pa_cons (pv 2) (pa_cons pe_int pa_nil)))) (pa_cons (pe_ix ix_list (pe_lst (pa_cons pe_int (pa_cons pe_int pa_nil))) (pe_callTy call_int1 rfl fint PyProof.Rows.boot_int (pa_cons (pe_cmpR op_eq (pe_call Gt' h1 rfl gt kt bt' .nil pass0 (pa_cons (pv 2) (pa_cons pe_int pa_nil))) pe_int (nomark _)) pa_nil)) fun _ _ => rfl) pa_nil))))))) (pg_name (i := 6) nd rfl (Or.inl rfl)) (pss_cons (ps_set (i := 7) nd rfl (Or.inl rfl) (pe_call Gl h1 rfl gl kl bl' .nil pass0 (pa_cons (pv 13) (pa_cons (pv 3) (pa_cons (pv 6) pa_nil)))))
        (pss_cons (ps_set (i := 8) nd rfl (Or.inl rfl) (pe_call Gro h8 rfl gro kro bro .nil passN (pa_cons (pv 15) (pa_cons (pv 6) pa_nil))))
        (pss_cons (ps_if (PW.pt (pw_or (pt_not (pt_val (pe_callB call_isi rfl T.f_isinstance boot_isinstance (pa_cons (pv 8) (pa_cons (pe_glob (v := .ref C) rfl W.mg rfl (by decide +kernel)) pa_nil))))) (pw_or1 (pt_cmpR (op_neD hu) (pe_fld (pv 8) rfl) (pe_callTy call_tupS rfl T.f_tuple PyProof.Rows.boot_tuple (pa_cons (pe_call Gce h1 rfl gce kce bce .nil pass0 (pa_cons (pv 7) pa_nil)) pa_nil)) (nomark _))))) (pss_one (ps_ret pe_bl)) pss_nil)
        (pss_one (ps_for PassesOwn.never rfl (pi_list (pv 7)) (pg_seq rfl (pgs_cons (pg_name (i := 9) nd rfl (Or.inl rfl)) (pgs_cons (pg_name (i := 10) nd rfl (Or.inl rfl)) pgs_nil)))
          (pss_one (ps_if (pt_cmpR (op_neD hu) (pe_meth (pv 8) W.cl ms Gs h4 bs .nil passN (pa_cons (pv 9) pa_nil)) (pe_callTy call_tupS rfl T.f_tuple PyProof.Rows.boot_tuple (pa_cons (pv 10) pa_nil)) (nomark _)) (pss_one (ps_ret pe_bl)) pss_nil))))))))
      (pss_cons (ps_for PassesOwn.never rfl (pi_tup (pe_tup (pa_cons pe_int (pa_cons (pe_un un_neg pe_int) (pa_cons pe_int (pa_cons pe_non (pa_cons pe_str (pa_cons pe_bl (pa_cons (pe_tup (pa_cons pe_int pa_nil)) (pa_cons (pe_op op_pow pe_int pe_int) pa_nil)))))))))) (pg_name (i := 14) nd rfl (Or.inr rfl)) (pss_one (ps_if (pt_cmpR (op_neD hu) (pe_lamcall (t := fun E => tCall (spRow K CP C) [] E (tCons (tVar 15) (tCons (tVar 14) tNil))) (T := [(pt, lamQ)]) (TT := TTtold K) (k := 8) rfl gf Fr.kp (by rw [← efd]; exact lkr) hcr (by rw [← efd]; exact bf) sc_told rfl (Or.inl rfl) (told_gives T fb e3) TB rfl (List.mem_singleton.mpr rfl) (fun p hp _ => by cases List.mem_singleton.mp hp; rfl) hr (lamS_by (by show lamSB (defScope s_law) _ = true; decide +kernel)) rfl (fun _ _ _ _ _ => rfl) (fun A outer s H E f c hr => pe_call Gro hr rfl gro kro bro .nil (passes_call (takes_of rfl rfl rfl rfl) fun _ _ _ _ h => h) (pa_cons (pv 15) (pa_cons (pv 14) pa_nil)))) (pe_tup (pa_cons pe_str (pa_cons (pe_lst (pa_cons (pv 14) (pa_cons (pe_callB call_isi rfl T.f_isinstance boot_isinstance (pa_cons (pv 14) (pa_cons (pe_bltn (v := .ty "bool") rfl fb (by decide +kernel) rfl) pa_nil))) pa_nil))) pa_nil))) (nomark _)) (pss_one (ps_ret pe_bl)) pss_nil)))
      (pss_cons (ps_set (i := 12) nd rfl (Or.inr rfl) (pe_ix ix_list (pe_lst (pa_cons (pe_lst pa_nil) (pa_cons pe_non (pa_cons pe_str (pa_cons (pe_op op_cat (pv 13) (pe_slice sl_list (pv 13) po_none (po_some pe_int))) (pa_cons (pe_lst (pa_cons pe_str pa_nil)) (pa_cons (pe_lst (pa_cons pe_str pa_nil)) (pa_cons (pe_lst (pa_cons pe_str pa_nil)) (pa_cons (pe_op op_cat (pv 13) (pe_lst (pa_cons pe_int pa_nil))) (pa_cons pe_dnewK pa_nil)))))))))) (pe_call Gt' h1 rfl gt kt bt' .nil pass0 (pa_cons (pv 2) (pa_cons pe_int pa_nil))) fun _ _ => rfl))
      (pss_cons (ps_if (pt_cmpR (op_neD hu) (pe_lamcall (t := fun E => tMake CP (spPiece K CP) [] E (tCons (tVar 12) (tCons (tC (.int 5)) tNil))) (T := [(pt, lamQ)]) (TT := TTtold K) (k := 5) rfl gf Fr.kp (by rw [← efd]; exact lkr) hcr (by rw [← efd]; exact bf) sc_told rfl (Or.inl rfl) (told_gives T fb e3) TB rfl (List.mem_singleton.mpr rfl) (fun p hp _ => by cases List.mem_singleton.mp hp; rfl) h7 (lamS_by (by show lamSB (defScope s_law) _ = true; decide +kernel)) rfl (fun _ _ _ _ _ => rfl) (fun A outer s H E f c hr => pe_make Mp Gpi hr rfl Wp.mg bpi .nil (passes_call (takes_of rfl rfl rfl rfl) fun _ _ _ _ h => h) (pa_cons (pv 12) (pa_cons pe_int pa_nil)))) (pe_tup (pa_cons pe_str (pa_cons pe_non pa_nil))) (nomark _)) (pss_one (ps_ret pe_bl)) pss_nil)
      (pss_cons (ps_set (i := 11) nd rfl (Or.inl rfl) (pe_call Gt' h1 rfl gt kt bt' .nil pass0 (pa_cons (pv 2) (pa_cons (pe_op op_add (pe_callB call_len rfl T.f_len boot_len (pa_cons (pv 3) pa_nil)) pe_int) pa_nil))))
      (pss_cons (ps_set (i := 16) nd rfl (Or.inr rfl) (pe_op op_cat (pe_op op_cat (pe_op op_cat (pe_slice sl_list (pv 3) po_none (po_some (pv 11))) (pe_lst (pa_cons (pe_call Go h2 rfl go ko bo .nil pass0 (pa_cons (pv 2) (pa_cons (pv 13) (pa_cons (pe_slice sl_list (pv 3) po_none (po_some (pv 11))) pa_nil)))) pa_nil))) (pe_slice sl_list (pv 3) (po_some (pv 11)) po_none)) (pe_lst (pa_cons pe_non pa_nil))))
      (pss_cons (ps_if (pt_cmpR (op_neD hu) (pe_lamcall (t := fun E => tMake CP (spPiece K CP) [] E (tCons (tVar 13) (tCons (tVar 16) tNil))) (T := [(pt, lamQ)]) (TT := TTtold K) (k := 5) rfl gf Fr.kp (by rw [← efd]; exact lkr) hcr (by rw [← efd]; exact bf) sc_told rfl (Or.inl rfl) (told_gives T fb e3) TB rfl (List.mem_singleton.mpr rfl) (fun p hp _ => by cases List.mem_singleton.mp hp; rfl) h7 (lamS_by (by show lamSB (defScope s_law) _ = true; decide +kernel)) rfl (fun _ _ _ _ _ => rfl) (fun A outer s H E f c hr => pe_make Mp Gpi hr rfl Wp.mg bpi .nil (passes_call (takes_of rfl rfl rfl rfl) fun _ _ _ _ h => h) (pa_cons (pv 13) (pa_cons (pv 16) pa_nil)))) (pe_tup (pa_cons pe_str (pa_cons (pv 11) pa_nil))) (nomark _)) (pss_one (ps_ret pe_bl)) pss_nil)
      (pss_one (ps_for PassesOwn.never rfl (pi_tup (pe_tup (pa_cons pe_non (pa_cons pe_int (pa_cons pe_str (pa_cons pe_dnewK (pa_cons pe_bl pa_nil))))))) (pg_name (i := 14) nd rfl (Or.inr rfl)) (pss_one (ps_if (pt_cmpR (op_neD hu) (pe_lamcall (t := fun E => tMake CP (spPiece K CP) [] E (tCons (tCB (rTupS K) (tCons (tVar 13) tNil)) (tCons (tVar 14) tNil))) (T := [(pt, lamQ)]) (TT := TTtold K) (k := 5) rfl gf Fr.kp (by rw [← efd]; exact lkr) hcr (by rw [← efd]; exact bf) sc_told rfl (Or.inl rfl) (told_gives T fb e3) TB rfl (List.mem_singleton.mpr rfl) (fun p hp _ => by cases List.mem_singleton.mp hp; rfl) h7 (lamS_by (by show lamSB (defScope s_law) _ = true; decide +kernel)) rfl (fun _ _ _ _ _ => rfl) (fun A outer s H E f c hr => pe_make Mp Gpi hr rfl Wp.mg bpi .nil (passes_call (takes_of rfl rfl rfl rfl) fun _ _ _ _ h => h) (pa_cons (pe_callTy call_tupS rfl T.f_tuple PyProof.Rows.boot_tuple (pa_cons (pv 13) pa_nil)) (pa_cons (pv 14) pa_nil)))) (pe_tup (pa_cons pe_str (pa_cons pe_int pa_nil))) (nomark _)) (pss_one (ps_ret pe_bl)) pss_nil)))))))))))))))))) (pss_one (ps_ret pe_bl))), ?_⟩
    obtain ⟨l, ns, rfl, hl, htb, hQ⟩ := h
    refine t_seqF ?_
    refine ⟨4, rfl, by decide, by decide, for_range (n := 4) (fun _ σ H => SqL K H l (ns.map V.int) ∧ TabS H pt lamQ ∧ ∃ r, σ = some (.ref l) :: r ∧ r.length = 17) ⟨hl, LamX.TabS.nil htb, _, rfl, rfl⟩ ?turn ?last⟩
    case last =>
      rintro σ H1 ⟨_, _, r, rfl, _⟩
      exact hQ _
    case turn =>
      rintro i σ H1 hi ⟨hl1, tb1, r, rfl, hr17⟩
      obtain ⟨o1, o2, o3, o4, o5, o6, o7, o8, o9, o10, o11, o12, o13, o14, o15, o16, o17, rfl⟩ := seventeen hr17
      refine ⟨_, rfl, _, rfl, l, ns, i, (show ([V.ref l, V.int (0 + (i : Int))] : List V) = [V.ref l, V.int ((i : Nat) : Int)] by rw [Int.zero_add]), hl1, fun gr => ?_⟩
      refine ⟨_, rfl, gr, _, rfl, rfl, _, rfl, fun p o np hP => ?_⟩
      have hl2 : SqL K (hide p (upd H1 p o)) l (ns.map V.int) := by
        rw [hide_updp]
        exact SqL.hid hl1 np
      have tb2 : TabS (hide p (upd H1 p o)) pt lamQ := WL.TabS.hid (LamX.TabS.ext tb1 (same_upd np)) hP
      generalize upd H1 p o = H2 at *
      refine g_nm ?_
      dsimp only
      refine t_seqAsg ?_
      refine ⟨_, rfl, p, 0, rfl, hP, by decide, fun cs as av H3 t lc la made s3 P3 nt nlc nla ntc nta ncl et elc ela hav => ?_⟩
      have hl3 := SqL.sm hl2 s3
      have tb3 : TabS H3 pt lamQ := LamX.TabS.ext (LamX.TabS.ext tb2 s3) hide_le
      have F3 : Fx0 K l lc la ns cs as av (hT p H3) := ⟨SqL.offT hl3, offT_at elc (fun ps z => nomatch z), offT_at ela (fun ps z => nomatch z), Paired.imp (fun _ _ h => by
        obtain ⟨q1, e, h2⟩ := h
        exact ⟨q1, e, less_offT.sqT h2⟩) hav⟩
      refine ⟨t, _, rfl, SqT.of (hide_le _ _ et), rfl, _, _, rfl, _, _, rfl, rfl, ?_⟩
      have P3' : Pl H3 p 100 := P3
      have lav : av.length = as.length := Paired.length hav
      have l10 := made.l10
      clear s3 hl2 tb2 hP P3 nt nlc nla ntc nta ncl et elc ela hav hl3 hl1 tb1 np hl htb

      try dsimp only
      refine t_seqAsg ?_
      refine ⟨_, rfl, lc, _, rfl, .inl (SqL.of (hT_le _ _ F3.ec)), fun g0 ng0 => ?_⟩
      obtain ⟨g0p, s4, e40⟩ := hide_new (o := .lst (cs.map .str)) P3'.ne ng0
      have P4 := P3'.new (o := .lst (cs.map .str)) ng0
      have tb4 := LamX.TabS.ext tb3 (same_upd (o := .lst (cs.map .str)) ng0)
      have ng03 : hT p H3 g0 = none := hT_none ng0
      generalize upd H3 g0 (.lst (cs.map .str)) = H4 at *
      have tbh4 : TabS (hide p H4) pt lamQ := WL.TabS.hid tb4 P4
      have hav4 : Paired (Trip K (hide p H4)) av as := Paired.imp (fun _ _ h => (h.same hT_hl).same s4) F3.tr
      have ela4 : hide p H4 la = some (.lst av) := s4 _ _ (hT_hl _ _ F3.ea)
      refine ⟨_, rfl, la, rfl, ⟨_, SqL.of (hide_le _ _ ela4)⟩, fun g1 ng1 => ?_⟩
      obtain ⟨g1p, sE, eE⟩ := hide_new (o := .lst []) P4.ne ng1
      have g10 : g1 ≠ g0 := fun e => by
        have := hide_le _ _ e40
        rw [← e, ng1] at this
        cases this
      refine lc_it (walk_list (xs := av)) (fun j H' => Same (hide p H4) (hide g1 (hide p H')) ∧ Pl H' p (100 + j) ∧ ∃ hv : List V, hide p H' g1 = some (.lst hv) ∧ Paired (fun v a => Seq K (hide g1 (hide p H')) v (v3 a)) hv (as.take j))
        ⟨same_hide_new sE (hide_none ng1), P4.new ng1, [], eE, .nil⟩ (fun j H' _ p => SqL.of (hide_le _ _ (hide_le _ _ (p.1 _ _ ela4)))) (fun j y H5z H5 hj pj yy => ?_) (fun H5 pj => ?_)
      · obtain ⟨rfl, hy⟩ := yy
        obtain ⟨s5, P5, hv, eh, hhv⟩ := pj
        obtain ⟨a, ha, q1, rfl, sq⟩ := Paired.getL hav4 hy
        have sq5 := SqT.same sq s5
        refine ⟨rfl, _, rfl, q1, _, rfl, .inr (SqT.same (SqT.same sq5 hide_le) hide_le), fun c1 nc1 => ?_⟩
        obtain ⟨c1p, sa, ec1⟩ := hide_new (o := .lst (v3 a)) P5.ne nc1
        have P6 := P5.new (o := .lst (v3 a)) nc1
        have c1E : c1 ≠ g1 := fun e => by
          have := hide_le _ _ eh
          rw [← e, nc1] at this
          cases this
        generalize upd H5 c1 (.lst (v3 a)) = H6 at *
        refine ⟨_, rfl, (show 2 ≤ sizeLine by decide), fun c2 nc2 => ?_⟩
        obtain ⟨c2p, sb, ec2⟩ := hide_new (o := .lst [.ref c1, .ref q1]) P6.ne nc2
        have P7 := P6.new (o := .lst [.ref c1, .ref q1]) nc2
        generalize upd H6 c2 (.lst [.ref c1, .ref q1]) = H7 at *
        refine ⟨_, rfl, p, 2, 100 + j, rfl, by decide, by decide, P7, by omega, fun k H8 hk h8 P8 => ?_⟩
        have sab : Same (hide p H5) (hide p H8) := by rw [h8]; exact sa.trans sb
        have hsab := hide_same (p := g1) sab
        have ec2' : hide p H8 c2 = some (.lst [.ref c1, .ref q1]) := by rw [h8]; exact ec2
        have ec1' : hide p H8 c1 = some (.lst (v3 a)) := by rw [h8]; exact sb _ _ ec1
        obtain ⟨y, hy2⟩ : ∃ y, ([.ref c1, .ref q1] : List V)[k]? = some y := ⟨_, List.getElem?_eq_getElem (show k < 2 by omega)⟩
        refine ⟨c2, _, _, y, rfl, rfl, SqL.of (hide_le _ _ ec2'), atI_nat hy2, ?_⟩
        refine ⟨hv, hide_le _ _ (sab _ _ eh), ?_, ?_⟩
        · rw [Paired.length hhv, List.length_take, sizeLine_eq]
          omega
        · have tk : as.take (j + 1) = as.take j ++ [a] := by rw [List.take_succ, ha]; rfl
          rw [hide_upd g1p, hide_updp]
          refine ⟨s5.trans hsab, (P8.upd g1p).le (by omega), hv ++ [y], upd_same, ?_⟩
          rw [tk]
          refine Paired.snoc (paired_imp2 hhv fun _ _ h => Seq.same h hsab) ?_
          match k, hy2 with
          | 0, hy2 =>
            cases hy2
            exact ⟨c1, rfl, .inl (SqL.of (by rw [hide_ne c1E]; exact ec1'))⟩
          | 1, hy2 =>
            cases hy2
            exact ⟨q1, rfl, .inr (SqT.same sq5 hsab)⟩
          | k + 2, hy2 => cases hy2
      obtain ⟨s5, P5, hv, eh, hhv⟩ := pj
      rw [lav, List.take_length] at hhv
      have P5' : Pl H5 p 120 := P5.le (by omega)
      have s45 : Same (hide p H4) (hide p H5) := s5.trans hide_le
      have tb5 : TabS H5 pt lamQ := LamX.TabS.ext (LamX.TabS.ext tbh4 s45) hide_le
      have S5 : Same (hT p H3) (hT p H5) := hT_same (s4.trans s45)
      have hhv5 : Paired (fun v a => Seq K (hide g1 (hide p H5)) v (v3 a)) hv as := hhv
      have hhvp : Paired (fun v a => Seq K (hide p H5) v (v3 a)) hv as := paired_imp2 hhv fun _ _ h => Seq.same h hide_le
      have e50 : hide p H5 g0 = some (.lst (cs.map .str)) := s45 _ _ e40
      have ng13 : hT p H3 g1 = none := by
        cases e : hT p H3 g1 with
        | none => rfl
        | some o =>
          have := hide_le _ _ (s4 _ _ (hT_hl _ _ e))
          rw [ng1] at this
          cases this
      clear hhv s5 hav4 ela4 eE sE tbh4 tb4 s4 s45 e40 P5 P4 ng1 ng0 tb3
      refine ⟨(show 2 ≤ sizeLine by decide), fun gv ngv => ?_⟩
      obtain ⟨gvp, sv, ev⟩ := hide_new (o := .lst [.ref g0, .ref g1]) P5'.ne ngv
      have P6 := P5'.new (o := .lst [.ref g0, .ref g1]) ngv
      have tb6 := LamX.TabS.ext tb5 (same_upd (o := .lst [.ref g0, .ref g1]) ngv)
      have gv0 : gv ≠ g0 := fun e => by
        have := hide_le _ _ e50
        rw [← e, ngv] at this
        cases this
      have gv1 : gv ≠ g1 := fun e => by
        have := hide_le _ _ eh
        rw [← e, ngv] at this
        cases this
      generalize upd H5 gv (.lst [.ref g0, .ref g1]) = H6 at *
      have S6 : Same (hT p H3) (hT p H6) := S5.trans (hT_same sv)
      refine g_nm ?_
      try dsimp only
      refine t_seqAsg ?_
      refine ⟨_, rfl, gv, _, (0 : Int), .ref g0, rfl, rfl, SqL.of (hide_le _ _ ev), atI_nat (j := 0) rfl, _, rfl, gv, _, (1 : Int), .ref g1, rfl, rfl, SqL.of (hide_le _ _ ev), atI_nat (j := 1) rfl, fun x dx nx ndx ne => ?_⟩
      have sm6 := same_mk nx ndx (rfl : upd (upd H6 dx (.own x)) x (.ins CP dx []) = upd (upd H6 dx (.own x)) x (.ins CP dx []))
      have sm : Same H6 (upd (upd H6 dx (.own x)) x (.ins CP dx [])) := sm6.trans hide_le
      have eg0 : hide p H6 g0 = some (.lst (cs.map .str)) := sv _ _ e50
      have eg1 : hide p H6 g1 = some (.lst hv) := sv _ _ eh
      refine piece_made (hv := hv) made.ok upd_same ⟨g0, rfl, .inl (SqL.of (sm _ _ (hide_le _ _ eg0)))⟩ ⟨g1, rfl, .inl (SqL.of (sm _ _ (hide_le _ _ eg1)))⟩ (paired_imp2 hhvp fun _ _ h => Seq.same (Seq.same (Seq.same h sv) hide_le) sm) fun H7 s7 pc7 => ⟨rfl, ?_⟩
      have s67 : Same H6 H7 := (sm6.trans s7).trans hide_le
      have P7 := P6.same s67
      have tb7 := LamX.TabS.ext tb6 s67
      have S7 : Same (hT p H3) (hT p H7) := S6.trans (hT_same (hide_same s67))
      have eg0' := s67 _ _ (hide_le _ _ eg0)
      have eg1' := s67 _ _ (hide_le _ _ eg1)
      have egv := s67 _ _ (hide_le _ _ ev)
      have lhv : hv.length ≤ 10 := by rw [Paired.length hhvp]; exact l10
      clear sm6 sm eg0 eg1 s7 s67 nx ndx ne P6 tb6 S6 S5 sv ev hhvp hhv5 eh e50 P5' tb5 ngv
      refine g_nm ?_
      try dsimp only
      refine t_seqF ?_
      refine ⟨_, rfl, gv, rfl, ⟨_, SqL.of egv⟩, for_list (xs := [.ref g0, .ref g1]) (fun k σ H' => LL H7 H' ∧ Same (hT p H3) (hT p H') ∧ Pl H' p 120 ∧ H' gv = some (.lst [.ref g0, .ref g1]) ∧ (∃ ys, H' g0 = some (.lst ys) ∧ ys.length ≤ 10 + k) ∧ (∃ ys, H' g1 = some (.lst ys) ∧ ys.length ≤ 10 + k) ∧
        ∃ o1 o5, σ = [some (.ref l), o1, some (.ref p), some (.ref la), some (.ref gv), o5, o6, o7, o8, o9, o10, o11, o12, some (.ref lc), o14, some (.ref x), o16, o17]) ⟨LL.refl _, S7, P7, egv, ⟨_, eg0', ?l0⟩, ⟨_, eg1', by omega⟩, _, _, rfl⟩ (fun i σ H' _ p => SqL.of p.2.2.2.1) ?_ ?_⟩
      case l0 =>
        rw [List.length_map]
        have := made.l3
        omega
      · rintro k y σ H8 hy ⟨L8, S8, P8, egv8, ⟨ys0, e0, l0⟩, ⟨ys1, e1, l1⟩, o1, o5, rfl⟩
        refine g_nm ?_
        match k, hy with
        | 0, hy =>
          cases hy
          refine ⟨_, rfl, .inl ⟨rfl, _, SqL.of e0⟩, g0, ys0, _, rfl, rfl, e0, by rw [sizeLine_eq]; omega, ?_⟩
          exact ⟨L8.list e0, hT_over ng03 S8 g0p, P8.upd g0p, by rw [upd_ne gv0]; exact egv8, ⟨_, upd_same, by rw [List.length_append]; show ys0.length + 1 ≤ 11; omega⟩, ⟨_, by rw [upd_ne g10]; exact e1, by omega⟩, _, _, rfl⟩
        | 1, hy =>
          cases hy
          refine ⟨_, rfl, .inl ⟨rfl, _, SqL.of e1⟩, g1, ys1, _, rfl, rfl, e1, by rw [sizeLine_eq]; omega, ?_⟩
          exact ⟨L8.list e1, hT_over ng13 S8 g1p, P8.upd g1p, by rw [upd_ne gv1]; exact egv8, ⟨_, by rw [upd_ne (Ne.symm g10)]; exact e0, by omega⟩, ⟨_, upd_same, by rw [List.length_append]; show ys1.length + 1 ≤ 12; omega⟩, _, _, rfl⟩
        | k + 2, hy => cases hy
      rintro σ H9 ⟨L9, S9, P9, _, _, _, o1, o5, rfl⟩
      have pc9 : IsPc K (hT p H9) CP x cs as := IsPc.ll pc7 L9 P9
      have tb9 := TabS_ll tb7 L9
      clear L9 pc7 tb7 P7 S7 eg0' eg1' egv
      have F9 : Fx0 K l lc la ns cs as av (hT p H9) := F3.same S9
      clear S9 F3
      try dsimp only
      refine t_seqIf ?_
      have okc : sOk cs := sOk_cs fun c h => (made.ok.nm c h).1
      have oka : ∀ a ∈ as, sOk [a.1, a.2.2] := fun a h => sOk2 (made.ok.nm _ (made.ok.ar a h).1).1 (made.ok.nm _ (made.ok.ar a h).2.1).1
      obtain ⟨dx9, ca, aa, av9, pp⟩ := id (pc9.same hT_le)
      refine ⟨_, rfl, x, CP, dx9, _, _, rfl, pp.ob, Wp.cl, Wp.nc, (show (pFld ca aa).lookup ("cells" : Str) = some (.ref ca) from rfl), _, rfl, .ref lc, _, rfl, ⟨lc, rfl, .inl (SqL.of (hT_le _ _ F9.ec))⟩, fun H10 q10 s10 sq10 => ?_⟩
      refine ⟨_, _, .tup (SqT.same pp.hc s10) (dp_strs _), .tup sq10 (dp_strs _), shape_tup okc, shape_tup okc, _, rfl, ?_⟩
      refine iteN (by rw [SeqAt.eqv_refl _ (SeqAt.canLay_of_shaped (shape_tup okc))]; rfl) ?_
      refine ⟨_, rfl, x, CP, dx9, _, _, rfl, s10 _ _ pp.ob, Wp.cl, Wp.na, (show (pFld ca aa).lookup ("arrows" : Str) = some (.ref aa) from rfl), _, rfl, .ref la, _, rfl, ⟨la, rfl, .inl (SqL.of (s10 _ _ (hT_le _ _ F9.ea)))⟩, fun H11 q11 s11 sq11 => ?_⟩
      have s911 := s10.trans s11
      refine ⟨_, _, .tup (SqT.same pp.ha s911) (trips_dp (Paired.imp (fun _ _ h => h.same s911) pp.da)), .tup sq11 (trips_dp (Paired.imp (fun _ _ h => (h.same hT_le).same s911) F9.tr)), shaped_t3 oka, shaped_t3 oka, _, rfl, ?_⟩
      refine iteN (by rw [SeqAt.eqv_refl _ (SeqAt.canLay_of_shaped (shaped_t3 oka))]; rfl) ?_
      have S11 : Same (hT p H9) (hT p H11) := hT_same (hide_same s911)
      have st11 : St63 K CP x l p pt lc la 120 ns cs as av lamQ H11 := ⟨F9.same S11, pc9.same S11, P9.same s911, LamX.TabS.ext tb9 s911⟩
      clear F9 pc9 P9 tb9 S11 s911 sq11 s11 sq10 s10 pp
      refine t_next ?_
      try dsimp only
      refine t_seqF ?_
      refine ⟨_, rfl, p, 6, 120, rfl, by decide, by decide, st11.pl, by decide, fun r1 H12 hr1 h12 P12 => ?_⟩
      have st12 := st11.take h12 P12
      refine ⟨1, r1, rfl, rfl, ?_⟩
      refine ⟨(show 2 ≤ sizeLine by decide), fun u nu => ?_⟩
      have su := same_upd (o := .lst [.int 4, .int 26]) nu
      have eu : (upd H12 u (.lst [.int 4, .int 26])) u = some (.lst [.int 4, .int 26]) := upd_same
      have up : u ≠ p := fun e => st12.pl.ne (e ▸ nu)
      have st13 := st12.same su
      generalize upd H12 u (.lst [.int 4, .int 26]) = H13 at *
      refine ⟨_, rfl, p, 6, 121, rfl, by decide, by decide, st13.pl, by decide, fun r2 H14 hr2 h14 P14 => ?_⟩
      have st14 := st13.take h14 P14
      have eu14 : H14 u = some (.lst [.int 4, .int 26]) := by
        rw [← hide_ne (H := H14) up, h14, hide_ne up]
        exact eu
      obtain ⟨n5, h51, h526, hat5⟩ : ∃ n5 : Nat, 1 ≤ n5 ∧ n5 ≤ 26 ∧ atI [V.int 4, V.int 26] (if decide (V.int (r2 : Nat) = V.int 0) = true then 1 else 0) = some (.int (n5 : Nat)) := by
        cases decide (V.int (r2 : Nat) = V.int 0) with
        | true => exact ⟨26, by decide, by decide, rfl⟩
        | false => exact ⟨4, by decide, by decide, rfl⟩
      refine ⟨rfl, .inr ⟨_, rfl, ?_⟩⟩
      refine ⟨u, _, _, .int (n5 : Nat), rfl, rfl, SqL.of eu14, hat5, ?_⟩
      refine ⟨(show 5 ≤ sizeLine by decide), fun v nv => ?_⟩
      have sv := same_upd (o := .tup [.int 1, .int 2, .int 3, .int (1 + (r1 : Nat)), .int (n5 : Nat)]) nv
      have ev : (upd H14 v (.tup [.int 1, .int 2, .int 3, .int (1 + (r1 : Nat)), .int (n5 : Nat)])) v = some (.tup [.int 1, .int 2, .int 3, .int (1 + (r1 : Nat)), .int (n5 : Nat)]) := upd_same
      have st15 := st14.same sv
      generalize upd H14 v (.tup [.int 1, .int 2, .int 3, .int (1 + (r1 : Nat)), .int (n5 : Nat)]) = H15 at *
      have st15' := st15.le (show 122 ≤ 130 by decide)
      clear st15 sv nv st14 P14 h14 hr2 st13 su eu eu14 nu st12 P12 h12 st11 hat5
      refine ⟨v, rfl, ⟨_, SqT.of ev⟩, ?_⟩
      refine for_it (walk_tup (xs := [.int 1, .int 2, .int 3, .int (1 + (r1 : Nat)), .int (n5 : Nat)])) (fun _ σ H' => St63 K CP x l p pt lc la 130 ns cs as av lamQ H' ∧ Same H15 H' ∧ ∃ o1 o5 o6 o7 o8 o9 o10, σ = [some (.ref l), o1, some (.ref p), some (.ref la), some (.ref gv), o5, o6, o7, o8, o9, o10, o11, o12, some (.ref lc), o14, some (.ref x), o16, o17])
        ⟨st15', Same.refl _, _, _, _, _, _, _, _, rfl⟩ (fun i σ H' _ p => SqT.of (p.2.1 _ _ ev)) ?_ ?_
      · rintro k y σ H16o H16 hk ⟨st16, s16, o1, o5, o6, o7, o8, o9, o10, rfl⟩ ⟨rfl, hy⟩
        obtain ⟨m, rfl, hm1, hm26⟩ : ∃ m : Nat, y = .int (m : Nat) ∧ 1 ≤ m ∧ m ≤ 26 := by
          match k, hy with
          | 0, hy => exact ⟨1, (Option.some.inj hy).symm, by decide, by decide⟩
          | 1, hy => exact ⟨2, (Option.some.inj hy).symm, by decide, by decide⟩
          | 2, hy => exact ⟨3, (Option.some.inj hy).symm, by decide, by decide⟩
          | 3, hy => exact ⟨1 + r1, (Option.some.inj hy).symm.trans (by rw [show ((1 + r1 : Nat) : Int) = 1 + (r1 : Int) by omega]), by omega, by omega⟩
          | 4, hy => exact ⟨n5, (Option.some.inj hy).symm, h51, h526⟩
          | k + 5, hy => cases hy
        have g := rows_good made.ok hm1 hm26
        refine g_nm ?_
        try dsimp only
        refine t_seqAsg ?_
        refine ⟨_, rfl, _, rfl, _, rfl, lc, la, cs, as, av, m, rfl, SqL.of (hT_le _ _ st16.F.ec), SqL.of (hT_le _ _ st16.F.ea), st16.trs, made.ok, hm26, fun D vl HA sA nD eD hvl => ?_⟩
        have stA := st16.same sA
        refine g_nm ?_
        try dsimp only
        refine t_seqAsg ?_
        refine ⟨_, rfl, _, rfl, x, _, some (m : Int), cs, as, rfl, stA.pc.same hT_le, made.ok, .inl ⟨_, rfl, rfl⟩, .inr ⟨?c1, fun y HB sB wB => ?_⟩⟩
        case c1 =>
          show (decide ((1 : Int) ≤ (m : Int)) && decide ((m : Int) ≤ 26)) = true
          rw [decide_eq_true (by omega), decide_eq_true (by omega)]
          rfl
        rw [show ((some (m : Int)).getD 0).toNat = m from Int.toNat_natCast m] at wB
        have stB := stA.same sB
        have eDB := sB _ _ eD
        have hvlB : Paired (RowL HB) vl (rowsOf cs as m) := Paired.imp (fun _ _ h => h.same sB) hvl
        have gok := Good.ok g
        obtain ⟨dxB, cB, fB, aB, tB, ksB, ktB, avB, WB⟩ := id wB
        refine g_nm ?_
        try dsimp only
        refine t_seqIf ?_
        refine ⟨_, rfl, _, .ref C, .ref C, _, true, rfl, .own C, Wi.ins WB.ob, Wi.self, true, rfl, iteN rfl ?_⟩
        refine ⟨_, rfl, y, C, dxB, _, _, rfl, WB.ob, W.cl, W.nc, rfl, _, rfl, D, vl, _, rfl, SqL.of eDB, hvlB, Nat.le_trans g.ln (by decide), fun D2 HC sC eD2 => ?_⟩
        refine ⟨.ref D2, _, rfl, ⟨D2, rfl, .inl (SqL.of eD2)⟩, fun HD q1 sD sq1 => ?_⟩
        refine ⟨_, _, .tup (SqT.of (sD _ _ (sC _ _ WB.hc))) (dp_strs _), .tup sq1 (dp_strs _), shape_tup gok.1, shape_tup gok.1, _, rfl, ?_⟩
        refine iteN (by rw [SeqAt.eqv_refl _ (SeqAt.canLay_of_shaped (shape_tup gok.1))]; rfl) ?_
        have sBD := sC.trans sD
        have stD := stB.same sBD
        have sAD := (sA.trans sB).trans sBD
        refine t_next ?_
        try dsimp only
        refine ⟨_, rfl, D, rfl, ⟨_, SqL.of (sBD _ _ eDB)⟩, ?_⟩
        refine for_it (walk_list (xs := vl)) (fun _ σ H' => Same HD H' ∧ ∃ o9 o10, σ = [some (.ref l), o1, some (.ref p), some (.ref la), some (.ref gv), o5, some (.int (m : Nat)), some (.ref D), some (.ref y), o9, o10, o11, o12, some (.ref lc), o14, some (.ref x), o16, o17])
          ⟨Same.refl _, _, _, rfl⟩ (fun i σ H' _ z => SqL.of (z.1 _ _ (sBD _ _ eDB))) ?_ ?_
        · rintro j z σ HEo HE hj ⟨sE, o9, o10, rfl⟩ ⟨rfl, hz⟩
          obtain ⟨row, hrow, t, l2, rfl, et, el⟩ := Paired.getL hvlB hz
          have sBE := sBD.trans sE
          have hmr := List.mem_of_getElem? hrow
          refine ⟨_, ⟨t, rfl, .inl (SqL.of (sBE _ _ et))⟩, rfl, _, _, rfl, _, _, rfl, rfl, ?_⟩
          refine t_ifS ?_
          refine ⟨_, rfl, y, dxB, _, rfl, sBE _ _ WB.ob, rfl, _, rfl, y, .str row.1, true, rowsOf cs as m, rfl, wB.same sBE, g, nm_is (g.nm _ hmr), .inl ⟨row.1, row.2, rfl, srcs_at g.nd hmr, List.mem_map_of_mem hmr, fun HF a sF sq => ?_⟩⟩
          refine ⟨_, rfl, .ref l2, _, rfl, ⟨l2, rfl, .inl (SqL.of (sF _ _ (sBE _ _ el)))⟩, fun HG q2 sG sq2 => ?_⟩
          have ok2 : sOk row.2 := gok.2 row hmr
          refine ⟨_, _, .tup (SqT.same sq sG) (dp_strs _), .tup sq2 (dp_strs _), shape_tup ok2, shape_tup ok2, _, rfl, ?_⟩
          exact iteN (by rw [SeqAt.eqv_refl _ (SeqAt.canLay_of_shaped (shape_tup ok2))]; rfl) ⟨sE.trans (sF.trans sG), _, _, rfl⟩
        · rintro σ HE ⟨sE, o9, o10, rfl⟩
          exact ⟨stD.same sE, s16.trans (sAD.trans sE), _, _, _, _, _, _, _, rfl⟩
      rintro σ H20 ⟨st20, s20, o1, o5, o6, o7, o8, o9, o10, rfl⟩
      clear s20 ev st15' hr1 h51 h526
      try dsimp only
      refine t_seqF ?_
      refine ⟨_, rfl, (show 1 ≤ sizeLine by decide), fun u1 nu1 => ?_⟩
      have su1 := same_upd (o := .tup [.int 1]) nu1
      have eu1 : (upd H20 u1 (.tup [.int 1])) u1 = some (.tup [.int 1]) := upd_same
      have st21 := st20.same su1
      generalize upd H20 u1 (.tup [.int 1]) = H21 at *
      refine ⟨10, 30, rfl, rfl, ⟨by decide, by decide, by decide⟩, (show 8 ≤ sizeLine by decide), fun v1 nv1 => ?_⟩
      have sv1 := same_upd (o := .tup [.int 0, (fun i : Int => V.int (-i)) 1, .int 27, .non, .str "1", .bl true, .ref u1, .int ((10 : Int) ^ (30 : Int).toNat)]) nv1
      have ev1 : (upd H21 v1 (.tup [.int 0, (fun i : Int => V.int (-i)) 1, .int 27, .non, .str "1", .bl true, .ref u1, .int ((10 : Int) ^ (30 : Int).toNat)])) v1 = some (.tup [.int 0, (fun i : Int => V.int (-i)) 1, .int 27, .non, .str "1", .bl true, .ref u1, .int ((10 : Int) ^ (30 : Int).toNat)]) := upd_same
      have st22 := st21.same sv1
      have eu2 := sv1 _ _ eu1
      generalize upd H21 v1 (.tup [.int 0, (fun i : Int => V.int (-i)) 1, .int 27, .non, .str "1", .bl true, .ref u1, .int ((10 : Int) ^ (30 : Int).toNat)]) = H22 at *
      have eu3 : hT p H22 u1 = some (.tup [.int 1]) := offT_at (st22.pl.hid eu2 (by intro x y z c; cases c)) (fun ps z => nomatch z)
      have ev3 : hT p H22 v1 = some (.tup [.int 0, (fun i : Int => V.int (-i)) 1, .int 27, .non, .str "1", .bl true, .ref u1, .int ((10 : Int) ^ (30 : Int).toNat)]) := offT_at (st22.pl.hid ev1 (by intro x y z c; cases c)) (fun ps z => nomatch z)
      clear sv1 su1 nv1 nu1 eu1 st21 st20 ev1 eu2
      refine ⟨v1, rfl, ⟨_, SqT.of (hT_le _ _ ev3)⟩, ?_⟩
      refine for_it (walk_tup (xs := [.int 0, (fun i : Int => V.int (-i)) 1, .int 27, .non, .str "1", .bl true, .ref u1, .int ((10 : Int) ^ (30 : Int).toNat)])) (fun _ σ H' => St63 K CP x l p pt lc la 130 ns cs as av lamQ H' ∧ Same (hT p H22) (hT p H') ∧ ∃ o14, σ = [some (.ref l), o1, some (.ref p), some (.ref la), some (.ref gv), o5, o6, o7, o8, o9, o10, o11, o12, some (.ref lc), o14, some (.ref x), o16, o17])
        ⟨st22, Same.refl _, _, rfl⟩ (fun i σ H' _ p => SqT.of (hT_le _ _ (p.2.1 _ _ ev3))) ?_ ?_
      · rintro k y σ HAo HA hk ⟨stA, sA, o14, rfl⟩ ⟨rfl, hy⟩
        have hodd : OddN K (hT p HA) y := by
          refine OddN.same (H := hT p H22) ?_ sA
          match k, hy with
          | 0, hy => cases hy; exact oddN_int rfl (by decide +kernel)
          | 1, hy => cases hy; exact oddN_int rfl (by decide +kernel)
          | 2, hy => cases hy; exact oddN_int rfl (by decide +kernel)
          | 3, hy => cases hy; exact oddN_non
          | 4, hy => cases hy; exact oddN_str
          | 5, hy => cases hy; exact oddN_bl
          | 6, hy => cases hy; exact oddN_tup eu3
          | 7, hy => cases hy; exact oddN_int (by decide +kernel) (by decide +kernel)
          | k + 8, hy => cases hy
        clear hy hk
        refine g_nm ?_
        refine t_ifS ?_
        refine ⟨fun p' hp' => by cases List.mem_singleton.mp hp'; exact stA.tb, fun HC eC tC => ?_⟩
        have stC := stA.ext eC (tC _ (List.mem_singleton.mpr rfl))
        have hoddC : OddN K HC y := (hodd.same (ExtN.hide eC)).same hT_le
        obtain ⟨o, ty', b, d', hi1, hi2, hi3, hi4, hi5, hi6⟩ := hoddC
        refine ⟨_, rfl, _, rfl, x, y, o, cs, as, rfl, stC.pc.same hT_le, made.ok, hi1, .inl ⟨hi2, fun HD dd sD eD => ?_⟩⟩
        refine .inr (.inr ⟨rfl, dd, y, ty', b, rfl, eD, TyX.same hi3 sD, hi4, fun q1 nq1 q2 nq2 => ?_⟩)
        have sE : Same HD (upd HD q1 (.lst [y, .bl b])) := same_upd nq1
        have e1 : (upd HD q1 (.lst [y, .bl b])) q1 = some (.lst [y, .bl b]) := upd_same
        generalize upd HD q1 (.lst [y, .bl b]) = HE at *
        have sF : Same HE (upd HE q2 (.tup [.str "number", .ref q1])) := same_upd nq2
        have e2 : (upd HE q2 (.tup [.str "number", .ref q1])) q2 = some (.tup [.str "number", .ref q1]) := upd_same
        generalize upd HE q2 (.tup [.str "number", .ref q1]) = HF at *
        have sCF := (sD.trans sE).trans sF
        refine ⟨_, rfl, _, rfl, y, .ty "bool", ty', _, b, rfl, .ty "bool", TyX.same hi3 sCF, hi4, (show 2 ≤ sizeLine by decide), fun q3 nq3 => ?_⟩
        have sG : Same HF (upd HF q3 (.lst [y, .bl b])) := same_upd nq3
        have e3' : (upd HF q3 (.lst [y, .bl b])) q3 = some (.lst [y, .bl b]) := upd_same
        generalize upd HF q3 (.lst [y, .bl b]) = HG at *
        refine ⟨(show 2 ≤ sizeLine by decide), fun q4 nq4 => ?_⟩
        have sH : Same HG (upd HG q4 (.tup [.str "number", .ref q3])) := same_upd nq4
        have e4 : (upd HG q4 (.tup [.str "number", .ref q3])) q4 = some (.tup [.str "number", .ref q3]) := upd_same
        generalize upd HG q4 (.tup [.str "number", .ref q3]) = HI at *
        have sFI := sG.trans sH
        have sCI := sCF.trans sFI
        refine ⟨.tuple [.str "number", .list [d', .bool b]], .tuple [.str "number", .list [d', .bool b]], .tup (SqT.of (sFI _ _ e2)) (.cons (.str _) (.cons (.lst (SqL.of (sFI _ _ (sF _ _ e1))) (.cons (WL.dp_same sCI hi5) (.cons (.bl _) .nil))) .nil)), .tup (SqT.of e4) (.cons (.str _) (.cons (.lst (SqL.of (sH _ _ e3')) (.cons (WL.dp_same sCI hi5) (.cons (.bl _) .nil))) .nil)), hi6, hi6, _, rfl, ?_⟩
        exact iteN (by rw [SeqAt.eqv_refl _ (SeqAt.canLay_of_shaped hi6)]; rfl) ⟨stC.same sCI, (sA.trans (ExtN.hide eC)).trans (hT_same (hide_same sCI)), _, rfl⟩
      rintro σ H23 ⟨st23, s23, o14', rfl⟩
      clear s23 ev3 eu3 st22
      try dsimp only
      refine t_seqAsg ?_
      have S : Same (hide p H23) (hide p H23) := Same.refl _
      have hL : Has (hide p H23) [(lc, .lst (cs.map .str))] := fun y hy => by
        rw [show y = (lc, .lst (cs.map .str)) by simpa using hy]
        exact hT_hl _ _ st23.F.ec
      have hP := st23.pl
      refine ⟨(show 0 ≤ sizeLine by decide), fun b1 n1 => ?_⟩
      obtain ⟨hL, hP, S⟩ := alo (o := .lst []) hL hP S n1
      generalize upd H23 b1 (.lst []) = G1 at *
      refine ⟨_, rfl, _, rfl, (1 : Int), rfl, lc, cs.map .str, rfl, SqL.of (hide_le _ _ (hL.ix 1 rfl)), fun s1 ns1 => ?_⟩
      rw [show cutV (cs.map V.str) none (some (1 : Int)) = (cs.map V.str).take 1 from cut_le (i := 1)] at *
      obtain ⟨hL, hP, S⟩ := alo (o := .lst ((cs.map V.str).take 1)) hL hP S ns1
      generalize upd G1 s1 (.lst ((cs.map V.str).take 1)) = G2 at *
      refine ⟨lc, s1, _, _, rfl, rfl, hide_le _ _ (hL.ix 2 rfl), hide_le _ _ (hL.ix 0 rfl), ?lim1, fun c1 nc1 => ?_⟩
      case lim1 =>
        have := made.l3
        rw [List.length_take, List.length_map, sizeLine_eq]
        omega
      obtain ⟨hL, hP, S⟩ := alo (o := .lst (cs.map V.str ++ (cs.map V.str).take 1)) hL hP S nc1
      generalize upd G2 c1 (.lst (cs.map V.str ++ (cs.map V.str).take 1)) = G3 at *
      refine ⟨(show 1 ≤ sizeLine by decide), fun b2 n2 => ?_⟩
      obtain ⟨hL, hP, S⟩ := alo (o := .lst [.str "abcdefgh"]) hL hP S n2
      generalize upd G3 b2 (.lst [.str "abcdefgh"]) = G4 at *
      refine ⟨(show 1 ≤ sizeLine by decide), fun b3 n3 => ?_⟩
      obtain ⟨hL, hP, S⟩ := alo (o := .lst [.str "A"]) hL hP S n3
      generalize upd G4 b3 (.lst [.str "A"]) = G5 at *
      refine ⟨(show 1 ≤ sizeLine by decide), fun b4 n4 => ?_⟩
      obtain ⟨hL, hP, S⟩ := alo (o := .lst [.str ""]) hL hP S n4
      generalize upd G5 b4 (.lst [.str ""]) = G6 at *
      refine ⟨_, rfl, (show 1 ≤ sizeLine by decide), fun b5 n5 => ?_⟩
      obtain ⟨hL, hP, S⟩ := alo (o := .lst [.int 5]) hL hP S n5
      generalize upd G6 b5 (.lst [.int 5]) = G7 at *
      refine ⟨lc, b5, _, _, rfl, rfl, hide_le _ _ (hL.ix 7 rfl), hide_le _ _ (hL.ix 0 rfl), ?lim2, fun c2 nc2 => ?_⟩
      case lim2 =>
        have := made.l3
        rw [List.length_map, sizeLine_eq]
        show cs.length + 1 ≤ _
        omega
      obtain ⟨hL, hP, S⟩ := alo (o := .lst (cs.map V.str ++ [.int 5])) hL hP S nc2
      generalize upd G7 c2 (.lst (cs.map V.str ++ [.int 5])) = G8 at *
      refine fun d1 nd1 => ?_
      obtain ⟨hL, hP, S⟩ := alo (o := .dK []) hL hP S nd1
      generalize upd G8 d1 (.dK []) = G9 at *
      refine t_nil ?_
      try dsimp only
      refine ⟨(show 9 ≤ sizeLine by decide), fun bb nbb => ?_⟩
      obtain ⟨hL, hP, S⟩ := alo (o := .lst [.ref b1, .non, .str "ab", .ref c1, .ref b2, .ref b3, .ref b4, .ref c2, .ref d1]) hL hP S nbb
      generalize upd G9 bb (.lst [.ref b1, .non, .str "ab", .ref c1, .ref b2, .ref b3, .ref b4, .ref c2, .ref d1]) = G10 at *
      refine ⟨_, rfl, p, 9, 130, rfl, by decide, by decide, hP, by decide, fun r3 H24 hr3 h24 P24 => ?_⟩
      rw [← h24] at hL S
      have st24 := st23.step S P24
      obtain ⟨y, hy⟩ : ∃ y, ([.ref b1, .non, .str "ab", .ref c1, .ref b2, .ref b3, .ref b4, .ref c2, .ref d1] : List V)[r3]? = some y := ⟨_, List.getElem?_eq_getElem (show r3 < 9 by omega)⟩
      have hbad : BadC K (hT p H24) y := by
        have hH : ∀ (k : Nat) {a : Addr} {o : HO}, ([(bb, .lst [.ref b1, .non, .str "ab", .ref c1, .ref b2, .ref b3, .ref b4, .ref c2, .ref d1]), (d1, .dK []), (c2, .lst (cs.map V.str ++ [.int 5])), (b5, .lst [.int 5]), (b4, .lst [.str ""]), (b3, .lst [.str "A"]), (b2, .lst [.str "abcdefgh"]), (c1, .lst (cs.map V.str ++ (cs.map V.str).take 1)), (s1, .lst ((cs.map V.str).take 1)), (b1, .lst []), (lc, .lst (cs.map .str))] : List (Addr × HO))[k]? = some (a, o) → (∀ ps, o ≠ .tbl ps) → hT p H24 a = some o := fun k a o e n => offT_at (hL.ix k e) n
        have hn3 : ∀ c ∈ cs, isNm c = true := fun c h => (made.ok.nm c h).1
        have hl3 := made.l3
        match r3, hy with
        | 0, hy => cases hy; exact .inr (.inl ⟨b1, rfl, .inl (SqL.of (hH 9 rfl fun ps z => nomatch z))⟩)
        | 1, hy => cases hy; exact bad_ty (.base .non) (kit_ty (by decide +kernel)) (kit_ty (by decide +kernel))
        | 2, hy => cases hy; exact bad_ty (.base (.str _)) (kit_ty (by decide +kernel)) (kit_ty (by decide +kernel))
        | 3, hy => cases hy; exact bad_twice (hH 7 rfl fun ps z => nomatch z) made.ok.ne (by omega) hn3
        | 4, hy => cases hy; exact bad_long (hH 6 rfl fun ps z => nomatch z)
        | 5, hy => cases hy; exact .inl (nl_odd (xs := []) (x := .str "A") (hH 5 rfl fun ps z => nomatch z) (by decide) (fun x h => nomatch h) (.inl ⟨"A", rfl, by decide, by decide +kernel⟩)).nlis
        | 6, hy => cases hy; exact .inl (nl_odd (xs := []) (x := .str "") (hH 4 rfl fun ps z => nomatch z) (by decide) (fun x h => nomatch h) (.inl ⟨"", rfl, by decide, by decide +kernel⟩)).nlis
        | 7, hy => cases hy; exact .inl (nl_odd (xs := cs) (x := .int 5) (hH 2 rfl fun ps z => nomatch z) (by omega) hn3 (.inr ⟨_, .base (.int 5), kit_ty (by decide +kernel), rfl⟩)).nlis
        | 8, hy => cases hy; exact bad_ty (.base (.dK (hH 1 rfl fun ps z => nomatch z))) (kit_ty (by decide +kernel)) (kit_ty (by decide +kernel))
        | k + 9, hy => cases hy
      refine ⟨bb, _, _, y, rfl, rfl, SqL.of (hide_le _ _ (hL.ix 0 rfl)), atI_nat hy, ?_⟩
      clear hL hP S n1 ns1 nc1 n2 n3 n4 n5 nc2 nd1 nbb hr3 h24 P24 hy st23
      refine g_nm ?_
      try dsimp only
      refine t_seqIf ?_
      refine ⟨fun p' hp' => by cases List.mem_singleton.mp hp'; exact st24.tb, fun HC eC tC => ?_⟩
      have stC := st24.ext eC (tC _ (List.mem_singleton.mpr rfl))
      have hbadC := (hbad.same (ExtN.hide eC)).same hT_le
      refine ⟨_, rfl, fun x2 dx2 nx2 ndx2 ne2 => ?_⟩
      have smk := same_mk nx2 ndx2 (rfl : upd (upd HC dx2 (.own x2)) x2 (.ins CP dx2 []) = upd (upd HC dx2 (.own x2)) x2 (.ins CP dx2 []))
      refine (hbadC.same (smk.trans hide_le)).piece upd_same fun HD sD => ?_
      have sCD := (smk.trans hide_le).trans sD
      have stD := stC.same sCD
      refine .inl ⟨rfl, fun q1 nq1 => ?_⟩
      have sE : Same HD (upd HD q1 (.tup [.str "piece", .non])) := same_upd nq1
      have e1 : (upd HD q1 (.tup [.str "piece", .non])) q1 = some (.tup [.str "piece", .non]) := upd_same
      generalize upd HD q1 (.tup [.str "piece", .non]) = HE at *
      refine ⟨(show 2 ≤ sizeLine by decide), fun q2 nq2 => ?_⟩
      have sF : Same HE (upd HE q2 (.tup [.str "piece", .non])) := same_upd nq2
      have e2 : (upd HE q2 (.tup [.str "piece", .non])) q2 = some (.tup [.str "piece", .non]) := upd_same
      generalize upd HE q2 (.tup [.str "piece", .non]) = HF at *
      have shp : SeqAt.shaped (.tuple [.str "piece", .none]) = true := by decide +kernel
      refine ⟨.tuple [.str "piece", .none], .tuple [.str "piece", .none], .tup (SqT.of (sF _ _ e1)) (.cons (.str _) (.cons .non .nil)), .tup (SqT.of e2) (.cons (.str _) (.cons .non .nil)), shp, shp, _, rfl, ?_⟩
      refine iteN (by rw [SeqAt.eqv_refl _ (SeqAt.canLay_of_shaped shp)]; rfl) ?_
      have st25 := stD.same (sE.trans sF)
      clear sE sF e1 e2 nq1 nq2 stD sCD sD smk ne2 ndx2 nx2 hbadC hbad stC tC eC st24
      refine t_next ?_
      try dsimp only
      refine t_seqAsg ?_
      refine ⟨_, rfl, _, rfl, .ref la, av.length, rfl, .inl ⟨_, SqL.of (hT_le _ _ st25.F.ea), rfl⟩, _, _, rfl, rfl, p, _, 131, rfl, by omega, by omega, st25.pl, by decide, fun a0 H26 ha0 h26 P26 => ?_⟩
      have st26 := st25.take h26 P26
      have hat : a0 ≤ av.length := by omega
      clear st25 h26 P26 ha0
      have S : Same (hide p H26) (hide p H26) := Same.refl _
      have hL : Has (hide p H26) [(lc, .lst (cs.map .str)), (la, .lst av)] := fun y hy => by
        rcases List.mem_cons.mp hy with rfl | hy
        · exact hT_hl _ _ st26.F.ec
        rw [show y = (la, .lst av) by simpa using hy]
        exact hT_hl _ _ st26.F.ea
      have hP := st26.pl
      refine g_nm ?_
      try dsimp only
      refine t_seqAsg ?_
      refine ⟨_, rfl, _, rfl, (a0 : Int), rfl, la, av, rfl, SqL.of (hide_le _ _ (hL.ix 1 rfl)), fun u1' nu1 => ?_⟩
      rw [cut_le (xs := av) (i := a0)] at *
      obtain ⟨hL, hP, S⟩ := alo (o := .lst (av.take a0)) hL hP S nu1
      generalize upd H26 u1' (.lst (av.take a0)) = G1 at *
      refine ⟨_, rfl, _, rfl, _, rfl, _, rfl, (a0 : Int), rfl, la, av, rfl, SqL.of (hide_le _ _ (hL.ix 2 rfl)), fun u2 nu2 => ?_⟩
      rw [cut_le (xs := av) (i := a0)] at *
      obtain ⟨hL, hP, S⟩ := alo (o := .lst (av.take a0)) hL hP S nu2
      generalize upd G1 u2 (.lst (av.take a0)) = G2 at *
      have htr2 : Paired (Trip K (hide p G2)) av as := Paired.imp (fun _ _ h => (h.same hT_hl).same S) st26.F.tr
      refine ⟨p, lc, u2, cs, as.take a0, av.take a0, 132, rfl, hP, by decide, hL.ix 2 rfl, hL.ix 0 rfl, paired_take a0 htr2, made.ok.ne, made.st, by rw [List.length_take]; omega, fun a h => made.ok.ar a (List.mem_of_mem_take h), fun y G3 s3' P3'' hodd => ?_⟩
      have hL3 : Has (hide p G3) [(u2, .lst (av.take a0)), (u1', .lst (av.take a0)), (lc, .lst (cs.map .str)), (la, .lst av)] := hL.same s3'
      have S3 := S.trans s3'
      clear hL hP S htr2
      refine ⟨(show 1 ≤ sizeLine by decide), fun l1 nl1 => ?_⟩
      obtain ⟨hL, hP, S⟩ := alo (o := .lst [y]) hL3 P3'' S3 nl1
      have so : Same (hide p G3) (hide p (upd G3 l1 (.lst [y]))) := (hide_new P3''.ne nl1).2.1
      have hodd4 := hodd.same (offT_same so)
      generalize upd G3 l1 (.lst [y]) = G4 at *
      clear hL3 P3'' S3 hodd so
      refine ⟨u1', l1, _, _, rfl, rfl, hide_le _ _ (hL.ix 2 rfl), hide_le _ _ (hL.ix 0 rfl), by rw [List.length_take, sizeLine_eq]; show _ + 1 ≤ _; omega, fun w1 nw1 => ?_⟩
      have so := (hide_new (o := .lst (av.take a0 ++ [y])) hP.ne nw1).2.1
      obtain ⟨hL, hP, S⟩ := alo (o := .lst (av.take a0 ++ [y])) hL hP S nw1
      have hodd5 := hodd4.same (offT_same so)
      generalize upd G4 w1 (.lst (av.take a0 ++ [y])) = G5 at *
      clear so hodd4
      refine ⟨_, rfl, _, rfl, (a0 : Int), rfl, la, av, rfl, SqL.of (hide_le _ _ (hL.ix 5 rfl)), fun u3 nu3 => ?_⟩
      rw [cut_from (xs := av) (i := a0) hat] at *
      have so := (hide_new (o := .lst (av.drop a0)) hP.ne nu3).2.1
      obtain ⟨hL, hP, S⟩ := alo (o := .lst (av.drop a0)) hL hP S nu3
      have hodd6 := hodd5.same (offT_same so)
      generalize upd G5 u3 (.lst (av.drop a0)) = G6 at *
      clear so hodd5
      refine ⟨w1, u3, _, _, rfl, rfl, hide_le _ _ (hL.ix 1 rfl), hide_le _ _ (hL.ix 0 rfl), by rw [List.length_append, List.length_take, List.length_drop, sizeLine_eq]; show _ + 1 + _ ≤ _; omega, fun w2 nw2 => ?_⟩
      have so := (hide_new (o := .lst (av.take a0 ++ [y] ++ av.drop a0)) hP.ne nw2).2.1
      obtain ⟨hL, hP, S⟩ := alo (o := .lst (av.take a0 ++ [y] ++ av.drop a0)) hL hP S nw2
      have hodd7 := hodd6.same (offT_same so)
      generalize upd G6 w2 (.lst (av.take a0 ++ [y] ++ av.drop a0)) = G7 at *
      clear so hodd6
      refine ⟨(show 1 ≤ sizeLine by decide), fun l2 nl2 => ?_⟩
      have so := (hide_new (o := .lst [.non]) hP.ne nl2).2.1
      obtain ⟨hL, hP, S⟩ := alo (o := .lst [.non]) hL hP S nl2
      have hodd8 := hodd7.same (offT_same so)
      generalize upd G7 l2 (.lst [.non]) = G8 at *
      clear so hodd7
      refine ⟨w2, l2, _, _, rfl, rfl, hide_le _ _ (hL.ix 1 rfl), hide_le _ _ (hL.ix 0 rfl), by rw [List.length_append, List.length_append, List.length_take, List.length_drop, sizeLine_eq]; show _ + 1 + _ + 1 ≤ _; omega, fun w3 nw3 => ?_⟩
      have so := (hide_new (o := .lst (av.take a0 ++ [y] ++ av.drop a0 ++ [.non])) hP.ne nw3).2.1
      obtain ⟨hL, hP, S⟩ := alo (o := .lst (av.take a0 ++ [y] ++ av.drop a0 ++ [.non])) hL hP S nw3
      have hodd9 := hodd8.same (offT_same so)
      generalize upd G8 w3 (.lst (av.take a0 ++ [y] ++ av.drop a0 ++ [.non])) = G9 at *
      clear so hodd8
      have st27 := st26.step S hP
      have ew3 : hT p G9 w3 = some (.lst (av.take a0 ++ [y] ++ av.drop a0 ++ [.non])) := offT_at (hL.ix 0 rfl) (fun ps z => nomatch z)
      have hodd10 : OddA K (hT p G9) cs (as.take a0) y := hodd9
      clear hodd9 hL hP S st26 nw3 nl2 nw2 nu3 nw1 nl1 nu2 nu1
      refine g_nm ?_
      try dsimp only
      refine t_seqIf ?_
      refine ⟨fun p' hp' => by cases List.mem_singleton.mp hp'; exact st27.tb, fun HC eC tC => ?_⟩
      have stC := st27.ext eC (tC _ (List.mem_singleton.mpr rfl))
      obtain ⟨bo, a', hard, hbo⟩ := (hodd10.same (ExtN.hide eC)).same hT_le
      have ewC := hT_le _ _ (ExtN.hide eC _ _ ew3)
      refine ⟨_, rfl, _, rfl, fun x2 dx2 nx2 ndx2 ne2 => ?_⟩
      have smk := same_mk nx2 ndx2 (rfl : upd (upd HC dx2 (.own x2)) x2 (.ins CP dx2 []) = upd (upd HC dx2 (.own x2)) x2 (.ins CP dx2 []))
      have sm2 := smk.trans hide_le
      have trS : ∀ {v : V} {a : A3}, Trip K HC v a → Seq K (upd (upd HC dx2 (.own x2)) x2 (.ins CP dx2 [])) v (v3 a) := fun h => by
        obtain ⟨q1, e, h2⟩ := h.same sm2
        exact ⟨q1, e, .inr h2⟩
      refine piece_arrow (h1 := av.take a0) (h2 := av.drop a0) (y := y) (at' := a0) made.ok upd_same (stC.lcs.same sm2) ⟨w3, rfl, .inl (SqL.of (by rw [show av.take a0 ++ y :: (av.drop a0 ++ [.non]) = av.take a0 ++ [y] ++ av.drop a0 ++ [.non] by simp]; exact sm2 _ _ ewC))⟩ (by omega) (paired_take a0 (paired_imp2 stC.trs fun _ _ h => trS h)) (paired_drop a0 (paired_imp2 stC.trs fun _ _ h => trS h)) (hard.same sm2) hbo (by omega) fun HD dd sD eD => ?_
      have sCD := sm2.trans sD
      have stD := stC.same sCD
      refine .inr (.inl ⟨rfl, dd, .int (a0 : Nat), rfl, eD, fun q1 nq1 => ?_⟩)
      have sE : Same HD (upd HD q1 (.tup [.str "arrow", .int (a0 : Nat)])) := same_upd nq1
      have e1 : (upd HD q1 (.tup [.str "arrow", .int (a0 : Nat)])) q1 = some (.tup [.str "arrow", .int (a0 : Nat)]) := upd_same
      generalize upd HD q1 (.tup [.str "arrow", .int (a0 : Nat)]) = HE at *
      refine ⟨_, rfl, (show 2 ≤ sizeLine by decide), fun q2 nq2 => ?_⟩
      have sF : Same HE (upd HE q2 (.tup [.str "arrow", .int (a0 : Nat)])) := same_upd nq2
      have e2 : (upd HE q2 (.tup [.str "arrow", .int (a0 : Nat)])) q2 = some (.tup [.str "arrow", .int (a0 : Nat)]) := upd_same
      generalize upd HE q2 (.tup [.str "arrow", .int (a0 : Nat)]) = HF at *
      have sha : SeqAt.shaped (.tuple [.str "arrow", .int (a0 : Nat)]) = true := by
        unfold SeqAt.shaped
        refine Bool.and_eq_true_iff.mpr ⟨?_, rfl⟩
        show (PyData.canLay0 (.str "arrow") && true) = true
        decide +kernel
      refine ⟨.tuple [.str "arrow", .int (a0 : Nat)], .tuple [.str "arrow", .int (a0 : Nat)], .tup (SqT.of (sF _ _ e1)) (.cons (.str _) (.cons (.int _) .nil)), .tup (SqT.of e2) (.cons (.str _) (.cons (.int _) .nil)), sha, sha, _, rfl, ?_⟩
      refine iteN (by rw [SeqAt.eqv_refl _ (SeqAt.canLay_of_shaped sha)]; rfl) ?_
      have st28 := stD.same (sE.trans sF)
      clear sE sF e1 e2 nq1 nq2 stD sCD sD smk sm2 ne2 ndx2 nx2 stC tC eC st27 hodd10 hard hbo ewC ew3 trS
      refine t_next ?_
      try dsimp only
      refine fun d1' nd1 => ?_
      have sd := same_upd (o := .dK []) nd1
      have ed : (upd HF d1' (.dK [])) d1' = some (.dK []) := upd_same
      have st29 := st28.same sd
      generalize upd HF d1' (.dK []) = HG at *
      refine ⟨(show 5 ≤ sizeLine by decide), fun v2 nv2 => ?_⟩
      have sv2 := same_upd (o := .tup [.non, .int 5, .str "", .ref d1', .bl true]) nv2
      have ev2 : (upd HG v2 (.tup [.non, .int 5, .str "", .ref d1', .bl true])) v2 = some (.tup [.non, .int 5, .str "", .ref d1', .bl true]) := upd_same
      have st30 := st29.same sv2
      have ed2 := sv2 _ _ ed
      generalize upd HG v2 (.tup [.non, .int 5, .str "", .ref d1', .bl true]) = HH at *
      have edT : hT p HH d1' = some (.dK []) := offT_at (st30.pl.hid ed2 (by intro x y z c; cases c)) (fun ps z => nomatch z)
      have evT : hT p HH v2 = some (.tup [.non, .int 5, .str "", .ref d1', .bl true]) := offT_at (st30.pl.hid ev2 (by intro x y z c; cases c)) (fun ps z => nomatch z)
      clear sv2 sd nv2 nd1 ed ed2 ev2 st29 st28
      refine ⟨v2, rfl, ⟨_, SqT.of (hT_le _ _ evT)⟩, ?_⟩
      have sh0 : SeqAt.shaped (.tuple [.str "arrow", .int 0]) = true := by decide +kernel
      refine for_it (walk_tup (xs := [.non, .int 5, .str "", .ref d1', .bl true])) (fun _ σ H' => St63 K CP x l p pt lc la 133 ns cs as av lamQ H' ∧ Same (hT p HH) (hT p H') ∧ ∃ q1 q2 q3 q4 q5 q6 q7 q8 q9 q10 q11 q12 q14 q15 q16 q17 : Option V, σ = [some (.ref l), q1, q2, q3, q4, q5, q6, q7, q8, q9, q10, q11, q12, some (.ref lc), q14, q15, q16, q17])
        ⟨st30, Same.refl _, _, _, _, _, _, _, _, _, _, _, _, _, _, _, _, _, rfl⟩ (fun i σ H' _ z => SqT.of (hT_le _ _ (z.2.1 _ _ evT))) ?_ ?_
      · rintro k z σ HAo HA hk ⟨stA, sA, w1', w2', w3', w4', w5', w6', w7', w8', w9', w10', w11', w12', w14', w15', w16', w17', rfl⟩ ⟨rfl, hz⟩
        obtain ⟨ty, htz, hkz⟩ : ∃ ty, TyX K (hT p HA) z ty ∧ PySem.W.kitAny K ty LT = some false := by
          match k, hz with
          | 0, hz => cases hz; exact ⟨_, .base .non, kit_none (kit_ty (by decide +kernel)) (kit_ty (by decide +kernel))⟩
          | 1, hz => cases hz; exact ⟨_, .base (.int _), kit_none (kit_ty (by decide +kernel)) (kit_ty (by decide +kernel))⟩
          | 2, hz => cases hz; exact ⟨_, .base (.str _), kit_none (kit_ty (by decide +kernel)) (kit_ty (by decide +kernel))⟩
          | 3, hz => cases hz; exact ⟨_, .base (.dK (sA _ _ edT)), kit_none (kit_ty (by decide +kernel)) (kit_ty (by decide +kernel))⟩
          | 4, hz => cases hz; exact ⟨_, .base (.bl _), kit_none (kit_ty (by decide +kernel)) (kit_ty (by decide +kernel))⟩
          | k + 5, hz => cases hz
        clear hz hk
        refine g_nm ?_
        try dsimp only
        refine t_ifS ?_
        refine ⟨fun p' hp' => by cases List.mem_singleton.mp hp'; exact stA.tb, fun HC eC tC => ?_⟩
        have stC := stA.ext eC (tC _ (List.mem_singleton.mpr rfl))
        have htC := TyX.same (TyX.same htz (ExtN.hide eC)) hT_le
        refine ⟨_, rfl, .ref lc, _, rfl, stC.lcs, fun HC2 q3 s3' sq3 => ?_⟩
        refine ⟨_, rfl, fun x2 dx2 nx2 ndx2 ne2 => ?_⟩
        have smk := same_mk nx2 ndx2 (rfl : upd (upd HC2 dx2 (.own x2)) x2 (.ins CP dx2 []) = upd (upd HC2 dx2 (.own x2)) x2 (.ins CP dx2 []))
        have sm2 := smk.trans hide_le
        refine piece_no_list (as := as) made.ok upd_same ⟨q3, rfl, .inr (SqT.same sq3 sm2)⟩ (TyX.same (TyX.same htC s3') sm2) hkz fun HD dd sD eD => ?_
        refine .inr (.inl ⟨rfl, dd, .int 0, rfl, eD, fun q1 nq1 => ?_⟩)
        have sE : Same HD (upd HD q1 (.tup [.str "arrow", .int 0])) := same_upd nq1
        have e1 : (upd HD q1 (.tup [.str "arrow", .int 0])) q1 = some (.tup [.str "arrow", .int 0]) := upd_same
        generalize upd HD q1 (.tup [.str "arrow", .int 0]) = HE at *
        refine ⟨(show 2 ≤ sizeLine by decide), fun q2 nq2 => ?_⟩
        have sF : Same HE (upd HE q2 (.tup [.str "arrow", .int 0])) := same_upd nq2
        have e2 : (upd HE q2 (.tup [.str "arrow", .int 0])) q2 = some (.tup [.str "arrow", .int 0]) := upd_same
        generalize upd HE q2 (.tup [.str "arrow", .int 0]) = HF at *
        have sCF := (((s3'.trans sm2).trans sD).trans sE).trans sF
        refine ⟨.tuple [.str "arrow", .int 0], .tuple [.str "arrow", .int 0], .tup (SqT.of (sF _ _ e1)) (.cons (.str _) (.cons (.int _) .nil)), .tup (SqT.of e2) (.cons (.str _) (.cons (.int _) .nil)), sh0, sh0, _, rfl, ?_⟩
        exact iteN (by rw [SeqAt.eqv_refl _ (SeqAt.canLay_of_shaped sh0)]; rfl) ⟨stC.same sCF, (sA.trans (ExtN.hide eC)).trans (hT_same (hide_same sCF)), _, _, _, _, _, _, _, _, _, _, _, _, _, _, _, _, rfl⟩
      · rintro σ HZ ⟨stZ, _, w1', w2', w3', w4', w5', w6', w7', w8', w9', w10', w11', w12', w14', w15', w16', w17', rfl⟩
        exact ⟨SqL.sm stZ.F.hl hT_le, stZ.tb, _, rfl, rfl⟩
end
end K63
end L2
set_option Elab.async false
set_option linter.all false
set_option maxRecDepth 100000
set_option maxHeartbeats 0
namespace L2
namespace K63
open PySem PySem.Spec PyProof.Rows K1 WL LamX
section
variable {P : Program} {w : World} {K : PySem.W.Frag} {mg : Str → Option Value} {base : Heap}
theorem sc_bw : FnScope ["self", "index"] ["self", "index"] (defScope s_BadWeb) := ⟨rfl, rfl, rfl, by decide +kernel, rfl, by decide +kernel, by decide +kernel⟩
theorem ini_bw {f : Addr} {fd : FuncData} (ox : OexC K (He.ga K "BadWeb")) (fN : PySem.W.findIn K (.ref (He.ga K "BadWeb")) "index" = some none) (F : FnP K "__init__" "BadWeb.__init__" s_BadWeb f fd) : FnOk P w K mg base CX0 1 f fd ["self", "index"] (spI (He.ga K "BadWeb") "index") := by
  refine F.ok sc_bw (fun vs H Q E h => ?_) (fun cdv A outer s H vs Q E hr h => ⟨_, PSs.nox (pss_one (ps_ost (pv 0) (pv 1))), ?_⟩)
  · obtain ⟨a, v, rfl, _⟩ := h
    rfl
  · obtain ⟨a, v, rfl, e, q⟩ := h
    exact ⟨v, rfl, .ref a, rfl, a, _, rfl, ox, fN, .inl ⟨e, fun dx n ne => q dx n ne⟩⟩
theorem sc_uc : FnScope ["self", "cell"] ["self", "cell"] (defScope s_UnknownCell) := ⟨rfl, rfl, rfl, by decide +kernel, rfl, by decide +kernel, by decide +kernel⟩
theorem ini_uc {f : Addr} {fd : FuncData} (ox : OexC K (He.ga K "UnknownCell")) (fN : PySem.W.findIn K (.ref (He.ga K "UnknownCell")) "cell" = some none) (F : FnP K "__init__" "UnknownCell.__init__" s_UnknownCell f fd) : FnOk P w K mg base CX0 1 f fd ["self", "cell"] (spI (He.ga K "UnknownCell") "cell") := by
  refine F.ok sc_uc (fun vs H Q E h => ?_) (fun cdv A outer s H vs Q E hr h => ⟨_, PSs.nox (pss_one (ps_ost (pv 0) (pv 1))), ?_⟩)
  · obtain ⟨a, v, rfl, _⟩ := h
    rfl
  · obtain ⟨a, v, rfl, e, q⟩ := h
    exact ⟨v, rfl, .ref a, rfl, a, _, rfl, ox, fN, .inl ⟨e, fun dx n ne => q dx n ne⟩⟩
theorem sc_bn : FnScope ["self", "number"] ["self", "number"] (defScope s_BadNumber) := ⟨rfl, rfl, rfl, by decide +kernel, rfl, by decide +kernel, by decide +kernel⟩
theorem ini_bn {f : Addr} {fd : FuncData} (ox : OexC K (He.ga K "BadNumber")) (fN : PySem.W.findIn K (.ref (He.ga K "BadNumber")) "number" = some none) (F : FnP K "__init__" "BadNumber.__init__" s_BadNumber f fd) : FnOk P w K mg base CX0 1 f fd ["self", "number"] (spI (He.ga K "BadNumber") "number") := by
  refine F.ok sc_bn (fun vs H Q E h => ?_) (fun cdv A outer s H vs Q E hr h => ⟨_, PSs.nox (pss_one (ps_ost (pv 0) (pv 1))), ?_⟩)
  · obtain ⟨a, v, rfl, _⟩ := h
    rfl
  · obtain ⟨a, v, rfl, e, q⟩ := h
    exact ⟨v, rfl, .ref a, rfl, a, _, rfl, ox, fN, .inl ⟨e, fun dx n ne => q dx n ne⟩⟩
theorem sc_ba : FnScope ["self", "index"] ["self", "index"] (defScope s_BadArrow) := ⟨rfl, rfl, rfl, by decide +kernel, rfl, by decide +kernel, by decide +kernel⟩
theorem ini_ba {f : Addr} {fd : FuncData} (ox : OexC K (He.ga K "BadArrow")) (fN : PySem.W.findIn K (.ref (He.ga K "BadArrow")) "index" = some none) (F : FnP K "__init__" "BadArrow.__init__" s_BadArrow f fd) : FnOk P w K mg base CX0 1 f fd ["self", "index"] (spI (He.ga K "BadArrow") "index") := by
  refine F.ok sc_ba (fun vs H Q E h => ?_) (fun cdv A outer s H vs Q E hr h => ⟨_, PSs.nox (pss_one (ps_ost (pv 0) (pv 1))), ?_⟩)
  · obtain ⟨a, v, rfl, _⟩ := h
    rfl
  · obtain ⟨a, v, rfl, e, q⟩ := h
    exact ⟨v, rfl, .ref a, rfl, a, _, rfl, ox, fN, .inl ⟨e, fun dx n ne => q dx n ne⟩⟩
theorem facts {l : PySem.W.OpenLaw} {h : Heap} {f cc pt : Addr} (hP : l.prog = P) (X : K.In h) (G : h.Ns mainGlobals mg) (hfa : mg ("law" : Str) = some (.ref f)) (c : He.SaysD (fa ++ fa2) fn K) (e : ex K = true) (tf : TabF K h cc pt) : LawAtS l w K CX0 11 63 "_law_script" mg f h := by
  subst hP
  have T : Bl mg := bl_mk X G c
  obtain ⟨x1, e⟩ := He.ba (show (_ && _) = true from e)
  obtain ⟨x2, e⟩ := He.ba e
  obtain ⟨x3, e⟩ := He.ba e
  obtain ⟨x4, e⟩ := He.ba e
  obtain ⟨x5, e⟩ := He.ba e
  obtain ⟨x6, e⟩ := He.ba e
  obtain ⟨x7, e⟩ := He.ba e
  obtain ⟨x8, e⟩ := He.ba e
  obtain ⟨x9, x10⟩ := He.ba e
  obtain ⟨x5a, x5z⟩ := He.ba x5
  obtain ⟨x5b, x5c⟩ := He.ba x5z
  obtain ⟨x6a, x6z⟩ := He.ba x6
  obtain ⟨x6b, x6c⟩ := He.ba x6z
  obtain ⟨x7a, x7z⟩ := He.ba x7
  obtain ⟨x7b, x7c⟩ := He.ba x7z
  obtain ⟨x8a, x8z⟩ := He.ba x8
  obtain ⟨x8b, x8c⟩ := He.ba x8z
  obtain ⟨y1, y2⟩ := He.ba x9
  obtain ⟨y3, y4⟩ := He.ba y2
  obtain ⟨y5, y6⟩ := He.ba y4
  have XB := xcB_ok x1
  have XU := xcB_ok x2
  have XN := xcB_ok x3
  have XA := xcB_ok x4
  obtain ⟨d0, F0⟩ := c.def_ 0 (d := dfn "is_list" s_is_list) rfl
  obtain ⟨d1, F1⟩ := c.def_ 1 (d := dfn "is_name" s_is_name) rfl
  obtain ⟨d2, F2⟩ := c.def_ 2 (d := dfn "is_name_list" s_is_name_list) rfl
  obtain ⟨d3, F3⟩ := c.def_ 3 (d := dfn "is_integer" s_is_integer) rfl
  obtain ⟨d4, F4⟩ := c.def_ 4 (d := dfn "is_count" s_is_count) rfl
  obtain ⟨d5, F5⟩ := c.def_ 5 (d := mth "BadWeb" "__init__" "BadWeb.__init__" s_BadWeb) rfl
  obtain ⟨d6, F6⟩ := c.def_ 6 (d := mth "UnknownCell" "__init__" "UnknownCell.__init__" s_UnknownCell) rfl
  obtain ⟨d7, F7⟩ := c.def_ 7 (d := mth "BadNumber" "__init__" "BadNumber.__init__" s_BadNumber) rfl
  obtain ⟨d8, F8⟩ := c.def_ 8 (d := mth "BadArrow" "__init__" "BadArrow.__init__" s_BadArrow) rfl
  obtain ⟨d9, F9⟩ := c.def_ 9 (d := mth "Web" "__init__" "Web.__init__" s_Web_init) rfl
  obtain ⟨d10, F10⟩ := c.def_ 10 (d := mth "Web" "cells_with_source" "Web.cells_with_source" s_Web_cells_with) rfl
  obtain ⟨d11, F11⟩ := c.def_ 11 (d := mth "Web" "sources" "Web.sources" s_Web_sources) rfl
  obtain ⟨d12, F12⟩ := c.def_ 12 (d := mth "Web" "targets" "Web.targets" s_Web_targets) rfl
  obtain ⟨d13, F13⟩ := c.def_ 13 (d := mth "Web" "__contains__" "Web.__contains__" s_Web_contains) rfl
  obtain ⟨d14, F14⟩ := c.def_ 14 (d := mth "Web" "__len__" "Web.__len__" s_Web_len) rfl
  obtain ⟨d15, F15⟩ := c.def_ 15 (d := mth "Web" "__iter__" "Web.__iter__" s_Web_iter) rfl
  obtain ⟨d16, F16⟩ := c.def_ 16 (d := mth "Web" "__eq__" "Web.__eq__" s_Web_eq) rfl
  obtain ⟨d17, F17⟩ := c.def_ 17 (d := dfn "check_rows" s_check_rows) rfl
  obtain ⟨d18, F18⟩ := c.def_ 18 (d := dfn "first_wrong_row" s_first_wrong_row) rfl
  obtain ⟨d19, F19⟩ := c.def_ 19 (d := dfn "is_row" s_is_row) rfl
  obtain ⟨d20, F20⟩ := c.def_ 20 (d := dfn "check_cells" s_check_cells) rfl
  obtain ⟨d21, F21⟩ := c.def_ 21 (d := mth "Piece" "__init__" "Piece.__init__" s_Piece_init) rfl
  obtain ⟨d22, F22⟩ := c.def_ 22 (d := dfn "first_wrong_arrow" s_first_wrong_arrow) rfl
  obtain ⟨d23, F23⟩ := c.def_ 23 (d := dfn "is_piece_arrow" s_is_piece_arrow) rfl
  obtain ⟨d24, F24⟩ := c.def_ 24 (d := dfn "check_pieces" s_check_pieces) rfl
  obtain ⟨d25, F25⟩ := c.def_ 25 (d := dfn "row" s_row) rfl
  obtain ⟨d26, F26⟩ := c.def_ 26 (d := dfn "row_sources" s_row_sources) rfl
  obtain ⟨d27, F27⟩ := c.def_ 27 (d := dfn "_law_cell" s_cell) rfl
  obtain ⟨d28, F28⟩ := c.def_ 28 (d := dfn "_law_pool" s_pool) rfl
  obtain ⟨d29, F29⟩ := c.def_ 29 (d := dfn "_law_take" s_take) rfl
  obtain ⟨d30, F30⟩ := c.def_ 30 (d := dfn "_law_names" s_names) rfl
  obtain ⟨d31, F31⟩ := c.def_ 31 (d := dfn "_law_picked" s_picked) rfl
  obtain ⟨d32, F32⟩ := c.def_ 32 (d := dfn "_law_cells" s_cells) rfl
  obtain ⟨d33, F33⟩ := c.def_ 33 (d := dfn "_law_piece" s_piece) rfl
  obtain ⟨d34, F34⟩ := c.def_ 34 (d := dfn "_law_line_of" s_line_of) rfl
  obtain ⟨d35, F35⟩ := c.def_ 35 (d := dfn "_law_told" s_told) rfl
  obtain ⟨d36, F36⟩ := c.def_ 36 (d := dfn "_law_odd_arrow" s_odd_arrow) rfl
  obtain ⟨fd, F⟩ := c.def_ 37 (d := dfn "law" s_law) rfl
  have e0 := hfa.symm.trans (He.glo_ok X G (c.fact 31 (f := .glo "law") rfl))
  cases e0
  have b := FunD.bindsA (ps := ["_law_script"]) F fun _ _ _ _ _ _ us hl => match us, hl with | [_], _ => rfl
  have hcode : fd.code = .ref cc := by
    obtain ⟨oc, od, dV, kV, doc, pm, an, cdv, ct, osl, efd, lk, _, _, _⟩ := F.ex
    exact PySem.W.law_code X G tf.i hfa (X _ _ lk) rfl
  refine ⟨fd, [(cc, pt)], spLaw K pt, fun p hp => by cases List.mem_singleton.mp hp; exact tf.ob, fun p hp => by cases List.mem_singleton.mp hp; exact tf.no, fun p hp => by cases List.mem_singleton.mp hp; exact PySem.W.codeHd_of_K X tf.hd, fun s v => b s [v] rfl,
    fun H a ns hl _ hH hS => ⟨a, ns, rfl, hS, hH (cc, pt) (List.mem_singleton.mpr rfl), fun _ => rfl⟩, fun base _ _ hTB => ?_⟩
  have TB := hTB (cc, pt) (List.mem_singleton.mpr rfl)
  have W : Wt K mg (He.ga K "Web") := ⟨He.cls_ok (c.fact 47 (f := .cls "Web") rfl), He.noat_ok (c.fact 52 (f := .noat "Web" "cells") rfl), He.noat_ok (c.fact 53 (f := .noat "Web" "sources_of") rfl), He.noat_ok (c.fact 54 (f := .noat "Web" "arrows") rfl), He.noat_ok (c.fact 55 (f := .noat "Web" "targets_of") rfl), He.glo_ok X G (c.fact 10 (f := .glo "Web") rfl)⟩
  have Wi : Wk K (He.ga K "Web") := ⟨fun e => .base (.ins e W.cl (He.eqO_ok y1) (He.eqO_ok y3) (of_decide_eq_true y5) (of_decide_eq_true y6)), of_decide_eq_true x10⟩
  have Wp : Pt K mg (He.ga K "Piece") := ⟨He.cls_ok (c.fact 56 (f := .cls "Piece") rfl), He.noat_ok (c.fact 58 (f := .noat "Piece" "cells") rfl), He.noat_ok (c.fact 59 (f := .noat "Piece" "arrows") rfl), He.glo_ok X G (c.fact 15 (f := .glo "Piece") rfl)⟩
  have EB : Er l.prog w K mg base "BadWeb" "index" := ⟨He.glo_ok X G (c.fact 5 (f := .glo "BadWeb") rfl), XB, He.eqO_ok x5b, of_decide_eq_true x5c, _, ini_bw XB.ox (He.eqO_ok x5a) F5, F5.bindsN fun _ _ _ _ _ _ us hl => match us, hl with | [_, _], _ => rfl⟩
  have EU : Er l.prog w K mg base "UnknownCell" "cell" := ⟨He.glo_ok X G (c.fact 6 (f := .glo "UnknownCell") rfl), XU, He.eqO_ok x6b, of_decide_eq_true x6c, _, ini_uc XU.ox (He.eqO_ok x6a) F6, F6.bindsN fun _ _ _ _ _ _ us hl => match us, hl with | [_, _], _ => rfl⟩
  have EN : Er l.prog w K mg base "BadNumber" "number" := ⟨He.glo_ok X G (c.fact 7 (f := .glo "BadNumber") rfl), XN, He.eqO_ok x7b, of_decide_eq_true x7c, _, ini_bn XN.ox (He.eqO_ok x7a) F7, F7.bindsN fun _ _ _ _ _ _ us hl => match us, hl with | [_, _], _ => rfl⟩
  have EA : Er l.prog w K mg base "BadArrow" "index" := ⟨He.glo_ok X G (c.fact 9 (f := .glo "BadArrow") rfl), XA, He.eqO_ok x8b, of_decide_eq_true x8c, _, ini_ba XA.ox (He.eqO_ok x8a) F8, F8.bindsN fun _ _ _ _ _ _ us hl => match us, hl with | [_, _], _ => rfl⟩
  obtain ⟨p1, p2, p3, p4⟩ := He.exc_ok (c.fact 60 (f := .exc "BadPiece") rfl)
  have EP : E0c K mg "BadPiece" := ⟨He.glo_ok X G (c.fact 8 (f := .glo "BadPiece") rfl), p1, p2, p3, p4⟩
  have e3 : Ex3 K mg := ⟨He.glo_ok X G (c.fact 8 (f := .glo "BadPiece") rfl), He.glo_ok X G (c.fact 9 (f := .glo "BadArrow") rfl), He.glo_ok X G (c.fact 7 (f := .glo "BadNumber") rfl), XA, XN, He.eqO_ok x8a, He.eqO_ok x7a, He.exm_ok (c.fact 61 (f := .exm "BadPiece" "BadPiece" true) rfl), He.exm_ok (c.fact 62 (f := .exm "BadArrow" "BadPiece" false) rfl), He.exm_ok (c.fact 63 (f := .exm "BadArrow" "BadArrow" true) rfl), He.exm_ok (c.fact 64 (f := .exm "BadNumber" "BadPiece" false) rfl), He.exm_ok (c.fact 65 (f := .exm "BadNumber" "BadArrow" false) rfl), He.exm_ok (c.fact 66 (f := .exm "BadNumber" "BadNumber" true) rfl)⟩
  have fr : mg "range" = none := T.f_range
  have fb : mg "bool" = none := He.free_ok X G (c.fact 45 (f := .free "bool") rfl)
  have hL : ∃ t, mg "LETTERS" = some (.str LET t) := He.str_ok X G (c.fact 46 (f := .str "LETTERS" "abcdefghijklmnopqrstuvwxyz") rfl)
  have C0 : Cal l.prog w K mg base "is_list" ["thing"] 1 (spIsList K) := ⟨_, d0, ok_is_list T F0, He.glo_ok X G (c.fact 0 (f := .glo "is_list") rfl), F0.kp, F0.bindsN fun _ _ _ _ _ _ us hl => match us, hl with | [_], _ => rfl⟩
  have C1 : Cal l.prog w K mg base "is_name" ["thing"] 1 (spIsName K) := ⟨_, d1, ok_is_name T F1, He.glo_ok X G (c.fact 1 (f := .glo "is_name") rfl), F1.kp, F1.bindsN fun _ _ _ _ _ _ us hl => match us, hl with | [_], _ => rfl⟩
  have C2 : Cal l.prog w K mg base "is_name_list" ["thing"] 2 (spNameList K) := ⟨_, d2, ok_is_name_list T C0 C1 F2, He.glo_ok X G (c.fact 2 (f := .glo "is_name_list") rfl), F2.kp, F2.bindsN fun _ _ _ _ _ _ us hl => match us, hl with | [_], _ => rfl⟩
  have C3 : Cal l.prog w K mg base "is_integer" ["thing"] 1 (spIsInt K) := ⟨_, d3, ok_isint T fb F3, He.glo_ok X G (c.fact 3 (f := .glo "is_integer") rfl), F3.kp, F3.bindsN fun _ _ _ _ _ _ us hl => match us, hl with | [_], _ => rfl⟩
  have C4 : Cal l.prog w K mg base "is_count" ["thing"] 2 (spIsCount K) := ⟨_, d4, ok_iscnt C3 F4, He.glo_ok X G (c.fact 4 (f := .glo "is_count") rfl), F4.kp, F4.bindsN fun _ _ _ _ _ _ us hl => match us, hl with | [_], _ => rfl⟩
  have C15 : Cal l.prog w K mg base "is_row" ["thing"] 3 (spIsRow K) := ⟨_, d19, ok_is_row T C0 C1 C2 F19, He.glo_ok X G (c.fact 13 (f := .glo "is_row") rfl), F19.kp, F19.bindsN fun _ _ _ _ _ _ us hl => match us, hl with | [_], _ => rfl⟩
  have C14 : Cal l.prog w K mg base "first_wrong_row" ["rows"] 4 (spFirst K) := ⟨_, d18, ok_first T C0 C15 F18, He.glo_ok X G (c.fact 12 (f := .glo "first_wrong_row") rfl), F18.kp, F18.bindsN fun _ _ _ _ _ _ us hl => match us, hl with | [_], _ => rfl⟩
  have Cpa : Cal l.prog w K mg base "is_piece_arrow" ["cells", "thing"] 2 (spPA K) := ⟨_, d23, ok_pa T C0 C3 F23, He.glo_ok X G (c.fact 17 (f := .glo "is_piece_arrow") rfl), F23.kp, F23.bindsN fun _ _ _ _ _ _ us hl => match us, hl with | [_, _], _ => rfl⟩
  have Cfa : Cal l.prog w K mg base "first_wrong_arrow" ["cells", "arrows"] 3 (spFA K) := ⟨_, d22, ok_fa T C0 Cpa F22, He.glo_ok X G (c.fact 16 (f := .glo "first_wrong_arrow") rfl), F22.kp, F22.bindsN fun _ _ _ _ _ _ us hl => match us, hl with | [_, _], _ => rfl⟩
  have mC := He.meth_ok (c.fact 51 (f := .meth "Web" "__contains__") rfl)
  have b5 := F9.bindsN (ps := ["self", "rows"]) fun _ _ _ _ _ _ us hl => match us, hl with | [_, _], _ => rfl
  have b6 := F10.bindsN (ps := ["self", "source"]) fun _ _ _ _ _ _ us hl => match us, hl with | [_, _], _ => rfl
  have b7 := F11.bindsN (ps := ["self", "cell"]) fun _ _ _ _ _ _ us hl => match us, hl with | [_, _], _ => rfl
  have b9 := F13.bindsN (ps := ["self", "x"]) fun _ _ _ _ _ _ us hl => match us, hl with | [_, _], _ => rfl
  have bpi := F21.bindsN (ps := ["self", "cells", "arrows"]) fun _ _ _ _ _ _ us hl => match us, hl with | [_, _, _], _ => rfl
  have b24 := F35.bindsN (ps := ["_law_ask"]) fun _ _ _ _ _ _ us hl => match us, hl with | [_], _ => rfl
  have Gi := ok_web_init (P := l.prog) (w := w) (base := base) T W ⟨_, d17, ok_check_rows T C14 EB EU F17, He.glo_ok X G (c.fact 11 (f := .glo "check_rows") rfl), F17.kp, F17.bindsN fun _ _ _ _ _ _ us hl => match us, hl with | [_], _ => rfl⟩ (ok_cells_with T W F10) b6 (He.meth_ok (c.fact 49 (f := .meth "Web" "cells_with_source") rfl)) F9
  have Mw := He.mkr_ok (c.fact 48 (f := .mkr "Web") rfl)
  have Mp := He.mkr_ok (c.fact 57 (f := .mkr "Piece") rfl)
  have Gpi := ok_pi (P := l.prog) (w := w) (base := base) T Wp C2 Cfa EP EA F21
  have Cc : ∃ f fd, FnOk l.prog w K mg base (L2.CX l.prog w) 3 f fd ["web", "things"] (spCC K (He.ga K "Web") (He.ga K "UnknownCell")) ∧ mg "check_cells" = some (.ref f) ∧ PySem.W.keepIn K (.ref f) = true ∧ Binds K fd ["web", "things"] [] := ⟨_, d20, ok_cc T ⟨mC.at_, mC.fn⟩ (ok_con T W C1 F13) b9 EU F20, He.glo_ok X G (c.fact 14 (f := .glo "check_cells") rfl), F20.kp, F20.bindsN fun _ _ _ _ _ _ us hl => match us, hl with | [_, _], _ => rfl⟩
  have Gs := ok_sources (P := l.prog) (w := w) (base := base) T W Cc F11
  have ms := He.meth_ok (c.fact 50 (f := .meth "Web" "sources") rfl)
  have Crs : Cal l.prog w K mg base "row_sources" ["piece", "cell", "k", "n"] 1 (spRS K (He.ga K "Piece")) := ⟨_, d26, ok_rs T Wp hL F26, He.glo_ok X G (c.fact 20 (f := .glo "row_sources") rfl), F26.kp, F26.bindsN fun _ _ _ _ _ _ us hl => match us, hl with | [_, _, _, _], _ => rfl⟩
  have Ccp : ∃ f fd, FnOk l.prog w K mg base (L2.CX l.prog w) 3 f fd ["n"] (spCkP K) ∧ mg "check_pieces" = some (.ref f) ∧ PySem.W.keepIn K (.ref f) = true ∧ Binds K fd ["n"] [] := ⟨_, d24, ok_ckp T hL C4 EN F24, He.glo_ok X G (c.fact 18 (f := .glo "check_pieces") rfl), F24.kp, F24.bindsN fun _ _ _ _ _ _ us hl => match us, hl with | [_], _ => rfl⟩
  have Cro : ∃ f fd, FnOk l.prog w K mg base (L2.CX l.prog w) 8 f fd ["piece", "n"] (spRow K (He.ga K "Piece") (He.ga K "Web")) ∧ mg "row" = some (.ref f) ∧ PySem.W.keepIn K (.ref f) = true ∧ Binds K fd ["piece", "n"] [] := ⟨_, d25, ok_row T Wp W Mw Gi b5 fr hL Ccp Crs F25, He.glo_ok X G (c.fact 19 (f := .glo "row") rfl), F25.kp, F25.bindsN fun _ _ _ _ _ _ us hl => match us, hl with | [_, _], _ => rfl⟩
  have Ct : Cal l.prog w K mg base "_law_take" ["_law_pool_here", "_law_many"] 1 spTakeL := ⟨_, d29, ok_take T F29, He.glo_ok X G (c.fact 23 (f := .glo "_law_take") rfl), F29.kp, F29.bindsN fun _ _ _ _ _ _ us hl => match us, hl with | [_, _], _ => rfl⟩
  have Cn : Cal l.prog w K mg base "_law_names" ["_law_pool_here", "_law_many"] 2 (spNames63 K) := ⟨_, d30, ok_names T fr Ct F30, He.glo_ok X G (c.fact 24 (f := .glo "_law_names") rfl), F30.kp, F30.bindsN fun _ _ _ _ _ _ us hl => match us, hl with | [_, _], _ => rfl⟩
  have Cpk : Cal l.prog w K mg base "_law_picked" ["_law_pool_here", "_law_things", "_law_share"] 2 (spPicked K) := ⟨_, d31, ok_picked T fr Ct F31, He.glo_ok X G (c.fact 25 (f := .glo "_law_picked") rfl), F31.kp, F31.bindsN fun _ _ _ _ _ _ us hl => match us, hl with | [_, _, _], _ => rfl⟩
  exact ok_law T fr T.f_int fb W Wp Mp Gpi bpi Cro Gs b7 ms Wi (of_decide_eq_true x10) e3 F35 (He.glo_ok X G (c.fact 29 (f := .glo "_law_told") rfl)) b24
    ⟨_, d27, ok_cell T F27, He.glo_ok X G (c.fact 21 (f := .glo "_law_cell") rfl), F27.kp, F27.bindsN fun _ _ _ _ _ _ us hl => match us, hl with | [_, _], _ => rfl⟩
    ⟨_, d28, ok_pool T F28, He.glo_ok X G (c.fact 22 (f := .glo "_law_pool") rfl), F28.kp, F28.bindsN fun _ _ _ _ _ _ us hl => match us, hl with | [_], _ => rfl⟩
    Ct
    ⟨_, d33, ok_piece T Ct Cn Cpk F33, He.glo_ok X G (c.fact 27 (f := .glo "_law_piece") rfl), F33.kp, F33.bindsN fun _ _ _ _ _ _ us hl => match us, hl with | [_, _], _ => rfl⟩
    ⟨_, d34, ok_line fr F34, He.glo_ok X G (c.fact 28 (f := .glo "_law_line_of") rfl), F34.kp, F34.bindsN fun _ _ _ _ _ _ us hl => match us, hl with | [_, _, _], _ => rfl⟩
    ⟨_, d32, ok_cells F32, He.glo_ok X G (c.fact 26 (f := .glo "_law_cells") rfl), F32.kp, F32.bindsN fun _ _ _ _ _ _ us hl => match us, hl with | [_], _ => rfl⟩
    ⟨_, d36, ok_odd T Ct F36, He.glo_ok X G (c.fact 30 (f := .glo "_law_odd_arrow") rfl), F36.kp, F36.bindsN fun _ _ _ _ _ _ us hl => match us, hl with | [_, _, _], _ => rfl⟩
    F hcode TB
end
end K63
end L2
open PySem PySem.W PySem.Calls PyProof.Rows
theorem PySem.Challenge.cw_lotmarks_k63_pieces_in_a_row_holds : PySem.Challenge.rw_lotmarks_k63_pieces_in_a_row.Holds := by
  w_on; o_law
  refine HandSHeadRun.head_any (r := OpenLaw.row PySem.Challenge.rw_lotmarks_k63_pieces_in_a_row) (q := view (OpenLaw.row PySem.Challenge.rw_lotmarks_k63_pieces_in_a_row).prog [39]) (H := L2.K63.hk) (ob := L2.K63.ob) (M := 60000) (loose := L2.K63.loose)
    (d := HandSHeadRun.topDef (OpenLaw.row PySem.Challenge.rw_lotmarks_k63_pieces_in_a_row).prog 39) (kwd := []) L2.K63.ob_eq
    (by kernel_rfl) (fun s => by kernel_rfl) L2.K63.run (by kernel_rfl) (by kernel_rfl) (by kernel_rfl) (by rfl) (by first | assumption | decide +kernel) (by decide +kernel) ⟨rfl, rfl, rfl, rfl, rfl, by decide +kernel⟩ ?hw ?hc
  case hw => w_witness2
  case hc =>
    refine LamX.walk_ofTsE (l := PySem.Challenge.rw_lotmarks_k63_pieces_in_a_row) (n := 63) (k := 11) (x := "_law_script") (CX := fun _ => L2.CX0) rfl (by decide) (by kernel_rfl) ⟨rfl, by decide, by decide⟩ ?F (fun _ _ _ _ _ z => z)
    intro w mg fa h Y G hmg0
    obtain ⟨K, KX, c, e, cc, pt, tf⟩ := Y
    have hmg : mg ("law" : PySem.Str) = some (.ref fa) := by
      have e : (HandSHeadRun.topDef (OpenLaw.row PySem.Challenge.rw_lotmarks_k63_pieces_in_a_row).prog 39).name = ("law" : PySem.Str) := by kernel_rfl
      rw [← e]
      exact hmg0
    exact ⟨K, KX, L2.K63.facts rfl KX G hmg c e tf⟩
