import PyProof.Rows.All
import Wide.All
import OpenK.AllK
import Wide.FinOn
import HandS.DictComp
import HandS.NoneIn
import HandS.Exc
import HandS.ExcOwn
import HandS.ExcInit
import HandS.WordsExc
import HandS.TryOnly
import HandS.Base
import HandS.Call
import HandS.List
import HandS.Comp
import HandS.Dict
import HandS.Iter
import HandS.Walk
import HandS.Text
import HandS.Conv
import HandS.IsInst
import HandS.Words
import HandS.Defaults
import OpenK.KMeth
import HandS.Strs
import KE.KExcIs
import HandS.Ends
import HandS.HeadHook2
import HandS.DeepEq
import PyProof.EnumMake
import PyProof.Draws
import KE.GoesMore
import HandS.StrMore
import KE.KStateDown
import HandS.Head0
import HandS.Head1
import HandS.Head2
import HandS.HeadEnd
import KE.KNestM
import HandS.HeadWalk
import HandS.Lambda
import HandS.EndTab
import HandS.More
import PyProof.NeKinds
import HandS.TryMany
import KE.KDictList
import HandS.ListItems
import HandS.DictEq
import PyProof.InstEq
import HandS.OwnIter
import OpenK.KOps
import OpenK.KWalk
import KE.KOwnIter
import HandS.IterNext
import HandS.IterVal
import HandS.OwnEq
import HandS.Sort
import HandS.Style
import HandS.Deep
import HandS.WideBits
import HandS.DictTup
import HandS.TupLen
import KE.DataFind
import KE.SortUse
import HandS.WordsDict
import PySem.Challenge.RW_lotmarks_k59_whole_races_counted
set_option Elab.async false
set_option linter.all false
set_option maxRecDepth 100000
set_option maxHeartbeats 4000000
namespace SSx
open PySem PySem.Spec PyProof.Rows SS
/-! the texts of a list, each once -/
def sp (s : List PySem.Str) (v : PySem.Str) : List PySem.Str := if s.any (· == v) = true then s else s ++ [v]
def ddN (xs : List PySem.Str) (i : Nat) : List PySem.Str := (xs.take i).foldl sp []
theorem ddN_succ {xs : List PySem.Str} {i : Nat} (h : i < xs.length) : ddN xs (i + 1) = sp (ddN xs i) (xs.getD i Str.empty) := by
  unfold ddN
  rw [List.take_succ, List.getElem?_eq_getElem h, List.getD_eq_getElem?_getD, List.getElem?_eq_getElem h, List.foldl_append]
  rfl
theorem sp_any (s : List PySem.Str) (v k : PySem.Str) : (sp s v).any (· == k) = (s.any (· == k) || decide (k = v)) := by
  unfold sp
  by_cases h : s.any (· == v) = true
  · rw [if_pos h]
    by_cases e : k = v
    · rw [e, h]
      simp
    · simp [e]
  · rw [if_neg h, List.any_append]
    by_cases e : k = v
    · rw [e]
      simp
    · have hb : (v == k) = false := by simpa [beq_iff_eq] using (fun h' : v = k => e h'.symm)
      simp [hb, e]
theorem sp_len (s : List PySem.Str) (v : PySem.Str) : (sp s v).length = if s.any (· == v) = true then s.length else s.length + 1 := by
  unfold sp
  split <;> simp
theorem ddN_le (xs : List PySem.Str) : ∀ i, (ddN xs i).length ≤ i
  | 0 => by simp [ddN]
  | i + 1 => by
    have ih := ddN_le xs i
    by_cases h : i < xs.length
    · rw [ddN_succ h, sp_len]
      split <;> omega
    · have e : ddN xs (i + 1) = ddN xs i := by
        unfold ddN
        rw [List.take_of_length_le (by omega), List.take_of_length_le (by omega)]
      rw [e]
      omega
section
variable {prog : Program} {w : World} {A : Around} {R : Result → Shared → Prop} {I : Addr} {fp wr : List Addr} {G : Array GenState → Array GenState → Prop} {n : Nat} {P : Nat → Value → Prop} {St : Nat → Shared → Prop}
theorem loopTxt (W : WalksS prog w A.in1 I fp wr G n P St) (S : Addr) (hSf : S ∉ fp) (xs : List Str) (hsz : xs.length = n) (hn1 : n + 1 < scanBound)
    (hval : ∀ i v, P i v → ∃ t, v = .str (xs.getD i Str.empty) t) :
    ∀ (k i : Nat) (s : Shared), n - i = k → i ≤ n → St i s →
      s.heap.SetOf (PySem.strKind prog w) S (fun k' => (ddN xs i).any (· == k')) (ddN xs i).length →
      (∀ s', Moved (S :: wr) G s s' → s'.heap.SetOf (PySem.strKind prog w) S (fun k' => (ddN xs n).any (· == k')) (ddN xs n).length → R (.ok (.ret .none)) s') →
      codeAny (model prog w) A (.builtin "set.update.loop" ⟨[.ref S, .ref I], []⟩) R s := by
  have hSw : S ∉ wr := fun h => hSf (W.sub _ h)
  have hsub : ∀ b ∈ wr, b ∈ S :: wr := fun b hb => List.mem_cons_of_mem _ hb
  intro k
  induction k with
  | zero =>
    intro i s hk hi hst hS hR
    have hin : i = n := by omega
    subst hin
    refine codeAny_builtin PyProof.Rows.F.entry_set_update_loop ?_
    rw [Around.under_plainId PyProof.Rows.F.plain_set_update_loop _]
    show wpAny _ A.in1 (pyNext (.ref I) >>= _) _ _ s
    refine wpAny_bind (W.done s _ _ hst fun s' hm => ?_)
    show wpAny _ A.in1 (ret Value.none) _ _ s'
    exact wpAny_pure (hR s' (hm.mono hsub) (by
      obtain ⟨o, es, ep, t, ho, rest⟩ := hS
      exact ⟨o, es, ep, t, hm.heap S _ hSw ho, rest⟩))
  | succ k ih =>
    intro i s hk hi hst hS hR
    have hlt : i < n := by omega
    refine codeAny_builtin PyProof.Rows.F.entry_set_update_loop ?_
    rw [Around.under_plainId PyProof.Rows.F.plain_set_update_loop _]
    show wpAny _ A.in1 (pyNext (.ref I) >>= _) _ _ s
    refine wpAny_bind (W.item i s _ _ hlt hst fun v s' hP hst' hm => ?_)
    obtain ⟨t, rfl⟩ := hval i v hP
    have hS' : s'.heap.SetOf (PySem.strKind prog w) S (fun k' => (ddN xs i).any (· == k')) (ddN xs i).length := by
      obtain ⟨o, es, ep, tb, ho, rest⟩ := hS
      exact ⟨o, es, ep, tb, hm.heap S _ hSw ho, rest⟩
    show wpAny _ A.in1 (holding [Value.str (xs.getD i Str.empty) t] (setAdd S (.str (xs.getD i Str.empty) t)) >>= _) _ _ s'
    refine wpAny_bind (wpAny_holding ?_)
    unfold setAdd
    refine wpAny_holding ?_
    refine wpAny_bind ((PySem.strKind prog w).pyHash (k := xs.getD i Str.empty) (strKind_is _ _ _ _) ?_)
    refine wpAny_setAddHashed_of (knd := PySem.strKind prog w) (s := { s' with toks := s'.toks + 1 }) (strKind_is _ _ _ _) rfl hS' (by have := ddN_le xs i; omega) fun h' hsb hS2 => ?_
    have hSi : h'.SetOf (PySem.strKind prog w) S (fun k' => (ddN xs (i + 1)).any (· == k')) (ddN xs (i + 1)).length := by
      rw [ddN_succ (show i < xs.length by omega)]
      exact SetOf_congr hS2 (fun k' => (sp_any _ _ _).symm) (sp_len _ _).symm
    refine wpAny_pure ⟨plainId_quiet PyProof.Rows.F.plain_set_update_loop _, ih (i + 1) _ (by omega) hlt (W.frame _ s' _ _ hst' (Nat.le_succ _) fun b hb o e => ?_) hSi fun s'' hm'' hS'' => ?_⟩
    · rw [hsb.2 b (fun h : b = S => hSf (by rw [← h]; exact hb))]; exact e
    · refine hR s'' (Moved.trans W.gtrans ((hm.mono hsub).then_heap (Nat.le_succ _) fun b o hb e => ?_) hm'') hS''
      rw [hsb.2 b (fun h : b = S => hb (by rw [h]; exact List.mem_cons_self))]; exact e
end

section
variable {prog : Program} {w : World} {A : Around} {E : Value → Shared → Prop} {s : Shared}
set_option maxHeartbeats 3200000 in
theorem set_listTxt {l : Addr} {items : Array Value} {xs : List Str} {Q : Value → Shared → Prop}
    (hh : A.handled = none) (hl : s.heap.IsList l items) (hi : PyProof.Rows.StrsAre items.toList xs) (hn1 : xs.length + 1 < scanBound)
    (h : ∀ (h' : Heap) (tk : Nat), h'.SetOf (PySem.strKind prog w) s.heap.objs.size (fun k' => (ddN xs items.size).any (· == k')) (ddN xs items.size).length →
      (∀ b o, b < s.heap.objs.size → s.heap.get? b = some o → h'.get? b = some o) → Q (.ref s.heap.objs.size) { s with heap := h', toks := tk }) :
    wpAny (model prog w) A (call (.type "set") [.ref l]) Q E s := by
  obtain ⟨c, tl, hmro⟩ := PySem.F.called_set.mro
  have hmade := PySem.F.called_set.made
  have hsub := PySem.F.called_set.sub
  refine wpAny_call (codeAny_of_tree ?_)
  show wpAny _ _ (callAny (.type "set") _) _ _ _
  refine wpAny_pure ⟨Code.quiet_builtin _ (by decide +kernel), codeAny_builtin PySem.F.entry_type_call ?_⟩
  rw [Around.under_plain (weight_type_call_type "set" [.ref l] []) rfl]
  have h1 := PySem.F.called_set.notType
  have h2 := PySem.F.called_set.canCreate
  have hct := PySem.F.typeCall_set_1 (.ref l)
  repeat (any_goals (first | assumption | wp_step))

  refine codeAny_mono (code_set_new_1 (.ref l) (E := E) (Q₁ := fun obj s₁ => ∃ led : Bool, obj = .ref s.heap.objs.size ∧ s₁ = { s with heap := s.heap.push { cls := .type "set", dict := none, data := .set #[] 0 (.fresh 0 0 led) } }) fun led => ⟨led, rfl, rfl⟩) fun r s₁ hr => ?_
  cases r with
  | error e => exact hr
  | ok fl =>
    cases fl with
    | ret obj =>
      obtain ⟨led, rfl, rfl⟩ := hr
      have hS : (s.heap.push { cls := .type "set", dict := none, data := .set #[] 0 (.fresh 0 0 led) }).get? s.heap.objs.size = some { cls := .type "set", dict := none, data := .set #[] 0 (.fresh 0 0 led) } := Heap.get?_push_size _ rfl
      have hT : Shared.TypeIs { s with heap := s.heap.push { cls := .type "set", dict := none, data := .set #[] 0 (.fresh 0 0 led) } } (.ref s.heap.objs.size) "set" := ⟨_, hS, rfl⟩
      have hli := PySem.F.called_set.init.lookup
      have hbi := PySem.F.called_set.init.bind (.ref s.heap.objs.size)
      repeat (any_goals (first | assumption | wp_step))

      refine codeAny_mono (codeAny_call_builtin (R := wants (fun r s₂ => r = .none ∧ ∃ h' tk, s₂ = { s with heap := h', toks := tk } ∧
          h'.SetOf (PySem.strKind prog w) s.heap.objs.size (fun k' => (ddN xs items.size).any (· == k')) (ddN xs items.size).length ∧
          (∀ b o, b < s.heap.objs.size → s.heap.get? b = some o → h'.get? b = some o)) E) PySem.F.called_set.init.plain PySem.F.entry_set_init (check_set_init_1 hT ?_)) fun r₂ s₂ hr₂ => ?_
      · obtain ⟨ol, hol, hcl, nl, hdl⟩ := hl
        obtain ⟨ocls, odict, odata, oslots⟩ := ol
        simp only at hcl hdl
        subst hcl; subst hdl
        have hol' : (s.heap.push { cls := .type "set", dict := none, data := .set #[] 0 (.fresh 0 0 led) }).get? l = some { cls := .type "list", dict := odict, data := .seq items nl, slots := oslots } := Heap.get?_push_of_some _ hol
        have hsls := PySem.F.sub_list_set
        have hslf := PySem.F.sub_list_frozenset
        have hne : (Value.type "list" == Value.type "dict") = false := by decide
        have hl1 : (s.heap.push { cls := .type "set", dict := none, data := .set #[] 0 (.fresh 0 0 led) }).IsList l items := ⟨_, hol', rfl, nl, rfl⟩
        unfold Builtin.«set.__init__» noKeywords Builtin.Frozenset.updateFrom
        generalize hPI : pyIter = PI
        wp_walk
        subst hPI

        refine wpAny_pyIter_list hl1 ?_
        refine wpAny_bind (wpAny_runValue ?_)
        have hlS : l < s.heap.objs.size := Heap.lt_size hol
        have hh3 : A.in1.in1.in1.handled = none := by simp [hh]
        have hneI : l ≠ (s.heap.push { cls := .type "set", dict := none, data := .set #[] 0 (.fresh 0 0 led) }).objs.size := by
          rw [Heap.size_push]; exact Nat.ne_of_lt (Nat.lt_succ_of_lt hlS)
        have hSf : s.heap.objs.size ∉ [(s.heap.push { cls := .type "set", dict := none, data := .set #[] 0 (.fresh 0 0 led) }).objs.size, l] := by
          rw [Heap.size_push]; simp only [List.mem_cons, List.mem_singleton, List.not_mem_nil, or_false, not_or]
          exact ⟨Nat.ne_of_lt (Nat.lt_succ_self _), Nat.ne_of_gt hlS⟩
        have hsz : xs.length = items.size := by rw [← StrsAre.len_eq hi, Array.length_toList]
        have hval : ∀ (i : Nat) (v : Value), items[i]? = some v → ∃ t, v = .str (xs.getD i Str.empty) t := fun i v hv => strs_at hi i v (by rw [Array.getElem?_toList]; exact hv)
        refine loopTxt ((Walks.list hh3 _ l hneI items).toS) s.heap.objs.size
          hSf xs hsz (by rw [← hsz]; exact hn1) hval (items.size - 0) 0 _ (by omega) (Nat.zero_le _)
          ⟨⟨_, Heap.get?_push_size _ rfl, rfl, rfl⟩, (hl1.push _)⟩ ?hS0 ?hR
        case hS0 =>
          have hget : ((s.heap.push { cls := .type "set", dict := none, data := .set #[] 0 (.fresh 0 0 led) }).push { cls := .type "list_iterator", data := .fields #[.ref l, .int 0 0] }).get? s.heap.objs.size
              = some { cls := .type "set", dict := none, data := .set #[] 0 (.fresh 0 0 led) } := Heap.get?_push_of_some _ hS
          exact PyProof.Rows.SetOf_congr ((PyProof.Rows.setObjOf_fresh (knd := PySem.strKind prog w) led).setOf hget (by unfold scanBound; omega)) (fun _ => rfl) rfl
        case hR =>
          intro s' hm hS'
          obtain ⟨h', g', d', tk', os'⟩ := s'
          have eg : g' = s.gens := hm.gens
          have ed : d' = s.drawn := hm.drawn
          have eo : os' = s.os := hm.os
          subst eg; subst ed; subst eo
          show wpAny _ _ _ _ _ _
          refine wpAny_pure ?_
          show wpAny _ _ (ret Value.none) _ _ _
          refine wpAny_pure ⟨rfl, h', tk', rfl, hS', fun b o hb e => ?_⟩
          have hb1 : b ≠ s.heap.objs.size := Nat.ne_of_lt hb
          have hb2 : b ≠ (s.heap.push { cls := .type "set", dict := none, data := .set #[] 0 (.fresh 0 0 led) }).objs.size := by
            rw [Heap.size_push]; exact Nat.ne_of_lt (Nat.lt_succ_of_lt hb)
          exact hm.heap b o (by simp only [List.mem_cons, List.mem_singleton, List.not_mem_nil, or_false, not_or]; exact ⟨hb1, hb2⟩) (Heap.get?_push_of_some _ (Heap.get?_push_of_some _ e))

      · cases r₂ with
        | error e => exact hr₂
        | ok fl₂ =>
          cases fl₂ with
          | ret r =>
            obtain ⟨rfl, h', tk, rfl, hS', hk'⟩ := hr₂
            repeat (any_goals (first | assumption | wp_step))
            exact h _ _ hS' hk'
          | _ => exact hr₂.elim
    | _ => exact hr.elim

set_option maxHeartbeats 3200000 in
theorem set_tupleTxt {l : Addr} {items : Array Value} {xs : List Str} {Q : Value → Shared → Prop}
    (hh : A.handled = none) (hl : s.heap.IsTuple l items) (hi : PyProof.Rows.StrsAre items.toList xs) (hn1 : xs.length + 1 < scanBound)
    (h : ∀ (h' : Heap) (tk : Nat), h'.SetOf (PySem.strKind prog w) s.heap.objs.size (fun k' => (ddN xs items.size).any (· == k')) (ddN xs items.size).length →
      (∀ b o, b < s.heap.objs.size → s.heap.get? b = some o → h'.get? b = some o) → Q (.ref s.heap.objs.size) { s with heap := h', toks := tk }) :
    wpAny (model prog w) A (call (.type "set") [.ref l]) Q E s := by
  obtain ⟨c, tl, hmro⟩ := PySem.F.called_set.mro
  have hmade := PySem.F.called_set.made
  have hsub := PySem.F.called_set.sub
  refine wpAny_call (codeAny_of_tree ?_)
  show wpAny _ _ (callAny (.type "set") _) _ _ _
  refine wpAny_pure ⟨Code.quiet_builtin _ (by decide +kernel), codeAny_builtin PySem.F.entry_type_call ?_⟩
  rw [Around.under_plain (weight_type_call_type "set" [.ref l] []) rfl]
  have h1 := PySem.F.called_set.notType
  have h2 := PySem.F.called_set.canCreate
  have hct := PySem.F.typeCall_set_1 (.ref l)
  repeat (any_goals (first | assumption | wp_step))

  refine codeAny_mono (code_set_new_1 (.ref l) (E := E) (Q₁ := fun obj s₁ => ∃ led : Bool, obj = .ref s.heap.objs.size ∧ s₁ = { s with heap := s.heap.push { cls := .type "set", dict := none, data := .set #[] 0 (.fresh 0 0 led) } }) fun led => ⟨led, rfl, rfl⟩) fun r s₁ hr => ?_
  cases r with
  | error e => exact hr
  | ok fl =>
    cases fl with
    | ret obj =>
      obtain ⟨led, rfl, rfl⟩ := hr
      have hS : (s.heap.push { cls := .type "set", dict := none, data := .set #[] 0 (.fresh 0 0 led) }).get? s.heap.objs.size = some { cls := .type "set", dict := none, data := .set #[] 0 (.fresh 0 0 led) } := Heap.get?_push_size _ rfl
      have hT : Shared.TypeIs { s with heap := s.heap.push { cls := .type "set", dict := none, data := .set #[] 0 (.fresh 0 0 led) } } (.ref s.heap.objs.size) "set" := ⟨_, hS, rfl⟩
      have hli := PySem.F.called_set.init.lookup
      have hbi := PySem.F.called_set.init.bind (.ref s.heap.objs.size)
      repeat (any_goals (first | assumption | wp_step))

      refine codeAny_mono (codeAny_call_builtin (R := wants (fun r s₂ => r = .none ∧ ∃ h' tk, s₂ = { s with heap := h', toks := tk } ∧
          h'.SetOf (PySem.strKind prog w) s.heap.objs.size (fun k' => (ddN xs items.size).any (· == k')) (ddN xs items.size).length ∧
          (∀ b o, b < s.heap.objs.size → s.heap.get? b = some o → h'.get? b = some o)) E) PySem.F.called_set.init.plain PySem.F.entry_set_init (check_set_init_1 hT ?_)) fun r₂ s₂ hr₂ => ?_
      · obtain ⟨ol, hol, hcl, nl, hdl⟩ := hl
        obtain ⟨ocls, odict, odata, oslots⟩ := ol
        simp only at hcl hdl
        subst hcl; subst hdl
        have hol' : (s.heap.push { cls := .type "set", dict := none, data := .set #[] 0 (.fresh 0 0 led) }).get? l = some { cls := .type "tuple", dict := odict, data := .seq items nl, slots := oslots } := Heap.get?_push_of_some _ hol
        have hsls := PySem.F.sub_tuple_set
        have hslf := PySem.F.sub_tuple_frozenset
        have hne : (Value.type "tuple" == Value.type "dict") = false := by decide
        have hl1 : (s.heap.push { cls := .type "set", dict := none, data := .set #[] 0 (.fresh 0 0 led) }).IsTuple l items := ⟨_, hol', rfl, nl, rfl⟩
        unfold Builtin.«set.__init__» noKeywords Builtin.Frozenset.updateFrom
        generalize hPI : pyIter = PI
        wp_walk
        subst hPI

        refine wpAny_pyIter_tuple hl1 ?_
        refine wpAny_bind (wpAny_runValue ?_)
        have hlS : l < s.heap.objs.size := Heap.lt_size hol
        have hh3 : A.in1.in1.in1.handled = none := by simp [hh]
        have hneI : l ≠ (s.heap.push { cls := .type "set", dict := none, data := .set #[] 0 (.fresh 0 0 led) }).objs.size := by
          rw [Heap.size_push]; exact Nat.ne_of_lt (Nat.lt_succ_of_lt hlS)
        have hSf : s.heap.objs.size ∉ [(s.heap.push { cls := .type "set", dict := none, data := .set #[] 0 (.fresh 0 0 led) }).objs.size, l] := by
          rw [Heap.size_push]; simp only [List.mem_cons, List.mem_singleton, List.not_mem_nil, or_false, not_or]
          exact ⟨Nat.ne_of_lt (Nat.lt_succ_self _), Nat.ne_of_gt hlS⟩
        have hsz : xs.length = items.size := by rw [← StrsAre.len_eq hi, Array.length_toList]
        have hval : ∀ (i : Nat) (v : Value), items[i]? = some v → ∃ t, v = .str (xs.getD i Str.empty) t := fun i v hv => strs_at hi i v (by rw [Array.getElem?_toList]; exact hv)
        refine loopTxt ((Walks.tuple hh3 _ l hneI items).toS) s.heap.objs.size
          hSf xs hsz (by rw [← hsz]; exact hn1) hval (items.size - 0) 0 _ (by omega) (Nat.zero_le _)
          ⟨⟨_, Heap.get?_push_size _ rfl, rfl, rfl⟩, (hl1.push _)⟩ ?hS0 ?hR
        case hS0 =>
          have hget : ((s.heap.push { cls := .type "set", dict := none, data := .set #[] 0 (.fresh 0 0 led) }).push { cls := .type "tuple_iterator", data := .fields #[.ref l, .int 0 0] }).get? s.heap.objs.size
              = some { cls := .type "set", dict := none, data := .set #[] 0 (.fresh 0 0 led) } := Heap.get?_push_of_some _ hS
          exact PyProof.Rows.SetOf_congr ((PyProof.Rows.setObjOf_fresh (knd := PySem.strKind prog w) led).setOf hget (by unfold scanBound; omega)) (fun _ => rfl) rfl
        case hR =>
          intro s' hm hS'
          obtain ⟨h', g', d', tk', os'⟩ := s'
          have eg : g' = s.gens := hm.gens
          have ed : d' = s.drawn := hm.drawn
          have eo : os' = s.os := hm.os
          subst eg; subst ed; subst eo
          show wpAny _ _ _ _ _ _
          refine wpAny_pure ?_
          show wpAny _ _ (ret Value.none) _ _ _
          refine wpAny_pure ⟨rfl, h', tk', rfl, hS', fun b o hb e => ?_⟩
          have hb1 : b ≠ s.heap.objs.size := Nat.ne_of_lt hb
          have hb2 : b ≠ (s.heap.push { cls := .type "set", dict := none, data := .set #[] 0 (.fresh 0 0 led) }).objs.size := by
            rw [Heap.size_push]; exact Nat.ne_of_lt (Nat.lt_succ_of_lt hb)
          exact hm.heap b o (by simp only [List.mem_cons, List.mem_singleton, List.not_mem_nil, or_false, not_or]; exact ⟨hb1, hb2⟩) (Heap.get?_push_of_some _ (Heap.get?_push_of_some _ e))

      · cases r₂ with
        | error e => exact hr₂
        | ok fl₂ =>
          cases fl₂ with
          | ret r =>
            obtain ⟨rfl, h', tk, rfl, hS', hk'⟩ := hr₂
            repeat (any_goals (first | assumption | wp_step))
            exact h _ _ hS' hk'
          | _ => exact hr₂.elim
    | _ => exact hr.elim

end

theorem ddN_nodup {xs : List PySem.Str} : (ddN xs xs.length).length = xs.length ↔ xs.Nodup := by
  have key : ∀ i, i ≤ xs.length → ((ddN xs i).length = i ↔ (xs.take i).Nodup) ∧ ∀ k, k ∈ ddN xs i ↔ k ∈ xs.take i := by
    intro i
    induction i with
    | zero => intro _; simp [ddN]
    | succ i ih =>
      intro hi
      obtain ⟨ih1, ih2⟩ := ih (by omega)
      have hlt : i < xs.length := by omega
      have e1 : xs.take (i + 1) = xs.take i ++ [xs[i]] := by rw [List.take_succ, List.getElem?_eq_getElem hlt]; rfl
      have e2 : xs.getD i Str.empty = xs[i] := by rw [List.getD_eq_getElem?_getD, List.getElem?_eq_getElem hlt]; rfl
      have le := ddN_le xs i
      have am : ((ddN xs i).any (· == xs[i]) = true) ↔ xs[i] ∈ xs.take i := by
        rw [List.any_eq_true, ← ih2]
        constructor
        · rintro ⟨y, hy, e⟩
          rw [← eq_of_beq e]
          exact hy
        · intro h
          exact ⟨_, h, beq_self_eq_true _⟩
      rw [ddN_succ hlt, e2, sp_len]
      refine ⟨?_, fun k => ?_⟩
      · rw [e1, List.nodup_append]
        by_cases h : (ddN xs i).any (· == xs[i]) = true
        · rw [if_pos h]
          constructor
          · intro z
            omega
          · rintro ⟨_, _, z⟩
            exact absurd rfl (z _ (am.mp h) _ (List.mem_singleton.mpr rfl))
        · rw [if_neg h]
          constructor
          · intro z
            refine ⟨ih1.mp (by omega), by simp, fun y hy u hu e => ?_⟩
            rw [List.mem_singleton.mp hu] at e
            exact h (am.mpr (e ▸ hy))
          · rintro ⟨z, _, _⟩
            have := ih1.mpr z
            omega
      · rw [e1]
        unfold sp
        by_cases h : (ddN xs i).any (· == xs[i]) = true
        · rw [if_pos h, ih2, List.mem_append, List.mem_singleton]
          constructor
          · exact .inl
          · rintro (z | z)
            · exact z
            · rw [z]
              exact am.mp h
        · rw [if_neg h, List.mem_append, List.mem_append, ih2]
  have z := (key xs.length (Nat.le_refl _)).1
  rw [List.take_length] at z
  exact z
end SSx
namespace L2
open PySem PySem.Spec PyProof.Rows
section
variable {X : Cx}
/-- len(set(xs)), xs a list or tuple of texts -/
def tLenTxt (K : PySem.W.Frag) (ta : TE) : TE := fun σ H Q => ta σ H fun x H1 => ∃ (l : Addr) (xs : List Str), x = .ref l ∧ (SqL K H1 l (xs.map V.str) ∨ SqT K H1 l (xs.map V.str)) ∧ xs.length ≤ 1000 ∧ Q (.int ((SSx.ddN xs xs.length).length : Nat)) H1
theorem pe_lenTxt {a : Expr} {ta : TE} {p p2 q pos : Pos} (hc : X.calm = true) (hg : Gl X "len") (hm : X.mg "len" = none) (hg2 : Gl X "set") (hm2 : X.mg "set" = none) (ha : PE X a ta)
    (na : starEach [a] X.env = (false, eval a X.env) :: starEach [] X.env := by rfl) : PE X (.Call (.Name "len" p) [.Call (.Name "set" p2) [a] [] q] [] pos) (tLenTxt X.K ta) := by
  refine ⟨fun pins s σ H Q I h => ?_⟩
  refine Call_ (ld_blt I hg hm boot_len ?_)
  refine PyProof.Rows.callWith_builtin1 (PyProof.Rows.args_cons ?_ rfl) rfl rfl
  refine Call_ (ld_blt I hg2 hm2 boot_set ?_)
  refine PyProof.Rows.callWith_type1 (PyProof.Rows.args_cons (thn (ha.run pins s σ H _ I h) fun v s1 ⟨x, H1, I1, r1, q1⟩ => PyProof.Rows.args_nil ?_) na) na rfl
  obtain ⟨l, xs, rfl, hq, h1, q1⟩ := q1
  cases r1
  have few : xs.length + 1 < scanBound := by unfold scanBound; omega
  have fin : ∀ (its : List Value), Vals (xs.map V.str) its → ∀ (h' : Heap) (tk : Nat), h'.SetOf (PySem.strKind X.prog X.w) s1.heap.objs.size (fun k' => (SSx.ddN xs its.toArray.size).any (· == k')) (SSx.ddN xs its.toArray.size).length →
      (∀ b o, b < s1.heap.objs.size → s1.heap.get? b = some o → h'.get? b = some o) →
      wpAny (model X.prog X.w) X.A (spliced (backTo pos (starEach [] X.env))) (fun vs s₂ => wpAny (model X.prog X.w) X.A (call (.builtin "len") (Value.ref s1.heap.objs.size :: vs)) (EP X pins σ Q) X.xe s₂) X.xe { s1 with heap := h', toks := tk } := fun its r h' tk hS hk => by
    refine PyProof.Rows.args_nil ?_
    have hl : its.toArray.size = xs.length := by rw [List.size_toArray, ← r.length, List.length_map]
    rw [hl] at hS
    have le := SSx.ddN_le xs xs.length
    obtain ⟨o, es, ep, t, ho, hex, hd, _, _, _, hf, hn⟩ := hS
    have I2 : Inv X pins σ H1 { s1 with heap := h', toks := tk } := I1.kept fun b o e => hk b o (Heap.lt_size e) e
    refine call_len_set ho hex hd hf (by rw [hn] <;> omega) ⟨.int (SSx.ddN xs xs.length).length, H1, I2.tok _, ⟨_, by rw [hn]⟩, q1⟩
  rcases hq with hq | hq
  · obtain ⟨its, r, pl, hz⟩ := I1.list hq
    exact SSx.set_listTxt (I1.ok.hd hc) pl.isList (by simpa using strsAre_of r) few fun h' tk hS hk => fin its r h' tk hS hk
  · obtain ⟨its, r, pl, hz⟩ := I1.tuple hq
    exact SSx.set_tupleTxt (I1.ok.hd hc) pl (by simpa using strsAre_of r) few fun h' tk hS hk => fin its r h' tk hS hk
end
end L2
set_option Elab.async false
set_option linter.all false
set_option maxRecDepth 100000
set_option maxHeartbeats 4000000
namespace PySem
namespace KwNew
open HandSPX Builtin Builtin.ObjectAttr
section
variable {M : Model} {A : Around} {E : Value → Shared → Prop} {h : Heap} {g : Array GenState} {d : Drawn} {t : Nat} {os : OsState}
variable {nmC q : Str} {C N : Addr} {bss bm tl : List Value} {dct : Bool} {sns : List Str} {sbs : List Value} {abs0 : Bool} {clc : Option Bool} {dct2 : Option Addr} {k0 k1 k2 k3 k5 : Option Value} {B idN idI : String}
theorem check_new_kw (F : ExcBaseFacts B idN idI tl) (mem : ∀ X : String, bm.contains (.type X) = tl.contains (.type X)) {more : List Value} {kw : List (Str × Value)} {Q : Unit → Shared → Prop}
    (atC : h.get? C = some (excClassObj nmC q C N bss bm dct sns sbs abs0 clc dct2 k0 k1 k2 k3 k5 idN)) (go : Q () ⟨h, g, d, t, os⟩) : wpAny M A (checkBuiltinCall idN ⟨.ref C :: more, kw⟩) Q E ⟨h, g, d, t, os⟩ := by
  have inB : (Value.ref C :: bm).contains (.type B) = true := by rw [List.contains_cons, mem, F.hasB, Bool.or_true]
  have st := F.noStar
  simp only [checkBuiltinCall, F.newKind, F.newSplit, F.newRow]
  repeat (first | refine wpAny_loadPart_at atC ?_ | (refine wpAny_isSubtype_exc atC ?_; rw [inB]) | refine wpAny_staticBase_exc atC ?_ | refine wpAny_madeBy_exc atC ?_ | simp only [bne_self_eq_false, Bool.false_eq_true, if_false] | wp_step)
  exact go
end
section
variable {prog : Program} {w : World} {A : Around} {E : Value → Shared → Prop} {R : Result → Shared → Prop} {h : Heap} {g : Array GenState} {d : Drawn} {t : Nat} {os : OsState}
variable {nmC q : Str} {C N : Addr} {bss bm tl : List Value} {dct : Bool} {sns : List Str} {sbs : List Value} {abs0 : Bool} {clc : Option Bool} {dct2 : Option Addr} {k0 k1 k2 k3 k5 : Option Value} {B idN idI : String}
theorem new_kw (F : ExcBaseFacts B idN idI tl) (mem : ∀ X : String, bm.contains (.type X) = tl.contains (.type X)) {more : List Value} {kw : List (Str × Value)}
    (atC : h.get? C = some (excClassObj nmC q C N bss bm dct sns sbs abs0 clc dct2 k0 k1 k2 k3 k5 idN))
    (go : R (.ok (.ret (.ref (h.objs.size + 1)))) ⟨(h.push { cls := .type "tuple", data := .seq more.toArray }).push
      { cls := .ref C, data := .fields #[.ref h.objs.size, .none, .none, .none, .bool false, .none] }, g, d, t, os⟩) (few : more.length ≤ sizeLine) :
    codeAny (model prog w) A (.builtin idN ⟨.ref C :: more, kw⟩) R ⟨h, g, d, t, os⟩ := by
  have en := F.ends
  have inB : (Value.ref C :: bm).contains (.type B) = true := by rw [List.contains_cons, mem, F.hasB, Bool.or_true]
  have noA : (Value.ref C :: bm).contains (.type "AttributeError") = false := by rw [List.contains_cons, mem, F.noAttr]; rfl
  have noN : (Value.ref C :: bm).contains (.type "NameError") = false := by rw [List.contains_cons, mem, F.noName]; rfl
  refine codeAny_builtinAt F.entry ?_
  unfold Builtin.«BaseException.__new__»
  refine wpAt_bind ?_
  show wpAt _ _ _ (stack >>= _) _ _ _
  refine wpAt_bind (wpAt_stack fun p below => wpAt_of_wpAny ?_)
  wp_walk
  refine wpAt_of_wpAny ?_
  rw [F.owner]
  repeat (first | with_reducible refine wpAny_madeHere_exc F.canon atC ?_ | with_reducible refine wpAny_loadPart_at atC ?_ | (with_reducible refine wpAny_isSubtype_exc atC ?_; first | rw [inB] | rw [noA] | rw [noN]) | wp_step)
  show R _ _
  rw [Heap.size_push]
  exact go
theorem check_call_kw {M : Model} {more : List Value} {kw : List (Str × Value)} {Q : Unit → Shared → Prop} (atC : h.get? C = some (excClassObj nmC q C N bss bm dct sns sbs abs0 clc dct2 k0 k1 k2 k3 k5 idN))
    (go : Q () ⟨h, g, d, t, os⟩) : wpAny M A (checkBuiltinCall "type.__call__" ⟨.ref C :: more, kw⟩) Q E ⟨h, g, d, t, os⟩ := by
  have f3 := tc_sub
  have mem : (⟨h, g, d, t, os⟩ : Shared).TypeIs (.ref C) "type" := ⟨_, atC, rfl⟩
  simp only [checkBuiltinCall, tc_kind, tc_split]
  repeat (any_goals (first | assumption | with_reducible refine wpAny_loadPart_at atC ?_ | with_reducible refine wpAny_onRaise ?_ | with_reducible refine wpAny_map ?_ | wp_step))
theorem type_call_kw (F : ExcBaseFacts B idN idI tl) (mem : ∀ X : String, bm.contains (.type X) = tl.contains (.type X)) {more : List Value} {kw : List (Str × Value)} {fI : Addr} {Q : Fin → Shared → Prop}
    (atC : h.get? C = some (excClassObj nmC q C N bss bm dct sns sbs abs0 clc dct2 k0 k1 k2 k3 k5 idN))
    (iLook : W.Looks (model prog w) h (typeLookup (.ref C) "__init__") (some (.ref fI))) (bLook : ∀ self, W.Looks (model prog w) h (bindSpecial (.ref fI) self) (.ref fI, [self])) (few : more.length ≤ sizeLine)
    (go : codeAny (model prog w) A (.call (.ref fI) ⟨.ref (h.objs.size + 1) :: more, kw⟩)
      (fun r s' => match r with | .ok (.ret v) => v = .none ∧ Q (.done (.ret (.ref (h.objs.size + 1)))) s' | .ok _ => False | .error e => E e s')
      ⟨(h.push (W.kdv_tup more)).push (excO C h.objs.size), g, d, t, os⟩) :
    wpAny (model prog w) A (Builtin.«type.__call__» ⟨.ref C :: more, kw⟩) Q E ⟨h, g, d, t, os⟩ := by
  repeat (first | with_reducible refine wpAny_loadPart_at atC ?_ | with_reducible refine wpAny_madeBy_exc atC ?_ | wp_step)
  refine codeAny_call_builtin_code (Code.quiet_builtin _ F.quiet) (check_new_kw F mem atC ?_)
  refine new_kw F mem atC ?_ few
  show wpAny _ _ _ _ _ _
  have k : ∀ b o, h.get? b = some o → ((h.push (W.kdv_tup more)).push (excO C h.objs.size)).get? b = some o := fun b o e => Heap.get?_push_of_some _ (Heap.get?_push_of_some _ e)
  have atC1 := k _ _ atC
  have eAt : ((h.push (W.kdv_tup more)).push (excO C h.objs.size)).get? (h.objs.size + 1) = some (excO C h.objs.size) := by heap_get
  have inC : (Value.ref C :: bm).contains (.ref C) = true := by simp
  have j1 := iLook.keeps k
  have j2 := (bLook (.ref (h.objs.size + 1))).keeps k
  unfold isInstance
  repeat (first | with_reducible refine wpAny_loadPart_at eAt ?_ | (with_reducible refine wpAny_isSubtype_exc atC1 ?_; rw [inC]) | wp_step)
  show wpAny _ _ (typeLookup (.ref C) _) _ _ _
  refine j1.at ?_
  refine wpAny_holding (wpAny_bind (j2.at ?_))
  refine wpAny_bind (wpAny_call (codeAny_mono go fun r s' z => ?_))
  rcases r with e | (v | _ | _ | _) <;> first | exact z | exact z.elim | skip
  obtain ⟨rfl, z⟩ := z
  first
    | exact wpAny_pure (wpAny_pure z)
    | (wp_walk; exact z)
theorem call_kw (F : ExcBaseFacts B idN idI tl) (mem : ∀ X : String, bm.contains (.type X) = tl.contains (.type X)) {more : List Value} {kw : List (Str × Value)} {fI : Addr}
    (atC : h.get? C = some (excClassObj nmC q C N bss bm dct sns sbs abs0 clc dct2 k0 k1 k2 k3 k5 idN))
    (iLook : W.Looks (model prog w) h (typeLookup (.ref C) "__init__") (some (.ref fI))) (bLook : ∀ self, W.Looks (model prog w) h (bindSpecial (.ref fI) self) (.ref fI, [self])) (few : more.length ≤ sizeLine)
    (go : codeAny (model prog w) (A.under (.builtin "type.__call__" ⟨.ref C :: more, kw⟩)) (.call (.ref fI) ⟨.ref (h.objs.size + 1) :: more, kw⟩) (W.InitBack (h.objs.size + 1) R)
      ⟨(h.push (W.kdv_tup more)).push (excO C h.objs.size), g, d, t, os⟩) :
    codeAny (model prog w) A (.call (.ref C) ⟨more, kw⟩) R ⟨h, g, d, t, os⟩ := by
  have f1 := tc_lookup
  have f2 := tc_bind (.ref C)
  have isT : (⟨h, g, d, t, os⟩ : Shared).TypeIs (.ref C) "type" := ⟨_, atC, rfl⟩
  refine codeAny_of_tree ?_
  show wpAny _ _ (callAny (.ref C) _) _ _ _
  repeat (any_goals (first | assumption | with_reducible refine wpAny_loadPart_at atC ?_ | wp_step))
  refine ⟨rfl, ?_⟩
  refine codeAny_call_builtin_at (Code.quiet_builtin _ (by decide +kernel)) entry_typeCall (check_call_kw atC (type_call_kw F mem atC iLook bLook few ?_))
  refine codeAny_mono go fun r s' z => ?_
  rcases r with e | (v | _ | _ | _) <;> exact z
end
end KwNew
end PySem
set_option Elab.async false
set_option linter.all false
set_option maxRecDepth 100000
set_option maxHeartbeats 4000000
namespace L2
namespace K1
open PySem PySem.Spec PyProof.Rows

/-! ### what is asked of the class of an error -/
structure XC (K : PySem.W.Frag) (C : Addr) : Prop where
  ox : OexC K C
  ga : PySem.W.findIn K (.ref C) "__getattribute__" = some (some (.builtin "BaseException.__getattribute__"))
  gg : PySem.W.findIn K (.ref C) "__getattr__" = some none
  hd : PySem.W.hasDictIn K C = true
  ha : PySem.W.findIn K (.ref C) "__class__" = some (some (.builtin "object.__class__"))
  hn : PySem.W.specialIn K (.builtin "object.__class__") "__get__" = some (some (.builtin "getset_descriptor.__get__"))
  ht : PySem.W.takesIn K (.builtin "object.__class__") = some true
  hm : PySem.W.mroIn K C (.type "object") = some true
def oexB (K : PySem.W.Frag) (C : Addr) : Bool := match K.lookup C with
  | some ⟨.type "type", _, .cls cd, sl⟩ => (match cd.mro, sl.toList with
    | .ref C' :: bm, [_, _, _, _, some (.builtin n), _] => decide (C' = C) && (decide (n = "ValueError.__new__") && (!cd.hasDel && (cd.hasDict && PySem.HandSPX.refsVE bm)))
    | _, _ => false)
  | _ => false
theorem oexB_ok {K : PySem.W.Frag} {C : Addr} (q : oexB K C = true) : ∃ nm q N bs bm sn sub ab col dd k0 k1 k2 k3 k5, K.lookup C = some (excClassObj nm q C N bs bm true sn sub ab col dd k0 k1 k2 k3 k5 "ValueError.__new__") ∧ PySem.HandSPX.refsVE bm = true := by
  unfold oexB at q
  split at q
  · rename_i dd cd sl ho
    split at q
    · rename_i C' bm k0 k1 k2 k3 n k5 hm hs
      simp only [Bool.and_eq_true, decide_eq_true_eq, Bool.not_eq_true'] at q
      obtain ⟨rfl, rfl, hdel, hdict, ht⟩ := q
      obtain ⟨nm, bs, mro, ns, qn, hd, sn, sub, ab, col, del⟩ := cd
      dsimp only at hm hdel hdict
      subst hm hdel hdict
      have hsl : sl = #[k0, k1, k2, k3, some (.builtin "ValueError.__new__"), k5] := by
        obtain ⟨l⟩ := sl
        simp only at hs
        rw [hs]
      subst hsl
      exact ⟨nm, qn, ns, bs, bm, sn, sub, ab, col, dd, k0, k1, k2, k3, k5, ho, ht⟩
    · cases q
  · cases q
def xcB (K : PySem.W.Frag) (C : Addr) : Bool :=
  oexB K C && (He.eqO (PySem.W.findIn K (.ref C) "__setattr__") (some (some (.builtin "object.__setattr__"))) && (decide (PySem.W.subIn K (.ref C) (.type "BaseException") = some true) && (decide (PySem.W.typeIn K (.ref C) = some (.type "type")) && (PySem.W.keepIn K (.ref C) &&
  (He.eqO (PySem.W.findIn K (.ref C) "__getattribute__") (some (some (.builtin "BaseException.__getattribute__"))) && (He.eqO (PySem.W.findIn K (.ref C) "__getattr__") (some none) && (PySem.W.hasDictIn K C && (He.eqO (PySem.W.findIn K (.ref C) "__class__") (some (some (.builtin "object.__class__"))) &&
  (He.eqO (PySem.W.specialIn K (.builtin "object.__class__") "__get__") (some (some (.builtin "getset_descriptor.__get__"))) && (decide (PySem.W.takesIn K (.builtin "object.__class__") = some true) && decide (PySem.W.mroIn K C (.type "object") = some true)))))))))))
theorem xcB_ok {K : PySem.W.Frag} {C : Addr} (h : xcB K C = true) : XC K C := by
  obtain ⟨h1, h⟩ := He.ba h
  obtain ⟨h2, h⟩ := He.ba h
  obtain ⟨h3, h⟩ := He.ba h
  obtain ⟨h4, h⟩ := He.ba h
  obtain ⟨h5, h⟩ := He.ba h
  obtain ⟨h6, h⟩ := He.ba h
  obtain ⟨h7, h⟩ := He.ba h
  obtain ⟨h8, h⟩ := He.ba h
  obtain ⟨h9, h⟩ := He.ba h
  obtain ⟨h10, h⟩ := He.ba h
  obtain ⟨h11, h12⟩ := He.ba h
  exact ⟨⟨oexB_ok h1, He.eqO_ok h2, of_decide_eq_true h3, of_decide_eq_true h4, h5⟩, He.eqO_ok h6, He.eqO_ok h7, h8, He.eqO_ok h9, He.eqO_ok h10, of_decide_eq_true h11, of_decide_eq_true h12⟩
theorem cls_some {K : PySem.W.Frag} {C : Addr} (h : PySem.W.hasDictIn K C = true) : (PySem.W.clsIn K C).isSome = true := by
  obtain ⟨cd, hc, _⟩ := PySem.W.any_some h
  rw [hc] <;> rfl

/-! ### an error in the heap: of the class at C, with the fields fs -/
def ErrAt (H : Hp) (C : Addr) (fs : List (Str × V)) (a : Addr) : Prop :=
  (fs = [] ∧ H a = some (exo a C none)) ∨ ∃ d, H a = some (exo a C (some d)) ∧ H d = some (exd d fs)
theorem ErrAt.same {H H' : Hp} {C : Addr} {fs : List (Str × V)} {a : Addr} (e : ErrAt H C fs a) (s : Same H H') : ErrAt H' C fs a := by
  rcases e with ⟨e1, e2⟩ | ⟨d, e1, e2⟩
  · exact .inl ⟨e1, s _ _ e2⟩
  · exact .inr ⟨d, s _ _ e1, s _ _ e2⟩
theorem same_upd {H : Hp} {a : Addr} {o : HO} (h : H a = none) : Same H (upd H a o) := fun b u e => by
  rw [upd_ne (ne_of_none e h)]
  exact e
section
variable {X : Cx} {pins : List (Addr × Obj)} {σ : St} {H : Hp} {s : Shared} {a C : Addr} {fs : List (Str × V)}
theorem err_inst (I : Inv X pins σ H s) (e : ErrAt H C fs a) : ∃ ox od, PySem.W.InstAt s.heap a ox C od ∧ ∀ f v, fs.lookup f = some v → ∃ oD u, od = some oD ∧ PySem.W.lookIn f oD = some (some u) ∧ RelV v u := by
  rcases e with ⟨rfl, e⟩ | ⟨d, e1, e2⟩
  · obtain ⟨t1, ho⟩ := exo_at I.hok e
    exact ⟨_, none, ⟨ho, rfl, rfl, trivial⟩, fun f v h => nomatch h⟩
  · obtain ⟨t1, ho⟩ := exo_at I.hok e1
    obtain ⟨mA, hns, rel⟩ := exd_at I.hok e2
    obtain ⟨od, ho', hl⟩ := lookIn_ns hns
    refine ⟨_, some od, ⟨ho, rfl, rfl, ho'⟩, fun f v h => ?_⟩
    obtain ⟨u, hu, ru⟩ := RelO.some_of (v := v) (o := mA f) (by rw [← h]; exact rel f)
    exact ⟨od, u, rfl, by rw [hl, hu], ru⟩
end
/-! ### isinstance of a held error -/
def rIsX (K : PySem.W.Frag) : List V → Hp → VK → Prop := fun xs H Q => ∃ (a : Addr) (c : V) (D : Addr) (fs : List (Str × V)) (u : Value) (b : Bool), xs = [.ref a, c] ∧ ClsV c u ∧ ErrAt H D fs a ∧ XC K D ∧ PySem.W.kitOne K (.ref D) u = some b ∧ Q (.bl b) H
theorem call_isX {X : Cx} : CallR X (.builtin "isinstance") (rIsX X.K) := by
  intro pins s σ H xs us Q I r h
  obtain ⟨a, c, D, fs, u, b, rfl, k, e, x, kt, q⟩ := h
  obtain ⟨u1, u2, rfl, r1, r2⟩ := vals2 r
  have e2 := k.eq r2
  subst e2
  cases (show u1 = Value.ref a from r1)
  obtain ⟨ox, od, J, _⟩ := err_inst I e
  exact PySem.W.kia_one (PySem.W.kitx_exc (cls_some x.hd) x.ga x.gg x.ox.exC x.ha x.hn x.ht x.hm) I.kIn J kt (fun z => nomatch z) fun tk => ⟨.bl b, H, I.tok tk, rfl, q⟩
/-! ### e.f of a held error -/
def tFldX (K : PySem.W.Frag) (f : Str) (te : TE) : TE := fun σ H Q => te σ H fun x H1 => ∃ (a C : Addr) (fs : List (Str × V)) (v : V), x = .ref a ∧ ErrAt H1 C fs a ∧ XC K C ∧ PySem.W.findIn K (.ref C) f = some none ∧ fs.lookup f = some v ∧ Q v H1
theorem pe_fldX {X : Cx} {e : Expr} {te : TE} {pos : Pos} {f : Str} (he : PE X e te) (hb : attributeBase e f X.env (eval e X.env) = eval e X.env := by rfl) : PE X (.Attribute e f pos) (tFldX X.K f te) := by
  refine ⟨fun pins s σ H Q I h => ?_⟩
  refine attr_of hb (thn (he.run pins s σ H _ I h) fun u s1 hh => ?_)
  obtain ⟨x, H1, I1, rx, a, C, fs, v, ex, ea, T, hno, l, q⟩ := hh
  subst ex
  obtain rfl : u = Value.ref a := rx
  obtain ⟨ox, od, J, hl⟩ := err_inst I1 ea
  obtain ⟨oD, u, rfl, hu, ru⟩ := hl f v l
  exact HandSPX.exc_get I1.kIn J T.ga T.gg T.ox.exC (PySem.W.findObj_own T.hd hno rfl hu) (handed_of ru) ⟨v, H1, I1.tok _, ru, q⟩
/-! ### making -/
/-- what the __init__ of such a class promises -/
def spI (C : Addr) (f : Str) : Sp := fun vs H Q _ => ∃ (a : Addr) (v : V), vs = [.ref a, v] ∧ H a = some (exo a C none) ∧ ∀ d, H d = none → d ≠ a → Q .non (upd (upd H d (exd d [(f, v)])) a (exo a C (some d)))
theorem made_ok {H1 : Hp} {a C d : Addr} {f : Str} {v : V} (hn : H1 a = none) (hd : upd H1 a (exo a C none) d = none) (hda : d ≠ a) :
    Same H1 (upd (upd (upd H1 a (exo a C none)) d (exd d [(f, v)])) a (exo a C (some d))) ∧ ErrAt (upd (upd (upd H1 a (exo a C none)) d (exd d [(f, v)])) a (exo a C (some d))) C [(f, v)] a := by
  rw [upd_ne hda] at hd
  refine ⟨fun b o e => ?_, .inr ⟨d, upd_same, ?_⟩⟩
  · rw [upd_ne (ne_of_none e hn), upd_ne (ne_of_none e hd), upd_ne (ne_of_none e hn)]
    exact e
  · rw [upd_ne hda, upd_same]
def tNew (C : Addr) (f : Str) (ta : TA) : TE := fun σ H Q => ta σ H fun vs H1 => ∃ v, vs = [v] ∧ ∀ H2 a, Same H1 H2 → H1 a = none → ErrAt H2 C [(f, v)] a → Q (.ref a) H2
section
variable {X : Cx} {pins : List (Addr × Obj)} {σ : St} {H1 : Hp} {C fI : Addr} {k : Nat} {fd : FuncData} {ps : List Str} {f x : Str} {v : V} {Q : VK}
theorem run_new (T : XC X.K C) (iC : PySem.W.findIn X.K (.ref C) "__init__" = some (some (.ref fI))) (tI : PySem.W.typeIn X.K (.ref fI) = some (.type "function"))
    (F1 : FnOk X.prog X.w X.K X.mg X.base CX0 k fI fd ps (spI C f)) (hr : Room (k + 1) X.A) {us : List Value} {kw : List (Str × Value)} {u : Value} (r1 : RelV v u) {s1 : Shared} (I1 : Inv X pins σ H1 s1) (hl : us.length ≤ sizeLine)
    (hb : ∀ (s : Shared) (y : Value), X.K.In s.heap → BindsTo s fd ⟨y :: us, kw⟩ (ps.zip [y, u]))
    (q1 : ∀ H2 a, Same H1 H2 → H1 a = none → ErrAt H2 C [(f, v)] a → Q (.ref a) H2) :
    wpAny (model X.prog X.w) X.A (call (.ref C) us kw) (EP X pins σ Q) X.xe s1 := by
  obtain ⟨nm, q, N, bs, bm, sn, sub, ab, col, dd, k0, k1, k2, k3, k5, hC, hbm⟩ := T.ox.cls
  obtain ⟨hp, g, dr, tk, os⟩ := s1
  have hsz : hp.objs.size ≤ hp.objs.size + 1 := Nat.le_succ _
  have hn : H1 (hp.objs.size + 1) = none := I1.hok.fresh hsz
  have kk : ∀ b o, hp.get? b = some o → ((hp.push (PySem.W.kdv_tup us)).push (PySem.HandSPX.excO C hp.objs.size)).get? b = some o := fun b o e => Heap.get?_push_of_some _ (Heap.get?_push_of_some _ e)
  have hget : ((hp.push (PySem.W.kdv_tup us)).push (PySem.HandSPX.excO C hp.objs.size)).get? (hp.objs.size + 1) = some (PySem.HandSPX.excO C hp.objs.size) := by heap_get
  have I2 : Inv X pins σ (upd H1 (hp.objs.size + 1) (exo (hp.objs.size + 1) C none)) ⟨(hp.push (PySem.W.kdv_tup us)).push (PySem.HandSPX.excO C hp.objs.size), g, dr, tk, os⟩ :=
    I1.laid (t' := tk) (a := hp.objs.size + 1) (o := exo (hp.objs.size + 1) C none) (h' := (hp.push (PySem.W.kdv_tup us)).push (PySem.HandSPX.excO C hp.objs.size)) kk hsz (exo_ok hget)
  have r2 : Vals [V.ref (hp.objs.size + 1), v] [Value.ref (hp.objs.size + 1), u] := .cons rfl (.cons r1 .nil)
  have hq : spI C f [V.ref (hp.objs.size + 1), v] (upd H1 (hp.objs.size + 1) (exo (hp.objs.size + 1) C none)) (fun z H2 => z = .non ∧ Q (.ref (hp.objs.size + 1)) H2) (fun _ _ _ => False) :=
    ⟨hp.objs.size + 1, v, rfl, upd_same, fun d hd hda => by
      obtain ⟨z1, z2⟩ := made_ok (v := v) (f := f) hn hd hda
      exact ⟨rfl, q1 _ _ z1 hn z2⟩⟩
  refine wpAny_call (PySem.KwNew.call_kw PySem.F.excBase_ValueError (fun Y => PySem.HandSPX.refsVE_contains Y bm hbm) (I1.kIn _ _ hC) (PySem.W.looks_findIn I1.kIn iC) (fun self => PySem.W.bind_fn I1.kIn self tI) hl
    (codeAny_mono (F1.run _ X.stack _ _ ⟨Value.ref (hp.objs.size + 1) :: us, kw⟩ [Value.ref (hp.objs.size + 1), u] _ _ (fun _ _ _ => False) (hr.make C us kw) (I2.env0.make C us kw) (hb _ _ I2.kIn) r2 hq) fun r s' hq' => ?_))
  cases r with
  | error er => exact hq'.elim
  | ok fl =>
    cases fl with
    | ret u' =>
      obtain ⟨z, H', I3, rv, ev, q3⟩ := I2.after hq'
      subst ev
      exact ⟨rv, ⟨V.ref (hp.objs.size + 1), H', I3, rfl, q3⟩⟩
    | next => exact False.elim hq'
    | brk => exact False.elim hq'
    | cont => exact False.elim hq'
variable {e : Expr} {ta : TA} {p pos kpos : Pos} {te : TE}
/-- C(e) -/
theorem pe_new (T : XC X.K C) (iC : PySem.W.findIn X.K (.ref C) "__init__" = some (some (.ref fI))) (tI : PySem.W.typeIn X.K (.ref fI) = some (.type "function"))
    (F1 : FnOk X.prog X.w X.K X.mg X.base CX0 k fI fd ps (spI C f)) (hr : Room (k + 1) X.A) (hb : Binds X.K fd ps []) (hp2 : ps.length = 2) (hg : Gl X x) (hm : X.mg x = some (.ref C)) (ha : PA X [e] ta)
    (hdb : (x == ("__debug__" : Str)) = false := by decide) (he : starEach [e] X.env = (false, eval e X.env) :: starEach [] X.env := by rfl) (hpl : (backTo pos (starEach [] X.env)).any (·.1) = false := by rfl) :
    PE X (.Call (.Name x p) [e] [] pos) (tNew C f ta) := by
  refine ⟨fun pins s σ H Q I h => ?_⟩
  refine wpAny_Call_Name_kw (ld_glob I hg hm ?_ hdb)
  refine PySem.W.callWith_K (h₀ := X.base) I.ok.mod.kin T.ox.kC (thn (ha.run pos pins s σ H _ I h) fun us s1 ⟨vs, H1, I1, r1, v, ev, q1⟩ => ⟨I1.kIn, ?_⟩) he hpl
  subst ev
  obtain ⟨u, rfl, ru⟩ := vals1 r1
  show wpAny _ _ (call (.ref C) [u]) _ _ _
  exact run_new T iC tI F1 hr ru I1 (by show 1 ≤ sizeLine; rw [sizeLine_eq]; omega) (fun s y X' => hb s [y, u] X' (by rw [hp2] <;> rfl)) q1
/-- C(f=e) -/
theorem pe_newK {g : Str} (T : XC X.K C) (iC : PySem.W.findIn X.K (.ref C) "__init__" = some (some (.ref fI))) (tI : PySem.W.typeIn X.K (.ref fI) = some (.type "function"))
    (F1 : FnOk X.prog X.w X.K X.mg X.base CX0 k fI fd ps (spI C f)) (hr : Room (k + 1) X.A) (hb : ∀ (s : Shared) (y u : Value), X.K.In s.heap → BindsTo s fd ⟨[y], [(g, u)]⟩ (ps.zip [y, u])) (hg : Gl X x) (hm : X.mg x = some (.ref C)) (ha : PE X e te)
    (hdb : (x == ("__debug__" : Str)) = false := by decide) :
    PE X (.Call (.Name x p) [] [⟨some g, e, kpos⟩] pos) (tNew C f (tCons te tNil)) := by
  refine ⟨fun pins s σ H Q I h => ?_⟩
  refine wpAny_Call_Name_kw (ld_glob I hg hm ?_ hdb)
  refine PySem.W.callWith_KW0 (h₀ := X.base) I.ok.mod.kin T.ox.kC rfl (thn ((pk_cons (nm := some g) (kpos := kpos) ha pk_nil).run pos pins s σ H _ I h) fun us s1 ⟨vs, H1, I1, r1, v, ev, q1⟩ => ⟨I1.kIn, ?_⟩)
  subst ev
  obtain ⟨u, rfl, ru⟩ := vals1 r1
  show wpAny _ _ (call (.ref C) [] [(g, u)]) _ _ _
  exact run_new T iC tI F1 hr ru I1 (Nat.zero_le _) (fun s y X' => hb s y u X') q1
end
end K1
end L2
set_option Elab.async false
set_option linter.all false
set_option maxRecDepth 100000
set_option maxHeartbeats 4000000
namespace L2
namespace WL
open PySem PySem.Spec PyProof.Rows K1
/-! ### what stays -/
theorem Rd.same {H H' : Hp} {a : Addr} {u : HO} (h : Rd H a u) (s : Same H H') : Rd H' a u := by
  rcases h with h | ⟨o, h⟩
  · exact .inl (s _ _ h)
  · exact .inr ⟨o, s _ _ h⟩
theorem SqT.same {K : PySem.W.Frag} {H H' : Hp} {a : Addr} {xs : List V} (h : SqT K H a xs) (s : Same H H') : SqT K H' a xs := by
  rcases h with h | h
  · exact .inl (Rd.same h s)
  · exact .inr h
theorem TyOf.same {K : PySem.W.Frag} {H H' : Hp} {x : V} {t : Value} (h : TyOf K H x t) (s : Same H H') : TyOf K H' x t := by
  cases h with
  | non => exact .non
  | bl b => exact .bl b
  | int i => exact .int i
  | str z => exact .str z
  | flt z => exact .flt z
  | lst e => exact .lst (s _ _ e)
  | frz e => exact .frz (s _ _ e)
  | tup e => exact .tup (s _ _ e)
  | dK e => exact .dK (s _ _ e)
  | dT e => exact .dT (s _ _ e)
  | ins e cl ha hn ht hm => exact .ins (s _ _ e) cl ha hn ht hm
theorem TyX.same {K : PySem.W.Frag} {H H' : Hp} {x : V} {t : Value} (h : TyX K H x t) (s : Same H H') : TyX K H' x t := by
  cases h with
  | base h => exact .base (TyOf.same h s)
  | byt b => exact .byt b
  | set e => exact .set (s _ _ e)
  | kList e c => exact .kList e c
  | kTuple e c => exact .kTuple e c
  | kDict e c => exact .kDict e c
  | fTuple e => exact .fTuple (s _ _ e)
  | fDict e => exact .fDict (s _ _ e)
/-! ### a list or a tuple -/
def Seq (K : PySem.W.Frag) (H : Hp) (v : V) (xs : List V) : Prop := ∃ a, v = .ref a ∧ (SqL K H a xs ∨ SqT K H a xs)
theorem Seq.same {K : PySem.W.Frag} {H H' : Hp} {v : V} {xs : List V} (h : Seq K H v xs) (s : Same H H') : Seq K H' v xs := by
  obtain ⟨a, e, h | h⟩ := h
  · exact ⟨a, e, .inl (s.seq h)⟩
  · exact ⟨a, e, .inr (SqT.same h s)⟩
theorem Seq.ty {K : PySem.W.Frag} {H : Hp} {v : V} {xs : List V} (h : Seq K H v xs) : TyX K H v (.type "list") ∨ TyX K H v (.type "tuple") := by
  obtain ⟨a, rfl, h | h⟩ := h
  · rcases h with (h | ⟨o, h⟩) | ⟨o, its, n, e, c, _⟩
    · exact .inl (.base (.lst h))
    · exact .inl (.base (.frz h))
    · exact .inl (.kList e c)
  · rcases h with (h | ⟨o, h⟩) | ⟨o, its, n, e, c, _⟩
    · exact .inr (.base (.tup h))
    · exact .inr (.fTuple h)
    · exact .inr (.kTuple e c)
abbrev LT : List Value := [.type "list", .type "tuple"]
theorem kit_list {K : PySem.W.Frag} : PySem.W.kitAny K (.type "list") LT = some true := by
  unfold PySem.W.kitAny
  rw [kit_ty (K := K) (a := "list") (b := "list") (r := true) (by decide +kernel)]
theorem kit_tuple {K : PySem.W.Frag} : PySem.W.kitAny K (.type "tuple") LT = some true := by
  unfold PySem.W.kitAny
  rw [kit_ty (K := K) (a := "tuple") (b := "list") (r := false) (by decide +kernel)]
  show PySem.W.kitAny K (.type "tuple") [.type "tuple"] = some true
  unfold PySem.W.kitAny
  rw [kit_ty (K := K) (a := "tuple") (b := "tuple") (r := true) (by decide +kernel)]
theorem Seq.kit {K : PySem.W.Frag} {H : Hp} {v : V} {xs : List V} (h : Seq K H v xs) : ∃ t, TyX K H v t ∧ PySem.W.kitAny K t LT = some true := by
  rcases h.ty with z | z
  · exact ⟨_, z, kit_list⟩
  · exact ⟨_, z, kit_tuple⟩
theorem Seq.len {K : PySem.W.Frag} {H : Hp} {v : V} {xs : List V} (h : Seq K H v xs) : LenV K v H xs.length := by
  obtain ⟨a, rfl, h | h⟩ := h
  · exact .inl ⟨_, h, rfl⟩
  · exact .inr ⟨_, h, rfl⟩
/-! ### a walk over either -/
def iSeq (K : PySem.W.Frag) (tl : TE) : TI := fun σ H R => tl σ H fun x H1 => ∃ a xs, x = .ref a ∧ (SqL K H1 a xs ∧ R (Itl K a) H1 ∨ SqT K H1 a xs ∧ R (Itt K a) H1)
theorem pi_seq {X : Cx} {tg l : Expr} {tl : TE} (hl : PE X l tl) : PI X tg l (iSeq X.K tl) := by
  refine ⟨fun pins s σ H R I h => ?_⟩
  refine thn (hl.run pins s σ H _ I h) fun v s1 ⟨x, H1, I1, r1, q1⟩ => ?_
  obtain ⟨a, xs, e, q1⟩ := q1
  subst e
  cases r1
  have last : ∀ b ∈ [s1.heap.objs.size], _ := fun b hb => by
    have e : b = s1.heap.objs.size := List.mem_singleton.mp hb
    subst e
    exact I1.fpOk (Nat.le_refl _) (I1.hok.fresh (Nat.le_refl _))
  rcases q1 with ⟨hq, q⟩ | ⟨hq, q⟩
  · obtain ⟨its, rv, p, hz⟩ := I1.list hq
    refine wpAny_pyIter_list p.isList ?_
    exact ⟨s1.heap.objs.size, [s1.heap.objs.size], _, _, H1, rfl, I1.kept (t' := s1.toks) fun b o e => Heap.get?_push_of_some _ e, turn_list a _, ⟨_, Heap.get?_push_size _ rfl, rfl, rfl⟩, last, q⟩
  · obtain ⟨its, rv, p, hz⟩ := I1.tuple hq
    refine wpAny_pyIter_tuple (show s1.heap.IsTuple a its.toArray from p) ?_
    exact ⟨s1.heap.objs.size, [s1.heap.objs.size], _, _, H1, rfl, I1.kept (t' := s1.toks) fun b o e => Heap.get?_push_of_some _ e, turn_tuple a _, ⟨_, Heap.get?_push_size _ rfl, rfl, rfl⟩, last, q⟩
/-- for x in either: Pv by the turn, the slots, the heap -/
theorem for_seq {K : PySem.W.Frag} {v : V} {xs : List V} {g : TG} {tb : TS} {D : Ends} {σ : St} {H0 H : Hp} {te : TE} (hq : Seq K H0 v xs) (he : ∀ Q : VK, Q v H → te σ H Q) (Pv : Nat → St → Hp → Prop) (h0 : Pv 0 σ H) (hl : ∀ i σ' H', Pv i σ' H' → Same H0 H')
    (hs : ∀ i x σ' H', xs[i]? = some x → Pv i σ' H' → g x σ' H' fun σ2 H2 => tb { D with nx := Pv (i + 1), ct := Pv (i + 1), bk := D.nx } σ2 H2) (hd : ∀ σ' H', Pv xs.length σ' H' → D.nx σ' H') :
    tFor (iSeq K te) g tb D σ H := by
  obtain ⟨a, rfl, hq⟩ := hq
  rcases hq with hq | hq
  · exact he _ ⟨a, xs, rfl, .inl ⟨(hl _ _ _ h0).seq hq, for_it (walk_list (xs := xs)) Pv h0 (fun i σ' H' _ p => (hl i σ' H' p).seq hq) (fun i x σ' H' H'' _ p y => by
      obtain ⟨rfl, hx⟩ := y
      exact hs i x σ' _ hx p) hd⟩⟩
  · exact he _ ⟨a, xs, rfl, .inr ⟨SqT.same hq (hl _ _ _ h0), for_it (walk_tup (xs := xs)) Pv h0 (fun i σ' H' _ p => SqT.same hq (hl i σ' H' p)) (fun i x σ' H' H'' _ p y => by
      obtain ⟨rfl, hx⟩ := y
      exact hs i x σ' _ hx p) hd⟩⟩
/-- [f(x) for x in either]: each item x gives the value f i -/
theorem lc_seq {K : PySem.W.Frag} {v : V} {xs : List V} {g : TG} {te tl : TE} {vs : List Nat} {σ : St} {H : Hp} {Q : VK} (hq : Seq K H v xs) (he : ∀ Q : VK, Q v H → tl σ H Q) (hn : xs.length ≤ 1000) (f : Nat → V)
    (hs : ∀ i x H' (Q' : VK), xs[i]? = some x → Same H H' → (∀ H'', Same H' H'' → Q' (f i) H'') → g x (wipe σ vs) H' fun σ2 H2 => wipe σ2 vs = wipe σ vs ∧ te σ2 H2 Q')
    (hd : ∀ D H', Same H H' → H' D = some (.lst ((List.range xs.length).map f)) → Q (.ref D) H') : tLc (iSeq K tl) g tYes te vs σ H Q := by
  have key : ∀ (J : It) (G : Hp → Prop) (w : Walk J xs.length G (YAt xs)) (hG : ∀ H', Same H H' → G H') (D : Addr), H D = none → ∃ W : Nat → Nat → Hp → Prop, (∃ m, W 0 m (upd H D (.lst []))) ∧ ∀ i m H, W i m H →
      (J.stop i H ∧ Q (.ref D) H) ∨ (J.go i H ∧ ∃ Nx : Hp → Prop, (∀ H', Nx H' → ∃ m', m' < m ∧ W (i + 1) m' H') ∧ ∀ x H', J.yld i H x H' → g x (wipe σ vs) H' fun σ2 H2 => wipe σ2 vs = wipe σ vs ∧ tYes σ2 H2 fun b H3 =>
        if b = true then te σ2 H3 fun y H4 => ∃ acc, H4 D = some (.lst acc) ∧ acc.length < sizeLine ∧ Nx (upd H4 D (.lst (acc ++ [y]))) else Nx H3) := by
    intro J G w hG D nD
    refine lc_it w (fun i H' => Same H H' ∧ H' D = some (.lst ((List.range i).map f))) ⟨same_upd nD, upd_same⟩ (fun i H' _ p => hG H' p.1) (fun i x H' H'' hi p y => ?_) (fun H' p => hd D H' p.1 p.2)
    obtain ⟨rfl, hx⟩ := y
    refine hs i x _ _ hx p.1 fun H2 s2 => ?_
    refine ⟨_, s2 _ _ p.2, ?_, ?_, ?_⟩
    · rw [List.length_map, List.length_range, sizeLine_eq]
      omega
    · exact fun b u e => by
        rw [upd_ne (ne_of_none e nD)]
        exact s2 _ _ (p.1 _ _ e)
    · rw [upd_same, List.range_succ, List.map_append, List.map_singleton]
  obtain ⟨a, rfl, hq⟩ := hq
  rcases hq with hq | hq
  · exact he _ ⟨a, xs, rfl, .inl ⟨hq, key _ _ (walk_list (xs := xs)) fun H' s => s.seq hq⟩⟩
  · exact he _ ⟨a, xs, rfl, .inr ⟨hq, key _ _ (walk_tup (xs := xs)) fun H' s => SqT.same hq s⟩⟩
theorem iteN {c : Bool} {A B : Prop} (h : c = false) (b : B) : if c = true then A else B := by
  rw [h]
  exact iteF b
theorem same_over {H0 H : Hp} {D : Addr} {o : HO} (n : H0 D = none) (s : Same H0 H) : Same H0 (upd H D o) := fun b u e => by
  rw [upd_ne (ne_of_none e n)]
  exact s _ _ e
theorem t_nall {K : PySem.W.Frag} {tl : TE} {σ : St} {H : Hp} {Q : Bool → Hp → Prop} (h : tl σ H fun x H1 => rAll K [x] H1 fun y H2 => ∃ c, y = .bl c ∧ Q (!c) H2) : tNot (tB (tCB (rAll K) (tCons tl tNil))) σ H Q := h
theorem t_seqAsg {t : TE} {g : TG} {u : TS} {D : Ends} {σ : St} {H : Hp} (h : t σ H fun x H1 => g x σ H1 (u D)) : tSeq (tAsg t g) u D σ H := h
/-! ### names -/
def okc (c : Nat) : Bool := decide (97 ≤ c) && decide (c ≤ 122)
def isNm (z : Str) : Bool := decide (1 ≤ z.length) && (decide (z.length ≤ 8) && z.cps.toList.all okc)
/-- whether a value is a name -/
def IsN (K : PySem.W.Frag) (H : Hp) (x : V) (b : Bool) : Prop := (∃ z, x = .str z ∧ z.length ≤ sizeLine ∧ b = isNm z) ∨ ∃ t, TyX K H x t ∧ PySem.W.kitOne K t (.type "str") = some false ∧ b = false
theorem IsN.same {K : PySem.W.Frag} {H H' : Hp} {x : V} {b : Bool} (h : IsN K H x b) (s : Same H H') : IsN K H' x b := by
  rcases h with h | ⟨t, h1, h2⟩
  · exact .inl h
  · exact .inr ⟨t, TyX.same h1 s, h2⟩
theorem lt_sign (c d : Nat) : decide ([c] < [d]) = decide (c < d) := by
  by_cases h : c < d
  · rw [decide_eq_true h, decide_eq_true]
    exact List.Lex.rel h
  · rw [decide_eq_false h, decide_eq_false]
    intro z
    cases z with
    | rel z => exact h z
    | cons z => cases z
/-- the texts among values -/
def strsOf (xs : List V) : List Str := xs.filterMap fun x => match x with
  | .str z => some z
  | _ => none
def spIsList (K : PySem.W.Frag) : Sp := fun vs H Q _ => ∃ v t b, vs = [v] ∧ TyX K H v t ∧ PySem.W.kitAny K t LT = some b ∧ ∀ H', Same H H' → Q (.bl b) H'
def spIsName (K : PySem.W.Frag) : Sp := fun vs H Q _ => ∃ v b, vs = [v] ∧ IsN K H v b ∧ ∀ H', Same H H' → Q (.bl b) H'
/-- whether these are different names -/
def nlB (xs : List V) (bs : List Bool) : Bool := bs.all id && decide (strsOf xs).Nodup
/-- whether a value is a list of different names -/
def NLis (K : PySem.W.Frag) (H : Hp) (v : V) (c : Bool) : Prop := (∃ t, TyX K H v t ∧ PySem.W.kitAny K t LT = some false ∧ c = false) ∨
  ∃ (xs : List V) (bs : List Bool), Seq K H v xs ∧ xs.length ≤ 900 ∧ bs.length = xs.length ∧ (∀ (i : Nat) x b, xs[i]? = some x → bs[i]? = some b → IsN K H x b) ∧ c = nlB xs bs
theorem NLis.same {K : PySem.W.Frag} {H H' : Hp} {v : V} {c : Bool} (h : NLis K H v c) (s : Same H H') : NLis K H' v c := by
  rcases h with ⟨t, h1, h2⟩ | ⟨xs, bs, h1, h2, h3, h4, h5⟩
  · exact .inl ⟨t, TyX.same h1 s, h2⟩
  · exact .inr ⟨xs, bs, h1.same s, h2, h3, fun i x b e e2 => (h4 i x b e e2).same s, h5⟩
def spNameList (K : PySem.W.Frag) : Sp := fun vs H Q _ => ∃ v c, vs = [v] ∧ NLis K H v c ∧ ∀ H', Same H H' → Q (.bl c) H'
/-- whether a value is a row of a web -/
def RowIs (K : PySem.W.Frag) (H : Hp) (v : V) (r : Bool) : Prop := (∃ t, TyX K H v t ∧ PySem.W.kitAny K t LT = some false ∧ r = false) ∨
  ∃ xs, Seq K H v xs ∧ ((xs.length ≠ 2 ∧ r = false) ∨ ∃ x y b c, xs = [x, y] ∧ IsN K H x b ∧ NLis K H y c ∧ r = (b && c))
theorem RowIs.same {K : PySem.W.Frag} {H H' : Hp} {v : V} {r : Bool} (h : RowIs K H v r) (s : Same H H') : RowIs K H' v r := by
  rcases h with ⟨t, h1, h2⟩ | ⟨xs, h1, h⟩
  · exact .inl ⟨t, TyX.same h1 s, h2⟩
  · refine .inr ⟨xs, h1.same s, ?_⟩
    rcases h with h | ⟨x, y, b, c, e, h2, h3, h4⟩
    · exact .inl h
    · exact .inr ⟨x, y, b, c, e, h2.same s, h3.same s, h4⟩
def spIsRow (K : PySem.W.Frag) : Sp := fun vs H Q _ => ∃ v r, vs = [v] ∧ RowIs K H v r ∧ ∀ H', Same H H' → Q (.bl r) H'
theorem rngD (bs : List Bool) : (List.range bs.length).map (fun i => bs.getD i false) = bs := by
  apply List.ext_getElem?
  intro i
  by_cases h : i < bs.length
  · rw [List.getElem?_map, List.getElem?_range h, List.getElem?_eq_getElem h]
    simp [List.getD_eq_getElem?_getD, List.getElem?_eq_getElem h]
  · rw [List.getElem?_eq_none (by simpa using h), List.getElem?_eq_none (by simpa using h)]
/-- all are names: they are their texts -/
theorem all_strs {K : PySem.W.Frag} {H : Hp} : ∀ {xs : List V} {bs : List Bool}, bs.length = xs.length → (∀ (i : Nat) x b, xs[i]? = some x → bs[i]? = some b → IsN K H x b) → bs.all id = true → xs = (strsOf xs).map V.str
  | [], _, _, _, _ => rfl
  | x :: xs, [], h, _, _ => by cases h
  | x :: xs, b :: bs, h, hi, ha => by
    obtain ⟨a1, a2⟩ := Bool.and_eq_true_iff.mp (show (id b && bs.all id) = true from ha)
    have ih := all_strs (xs := xs) (bs := bs) (Nat.succ.inj h) (fun i x b e e2 => hi (i + 1) x b e e2) a2
    rcases hi 0 x b rfl rfl with ⟨z, rfl, _⟩ | ⟨t, _, _, e⟩
    · show V.str z :: xs = V.str z :: (strsOf xs).map V.str
      rw [← ih]
    · rw [show b = true from a1] at e
      cases e
theorem Seq.ix {K : PySem.W.Frag} {H : Hp} {v : V} {xs : List V} {i : Int} {x : V} {Q : VK} (h : Seq K H v xs) (e : atI xs i = some x) (q : Q x H) : rIx K v (.int i) H Q := by
  obtain ⟨a, rfl, h | h⟩ := h
  · exact .inl ⟨a, xs, i, x, rfl, rfl, h, e, q⟩
  · exact .inr (.inl ⟨a, xs, i, x, rfl, rfl, h, e, q⟩)
/-! ### the first wrong row -/
/-- by the rows' looks: which is wrong first, told seen so far -/
def firstW : List (Bool × Str) → List Str → Nat → Option Nat
  | [], _, _ => none
  | (r, z) :: l, seen, i => if r = false ∨ z ∈ seen then some i else firstW l (seen ++ [z]) (i + 1)
/-- a thing among the rows: whether it is a row, its name if so -/
def RowD (K : PySem.W.Frag) (H : Hp) (d : V × Bool × Str) : Prop := RowIs K H d.1 d.2.1 ∧ (d.2.1 = true → ∃ y, Seq K H d.1 [.str d.2.2, y])
theorem RowD.same {K : PySem.W.Frag} {H H' : Hp} {d : V × Bool × Str} (h : RowD K H d) (s : Same H H') : RowD K H' d :=
  ⟨h.1.same s, fun e => let ⟨y, z⟩ := h.2 e; ⟨y, z.same s⟩⟩
def nmOf (d : V × Bool × Str) : Str := d.2.2
def optV : Option Nat → V
  | none => .non
  | some i => .int (i : Nat)
def firstR (ds : List (V × Bool × Str)) : Option Nat := if ds = [] then some 0 else firstW (ds.map Prod.snd) [] 0
def spFirst (K : PySem.W.Frag) : Sp := fun vs H Q _ => ∃ v, vs = [v] ∧ ((∃ t, TyX K H v t ∧ PySem.W.kitAny K t LT = some false ∧ ∀ H', Same H H' → Q (.int 0) H') ∨
  ∃ ds : List (V × Bool × Str), Seq K H v (ds.map Prod.fst) ∧ ds.length ≤ 1000 ∧ (∀ d ∈ ds, RowD K H d) ∧ ∀ H', Same H H' → Q (optV (firstR ds)) H')
theorem in_strs (z : Str) (seen : List Str) : inV (.str z) (seen.map V.str) = decide (z ∈ seen) := by
  unfold inV
  induction seen with
  | nil => rfl
  | cons y ys ih =>
    rw [List.map_cons, List.any_cons, ih]
    show ((y == z) || decide (z ∈ ys)) = decide (z ∈ y :: ys)
    by_cases e : y = z
    · subst e
      simp
    · have e2 : (y == z) = false := by simpa using e
      rw [e2, Bool.false_or]
      by_cases m : z ∈ ys
      · rw [decide_eq_true m, decide_eq_true (List.mem_cons_of_mem _ m)]
      · rw [decide_eq_false m, decide_eq_false]
        intro h
        rcases List.mem_cons.mp h with h | h
        · exact e h.symm
        · exact m h
theorem flat_strs' (ys : List Str) : (ys.map V.str).all flatV = true := by
  induction ys with
  | nil => rfl
  | cons y ys ih => exact ih
/-- a def as its callers know it -/
structure Cal (P : Program) (w : World) (K : PySem.W.Frag) (mg : Str → Option Value) (base : Heap) (x : Str) (ps : List Str) (k : Nat) (sp : Sp) : Prop where
  ex : ∃ f fd, FnOk P w K mg base CX0 k f fd ps sp ∧ mg x = some (.ref f) ∧ PySem.W.keepIn K (.ref f) = true ∧ Binds K fd ps []
end WL
end L2
set_option Elab.async false
set_option linter.all false
set_option maxRecDepth 100000
set_option maxHeartbeats 4000000
namespace PySem
open Sem (wp)
open AutoSeq1 (wpAny_loadPart')
theorem meets_enumerate_newT (l : Addr) (items : Array Value) (n : Nat) (dct : Option Addr) (sl : Array (Option Value)) :
    Meets (Builtin.«enumerate.__new__» ⟨[.type "enumerate", .ref l], []⟩) (fun _ R s => s.heap.get? l = some { cls := .type "tuple", dict := dct, data := .seq items n, slots := sl } ∧
      R (.ok (.ret (.ref (s.heap.push { cls := .type "tuple_iterator", data := .fields #[.ref l, .int 0 0] }).objs.size)))
        { s with heap := (s.heap.push { cls := .type "tuple_iterator", data := .fields #[.ref l, .int 0 0] }).push { cls := .type "enumerate", data := .fields #[.none, .bool false, .ref s.heap.objs.size, rawInt 0, .none, .none] } }) :=
  .of_wp fun prog w A R s h => by
    obtain ⟨hp, g, d, tk, os⟩ := s; obtain ⟨hl, h⟩ := h
    have hsub := sub_enumerate
    have hL : Heap.IsTuple (Shared.heap ⟨hp, g, d, tk, os⟩) l items := ⟨_, hl, rfl, n, rfl⟩
    wp_walk using wpAny_loadPart' hl
    refine wpAny_stack_any fun st => wpAny_pure ?_
    split
    · rename_i c _ _ _ _ _
      cases (c == Value.type "enumerate")
      · wp_walk using wpAny_loadPart' hl, wpAny_pyIter_tuple hL
        exact ⟨_, rfl, h⟩
      · wp_walk using wpAny_loadPart' hl, wpAny_pyIter_tuple hL
        exact ⟨_, rfl, h⟩
    · wp_walk using wpAny_loadPart' hl, wpAny_pyIter_tuple hL
      exact ⟨_, rfl, h⟩
section
variable {prog : Program} {w : World} {A : Around} {E : Value → Shared → Prop} {s : Shared}
theorem call_enumerate_tuple {l : Addr} {items : Array Value} {Q : Value → Shared → Prop} (hL : s.heap.IsTuple l items)
    (h : ∀ h', IsEnum h' (s.heap.objs.size + 1) s.heap.objs.size 0 .none → h'.IsTupleIter s.heap.objs.size l 0 → h'.objs.size = s.heap.objs.size + 2 →
      (∀ b o, s.heap.get? b = some o → h'.get? b = some o) → Q (.ref (s.heap.objs.size + 1)) { s with heap := h' }) :
    wpAny (model prog w) A (call (.type "enumerate") [.ref l]) Q E s := by
  obtain ⟨⟨c, dct, dt, sl⟩, hl, hc, n, hd⟩ := hL
  replace hc : c = .type "tuple" := hc
  replace hd : dt = .seq items n := hd
  subst hc hd
  refine callType_new F.called_enumerate (by decide) (F.typeCall_enumerate_1 _) (F.newCall_enumerate_1 _) (fun obj => F.args_object_init_2 obj _) F.entry_enumerate_new
    (meets_enumerate_newT l items n dct sl) ⟨hl, ?_⟩
  have hz : (s.heap.push { cls := .type "tuple_iterator", data := .fields #[.ref l, .int 0 0] }).objs.size = s.heap.objs.size + 1 := Heap.size_push ..
  show _ ∧ _
  rw [hz]
  have he : IsEnum ((s.heap.push { cls := .type "tuple_iterator", data := .fields #[.ref l, .int 0 0] }).push
      { cls := .type "enumerate", data := .fields #[.none, .bool false, .ref s.heap.objs.size, rawInt 0, .none, .none] }) (s.heap.objs.size + 1) s.heap.objs.size 0 .none := by
    have := Heap.get?_push_size (s.heap.push { cls := .type "tuple_iterator", data := .fields #[.ref l, .int 0 0] })
      (o := { cls := .type "enumerate", data := .fields #[.none, .bool false, .ref s.heap.objs.size, rawInt 0, .none, .none] }) rfl
    rw [hz] at this; exact this
  refine ⟨⟨_, he, rfl⟩, h _ he ⟨_, Heap.get?_push_of_some _ (Heap.get?_push_size _ rfl), rfl, rfl⟩ (by rw [Heap.size_push, hz]) fun b o x => Heap.get?_push_of_some _ (Heap.get?_push_of_some _ x)⟩
theorem wpAny_pyNext_enum_endT {e it t : Addr} {j : Nat} {i : Int} {items : Array Value} {old : Value} {Q : Option Value → Shared → Prop}
    (hh : A.in1.handled = none) (he : IsEnum s.heap e it i old) (hit : s.heap.IsTupleIter it t j) (ht : s.heap.IsTuple t items) (hx : items[j]? = none)
    (hQ : ∀ h', Heap.ExtBut it s.heap h' → Q none { s with heap := h' }) : wpAny (model prog w) A (pyNext (.ref e)) Q E s := by
  have hT : s.TypeIs (.ref e) "enumerate" := ⟨_, he, rfl⟩
  unfold pyNext
  refine wpAny_bind (wpAny_attempt (wpAny_callSpecial?_slot (name := Str.ofString "__next__") hT F.slot_enumerate_next
    (wpAny_call_entry F.slot_enumerate_next hT F.entry_enumerate_next ?_ (F.args_enumerate_next_1 _))))
  show wpAny _ _ (field (.ref e) 2 >>= _) _ _ _
  refine wpAny_bind (wpAny_field he rfl (x := .ref it) rfl ?_)
  refine wpAny_bind (wpAny_nextOf_tuple_end hh hit ht hx fun h' x he' hx' => ?_)
  obtain ⟨o, ho, hc⟩ := hx'
  refine wpAny_bind (wpAny_isInstance (T := "StopIteration") (b := true) ⟨o, ho, hc⟩ isSubtype_stop ?_)
  exact wpAny_pure (hQ _ he')
end
end PySem
namespace L2
namespace WL
open PySem PySem.Spec PyProof.Rows K1
/-- the tuple at a as it stands at each turn, each item in a new pair -/
def IteT (K : PySem.W.Frag) (a : Addr) : It :=
  ⟨fun i H => ∃ (xs : List V) (x : V), SqT K H a xs ∧ xs[i]? = some x, fun i H v H' => ∃ T x, v = .ref T ∧ H T = none ∧ H' = upd H T (.tup [.int (i : Nat), x]) ∧ ∀ xs, SqT K H a xs → xs[i]? = some x, fun i H => ∃ xs : List V, SqT K H a xs ∧ xs.length ≤ i⟩
theorem turn_enumT {P : Program} {w : World} {K : PySem.W.Frag} {elts : List Expr} {kk : Nat} {tpos : Pos} (a e it : Addr) :
    Turn P w K (.Tuple elts kk tpos) (IteT K a) [e, it] e (fun i h => (∃ old, IsEnum h e it ((i : Nat) : Int) old) ∧ h.IsTupleIter it a i ∧ e ≠ it ∧ a ≠ e ∧ a ≠ it) where
  mem := by simp
  obj := fun i h st b hb => by
    obtain ⟨⟨old, he⟩, ⟨o, ho, hc, hd⟩, _⟩ := st
    have e' : b = e ∨ b = it := by simpa using hb
    rcases e' with z | z
    · rw [z]; exact ⟨_, he, fun v q => nomatch q⟩
    · rw [z]; exact ⟨o, ho, fun v q => by rw [hd] at q; cases q⟩
  keep := fun i h h' st k => let ⟨⟨old, he⟩, hi, hne⟩ := st; ⟨⟨old, k e (by simp) _ he⟩, hi.at fun o q => k it (by simp) o q, hne⟩
  item := by
    intro X hP hw hK hc i pins s σ H E I hf st hg
    subst hP hw hK
    obtain ⟨⟨old, he⟩, hit, hne, hae, hai⟩ := st
    obtain ⟨xs, x, hq, hx⟩ := hg
    obtain ⟨its, rv, p, hz⟩ := I.tuple hq
    obtain ⟨u, hu, ru⟩ := rv.get hx
    have hel : e < s.heap.objs.size := Heap.lt_size he
    have hil : it < s.heap.objs.size := by obtain ⟨_, q, _⟩ := hit; exact Heap.lt_size q
    have hT : s.heap.IsTuple a its.toArray := p
    have il : i < its.toArray.size := by
      have := (List.getElem?_eq_some_iff.mp hu).1
      simpa using this
    refine wpAny_pyNext_enum_itemD (Draws.tuple (A := X.A.in1) (I.ok.hd hc) it a hai its.toArray) he ⟨hit, hT⟩ il hne (by simp [hne, Ne.symm hae]) fun x' h' tk hx' ho hit' hT hsz hk => ?_
    obtain rfl : u = x' := by
      have z : its[i]? = some x' := by simpa using hx'
      rw [hu] at z
      exact Option.some.inj z
    refine ⟨_, rfl, wpAny_letOwnedTupleGo_enum (s := { s with heap := h', toks := tk + 1 }) ho fun h'' he' sb => ?_⟩
    have hT2 : h''.get? s.heap.objs.size = some { cls := .type "tuple", data := .seq #[.int i tk, u] } := (sb.2 _ (Nat.ne_of_gt hel)).trans hT
    have new : ObjOk X.prog X.w (upd H s.heap.objs.size (.tup [.int (i : Nat), x])) h'' s.heap.objs.size (.tup [.int (i : Nat), x]) :=
      ⟨by show 2 ≤ sizeLine; decide, [.int i tk, u], .cons ⟨_, rfl⟩ (.cons ru .nil), ⟨_, hT2, rfl, _, rfl⟩⟩
    have I1 : Inv X pins σ (upd H s.heap.objs.size (.tup [.int (i : Nat), x])) { s with heap := h'', toks := tk + 1 } :=
      I.turnedNew (ch := [e, it]) (fun b ob hb q => (sb.2 b (fun z => hb (by simp [z]))).trans (hk b ob (fun z => hb (by simp [z])) (fun z => hb (by simp [z])) q)) hf (Nat.le_refl _) new
    refine ⟨.ref s.heap.objs.size, _, I1, rfl, ⟨_, x, rfl, I.hok.fresh (Nat.le_refl _), rfl, fun ys hy => by rw [I.tuple_inj hy hq]; exact hx⟩, ⟨⟨u, ?_⟩, hit'.1.at fun o q => (sb.2 it (Ne.symm hne)).trans q, hne, hae, hai⟩, fun b hb => ?_⟩
    · have e1 : ((i + 1 : Nat) : Int) = (i : Int) + 1 := by omega
      rw [e1]; exact he'
    · have hb' : b < s.heap.objs.size := by
        have e' : b = e ∨ b = it := by simpa using hb
        rcases e' with z | z
        · rw [z]; exact hel
        · rw [z]; exact hil
      rw [upd_ne (Nat.ne_of_lt hb')]
      exact (hf b hb).1
  done := by
    intro X hP hw hK hc i pins s σ H E I hf st hg
    subst hP hw hK
    obtain ⟨⟨old, he⟩, hit, hne, hae, hai⟩ := st
    obtain ⟨xs, hq, hx⟩ := hg
    obtain ⟨its, rv, p, hz⟩ := I.tuple hq
    obtain ⟨f0, f1, f2, f3, f4, f5⟩ := hf it (by simp)
    have hl := rv.length
    exact wpAny_pyNext_enum_endT (I.ok.hd hc) he hit p (by simp; omega) fun h' eb => ⟨rfl, I.turned (t' := s.toks) (fun b o hb q => eb b o hb q) f0 f1 f3 f4 f5⟩
  self := fun A i s Q E st h => let ⟨⟨_, he⟩, _⟩ := st; wpAny_pyIter_enum he h
theorem walk_enumT {K : PySem.W.Frag} {a : Addr} {xs : List V} : Walk (IteT K a) xs.length (fun H => SqT K H a xs) (YPair (fun i => some (.int (i : Nat))) (fun i => xs[i]?)) := by
  refine ⟨fun i _ hi q => ⟨xs, xs[i], q, by simp [hi]⟩, fun _ q => ⟨xs, q, Nat.le_refl _⟩, fun i H v H' _ q y => ?_⟩
  obtain ⟨T, x, h1, h2, h3, h4⟩ := y
  exact ⟨T, .int (i : Nat), x, h1, h2, h3, rfl, h4 xs q⟩
/-- enumerate of a list or a tuple -/
def iEnumS (K : PySem.W.Frag) (ta : TA) : TI := fun σ H R => ta σ H fun vs H1 => ∃ a xs, vs = [.ref a] ∧ (SqL K H1 a xs ∧ R (Ite K a) H1 ∨ SqT K H1 a xs ∧ R (IteT K a) H1)
theorem pi_enumS {X : Cx} {e : Expr} {ta : TA} {p pos tpos : Pos} {elts : List Expr} {kk : Nat} (hg : Gl X "enumerate") (hm : X.mg "enumerate" = none) (ha : PA X [e] ta) (hs : starEach [e] X.env = [(false, eval e X.env)] := by rfl) :
    PI X (.Tuple elts kk tpos) (.Call (.Name "enumerate" p) [e] [] pos) (iEnumS X.K ta) := by
  refine ⟨fun pins s σ H R I h => ?_⟩
  refine Call_ (ld_blt I hg hm boot_enumerate (PyProof.Rows.callWith_type1 (thn (ha.run pos pins s σ H _ I h) fun us s1 ⟨vs, H1, I1, r1, q1⟩ => ?_) hs rfl))
  obtain ⟨a, xs, ex, q1⟩ := q1
  subst ex
  cases r1 with
  | cons r rr =>
    cases rr
    cases r
    have hle : ∀ b, b = s1.heap.objs.size + 1 ∨ b = s1.heap.objs.size → s1.heap.objs.size ≤ b := fun b e' => by
      rcases e' with z | z
      · rw [z]; exact Nat.le_add_right _ _
      · rw [z]; exact Nat.le_refl _
    rcases q1 with ⟨hq, q⟩ | ⟨hq, q⟩
    · obtain ⟨its, rv, p', hz⟩ := I1.list hq
      refine call_enumerate_list p'.isList fun h' he hit hsz hk => wpAny_pyIter_enum he ?_
      have I2 : Inv X pins σ H1 { s1 with heap := h' } := I1.kept (t' := s1.toks) hk
      refine ⟨s1.heap.objs.size + 1, [s1.heap.objs.size + 1, s1.heap.objs.size], _, _, H1, rfl, I2, turn_enum a (s1.heap.objs.size + 1) s1.heap.objs.size, ⟨⟨.none, he⟩, hit, Nat.succ_ne_self _⟩, fun b hb => ?_, q⟩
      have e' := hle b (by simpa using hb)
      exact I1.fpOk e' (I1.hok.fresh e')
    · obtain ⟨its, rv, p', hz⟩ := I1.tuple hq
      have hT : s1.heap.IsTuple a its.toArray := p'
      have hal : a < s1.heap.objs.size := by obtain ⟨o, ho, _⟩ := hT; exact Heap.lt_size ho
      refine call_enumerate_tuple hT fun h' he hit hsz hk => wpAny_pyIter_enum he ?_
      have I2 : Inv X pins σ H1 { s1 with heap := h' } := I1.kept (t' := s1.toks) hk
      refine ⟨s1.heap.objs.size + 1, [s1.heap.objs.size + 1, s1.heap.objs.size], _, _, H1, rfl, I2, turn_enumT a (s1.heap.objs.size + 1) s1.heap.objs.size, ⟨⟨.none, he⟩, hit, Nat.succ_ne_self _, Nat.ne_of_lt (Nat.lt_succ_of_lt hal), Nat.ne_of_lt hal⟩, fun b hb => ?_, q⟩
      have e' := hle b (by simpa using hb)
      exact I1.fpOk e' (I1.hok.fresh e')
/-- for i, x in enumerate(either) -/
theorem for_enumS {K : PySem.W.Frag} {v : V} {xs : List V} {g : TG} {tb : TS} {D : Ends} {σ : St} {H0 H : Hp} {ta : TA} (hq : Seq K H0 v xs) (he : ∀ Q : List V → Hp → Prop, Q [v] H → ta σ H Q) (Pv : Nat → St → Hp → Prop) (h0 : Pv 0 σ H) (hl : ∀ i σ' H', Pv i σ' H' → Same H0 H')
    (hs : ∀ i x σ' H' T, xs[i]? = some x → Pv i σ' H' → H' T = none → g (.ref T) σ' (upd H' T (.tup [.int (i : Nat), x])) fun σ2 H2 => tb { D with nx := Pv (i + 1), ct := Pv (i + 1), bk := D.nx } σ2 H2) (hd : ∀ σ' H', Pv xs.length σ' H' → D.nx σ' H') :
    tFor (iEnumS K ta) g tb D σ H := by
  obtain ⟨a, rfl, hq⟩ := hq
  rcases hq with hq | hq
  · exact he _ ⟨a, xs, rfl, .inl ⟨(hl _ _ _ h0).seq hq, for_it (walk_enum (xs := xs)) Pv h0 (fun i σ' H' _ p => (hl i σ' H' p).seq hq) (fun i x σ' H' H'' _ p y => by
      obtain ⟨T, u, z, rfl, nT, rfl, eu, ey⟩ := y
      obtain rfl : V.int (i : Nat) = u := Option.some.inj eu
      exact hs i z σ' _ T ey p nT) hd⟩⟩
  · exact he _ ⟨a, xs, rfl, .inr ⟨SqT.same hq (hl _ _ _ h0), for_it (walk_enumT (xs := xs)) Pv h0 (fun i σ' H' _ p => SqT.same hq (hl i σ' H' p)) (fun i x σ' H' H'' _ p y => by
      obtain ⟨T, u, z, rfl, nT, rfl, eu, ey⟩ := y
      obtain rfl : V.int (i : Nat) = u := Option.some.inj eu
      exact hs i z σ' _ T ey p nT) hd⟩⟩
end WL
end L2
set_option Elab.async false
set_option linter.all false
set_option maxRecDepth 100000
set_option maxHeartbeats 4000000
namespace L2
namespace WL
open PySem PySem.Spec PyProof.Rows K1
theorem PS.imp {X : Cx} {st : Stmt} {t t' : TS} (h : PS X st t) (f : ∀ D σ H, t' D σ H → t D σ H) : PS X st t' := ⟨fun pins s σ H D I q => h.run pins s σ H D I (f _ _ _ q)⟩
/-- raise C(name), C an own error class with one field that its __init__ keeps -/
def tRaiseV (C : Addr) (f : Str) (W : WX) (i : Nat) : TS := fun _ σ H => ∃ v, σ[i]? = some (some v) ∧ ∀ H2 d, Same H H2 → H d = none → H2 d = some (.xd [(f, v)]) → W (.ref C) (some d) σ H2
theorem ps_raiseV {X : Cx} {W : WX} {C fI : Addr} {k i : Nat} {fd : FuncData} {ps : List Str} {x y f : Str} {p q pos pos2 : Pos} (hc : X.calm = true) (tk : Takes X W) (T : XC X.K C) (iC : PySem.W.findIn X.K (.ref C) "__init__" = some (some (.ref fI))) (tI : PySem.W.typeIn X.K (.ref fI) = some (.type "function"))
    (F1 : FnOk X.prog X.w X.K X.mg X.base CX0 k fI fd ps (spI C f)) (hr : Room (k + 1) X.A) (hb : Binds X.K fd ps []) (hg : Gl X x) (hm : X.mg x = some (.ref C)) (ha : PE X (.Name y q) (tVar i))
    (hdb : (x == ("__debug__" : Str)) = false := by decide) (he : starEach [Expr.Name y q] X.env = (false, eval (.Name y q) X.env) :: starEach [] X.env := by rfl) (hpl : (backTo pos (starEach [] X.env)).any (·.1) = false := by rfl) :
    PS X (.Raise (some (.Call (.Name x p) [.Name y q] [] pos)) none pos2) (tRaiseV C f W i) := by
  refine PS.imp (ps_raise hc tk (pmk_oex T.ox iC tI F1 hr hb .nil (fun _ _ _ _ _ _ _ z => z.elim) hg hm (pa_cons ha pa_nil he) hdb he hpl)) fun D σ H h => ?_
  obtain ⟨v, e, h⟩ := h
  refine ⟨v, e, (show 1 ≤ 1000 by decide), fun a na => ⟨a, v, rfl, upd_same, fun d hd hda => ⟨rfl, d, [(f, v)], upd_same, ?_, ?_, ?_⟩⟩⟩
  · rw [upd_ne hda, upd_same]
  · rw [upd_ne hda] at hd
    exact hd
  · rw [upd_ne hda] at hd
    refine h _ d (fun b o z => ?_) hd upd_same
    have hb : b ≠ a := ne_of_none z na
    have hb2 : b ≠ d := ne_of_none z hd
    rw [upd_ne hb2, del_ne hb, upd_ne hb, upd_ne hb2, upd_ne hb]
    exact z
/-- what stands of an error that leaves a def: its class, its dict, the rest as it stood -/
def Rz (H : Hp) (E : XK) (C : Addr) (f : Str) (v : V) : Prop := ∀ H' d, Same H H' → H' d = some (.xd [(f, v)]) → E (.ref C) (some d) H'
/-- what is known of the __init__ of the error class x with the field f -/
structure Er (P : Program) (w : World) (K : PySem.W.Frag) (mg : Str → Option Value) (base : Heap) (x f : Str) : Prop where
  g : mg x = some (.ref (He.ga K x))
  c : XC K (He.ga K x)
  iC : PySem.W.findIn K (.ref (He.ga K x)) "__init__" = some (some (.ref (He.ma K (He.ga K x) "__init__")))
  tI : PySem.W.typeIn K (.ref (He.ma K (He.ga K x) "__init__")) = some (.type "function")
  ex : ∃ fd, FnOk P w K mg base CX0 1 (He.ma K (He.ga K x) "__init__") fd ["self", f] (spI (He.ga K x) f) ∧ Binds K fd ["self", f] []
/-! ### rows that are rows -/
def RowG (K : PySem.W.Frag) (H : Hp) (v : V) (r : Str × List Str) : Prop := ∃ y, Seq K H v [.str r.1, y] ∧ Seq K H y (r.2.map .str)
theorem RowG.same {K : PySem.W.Frag} {H H' : Hp} {v : V} {r : Str × List Str} (h : RowG K H v r) (s : Same H H') : RowG K H' v r := let ⟨y, a, b⟩ := h; ⟨y, a.same s, b.same s⟩
/-- the first source that is no cell -/
def firstU (cells : List Str) (rs : List (Str × List Str)) : Option Str := (rs.flatMap Prod.snd).find? fun s => decide (s ∉ cells)
theorem rngS (xs : List Str) : (List.range xs.length).map (fun i => V.str (xs.getD i Str.empty)) = xs.map V.str := by
  apply List.ext_getElem?
  intro i
  by_cases h : i < xs.length
  · rw [List.getElem?_map, List.getElem?_range h, List.getElem?_map, List.getElem?_eq_getElem h]
    simp [List.getD_eq_getElem?_getD, List.getElem?_eq_getElem h]
  · rw [List.getElem?_eq_none (by simpa using h), List.getElem?_eq_none (by simpa using h)]
theorem find_at {cells : List Str} {s : Str} {rest : List Str} (hs : s ∉ cells) : ∀ {done : List Str}, (∀ x ∈ done, x ∈ cells) → (done ++ s :: rest).find? (fun s => decide (s ∉ cells)) = some s
  | [], _ => by
    rw [List.nil_append, List.find?_cons, decide_eq_true hs]
  | d :: ds, h => by
    rw [List.cons_append, List.find?_cons, decide_eq_false (fun z => z (h d (List.mem_cons_self ..)))]
    exact find_at hs fun x hx => h x (List.mem_cons_of_mem _ hx)
theorem find_none {cells : List Str} {done : List Str} (h : ∀ x ∈ done, x ∈ cells) : done.find? (fun s => decide (s ∉ cells)) = none := by
  rw [List.find?_eq_none]
  intro x hx z
  exact (of_decide_eq_true z) (h x hx)
def spCheckRows (K : PySem.W.Frag) : Sp := fun vs H Q E => ∃ v, vs = [v] ∧ ((∃ t, TyX K H v t ∧ PySem.W.kitAny K t LT = some false ∧ Rz H E (He.ga K "BadWeb") "index" (.int 0)) ∨
  ∃ ds : List (V × Bool × Str), Seq K H v (ds.map Prod.fst) ∧ ds.length ≤ 1000 ∧ (∀ d ∈ ds, RowD K H d) ∧
    ((∃ i, firstR ds = some i ∧ Rz H E (He.ga K "BadWeb") "index" (.int (i : Nat))) ∨
      (firstR ds = none ∧ ∃ rs : List (Str × List Str), rs.length = ds.length ∧ (∀ (i : Nat) (d : V × Bool × Str) (r : Str × List Str), ds[i]? = some d → rs[i]? = some r → RowG K H d.1 r ∧ r.2.length ≤ 900) ∧
        ((∃ u, firstU (rs.map Prod.fst) rs = some u ∧ Rz H E (He.ga K "UnknownCell") "cell" (.str u)) ∨ (firstU (rs.map Prod.fst) rs = none ∧ ∀ H', Same H H' → Q .non H')))))
theorem g_nm {i : Nat} {x : V} {σ : St} {H : Hp} {R : St → Hp → Prop} (h : R (σ.set i (some x)) H) : gName i x σ H R := h
theorem t_seqF {wi : TI} {g : TG} {tb u : TS} {D : Ends} {σ : St} {H : Hp} (h : tFor wi g tb { D with nx := u D } σ H) : tSeq (tFor wi g tb) u D σ H := h
theorem t_next {D : Ends} {σ : St} {H : Hp} (h : D.nx σ H) : tNext D σ H := h
end WL
end L2
set_option Elab.async false
set_option linter.all false
set_option maxRecDepth 100000
set_option maxHeartbeats 4000000
namespace L2
namespace WL
open PySem PySem.Spec PyProof.Rows K1
abbrev Rws : Type := List (Str × List Str)
/-- the cells that have z for a source -/
def tgt (rs : Rws) (z : Str) : List Str := (rs.filter fun r => decide (z ∈ r.2)).map Prod.fst
/-- the arrows -/
def arr (rs : Rws) : List (Str × Str) := rs.flatMap fun r => r.2.map fun s => (s, r.1)
def kS (z : Str) : Key := Sum.inr z
/-- a dict from texts to tuples of texts -/
def DTup (K : PySem.W.Frag) (H : Hp) (kvs : List (Key × V)) (ps : Rws) : Prop := Paired (fun (kv : Key × V) (p : Str × List Str) => kv.1 = kS p.1 ∧ ∃ a, kv.2 = .ref a ∧ SqT K H a (p.2.map .str)) kvs ps
theorem Paired.imp {α β : Type} {F G : α → β → Prop} (f : ∀ a b, F a b → G a b) : ∀ {l : List α} {m : List β}, Paired F l m → Paired G l m
  | _, _, .nil => .nil
  | _, _, .cons h t => .cons (f _ _ h) (Paired.imp f t)
theorem Paired.get {α β : Type} {F : α → β → Prop} : ∀ {l : List α} {m : List β}, Paired F l m → ∀ {i : Nat} {b : β}, m[i]? = some b → ∃ a, l[i]? = some a ∧ F a b
  | _, _, .nil, _, _, e => by cases e
  | _, _, .cons (a := a) h t, 0, b, e => ⟨a, rfl, by cases e; exact h⟩
  | _, _, .cons h t, i + 1, b, e => Paired.get t (i := i) e
theorem Paired.getL {α β : Type} {F : α → β → Prop} : ∀ {l : List α} {m : List β}, Paired F l m → ∀ {i : Nat} {a : α}, l[i]? = some a → ∃ b, m[i]? = some b ∧ F a b
  | _, _, .nil, _, _, e => by cases e
  | _, _, .cons (b := b) h t, 0, a, e => ⟨b, rfl, by cases e; exact h⟩
  | _, _, .cons h t, i + 1, a, e => Paired.getL t (i := i) e
theorem DTup.same {K : PySem.W.Frag} {H H' : Hp} {kvs : List (Key × V)} {ps : Rws} (h : DTup K H kvs ps) (s : Same H H') : DTup K H' kvs ps :=
  Paired.imp (fun _ _ ⟨e, a, e2, q⟩ => ⟨e, a, e2, SqT.same q s⟩) h
theorem DTup.len {K : PySem.W.Frag} {H : Hp} {kvs : List (Key × V)} {ps : Rws} (h : DTup K H kvs ps) : kvs.length = ps.length := Paired.length h
/-- the sources of a cell: of the first row with its name -/
def srcs (ps : Rws) (z : Str) : Option (List Str) := (ps.find? fun p => decide (p.1 = z)).map Prod.snd
theorem DTup.get {K : PySem.W.Frag} {H : Hp} {z : Str} : ∀ {kvs : List (Key × V)} {ps : Rws}, DTup K H kvs ps → (∃ xs a, srcs ps z = some xs ∧ valV kvs (kS z) = some (.ref a) ∧ SqT K H a (xs.map .str)) ∨ (srcs ps z = none ∧ valV kvs (kS z) = none)
  | _, _, .nil => .inr ⟨rfl, rfl⟩
  | kv :: l1, p :: l2, .cons ⟨e, a, e2, q⟩ t => by
    by_cases h : p.1 = z
    · refine .inl ⟨p.2, a, ?_, ?_, q⟩
      · unfold srcs
        rw [List.find?_cons, decide_eq_true h]
        rfl
      · rw [valV_pos (by rw [e, h]), e2]
    · have ih := DTup.get (z := z) t
      have e3 : srcs (p :: l2) z = srcs l2 z := by
        unfold srcs
        rw [List.find?_cons, decide_eq_false h]
      have e4 := valV_neg (p := kv) (r := l1) (k := kS z) (by rw [e]; exact fun y => h (Sum.inr.inj y))
      rw [e3, e4]
      exact ih
theorem srcs_none {ps : Rws} {z : Str} : srcs ps z = none ↔ z ∉ ps.map Prod.fst := by
  unfold srcs
  rw [Option.map_eq_none_iff, List.find?_eq_none]
  constructor
  · rintro h m
    obtain ⟨p, hp, rfl⟩ := List.mem_map.mp m
    exact h p hp (decide_eq_true rfl)
  · intro h p hp e
    exact h (List.mem_map.mpr ⟨p, hp, of_decide_eq_true e⟩)
theorem srcs_at {ps : Rws} (nd : (ps.map Prod.fst).Nodup) {p : Str × List Str} (hp : p ∈ ps) : srcs ps p.1 = some p.2 := by
  induction ps with
  | nil => cases hp
  | cons q qs ih =>
    unfold srcs
    rw [List.find?_cons]
    rcases List.mem_cons.mp hp with rfl | hp
    · rw [decide_eq_true rfl]
      rfl
    · have nq : ¬ q.1 = p.1 := fun e => by
        have := (List.nodup_cons.mp nd).1
        rw [e] at this
        exact this (List.mem_map.mpr ⟨p, hp, rfl⟩)
      rw [decide_eq_false nq]
      exact ih (List.nodup_cons.mp nd).2 hp
/-- the fields of a web -/
def wFld (c s a t : Addr) : List (Str × V) := [("cells", .ref c), ("sources_of", .ref s), ("arrows", .ref a), ("targets_of", .ref t)]
def PairT (H : Hp) (v : V) (p : Str × Str) : Prop := ∃ q, v = .ref q ∧ H q = some (.tup [.str p.1, .str p.2])
/-- a web stands at p -/
structure WebAt (K : PySem.W.Frag) (H : Hp) (C p : Addr) (rs : Rws) (dx c s a t : Addr) (ks kt : List (Key × V)) (av : List V) : Prop where
  ob : H p = some (.ins C dx (wFld c s a t))
  hc : H c = some (.tup ((rs.map Prod.fst).map .str))
  hs : H s = some (.dK ks)
  ds : DTup K H ks rs
  ha : H a = some (.tup av)
  da : Paired (PairT H) av (arr rs)
  ht : H t = some (.dK kt)
  dt : DTup K H kt (rs.map fun r => (r.1, tgt rs r.1))
theorem WebAt.same {K : PySem.W.Frag} {H H' : Hp} {C p : Addr} {rs : Rws} {dx c s a t : Addr} {ks kt : List (Key × V)} {av : List V} (h : WebAt K H C p rs dx c s a t ks kt av) (e : Same H H') : WebAt K H' C p rs dx c s a t ks kt av :=
  ⟨e _ _ h.ob, e _ _ h.hc, e _ _ h.hs, h.ds.same e, e _ _ h.ha, Paired.imp (fun _ _ ⟨q, e1, e2⟩ => ⟨q, e1, e _ _ e2⟩) h.da, e _ _ h.ht, h.dt.same e⟩
def IsWeb (K : PySem.W.Frag) (H : Hp) (C p : Addr) (rs : Rws) : Prop := ∃ dx c s a t ks kt av, WebAt K H C p rs dx c s a t ks kt av
theorem IsWeb.same {K : PySem.W.Frag} {H H' : Hp} {C p : Addr} {rs : Rws} (h : IsWeb K H C p rs) (e : Same H H') : IsWeb K H' C p rs := let ⟨dx, c, s, a, t, ks, kt, av, w⟩ := h; ⟨dx, c, s, a, t, ks, kt, av, w.same e⟩
/-- rows of a web: different names, few, sources among them, each once -/
structure Good (rs : Rws) : Prop where
  nd : (rs.map Prod.fst).Nodup
  l1 : 1 ≤ rs.length
  ln : rs.length ≤ 900
  sr : ∀ r ∈ rs, r.2.length ≤ 900 ∧ r.2.Nodup ∧ ∀ s ∈ r.2, s ∈ rs.map Prod.fst
  nm : ∀ r ∈ rs, isNm r.1 = true
/-- what the head tells of the class Web -/
structure Wt (K : PySem.W.Frag) (mg : Str → Option Value) (C : Addr) : Prop where
  cl : Cls K C
  nc : NoAttr K C "cells"
  ns : NoAttr K C "sources_of"
  na : NoAttr K C "arrows"
  nt : NoAttr K C "targets_of"
  mg : mg "Web" = some (.ref C)
def spCW (K : PySem.W.Frag) (C : Addr) : Sp := fun vs H Q _ => ∃ (p : Addr) (z : Str) (dx : Addr) (fs : List (Str × V)) (c s : Addr) (ks : List (Key × V)) (rs : Rws), vs = [.ref p, .str z] ∧ H p = some (.ins C dx fs) ∧ fs.lookup ("cells" : Str) = some (.ref c) ∧ fs.lookup ("sources_of" : Str) = some (.ref s) ∧
  H c = some (.tup ((rs.map Prod.fst).map .str)) ∧ H s = some (.dK ks) ∧ DTup K H ks rs ∧ (rs.map Prod.fst).Nodup ∧ rs.length ≤ 900 ∧ ∀ (q : Addr) (H' : Hp), Same H H' → H q = none → H' q = some (.tup ((tgt rs z).map .str)) → Q (.ref q) H'
/-- in a comprehension: what is kept -/
theorem tgt_take {rs : Rws} {z : Str} {i : Nat} {r : Str × List Str} (h : rs[i]? = some r) : tgt (rs.take (i + 1)) z = tgt (rs.take i) z ++ (if z ∈ r.2 then [r.1] else []) := by
  unfold tgt
  rw [List.take_succ, h, List.filter_append, List.map_append]
  congr 1
  show (List.filter _ [r]).map _ = _
  by_cases m : z ∈ r.2
  · rw [if_pos m, List.filter_cons, if_pos (decide_eq_true m)]
    rfl
  · rw [if_neg m, List.filter_cons, if_neg (by simpa using m)]
    rfl
end WL
end L2
set_option Elab.async false
set_option linter.all false
set_option maxRecDepth 100000
set_option maxHeartbeats 4000000
namespace L2
namespace WL
open PySem PySem.Spec PyProof.Rows K1
/-! ### the pool, and what stands beside it -/
def hide (p : Addr) (H : Hp) : Hp := fun b => if b = p then none else H b
theorem hide_self {p : Addr} {H : Hp} : hide p H p = none := if_pos rfl
theorem hide_ne {p b : Addr} {H : Hp} (h : b ≠ p) : hide p H b = H b := if_neg h
theorem hide_some {p b : Addr} {H : Hp} {o : HO} (h : hide p H b = some o) : b ≠ p ∧ H b = some o := by
  unfold hide at h
  by_cases e : b = p
  · rw [if_pos e] at h
    cases h
  · rw [if_neg e] at h
    exact ⟨e, h⟩
theorem hide_le {p : Addr} {H : Hp} : Same (hide p H) H := fun b o e => (hide_some e).2
theorem hide_upd {p d : Addr} {H : Hp} {o : HO} (h : d ≠ p) : hide p (upd H d o) = upd (hide p H) d o := by
  funext b
  show (if b = p then none else upd H d o b) = upd (hide p H) d o b
  by_cases e : b = p
  · rw [if_pos e, upd_ne (fun z => h (z.symm.trans e))]
    exact (if_pos e).symm
  · rw [if_neg e]
    by_cases f : b = d
    · rw [f, upd_same, upd_same]
    · rw [upd_ne f, upd_ne f, hide_ne e]
theorem hide_updp {p : Addr} {H : Hp} {o : HO} : hide p (upd H p o) = hide p H := by
  funext b
  by_cases e : b = p
  · rw [e, hide_self, hide_self]
  · rw [hide_ne e, hide_ne e, upd_ne e]
theorem hide_same {p : Addr} {H H' : Hp} (s : Same H H') : Same (hide p H) (hide p H') := fun b o e => by
  obtain ⟨h1, h2⟩ := hide_some e
  rw [hide_ne h1]
  exact s _ _ h2
theorem hide_none {p b : Addr} {H : Hp} (h : H b = none) : hide p H b = none := by
  unfold hide
  by_cases e : b = p
  · rw [if_pos e]
  · rw [if_neg e]
    exact h
/-- a new object beside the pool -/
theorem hide_new {p d : Addr} {H : Hp} {o : HO} (hp : H p ≠ none) (h : H d = none) : d ≠ p ∧ Same (hide p H) (hide p (upd H d o)) ∧ hide p (upd H d o) d = some o := by
  have e : d ≠ p := fun z => hp (z ▸ h)
  refine ⟨e, ?_, ?_⟩
  · rw [hide_upd e]
    exact same_upd (hide_none h)
  · rw [hide_upd e]
    exact upd_same
/-- at p a pool, of which at most n turns are gone -/
def Pl (H : Hp) (p : Addr) (n : Nat) : Prop := ∃ a b c : Int, H p = some (.lst [.int a, .int b, .int c]) ∧ 0 ≤ a ∧ 0 ≤ b ∧ b < 1000000007 ∧ 0 ≤ c ∧ c ≤ (n : Nat)
theorem Pl.le {H : Hp} {p : Addr} {n m : Nat} (h : Pl H p n) (l : n ≤ m) : Pl H p m := by
  obtain ⟨a, b, c, h1, h2, h3, h4, h5, h6⟩ := h
  exact ⟨a, b, c, h1, h2, h3, h4, h5, by omega⟩
theorem Pl.ne {H : Hp} {p : Addr} {n : Nat} (h : Pl H p n) : H p ≠ none := by
  obtain ⟨a, b, c, h1, _⟩ := h
  rw [h1]
  exact fun z => nomatch z
theorem Pl.upd {H : Hp} {p d : Addr} {n : Nat} {o : HO} (h : Pl H p n) (hd : d ≠ p) : Pl (upd H d o) p n := by
  obtain ⟨a, b, c, h1, h2⟩ := h
  exact ⟨a, b, c, by rw [upd_ne (Ne.symm hd)]; exact h1, h2⟩
theorem Pl.new {H : Hp} {p d : Addr} {n : Nat} {o : HO} (h : Pl H p n) (hd : H d = none) : Pl (L2.upd H d o) p n := h.upd fun z => h.ne (z ▸ hd)
theorem Pl.same {H H' : Hp} {p : Addr} {n : Nat} (h : Pl H p n) (s : Same H H') : Pl H' p n := by
  obtain ⟨a, b, c, h1, h2⟩ := h
  exact ⟨a, b, c, s _ _ h1, h2⟩
def spCellL (K : PySem.W.Frag) : Sp := fun vs H Q _ => ∃ (l : Addr) (ns : List Int) (j : Nat), vs = [.ref l, .int (j : Nat)] ∧ SqL K H l (ns.map V.int) ∧ ∀ g : Int, Q (.int g) H
def spPoolL : Sp := fun vs H Q _ => ∃ g : Int, vs = [.int g] ∧ ∀ p o, H p = none → Pl (upd H p o) p 0 → Q (.ref p) (upd H p o)
def spTakeL : Sp := fun vs H Q _ => ∃ (p : Addr) (m : Int) (n : Nat), vs = [.ref p, .int m] ∧ 0 < m ∧ m < 1000000 ∧ Pl H p n ∧ n ≤ 900000000 ∧
  ∀ (r : Nat) H', (r : Int) < m → hide p H' = hide p H → Pl H' p (n + 1) → Q (.int (r : Nat)) H'
/-! ### lists mixed -/
def spMixed (K : PySem.W.Frag) : Sp := fun vs H Q _ => ∃ (p : Addr) (v : V) (xs : List V) (n : Nat), vs = [.ref p, v] ∧ Seq K (hide p H) v xs ∧ xs.length ≤ 1000 ∧ Pl H p n ∧ n ≤ 800000000 ∧
  ∀ (ys : List V) H' q, Same (hide p H) (hide p H') → Pl H' p (n + xs.length) → ys.Perm xs → hide p H q = none → hide p H' q = some (.lst ys) → Q (.ref q) H'
theorem cut_to {xs : List V} {i : Nat} (h : i ≤ xs.length) : cutV xs none (some (i : Int)) = xs.take i := by
  have e2 : HT.sIx xs.length xs.length (some (i : Int)) = i := by
    rw [HT.sIx_nat]
    omega
  unfold cutV
  rw [e2]
  show (xs.drop 0).take (i - 0) = _
  rw [List.drop_zero, Nat.sub_zero]
theorem cut_from {xs : List V} {i : Nat} (h : i ≤ xs.length) : cutV xs (some (i : Int)) none = xs.drop i := by
  have e2 : HT.sIx xs.length 0 (some (i : Int)) = i := by
    rw [HT.sIx_nat]
    omega
  unfold cutV
  rw [e2]
  show (xs.drop i).take (xs.length - i) = _
  rw [← List.length_drop, List.take_length]
theorem cut_ix {xs : List V} {i : Nat} {x : V} (h : xs[i]? = some x) : (xs.take i ++ xs.drop (i + 1)).length + 1 = xs.length ∧ (x :: (xs.take i ++ xs.drop (i + 1))).Perm xs := by
  have lt : i < xs.length := (List.getElem?_eq_some_iff.mp h).1
  have e : xs = xs.take i ++ x :: xs.drop (i + 1) := by
    conv => lhs; rw [← List.take_append_drop i xs, List.drop_eq_getElem_cons lt]
    rw [List.getElem?_eq_getElem lt] at h
    rw [Option.some.inj h]
  refine ⟨?_, ?_⟩
  · conv => rhs; rw [e]
    simp
    omega
  · conv => rhs; rw [e]
    exact List.perm_middle.symm
end WL
end L2
namespace L2
namespace WL
open PySem PySem.Spec PyProof.Rows K1
open TL
/-! ### names drawn -/
def lawNm (z : Str) : Prop := isNm z = true ∧ (z.length = 3 ∨ ∀ c ∈ z.cps.toList, c ≤ 121)
theorem pig {α : Type} [DecidableEq α] : ∀ {S F : List α}, S.Nodup → (∀ x ∈ S, x ∈ F) → S.length ≤ F.length
  | [], _, _, _ => Nat.zero_le _
  | x :: S, F, nd, h => by
    obtain ⟨n1, n2⟩ := List.nodup_cons.mp nd
    have m := h x (List.mem_cons_self ..)
    have := pig (S := S) (F := F.erase x) n2 fun y hy => (List.mem_erase_of_ne (fun (e : y = x) => n1 (e ▸ hy))).mpr (h y (List.mem_cons_of_mem _ hy))
    rw [List.length_erase_of_mem m] at this
    have p : 0 < F.length := List.length_pos_of_mem m
    rw [List.length_cons]
    omega
theorem joinL_nil : ∀ l : List (List Nat), joinL [] l = l.flatten
  | [] => rfl
  | [p] => by simp [joinL]
  | p :: q :: r => by
    show p ++ ([] ++ joinL [] (q :: r)) = p ++ (q :: r).flatten
    rw [joinL_nil (q :: r)]
    rfl
theorem join_signs (cs : List Nat) : (Txt.join ("" : Str) (cs.map fun c => (⟨#[c]⟩ : Str))).cps.toList = cs := by
  have e : tl (Txt.join ("" : Str) (cs.map fun c => (⟨#[c]⟩ : Str))) = (cs.map fun c => [c]).flatten := by
    rw [join_eq, tl_join, List.map_map]
    show joinL [] _ = _
    rw [joinL_nil]
    rfl
  have f : (cs.map fun c => [c]).flatten = cs := by
    induction cs with
    | nil => rfl
    | cons c cs ih =>
      rw [List.map_cons, List.flatten_cons, ih]
      · rfl
      · rw [join_eq, tl_join, List.map_map]
        show joinL [] _ = _
        rw [joinL_nil]
        rfl
  rw [f] at e
  exact e
def abc25 : Str := "abcdefghijklmnopqrstuvwxy"
theorem abc25_at {r : Nat} (h : r < 25) : atI abc25.cps.toList (r : Int) = some (97 + r) := by
  refine atI_nat ?_
  have e : abc25.cps.toList = (List.range 25).map (97 + ·) := by decide +kernel
  rw [e, List.getElem?_map, List.getElem?_range h]
  rfl
def abc16 : Str := "abcdefghijklmnop"
/-- the spare names -/
def spare (c : Nat) : Str := ("z" : Str) ++ (⟨#[c]⟩ : Str) ++ ("q" : Str)
theorem spare_cps (c : Nat) : (spare c).cps.toList = [122, c, 113] := rfl
def spares : List Str := abc16.cps.toList.map spare
theorem spare_nm : ∀ z ∈ spares, lawNm z := by
  intro z hz
  obtain ⟨c, hc, rfl⟩ := List.mem_map.mp hz
  have e : abc16.cps.toList = (List.range 16).map (97 + ·) := by decide +kernel
  rw [e] at hc
  obtain ⟨k, hk, rfl⟩ := List.mem_map.mp hc
  have hk' := List.mem_range.mp hk
  refine ⟨?_, .inl rfl⟩
  unfold isNm
  rw [spare_cps]
  show (true && (true && (okc 122 && (okc (97 + k) && (okc 113 && true))))) = true
  have o : okc (97 + k) = true := by
    unfold okc
    rw [decide_eq_true (by omega), decide_eq_true (by omega)]
    rfl
  rw [o]
  rfl
theorem spares_nodup : spares.Nodup := by decide +kernel
theorem spares_len : spares.length = 16 := by decide +kernel
theorem len_toList (z : Str) : z.length = z.cps.toList.length := by simp [Str.length]
theorem nm_of {z : Str} {cs : List Nat} (e : z.cps.toList = cs) (h1 : 1 ≤ cs.length) (h8 : cs.length ≤ 8) (hc : ∀ c ∈ cs, 97 ≤ c ∧ c ≤ 121) : lawNm z := by
  subst e
  refine ⟨?_, .inr fun c m => (hc c m).2⟩
  unfold isNm
  rw [len_toList, decide_eq_true h1, decide_eq_true h8]
  show z.cps.toList.all okc = true
  rw [List.all_eq_true]
  intro c m
  unfold okc
  have := hc c m
  rw [decide_eq_true this.1, decide_eq_true (by omega)]
  rfl
def spNames (K : PySem.W.Frag) : Sp := fun vs H Q _ => ∃ (p : Addr) (m n : Nat), vs = [.ref p, .int (m : Nat)] ∧ 1 ≤ m ∧ m ≤ 12 ∧ Pl H p n ∧ n ≤ 800000000 ∧
  ∀ (zs : List Str) H' q, Same (hide p H) (hide p H') → Pl H' p (n + 9 * m) → zs.length = m → zs.Nodup → (∀ z ∈ zs, lawNm z) → hide p H q = none → hide p H' q = some (.lst (zs.map .str)) → Q (.ref q) H'
/-- the first of the candidates that is not among the found ones -/
theorem first_free {name : Str} {found : List Str} (h : found.length < 16) (hn : lawNm name) : ∃ z rest, (name :: spares).filter (fun z => decide (z ∉ found)) = z :: rest ∧ z ∉ found ∧ lawNm z := by
  cases e : (name :: spares).filter (fun z => decide (z ∉ found)) with
  | nil =>
    exfalso
    have all : ∀ x ∈ spares, x ∈ found := fun x hx => by
      have := List.filter_eq_nil_iff.mp e x (List.mem_cons_of_mem _ hx)
      simpa using this
    have := pig spares_nodup all
    rw [spares_len] at this
    omega
  | cons z rest =>
    have m : z ∈ (name :: spares).filter (fun z => decide (z ∉ found)) := by
      rw [e]
      exact List.mem_cons_self ..
    obtain ⟨m1, m2⟩ := List.mem_filter.mp m
    refine ⟨z, rest, rfl, of_decide_eq_true m2, ?_⟩
    rcases List.mem_cons.mp m1 with rfl | m1
    · exact hn
    · exact spare_nm z m1
end WL
end L2
namespace L2
namespace WL
open PySem PySem.Spec PyProof.Rows K1
theorem iteP {c : Bool} {A B : Prop} (h : c = true) (a : A) : if c = true then A else B := by
  rw [if_pos h]
  exact a
theorem size_at {r : Nat} (h : r < 5) : ∃ sz : Nat, ([.int 1, .int 1, .int 2, .int 3, .int 8] : List V)[r]? = some (.int (sz : Nat)) ∧ 1 ≤ sz ∧ sz ≤ 8 := by
  have c : r = 0 ∨ r = 1 ∨ r = 2 ∨ r = 3 ∨ r = 4 := by omega
  rcases c with rfl | rfl | rfl | rfl | rfl
  · exact ⟨1, rfl, by omega, by omega⟩
  · exact ⟨1, rfl, by omega, by omega⟩
  · exact ⟨2, rfl, by omega, by omega⟩
  · exact ⟨3, rfl, by omega, by omega⟩
  · exact ⟨8, rfl, by omega, by omega⟩
theorem sum_ones : ∀ cs : List Nat, (cs.map fun _ => 1).sum = cs.length
  | [] => rfl
  | c :: cs => by
    rw [List.map_cons, List.sum_cons, sum_ones cs, List.length_cons, Nat.add_comm]
end WL
end L2
namespace L2
namespace WL
open PySem PySem.Spec PyProof.Rows K1
theorem strsOf_map (xs : List Str) : strsOf (xs.map .str) = xs := by
  induction xs with
  | nil => rfl
  | cons x xs ih =>
    show x :: strsOf (xs.map .str) = x :: xs
    rw [ih]
theorem map_strsOf : ∀ {ys : List V}, (∀ y ∈ ys, ∃ z, y = .str z) → ys = (strsOf ys).map .str
  | [], _ => rfl
  | y :: ys, h => by
    obtain ⟨z, rfl⟩ := h y (List.mem_cons_self ..)
    show V.str z :: ys = V.str z :: (strsOf ys).map .str
    rw [← map_strsOf fun y hy => h y (List.mem_cons_of_mem _ hy)]
theorem perm_strs {ys : List V} {xs : List Str} (h : ys.Perm (xs.map .str)) : ∃ zs : List Str, ys = zs.map .str ∧ zs.Perm xs := by
  refine ⟨strsOf ys, map_strsOf fun y hy => ?_, ?_⟩
  · obtain ⟨z, _, e⟩ := List.mem_map.mp (h.mem_iff.mp hy)
    exact ⟨z, e.symm⟩
  · have := h.filterMap (fun x => match x with
      | .str z => some z
      | _ => none)
    have e : strsOf (xs.map .str) = xs := strsOf_map xs
    show (strsOf ys).Perm xs
    conv => rhs; rw [← e]
    exact this
/-- rows as the law draws them -/
structure LawRows (most many : Nat) (rs : Rws) : Prop where
  nd : (rs.map Prod.fst).Nodup
  l1 : 1 ≤ rs.length
  lm : rs.length ≤ most
  nm : ∀ r ∈ rs, lawNm r.1
  sr : ∀ r ∈ rs, r.2.Nodup ∧ r.2.length ≤ many ∧ r.2.length ≤ rs.length ∧ ∀ s ∈ r.2, s ∈ rs.map Prod.fst
/-- a row: a tuple of a name and a list -/
def RowT (H : Hp) (v : V) (r : Str × List Str) : Prop := ∃ t l, v = .ref t ∧ H t = some (.tup [.str r.1, .ref l]) ∧ H l = some (.lst (r.2.map .str))
theorem RowT.same {H H' : Hp} {v : V} {r : Str × List Str} (h : RowT H v r) (s : Same H H') : RowT H' v r := let ⟨t, l, e, a, b⟩ := h; ⟨t, l, e, s _ _ a, s _ _ b⟩
def RowsAt (H : Hp) (q : Addr) (rs : Rws) : Prop := ∃ vs, H q = some (.lst vs) ∧ Paired (RowT H) vs rs
theorem RowsAt.same {H H' : Hp} {q : Addr} {rs : Rws} (h : RowsAt H q rs) (s : Same H H') : RowsAt H' q rs := let ⟨vs, e, a⟩ := h; ⟨vs, s _ _ e, Paired.imp (fun _ _ r => r.same s) a⟩
def spWeb (K : PySem.W.Frag) : Sp := fun vs H Q _ => ∃ (p : Addr) (most many n : Nat), vs = [.ref p, .int (most : Nat), .int (many : Nat)] ∧ 1 ≤ most ∧ most ≤ 12 ∧ many ≤ 12 ∧ Pl H p n ∧ n ≤ 700000000 ∧
  ∀ (rs : Rws) H' q, Same (hide p H) (hide p H') → Pl H' p (n + 300) → LawRows most many rs → hide p H q = none → RowsAt (hide p H') q rs → Q (.ref q) H'
end WL
end L2
set_option Elab.async false
set_option linter.all false
set_option maxRecDepth 100000
set_option maxHeartbeats 4000000
namespace L2
namespace WL
open PySem PySem.Spec PyProof.Rows K1
/-! ### names, by the methods of texts -/
theorem asc_ok : ∀ c, c < 128 → (Unicode.isAlpha c && !(Unicode.isUpper c || Unicode.isTitle c)) = okc c ∧ (okc c = true → Unicode.isLower c = true) := by decide +kernel
theorem okc_asc {c : Nat} (h : okc c = true) : c < 128 := by
  unfold okc at h
  simp at h
  omega
theorem nm_l (l : List Nat) : (l.all (· < 128) && ((decide (l.length > 0) && l.all Unicode.isAlpha) && (l.any Unicode.isLower && !l.any fun c => Unicode.isUpper c || Unicode.isTitle c))) = (decide (1 ≤ l.length) && l.all okc) := by
  rw [Bool.eq_iff_iff]
  constructor
  · intro h
    simp only [Bool.and_eq_true, List.all_eq_true, decide_eq_true_eq, Bool.not_eq_true', List.any_eq_false] at h ⊢
    obtain ⟨h1, ⟨h2, h3⟩, h4, h5⟩ := h
    refine ⟨h2, fun c m => ?_⟩
    rw [← (asc_ok c (h1 c m)).1, h3 c m]
    have := h5 c m
    cases e : (Unicode.isUpper c || Unicode.isTitle c)
    · rfl
    · exact absurd e this
  · intro h
    simp only [Bool.and_eq_true, List.all_eq_true, decide_eq_true_eq, Bool.not_eq_true', List.any_eq_false, List.any_eq_true] at h ⊢
    obtain ⟨h1, h2⟩ := h
    have k : ∀ c ∈ l, (Unicode.isAlpha c && !(Unicode.isUpper c || Unicode.isTitle c)) = true := fun c m => by
      rw [(asc_ok c (okc_asc (h2 c m))).1]
      exact h2 c m
    refine ⟨fun c m => okc_asc (h2 c m), ⟨h1, fun c m => (Bool.and_eq_true_iff.mp (k c m)).1⟩, ?_, fun c m z => ?_⟩
    · cases l with
      | nil => exact absurd h1 (by simp)
      | cons c cs => exact ⟨c, List.mem_cons_self .., (asc_ok c (okc_asc (h2 c (List.mem_cons_self ..)))).2 (h2 c (List.mem_cons_self ..))⟩
    · have := (Bool.and_eq_true_iff.mp (k c m)).2
      rw [z] at this
      cases this
theorem nm_txt (z : Str) : (Txt.isascii z && (Txt.isalpha z && Txt.islower z)) = (decide (1 ≤ z.length) && z.cps.toList.all okc) := by
  have e := nm_l z.cps.toList
  have zl : z.length = z.cps.toList.length := by simp [Str.length]
  rw [zl, ← e]
  unfold Txt.isascii Txt.isalpha Txt.islower
  rw [zl]
  simp only [Array.all_toList, Array.any_toList]
theorem isNm_txt (z : Str) : isNm z = (decide (z.length ≤ 8) && (Txt.isascii z && (Txt.isalpha z && Txt.islower z))) := by
  rw [nm_txt]
  unfold isNm
  cases decide (1 ≤ z.length) <;> cases decide (z.length ≤ 8) <;> rfl
end WL
end L2
set_option Elab.async false
set_option linter.all false
set_option maxRecDepth 100000
set_option maxHeartbeats 4000000
namespace L2
namespace WL
open PySem PySem.Spec PyProof.Rows K1
/-! ### several except clauses, with names or without -/
abbrev Clz : Type := Value × Option Nat × (Addr → Value → Option Addr → TS)
def endsAt : Option Nat → Ends → Ends
  | none, D => D
  | some i, D => { nx := fun σ H => D.nx (σ.set i none) H, rt := D.rt, bk := fun σ H => D.bk (σ.set i none) H, ct := fun σ H => D.ct (σ.set i none) H }
def setAt : Option Nat → Addr → St → St
  | none, _, σ => σ
  | some i, a, σ => σ.set i (some (.ref a))
def wAll (K : PySem.W.Frag) (Wo : WX) (D : Ends) : List Clz → WX
  | [] => Wo
  | z :: r => fun cls d σ H => ∃ b, PySem.W.exmOne K cls z.1 = some b ∧ (b = true → ∀ a, H a = none → z.2.2 a cls d (endsAt z.2.1 D) (setAt z.2.1 a σ) H) ∧ (b = false → wAll K Wo D r cls d σ H)
inductive HdsA (X : Cx) : List ExceptHandler → List Clz → Prop
  | nil : HdsA X [] []
  | plain {x : Str} {c : Value} {ts : Addr → Value → Option Addr → TS} {b0 : Stmt} {bs : List Stmt} {np q : Pos} {hs : List ExceptHandler} {l : List Clz} (hc : Names X x c)
      (hsu : ∀ (a : Addr) (oe : Obj) (cls : Value) (d : Option Addr) (pn : List (Addr × Obj)), Zc cls d oe → (∃ vs, oe.data = .fields vs) → PSs (X.suite a ((a, oe) :: pn)) (b0 :: bs) (ts a cls d)) (r : HdsA X hs l) :
      HdsA X (.ExceptHandler (some (.Name x np)) none (b0 :: bs) q :: hs) ((c, none, ts) :: l)
  | named {x n : Str} {i : Nat} {c : Value} {ts : Addr → Value → Option Addr → TS} {b0 : Stmt} {bs : List Stmt} {np q : Pos} {hs : List ExceptHandler} {l : List Clz} (hc : Names X x c) (hN : X.N.Nodup) (hi : X.N[i]? = some n) (hln : X.env.kindOf n = some .local)
      (hsu : ∀ (a : Addr) (oe : Obj) (cls : Value) (d : Option Addr) (pn : List (Addr × Obj)), Zc cls d oe → (∃ vs, oe.data = .fields vs) → PSs (X.suite a ((a, oe) :: pn)) (b0 :: bs) (ts a cls d)) (r : HdsA X hs l) :
      HdsA X (.ExceptHandler (some (.Name x np)) (some n) (b0 :: bs) q :: hs) ((c, some i, ts) :: l)
section
variable {X : Cx} {body : List Stmt} {h0 : ExceptHandler} {hs : List ExceptHandler} {l : List Clz} {pos : Pos} {tb : WX → TS} {Wo : WX}
/-- the clauses, one behind another, of an exception that has landed -/
theorem clauses {pins : List (Addr × Obj)} {D : Ends} {B : Heap} {a : Addr} {s' : Shared} {σ : St} {H : Hp} {cls : Value} {d : Option Addr} (hst : X.stack = X.env :: X.outer) (hf : X.env.frame = some X.env.locals) (tk : Takes X Wo) (ok : X.Ok)
    (na : H a = none) (land : ∀ {h : Heap}, HandSPX.FlyingZ B (X.env :: X.outer) a (Zc cls d) h → s'.heap.UpToSlots h → Inv X pins σ H { s' with heap := h })
    (off : a ≠ X.env.locals ∧ a ∉ X.fs) (leave : ∀ {h4 : Heap}, HandSPX.HeldZ B (X.env :: X.outer) a (Zc cls d) X.env.locals h4 → s'.heap.UpToSlots h4 → Wo cls d σ H → X.xe (.ref a) { s' with heap := h4 }) {h3 : Heap} (fl3 : HandSPX.FlyingZ B (X.env :: X.outer) a (Zc cls d) h3) (up3 : s'.heap.UpToSlots h3) :
    ∀ {hs : List ExceptHandler} {l : List Clz}, HdsA X hs l → wAll X.K Wo D l cls d σ H → wpAny (model X.prog X.w) X.A (handleBy (.ref a) X.env hs) (SP X pins D) X.xe { s' with heap := h3 } := by
  have J3 := land fl3 up3
  obtain ⟨oe, vs, he, hz, hd⟩ := fl3.there
  have S3 := J3.suite he hd na off.1 off.2
  have ty : PySem.W.Looks (model X.prog X.w) h3 (typeOf (.ref a)) cls := fun A Q E s k q => wpAny_typeOf_ref (k _ _ he) (by rw [hz.1]; exact q)
  have asks : ∀ {x : Str} {c : Value} {np : Pos}, Names X x c → ∀ {Q E : Value → Shared → Prop}, Q c { s' with heap := h3 } → wpAny (model X.prog X.w) (X.A.mark (some (.ref a))) (eval (.Name x np) X.env) Q E { s' with heap := h3 } := by
    intro x c np hc Q E q
    unfold Names at hc
    rcases hc with ⟨g1, g2, g | ⟨g, g3, g4⟩⟩
    · exact ld_glob (X := X.suite a ((a, oe) :: (X.pn ++ pins))) S3 g1 g q g2
    · exact ld_blt (X := X.suite a ((a, oe) :: (X.pn ++ pins))) S3 g1 g g3 q g4 g2
  have again : ∀ {h4 : Heap}, HandSPX.FlyingZ B (X.env :: X.outer) a (Zc cls d) h4 → h3.UpToSlots h4 → ∃ oe4, Zc cls d oe4 ∧ (∃ vs, oe4.data = .fields vs) ∧ Inv (X.suite a ((a, oe4) :: (X.pn ++ pins))) [] σ H { s' with heap := h4 } := fun fl4 up4 => by
    obtain ⟨oe4, vs4, e4, z4, d4⟩ := fl4.there
    exact ⟨oe4, z4, ⟨_, d4⟩, (land fl4 (up3.trans up4)).suite e4 d4 na off.1 off.2⟩
  intro hs l hk
  induction hk with
  | nil =>
    intro w
    refine wpAny_handleBy_nil ?_
    obtain ⟨_, _, _, oe2, vs2, T, oT, ts, e2, _, d2, h1, _⟩ := id fl3
    unfold PySem.passOn
    refine wpAny_bind (wpAny_field e2 d2 h1 ?_)
    rw [if_neg (show ¬ ((Value.ref T == Value.none) = true) from by simp)]
    have out : wpAny (model X.prog X.w) X.A (setFlight (.ref a) X.env.frame) (fun _ s4 => wpAny (model X.prog X.w) X.A (throw (.ref a) : Sem Flow) (SP X pins D) X.xe s4) X.xe { s' with heap := h3 } := by
      rw [hf]
      exact HandSPX.setFlight_upZ fl3 fun h4 hh up4 => wpAny_throw (leave hh (up3.trans up4) w)
    first
      | exact wpAny_bind (wpAny_pure (wpAny_bind out))
      | exact wpAny_bind out
  | @plain x c ts b0 bs np q hs l hc hsu r ih =>
    rintro ⟨b, hb, yes, no⟩
    refine wpAny_handleBy_cons (codeAny_handlers_test ?_) (by intro q; cases q)
    refine asks hc ((PySem.W.exm_one (M := model X.prog X.w) J3.kIn ty hb).here ?_)
    cases b with
    | false => exact ih (no rfl)
    | true =>
      refine codeAny_handlers_suite (HandSPX.lands_againZ fl3 fun h4 fl4 up4 => ?_)
      obtain ⟨oe4, z4, d4, S4⟩ := again fl4 up4
      refine wpAny_mono ((hsu a oe4 cls d (X.pn ++ pins) z4 d4).run [] _ _ H _ S4 (yes rfl a na)) (fun f s6 hsp => ?_) (fun _ _ z => False.elim z)
      cases f with
      | ret u =>
        obtain ⟨v, σ6, H6, S6, r6, q6⟩ := hsp
        exact ⟨_, _, _, S6.unsuite ok, r6, q6⟩
      | _ =>
        obtain ⟨σ6, H6, S6, q6⟩ := hsp
        exact ⟨_, _, S6.unsuite ok, q6⟩
  | @named x n i c ts b0 bs np q hs l hc hN hi hln hsu r ih =>
    rintro ⟨b, hb, yes, no⟩
    refine wpAny_handleBy_cons (codeAny_handlers_test ?_) (by intro q; cases q)
    refine asks hc ((PySem.W.exm_one (M := model X.prog X.w) J3.kIn ty hb).here ?_)
    cases b with
    | false => exact ih (no rfl)
    | true =>
      refine codeAny_handlers_suite_as (HandSPX.lands_againZ fl3 fun h4 fl4 up4 => ?_)
      obtain ⟨oe4, z4, d4, S4⟩ := again fl4 up4
      refine store_ok (X := X.suite a ((a, oe4) :: (X.pn ++ pins))) (v := .ref a) S4 hN hi (.inl hln) rfl (fun s5 S5 => ?_) (.inr hln)
      refine wpAny_mono ((hsu a oe4 cls d (X.pn ++ pins) z4 d4).run [] s5 _ H _ S5 (yes rfl a na)) (fun f s6 hsp => ?_) (fun _ _ z => False.elim z)
      have fin : ∀ {σ6 : St} {H6 : Hp} {Q : Shared → Prop}, Inv (X.suite a ((a, oe4) :: (X.pn ++ pins))) [] σ6 H6 s6 → (∀ s7, Inv X pins (σ6.set i none) H6 s7 → Q s7) →
          wpAny (model X.prog X.w) X.A (do bindName X.env n .none; unbindBehindTheSuite X.env n q) (fun _ s7 => Q s7) X.xe s6 := fun S6 hq => gone_ok (S6.unsuite ok) hN hi hln hq
      cases f with
      | ret u =>
        obtain ⟨v, σ6, H6, S6, r6, q6⟩ := hsp
        exact fin S6 fun s7 J7 => ⟨_, _, _, J7, r6, q6⟩
      | next =>
        obtain ⟨σ6, H6, S6, q6⟩ := hsp
        exact fin S6 fun s7 J7 => ⟨_, _, J7, q6⟩
      | brk =>
        obtain ⟨σ6, H6, S6, q6⟩ := hsp
        exact fin S6 fun s7 J7 => ⟨_, _, J7, q6⟩
      | cont =>
        obtain ⟨σ6, H6, S6, q6⟩ := hsp
        exact fin S6 fun s7 J7 => ⟨_, _, J7, q6⟩
theorem ps_try_all (hst : X.stack = X.env :: X.outer) (hf : X.env.frame = some X.env.locals) (tk : Takes X Wo)
    (hb : ∀ (W : WX) (pn : List (Addr × Obj)) (xe : Value → Shared → Prop), Takes (X.tr pn xe) W → PassesOwn (model X.prog X.w) X.A X.env xe → PSs (X.tr pn xe) body (tb W)) (hh : HdsA X (h0 :: hs) l) : PS X (.Try body (h0 :: hs) [] [] pos) (fun D σ H => tb (wAll X.K Wo D l) D σ H) := by
  refine ⟨fun pins s σ H D I h => ?_⟩
  have ok := I.ok
  have hfr : X.A.frames = some (X.env :: X.outer) := by rw [ok.frames, hst]
  refine wpAny_Try_except ?_
  refine wpAny_mono ((hb (wAll X.K Wo D l) (X.pn ++ pins) (fun e s1 => wpAny (model X.prog X.w) X.A (noteFrame e X.env) (fun _ s2 => wpAny (model X.prog X.w) X.A (setFlight e none) (fun _ s3 =>
    wpAny (model X.prog X.w) X.A (handleBy e X.env (h0 :: hs)) (SP X pins D) X.xe s3) X.xe s2) X.xe s1) (fun u s' xx => ?_) PassesOwn.looking).run [] s σ H D (I.toTry _) h) (fun f s1 hsp => ?_) (fun e s1 he => he)
  · obtain ⟨a, B, sI, pins', σ', H', cls, d, rfl, J', nb, up, sky, na, os, ag, w⟩ := xx
    have J : Inv X pins σ' H' sI := J'.ofTry ok
    have sky' : Sky B (X.env :: X.outer) a (Zc cls d) X.env.locals s'.heap := by rw [← hst]; exact sky
    show wpAny (model X.prog X.w) X.A (noteFrame (.ref a) X.env) _ _ _
    refine Sky.land Zc.steady hfr hf sky' fun h3 fl3 up3 => ?_
    have off : a ∉ frs (X.env :: X.outer) := fun hm => by
      obtain ⟨oe, vs, e, _, dd⟩ := fl3.there
      obtain ⟨_, o', e', hnf⟩ := fl3.2.2.1.mem hm
      rw [e] at e'
      cases e'
      exact hnf _ dd
    refine clauses hst hf tk ok na (fun {h} fl up2 => J.landed nb fl.1 (up.trans up2) os ag) ⟨fun z => off (List.mem_filterMap.mpr ⟨X.env, List.mem_cons_self, by rw [hf, z]⟩), fun hm => ?_⟩ (fun {h4} hh up4 wo => ?_) fl3 up3 hh w
    · obtain ⟨e, he, q⟩ := List.mem_filterMap.mp hm
      exact off (List.mem_filterMap.mpr ⟨e, List.mem_cons_of_mem _ he, q⟩)
    · exact tk _ _ ⟨a, B, sI, pins, σ', H', cls, d, rfl, J, nb, up.trans up4, .inr (.inr (by rw [hst]; exact hh)), na, os, ag, wo⟩
  · cases f with
    | ret u =>
      obtain ⟨v, σ', H', J', r, q⟩ := hsp
      exact ⟨v, σ', H', J'.ofTry ok, r, q⟩
    | next =>
      obtain ⟨σ', H', J', q⟩ := hsp
      exact wpAny_execs_nil ⟨σ', H', J'.ofTry ok, q⟩
    | brk =>
      obtain ⟨σ', H', J', q⟩ := hsp
      exact ⟨σ', H', J'.ofTry ok, q⟩
    | cont =>
      obtain ⟨σ', H', J', q⟩ := hsp
      exact ⟨σ', H', J'.ofTry ok, q⟩
end
end WL
end L2
set_option Elab.async false
set_option linter.all false
set_option maxRecDepth 100000
set_option maxHeartbeats 4000000
namespace L2
namespace WL
open PySem PySem.Spec PyProof.Rows K1
section
variable {J : It} {n : Nat} {G : Hp → Prop} {Y : Nat → Hp → V → Hp → Prop}
/-- a dict comprehension over any walk -/
theorem dc_it (w : Walk J n G Y) {g : TG} {tt : TT} {tk tv : TE} {vs : List Nat} {σ : St} {H1 : Hp} {D : Addr} {Qd : Hp → Prop} (Pv : Nat → Hp → Prop) (h0 : Pv 0 (upd H1 D (.dK []))) (hG : ∀ i H, i ≤ n → Pv i H → G H)
    (hs : ∀ i x H H', i < n → Pv i H → Y i H x H' → g x (wipe σ vs) H' fun σ2 H2 => wipe σ2 vs = wipe σ vs ∧ tt σ2 H2 fun b H3 =>
      if b = true then tk σ2 H3 fun y H4 => tv σ2 H4 fun z H5 => ∃ kvs k, y = kV k ∧ H5 D = some (.dK kvs) ∧ kvs.length < sizeLine ∧ Pv (i + 1) (upd H5 D (.dK (putK kvs k z))) else Pv (i + 1) H3) (hd : ∀ H, Pv n H → Qd H) :
    ∃ W : Nat → Nat → Hp → Prop, (∃ m, W 0 m (upd H1 D (.dK []))) ∧ ∀ i m H, W i m H →
      (J.stop i H ∧ Qd H) ∨ (J.go i H ∧ ∃ Nx : Hp → Prop, (∀ H', Nx H' → ∃ m', m' < m ∧ W (i + 1) m' H') ∧ ∀ x H', J.yld i H x H' → g x (wipe σ vs) H' fun σ2 H2 => wipe σ2 vs = wipe σ vs ∧ tt σ2 H2 fun b H3 =>
        if b = true then tk σ2 H3 fun y H4 => tv σ2 H4 fun z H5 => ∃ kvs k, y = kV k ∧ H5 D = some (.dK kvs) ∧ kvs.length < sizeLine ∧ Nx (upd H5 D (.dK (putK kvs k z))) else Nx H3) := by
  refine ⟨fun i m H => m = n - i ∧ i ≤ n ∧ Pv i H, ⟨n, by simp, Nat.zero_le _, h0⟩, ?_⟩
  rintro i m H ⟨rfl, hi, p⟩
  have q := hG i H hi p
  by_cases hlt : i < n
  · refine .inr ⟨w.goes i H hlt q, Pv (i + 1), fun H' p' => ⟨n - (i + 1), by omega, rfl, hlt, p'⟩, fun x H' y => hs i x H H' hlt p (w.yields i H x H' hlt q y)⟩
  · have e : i = n := by omega
    subst e
    exact .inl ⟨w.stops H q, hd H p⟩
end
section
variable {J J1 : It} {n n1 : Nat} {G G1 : Hp → Prop} {Y Y1 : Nat → Hp → V → Hp → Prop}
/-- a comprehension of two walks: the inner one -/
theorem lc2_in (w : Walk J1 n1 G1 Y1) {g1 : TG} {tt1 : TT} {te : TE} {vs1 : List Nat} {σ2 : St} {H4 : Hp} {D : Addr} {Nx : Hp → Prop} (Pv : Nat → Hp → Prop) (h0 : Pv 0 H4) (hG : ∀ i H, i ≤ n1 → Pv i H → G1 H)
    (hs : ∀ i x H H', i < n1 → Pv i H → Y1 i H x H' → g1 x (wipe σ2 vs1) H' fun σ3 H5 => wipe σ3 vs1 = wipe σ2 vs1 ∧ tt1 σ3 H5 fun b H6 =>
      if b = true then te σ3 H6 fun y H7 => ∃ acc, H7 D = some (.lst acc) ∧ acc.length < sizeLine ∧ Pv (i + 1) (upd H7 D (.lst (acc ++ [y]))) else Pv (i + 1) H6) (hd : ∀ H, Pv n1 H → Nx H) :
    ∃ W1 : Nat → Nat → Hp → Prop, (∃ m, W1 0 m H4) ∧ ∀ j k H, W1 j k H →
      (J1.stop j H ∧ Nx H) ∨ (J1.go j H ∧ ∃ Nx1 : Hp → Prop, (∀ H', Nx1 H' → ∃ k', k' < k ∧ W1 (j + 1) k' H') ∧ ∀ x H', J1.yld j H x H' → g1 x (wipe σ2 vs1) H' fun σ3 H5 => wipe σ3 vs1 = wipe σ2 vs1 ∧ tt1 σ3 H5 fun b H6 =>
        if b = true then te σ3 H6 fun y H7 => ∃ acc, H7 D = some (.lst acc) ∧ acc.length < sizeLine ∧ Nx1 (upd H7 D (.lst (acc ++ [y]))) else Nx1 H6) := by
  refine ⟨fun i m H => m = n1 - i ∧ i ≤ n1 ∧ Pv i H, ⟨n1, by simp, Nat.zero_le _, h0⟩, ?_⟩
  rintro i m H ⟨rfl, hi, p⟩
  have q := hG i H hi p
  by_cases hlt : i < n1
  · refine .inr ⟨w.goes i H hlt q, Pv (i + 1), fun H' p' => ⟨n1 - (i + 1), by omega, rfl, hlt, p'⟩, fun x H' y => hs i x H H' hlt p (w.yields i H x H' hlt q y)⟩
  · have e : i = n1 := by omega
    subst e
    exact .inl ⟨w.stops H q, hd H p⟩
/-- .. the outer one -/
theorem lc2_it (w : Walk J n G Y) {g : TG} {tt : TT} {wi1 : TI} {g1 : TG} {tt1 : TT} {te : TE} {vs vs1 : List Nat} {σ : St} {H1 : Hp} {D : Addr} {Qd : Hp → Prop} (Pv : Nat → Hp → Prop) (h0 : Pv 0 (upd H1 D (.lst []))) (hG : ∀ i H, i ≤ n → Pv i H → G H)
    (hs : ∀ i x H H', i < n → Pv i H → Y i H x H' → g x (wipe σ vs) H' fun σ2 H2 => wipe σ2 vs = wipe σ vs ∧ tt σ2 H2 fun b H3 =>
      if b = true then wi1 σ2 H3 fun J1 H4 => ∃ W1 : Nat → Nat → Hp → Prop, (∃ m, W1 0 m H4) ∧ ∀ j k H, W1 j k H →
        (J1.stop j H ∧ Pv (i + 1) H) ∨ (J1.go j H ∧ ∃ Nx1 : Hp → Prop, (∀ H', Nx1 H' → ∃ k', k' < k ∧ W1 (j + 1) k' H') ∧ ∀ x H', J1.yld j H x H' → g1 x (wipe σ2 vs1) H' fun σ3 H5 => wipe σ3 vs1 = wipe σ2 vs1 ∧ tt1 σ3 H5 fun b H6 =>
          if b = true then te σ3 H6 fun y H7 => ∃ acc, H7 D = some (.lst acc) ∧ acc.length < sizeLine ∧ Nx1 (upd H7 D (.lst (acc ++ [y]))) else Nx1 H6)
      else Pv (i + 1) H3) (hd : ∀ H, Pv n H → Qd H) :
    ∃ W : Nat → Nat → Hp → Prop, (∃ m, W 0 m (upd H1 D (.lst []))) ∧ ∀ i m H, W i m H →
      (J.stop i H ∧ Qd H) ∨ (J.go i H ∧ ∃ Nx : Hp → Prop, (∀ H', Nx H' → ∃ m', m' < m ∧ W (i + 1) m' H') ∧ ∀ x H', J.yld i H x H' → g x (wipe σ vs) H' fun σ2 H2 => wipe σ2 vs = wipe σ vs ∧ tt σ2 H2 fun b H3 =>
        if b = true then wi1 σ2 H3 fun J1 H4 => ∃ W1 : Nat → Nat → Hp → Prop, (∃ m, W1 0 m H4) ∧ ∀ j k H, W1 j k H →
          (J1.stop j H ∧ Nx H) ∨ (J1.go j H ∧ ∃ Nx1 : Hp → Prop, (∀ H', Nx1 H' → ∃ k', k' < k ∧ W1 (j + 1) k' H') ∧ ∀ x H', J1.yld j H x H' → g1 x (wipe σ2 vs1) H' fun σ3 H5 => wipe σ3 vs1 = wipe σ2 vs1 ∧ tt1 σ3 H5 fun b H6 =>
            if b = true then te σ3 H6 fun y H7 => ∃ acc, H7 D = some (.lst acc) ∧ acc.length < sizeLine ∧ Nx1 (upd H7 D (.lst (acc ++ [y]))) else Nx1 H6)
        else Nx H3) := by
  refine ⟨fun i m H => m = n - i ∧ i ≤ n ∧ Pv i H, ⟨n, by simp, Nat.zero_le _, h0⟩, ?_⟩
  rintro i m H ⟨rfl, hi, p⟩
  have q := hG i H hi p
  by_cases hlt : i < n
  · refine .inr ⟨w.goes i H hlt q, Pv (i + 1), fun H' p' => ⟨n - (i + 1), by omega, rfl, hlt, p'⟩, fun x H' y => hs i x H H' hlt p (w.yields i H x H' hlt q y)⟩
  · have e : i = n := by omega
    subst e
    exact .inl ⟨w.stops H q, hd H p⟩
end
/-- (a, b, ..) = a list or a tuple of that length -/
def gSeq (K : PySem.W.Frag) (n : Nat) (t : TGs) : TG := fun v σ H Q => ∃ xs, Seq K H v xs ∧ xs.length = n ∧ t xs σ H Q
theorem pg_seq {X : Cx} {pos : Pos} {es : List Expr} {k : Nat} {t : TGs} {n : Nat} (hc : X.calm = true) (h : PGs X es t)
    (hn : (assignEach es X.env).length = n := by rfl) (hst : (assignEach es X.env).findIdx? (·.1) = none := by rfl) : PG X (.Tuple es k pos) (gSeq X.K n t) := by
  refine ⟨fun pins s σ H v u Q I r hw => ?_⟩
  obtain ⟨xs, ⟨a, rfl, hq⟩, hl, hw⟩ := hw
  rcases hq with hq | hq
  · exact (pg_unl hc h hn hst).run pins s σ H _ u Q I r ⟨a, xs, rfl, hq, hl, hw⟩
  · exact (pg_tup hc h hn hst).run pins s σ H _ u Q I r ⟨a, xs, rfl, hq, hl, hw⟩
theorem t_nil {σ : St} {H : Hp} {Q : List V → Hp → Prop} (h : Q [] H) : tNil σ H Q := h
/-- tuple(either) -/
def rTupS (K : PySem.W.Frag) : List V → Hp → VK → Prop := fun xs H Q => ∃ v ys, xs = [v] ∧ Seq K H v ys ∧ ∀ H' l, Same H H' → SqT K H' l ys → Q (.ref l) H'
theorem call_tupS {X : Cx} : CallR X (.type "tuple") (rTupS X.K) := by
  intro pins s σ H xs us Q I r h
  obtain ⟨v, ys, rfl, ⟨a, rfl, hq⟩, q⟩ := h
  rcases hq with hq | hq
  · exact call_tuple_of pins s σ H _ us Q I r ⟨a, ys, rfl, .inl ⟨hq, fun l nl => q _ l (same_upd nl) (SqT.of upd_same)⟩⟩
  · exact call_tuple_of pins s σ H _ us Q I r ⟨a, ys, rfl, .inr ⟨hq, q H a (Same.refl H) hq⟩⟩
theorem putK_fresh {kvs : List (Key × V)} {k : Key} {v : V} (h : ∀ p ∈ kvs, p.1 ≠ k) : putK kvs k v = kvs ++ [(k, v)] := by
  unfold putK
  rw [if_neg]
  intro z
  obtain ⟨p, hp, e⟩ := List.any_eq_true.mp z
  exact h p hp (of_decide_eq_true e)
theorem t_seqFld {K : PySem.W.Frag} {ta tv : TE} {f : Str} {u : TS} {D : Ends} {σ : St} {H : Hp} (h : tv σ H fun y H1 => ta σ H1 fun x H2 => ∃ a C dx fs, x = .ref a ∧ H2 a = some (.ins C dx fs) ∧ Cls K C ∧ NoAttr K C f ∧ fs.length < 1000 ∧ u D σ (upd H2 a (.ins C dx (putF f y fs)))) :
    tSeq (sFld K ta tv f) u D σ H := h
theorem t_cb1 {r : List V → Hp → VK → Prop} {te : TE} {σ : St} {H : Hp} {Q : VK} (h : te σ H fun x H1 => r [x] H1 Q) : tCB r (tCons te tNil) σ H Q := h
theorem sqt_hideD {K : PySem.W.Frag} {H : Hp} {D l : Addr} {kvs : List (Key × V)} {xs : List V} (h : SqT K H l xs) (e : H D = some (.dK kvs)) : SqT K (hide D H) l xs := by
  rcases h with (h | ⟨o, h⟩) | h
  · refine .inl (.inl ?_)
    rw [hide_ne (fun z => by rw [z, e] at h; cases h)]
    exact h
  · refine .inl (.inr ⟨o, ?_⟩)
    rw [hide_ne (fun z => by rw [z, e] at h; cases h)]
    exact h
  · exact .inr h
theorem sqt_hide {K : PySem.W.Frag} {H : Hp} {p l : Addr} {o : HO} {xs : List V} (h : SqT K H l xs) (e : H p = some o) (no : ∀ ys, o ≠ .tup ys) (nf : ∀ q ys, o ≠ .frz q (.tup ys)) : SqT K (hide p H) l xs := by
  rcases h with (h | ⟨q, h⟩) | h
  · refine .inl (.inl ?_)
    rw [hide_ne (fun z => by rw [z, e] at h; exact no _ (Option.some.inj h))]
    exact h
  · refine .inl (.inr ⟨q, ?_⟩)
    rw [hide_ne (fun z => by rw [z, e] at h; exact nf _ _ (Option.some.inj h))]
    exact h
  · exact .inr h
theorem DTup.hide {K : PySem.W.Frag} {H : Hp} {p : Addr} {o : HO} {ks : List (Key × V)} {rs : Rws} (h : DTup K H ks rs) (e : H p = some o) (no : ∀ ys, o ≠ .tup ys) (nf : ∀ q ys, o ≠ .frz q (.tup ys)) : DTup K (hide p H) ks rs :=
  Paired.imp (fun _ _ ⟨e1, a, e2, q⟩ => ⟨e1, a, e2, sqt_hide q e no nf⟩) h
theorem t_fld {K : PySem.W.Frag} {ta tv : TE} {f : Str} {D : Ends} {σ : St} {H : Hp} (h : tv σ H fun y H1 => ta σ H1 fun x H2 => ∃ a C dx fs, x = .ref a ∧ H2 a = some (.ins C dx fs) ∧ Cls K C ∧ NoAttr K C f ∧ fs.length < 1000 ∧ D.nx σ (upd H2 a (.ins C dx (putF f y fs)))) :
    sFld K ta tv f D σ H := h
theorem arr_len : ∀ {l : Rws}, (∀ r ∈ l, r.2.length ≤ 900) → (arr l).length ≤ l.length * 900
  | [], _ => Nat.zero_le _
  | r :: l, h => by
    have := arr_len (l := l) fun r hr => h r (List.mem_cons_of_mem _ hr)
    have h1 := h r (List.mem_cons_self ..)
    have e : arr (r :: l) = r.2.map (fun s => (s, r.1)) ++ arr l := rfl
    rw [e, List.length_append, List.length_map, List.length_cons]
    omega
theorem PairT.same {H H' : Hp} {v : V} {p : Str × Str} (h : PairT H v p) (s : Same H H') : PairT H' v p := let ⟨q, e, a⟩ := h; ⟨q, e, s _ _ a⟩
theorem PairT.hide {H : Hp} {v : V} {p : Str × Str} {b : Addr} {o : HO} (h : PairT H v p) (e : H b = some o) (no : ∀ ys, o ≠ .tup ys) : PairT (hide b H) v p := by
  obtain ⟨q, e1, a⟩ := h
  refine ⟨q, e1, ?_⟩
  rw [hide_ne (fun z => by rw [z, e] at a; exact no _ (Option.some.inj a))]
  exact a
/-- {k: v for x in either} -/
theorem dc_seq {K : PySem.W.Frag} {v : V} {xs : List V} {g : TG} {tt : TT} {tk tv tl : TE} {vs : List Nat} {σ : St} {H0 H : Hp} {Q : VK} (hq : Seq K H0 v xs) (s0 : Same H0 H) (he : ∀ Q : VK, Q v H → tl σ H Q) (Pv : Addr → Nat → Hp → Prop) (h0 : ∀ D, H D = none → Pv D 0 (upd H D (.dK [])))
    (hl : ∀ D i H', Pv D i H' → Same H0 H') (hs : ∀ D i x H', xs[i]? = some x → Pv D i H' → g x (wipe σ vs) H' fun σ2 H2 => wipe σ2 vs = wipe σ vs ∧ tt σ2 H2 fun b H3 =>
      if b = true then tk σ2 H3 fun y H4 => tv σ2 H4 fun z H5 => ∃ kvs k, y = kV k ∧ H5 D = some (.dK kvs) ∧ kvs.length < sizeLine ∧ Pv D (i + 1) (upd H5 D (.dK (putK kvs k z))) else Pv D (i + 1) H3) (hd : ∀ D H', Pv D xs.length H' → Q (.ref D) H') : tDc (iSeq K tl) g tt tk tv vs σ H Q := by
  obtain ⟨a, rfl, hq⟩ := hq
  rcases hq with hq | hq
  · exact he _ ⟨a, xs, rfl, .inl ⟨s0.seq hq, fun D nD => dc_it (walk_list (xs := xs)) (Pv D) (h0 D nD) (fun i H' _ p => (hl D i H' p).seq hq) (fun i x H' H'' _ p y => by
      obtain ⟨rfl, hx⟩ := y
      exact hs D i x _ hx p) (hd D)⟩⟩
  · exact he _ ⟨a, xs, rfl, .inr ⟨SqT.same hq s0, fun D nD => dc_it (walk_tup (xs := xs)) (Pv D) (h0 D nD) (fun i H' _ p => SqT.same hq (hl D i H' p)) (fun i x H' H'' _ p y => by
      obtain ⟨rfl, hx⟩ := y
      exact hs D i x _ hx p) (hd D)⟩⟩
theorem DTup.snoc {K : PySem.W.Frag} {H : Hp} {kvs : List (Key × V)} {ps : Rws} {z : Str} {xs : List Str} {a : Addr} (h : DTup K H kvs ps) (e : SqT K H a (xs.map .str)) (nz : z ∉ ps.map Prod.fst) : DTup K H (putK kvs (kS z) (.ref a)) (ps ++ [(z, xs)]) := by
  rw [putK_fresh]
  · exact Paired.snoc h ⟨rfl, a, rfl, e⟩
  · intro kv hkv e2
    obtain ⟨i, hi⟩ := List.getElem?_of_mem hkv
    obtain ⟨p, hp, e3, _⟩ := Paired.getL h hi
    rw [e3] at e2
    exact nz (List.mem_map.mpr ⟨p, List.mem_of_getElem? hp, Sum.inr.inj e2⟩)
theorem nodup_take {rs : Rws} (nd : (rs.map Prod.fst).Nodup) {i : Nat} {r : Str × List Str} (h : rs[i]? = some r) : r.1 ∉ (rs.take i).map Prod.fst := by
  intro m
  obtain ⟨p, hp, e⟩ := List.mem_map.mp m
  obtain ⟨j, hj⟩ := List.getElem?_of_mem hp
  have lj : j < i := by
    have := (List.getElem?_eq_some_iff.mp hj).1
    rw [List.length_take] at this
    omega
  rw [List.getElem?_take_of_lt lj] at hj
  have li := (List.getElem?_eq_some_iff.mp h).1
  have lj' : j < rs.length := (List.getElem?_eq_some_iff.mp hj).1
  have h1 : (rs.map Prod.fst)[j]? = some p.1 := by rw [List.getElem?_map, hj]; rfl
  have h2 : (rs.map Prod.fst)[i]? = some r.1 := by rw [List.getElem?_map, h]; rfl
  have := (List.getElem?_inj (by rw [List.length_map]; exact lj') nd).mp (h1.trans ((congrArg some e).trans h2.symm))
  omega
theorem arr_take {rs : Rws} {i : Nat} {r : Str × List Str} (h : rs[i]? = some r) : arr (rs.take (i + 1)) = arr (rs.take i) ++ r.2.map (fun s => (s, r.1)) := by
  unfold arr
  rw [List.take_succ, h, List.flatMap_append]
  congr 1
  simp
/-! ### rows that are rows pass the check -/
theorem isNm_len {z : Str} (h : isNm z = true) : z.length ≤ sizeLine := by
  unfold isNm at h
  obtain ⟨_, h⟩ := Bool.and_eq_true_iff.mp h
  obtain ⟨h, _⟩ := Bool.and_eq_true_iff.mp h
  have := of_decide_eq_true h
  rw [sizeLine_eq]
  omega
theorem nl_strs {K : PySem.W.Frag} {H : Hp} {v : V} {xs : List Str} (h : Seq K H v (xs.map .str)) (hl : xs.length ≤ 900) (hn : ∀ z ∈ xs, isNm z = true) (nd : xs.Nodup) : NLis K H v true := by
  refine .inr ⟨xs.map .str, xs.map fun _ => true, h, by rw [List.length_map]; exact hl, by rw [List.length_map, List.length_map], fun i x b e e2 => ?_, ?_⟩
  · rw [List.getElem?_map] at e e2
    obtain ⟨z, hz, rfl⟩ := Option.map_eq_some_iff.mp e
    rw [hz] at e2
    cases e2
    have := hn z (List.mem_of_getElem? hz)
    exact .inl ⟨z, rfl, isNm_len this, this.symm⟩
  · unfold nlB
    rw [strsOf_map, decide_eq_true nd, Bool.and_true]
    symm
    rw [List.all_eq_true]
    intro b hb
    obtain ⟨_, _, rfl⟩ := List.mem_map.mp hb
    rfl
theorem firstW_none : ∀ (l : List Str) (seen : List Str) (i : Nat), l.Nodup → (∀ z ∈ l, z ∉ seen) → firstW (l.map fun z => (true, z)) seen i = none
  | [], _, _, _, _ => rfl
  | z :: l, seen, i, nd, h => by
    obtain ⟨n1, n2⟩ := List.nodup_cons.mp nd
    show (if true = false ∨ z ∈ seen then some i else firstW (l.map fun z => (true, z)) (seen ++ [z]) (i + 1)) = none
    rw [if_neg (by rintro (e | e); cases e; exact h z (List.mem_cons_self ..) e)]
    refine firstW_none l _ _ n2 fun y hy m => ?_
    rcases List.mem_append.mp m with m | m
    · exact h y (List.mem_cons_of_mem _ hy) m
    · have : y = z := by simpa using m
      exact n1 (this ▸ hy)
theorem rows_ds {K : PySem.W.Frag} {H : Hp} : ∀ {vs : List V} {rs : Rws}, Paired (RowG K H) vs rs → (∀ r ∈ rs, isNm r.1 = true ∧ r.2.length ≤ 900 ∧ r.2.Nodup ∧ ∀ s ∈ r.2, isNm s = true) →
    ∃ ds : List (V × Bool × Str), ds.map Prod.fst = vs ∧ ds.map Prod.snd = (rs.map Prod.fst).map (fun z => (true, z)) ∧ ∀ d ∈ ds, RowD K H d
  | _, _, .nil, _ => ⟨[], rfl, rfl, fun d h => nomatch h⟩
  | v :: vs, r :: rs, .cons h t, g => by
    obtain ⟨ds, e1, e2, e3⟩ := rows_ds t fun r hr => g r (List.mem_cons_of_mem _ hr)
    obtain ⟨g1, g2, g3, g4⟩ := g r (List.mem_cons_self ..)
    obtain ⟨y, s1, s2⟩ := h
    refine ⟨(v, true, r.1) :: ds, by rw [List.map_cons, e1], by rw [List.map_cons, List.map_cons, List.map_cons, e2], fun d hd => ?_⟩
    rcases List.mem_cons.mp hd with rfl | hd
    · exact ⟨.inr ⟨_, s1, .inr ⟨.str r.1, y, true, true, rfl, .inl ⟨r.1, rfl, isNm_len g1, g1.symm⟩, nl_strs s2 g2 g4 g3, rfl⟩⟩, fun _ => ⟨y, s1⟩⟩
    · exact e3 d hd
theorem Good.names {rs : Rws} (g : Good rs) : ∀ r ∈ rs, isNm r.1 = true ∧ r.2.length ≤ 900 ∧ r.2.Nodup ∧ ∀ s ∈ r.2, isNm s = true := fun r hr => by
  obtain ⟨a, b, c⟩ := g.sr r hr
  refine ⟨g.nm r hr, a, b, fun s hs => ?_⟩
  obtain ⟨r', hr', rfl⟩ := List.mem_map.mp (c s hs)
  exact g.nm r' hr'
theorem good_check {K : PySem.W.Frag} {H : Hp} {Q : VK} {E : XK} {v : V} {vs : List V} {rs : Rws} (hs : Seq K H v vs) (hp : Paired (RowG K H) vs rs) (g : Good rs) (q : ∀ H', Same H H' → Q .non H') : spCheckRows K [v] H Q E := by
  obtain ⟨ds, e1, e2, e3⟩ := rows_ds hp g.names
  have hl : ds.length = rs.length := by
    have := congrArg List.length e1
    rw [List.length_map] at this
    rw [this]
    exact Paired.length hp
  refine ⟨v, rfl, .inr ⟨ds, by rw [e1]; exact hs, by have := g.ln; omega, e3, .inr ⟨?_, rs, hl.symm, fun i d r hd hr => ?_, .inr ⟨?_, q⟩⟩⟩⟩
  · unfold firstR
    have ne : ds ≠ [] := fun e => by
      rw [e] at hl
      have := g.l1
      rw [← hl] at this
      cases this
    rw [if_neg ne, e2]
    exact firstW_none _ _ _ g.nd fun z _ h => nomatch h
  · have hv : vs[i]? = some d.1 := by rw [← e1, List.getElem?_map, hd]; rfl
    obtain ⟨r', h1, h2⟩ := Paired.getL hp hv
    rw [hr] at h1
    cases h1
    exact ⟨h2, (g.sr r (List.mem_of_getElem? hr)).1⟩
  · unfold firstU
    refine find_none fun x hx => ?_
    obtain ⟨r, hr, hx⟩ := List.mem_flatMap.mp hx
    exact (g.sr r hr).2.2 x hx
/-- making a web: of bad rows nothing comes, of good ones a web -/
def spInit (K : PySem.W.Frag) (C : Addr) : Sp := fun vs H Q E => ∃ (p dx : Addr) (v : V), vs = [.ref p, v] ∧ H p = some (.ins C dx []) ∧
  ((∀ Q', spCheckRows K [v] H Q' E) ∨ ∃ (xs : List V) (rs : Rws), Seq K (hide p H) v xs ∧ Paired (RowG K (hide p H)) xs rs ∧ Good rs ∧ ∀ H', Same (hide p H) (hide p H') → IsWeb K H' C p rs → Q .non H')
end WL
end L2
namespace L2
namespace WL
open PySem PySem.Spec PyProof.Rows K1
theorem dget_inj {H : Hp} {a : Addr} {k : Key} {v : V} {kvs : List (Key × V)} (g : DGet H a (kV k) (some v)) (e : H a = some (.dK kvs)) : valV kvs k = some v := by
  rcases g with ⟨kvs', k', h | ⟨o, h⟩, e1, e2⟩ | ⟨kvs', k', b, h | ⟨o, h⟩, _⟩
  · rw [e] at h
    cases h
    have : k = k' := by
      cases k with
      | inl i => cases k' with
        | inl j => exact congrArg _ (V.int.inj e1)
        | inr z => cases e1
      | inr y => cases k' with
        | inl j => cases e1
        | inr z => exact congrArg _ (V.str.inj e1)
    rw [this]
    exact e2.symm
  · rw [e] at h
    cases h
  · rw [e] at h
    cases h
  · rw [e] at h
    cases h
end WL
end L2
set_option Elab.async false
set_option linter.all false
set_option maxRecDepth 100000
set_option maxHeartbeats 4000000
namespace L2
namespace WL
open PySem PySem.Spec PyProof.Rows K1
/-! ### the class's own words -/
/-- what is known of an own special method -/
structure Spc (K : PySem.W.Frag) (C : Addr) (m : Str) (f : Addr) : Prop where
  at_ : PySem.W.findIn K (.ref C) m = some (some (.ref f))
  fn : PySem.W.isFn K (.ref f) = true
section
variable {X : Cx} {CX : CXT} {k : Nat} {C f : Addr} {fd : FuncData} {ps : List Str} {sp : Sp} {E : XK}
/-- x in o, x not in o by the class's __contains__ -/
def rInO (C : Addr) (sp : Sp) (E : XK) (g : Bool → Bool) : R2 := fun x y H Q => ∃ a dx fs, y = .ref a ∧ H a = some (.ins C dx fs) ∧ sp [.ref a, x] H (fun v H' => ∃ b, v = .bl b ∧ Q (.bl (g b)) H') E
theorem op_inO (M : Spc X.K C "__contains__" f) (F : FnOk X.prog X.w X.K X.mg X.base CX k f fd ps sp) (hr : Room k X.A) (hb : Binds X.K fd ps []) (hx : Passes CX X E) : OpR X (compareOp .In) (rInO C sp E id) := by
  intro pins s σ H x y v u Q I rx ry h
  obtain ⟨a, dx, fs, rfl, ha, hsp⟩ := h
  obtain rfl : u = Value.ref a := ry
  obtain ⟨mA, J, _⟩ := ins_get I.hok ha
  obtain ⟨od, J, _⟩ := J.look
  obtain ⟨m, hF⟩ := I.fr
  refine PySem.W.in_K hF I.ok.mod.kin J M.at_ M.fn ?_
  refine wpAny_mono (run_fn (us := [.ref a, v]) (vs := [.ref a, x]) F hr hb .nil hx I (.cons rfl (.cons rx .nil)) hsp) (fun r s' q => ?_) fun _ _ z => z
  obtain ⟨z, H', I', rz, b, rfl, q⟩ := q
  cases rz
  exact wpAny_truthy_bool ⟨.bl b, H', I', rfl, q⟩
theorem op_notInO (M : Spc X.K C "__contains__" f) (F : FnOk X.prog X.w X.K X.mg X.base CX k f fd ps sp) (hr : Room k X.A) (hb : Binds X.K fd ps []) (hx : Passes CX X E) : OpR X (compareOp .NotIn) (rInO C sp E not) := by
  intro pins s σ H x y v u Q I rx ry h
  obtain ⟨a, dx, fs, rfl, ha, hsp⟩ := h
  obtain rfl : u = Value.ref a := ry
  obtain ⟨mA, J, _⟩ := ins_get I.hok ha
  obtain ⟨od, J, _⟩ := J.look
  obtain ⟨m, hF⟩ := I.fr
  refine PySem.W.notIn_K hF I.ok.mod.kin J M.at_ M.fn ?_
  refine wpAny_mono (run_fn (us := [.ref a, v]) (vs := [.ref a, x]) F hr hb .nil hx I (.cons rfl (.cons rx .nil)) hsp) (fun r s' q => ?_) fun _ _ z => z
  obtain ⟨z, H', I', rz, b, rfl, q⟩ := q
  cases rz
  exact wpAny_truthy_bool ⟨.bl (!b), H', I', rfl, q⟩
/-- a def called within a built-in -/
theorem run_fnA {A : Around} {pins : List (Addr × Obj)} {σ : St} {H : Hp} {s : Shared} {Q : VK} {us : List Value} {vs : List V} (F : FnOk X.prog X.w X.K X.mg X.base CX k f fd ps sp) (sb : L2.Sub X k A) (hb : Binds X.K fd ps []) (hx : Passes CX X E)
    (I : Inv X pins σ H s) (r : Vals vs us) (h : sp vs H Q E) : wpAny (model X.prog X.w) A (call (.ref f) us) (EP X pins σ Q) X.xe s := by
  have z : Env0 X.prog X.w X.K X.mg X.base A X.stack s H := by
    have e := I.env0
    exact ⟨by rw [sb.fr]; exact e.frames, e.mod, e.bs, e.bsz, e.funs, e.frf, e.hok, e.bare⟩
  have bi := hb s us I.kIn (by rw [List.append_nil, ← r.length]; exact F.len _ _ _ _ h)
  rw [List.append_nil] at bi
  refine wpAny_call (codeAny_mono (F.run A X.stack s H ⟨us, []⟩ us vs Q E sb.room z bi r h) fun g s' hq => ?_)
  match g, hq with
  | .error e, hq => exact hx pins σ H s e s' I hq
  | .ok (.ret _), hq => exact I.after hq
  | .ok .next, hq => exact False.elim hq
  | .ok .brk, hq => exact False.elim hq
  | .ok .cont, hq => exact False.elim hq
/-- .. by a def that lets nothing out -/
theorem run_fn0 {A : Around} {pins : List (Addr × Obj)} {σ : St} {H : Hp} {s : Shared} {Q : VK} {us : List Value} {vs : List V} {E2 : Value → Shared → Prop} (F : FnOk X.prog X.w X.K X.mg X.base CX0 k f fd ps sp) (sb : L2.Sub X k A) (hb : Binds X.K fd ps [])
    (I : Inv X pins σ H s) (r : Vals vs us) (h : sp vs H Q E) : wpAny (model X.prog X.w) A (call (.ref f) us) (EP X pins σ Q) E2 s := by
  have z : Env0 X.prog X.w X.K X.mg X.base A X.stack s H := by
    have e := I.env0
    exact ⟨by rw [sb.fr]; exact e.frames, e.mod, e.bs, e.bsz, e.funs, e.frf, e.hok, e.bare⟩
  have bi := hb s us I.kIn (by rw [List.append_nil, ← r.length]; exact F.len _ _ _ _ h)
  rw [List.append_nil] at bi
  refine wpAny_call (codeAny_mono (F.run A X.stack s H ⟨us, []⟩ us vs Q E sb.room z bi r h) fun g s' hq => ?_)
  match g, hq with
  | .error e, hq => exact hq.elim
  | .ok (.ret _), hq => exact I.after hq
  | .ok .next, hq => exact False.elim hq
  | .ok .brk, hq => exact False.elim hq
  | .ok .cont, hq => exact False.elim hq
/-- len(o) by the class's __len__ -/
def rLenO (C : Addr) (sp : Sp) (E : XK) : List V → Hp → VK → Prop := fun xs H Q => ∃ a dx fs, xs = [.ref a] ∧ H a = some (.ins C dx fs) ∧ sp [.ref a] H (fun v H' => ∃ n : Nat, v = .int (n : Nat) ∧ n < 2 ^ 60 ∧ Q (.int (n : Nat)) H') E
theorem call_lenO (M : Spc X.K C "__len__" f) (F : FnOk X.prog X.w X.K X.mg X.base CX k f fd ps sp) (hr : Room (k + 1) X.A) (hb : Binds X.K fd ps []) (hx : Passes CX X E) : CallR X (.builtin "len") (rLenO C sp E) := by
  intro pins s σ H xs us Q I r h
  obtain ⟨a, dx, fs, rfl, ha, hsp⟩ := h
  obtain ⟨u, rfl, ru⟩ := vals1 r
  cases ru
  obtain ⟨mA, J, _⟩ := ins_get I.hok ha
  obtain ⟨od, J, _⟩ := J.look
  obtain ⟨m, hF⟩ := I.fr
  refine PySem.W.len_K hF I.ok.mod.kin J M.at_ M.fn ?_
  refine wpAny_mono (run_fnA (us := [.ref a]) (vs := [.ref a]) F (L2.Sub.in1 ⟨hr, rfl⟩) hb hx I (.cons rfl .nil) hsp) (fun r s' q => ?_) fun _ _ z => z
  obtain ⟨z, H', I', rz, n, rfl, hn, q⟩ := q
  obtain ⟨t, rfl⟩ := rz
  have hn2 : n < 2 ^ 63 := Nat.lt_of_lt_of_le hn (by decide)
  exact ⟨⟨by omega, by have : ((2 ^ 63 : Nat) : Int) = 2 ^ 63 := by decide
                       omega⟩, .int (n : Nat), H', I'.tok _, ⟨_, rfl⟩, q⟩
end
/-! ### o walked, by an __iter__ that gives the iterator of a tuple -/
abbrev itTup (t : Addr) : Obj := { cls := .type "tuple_iterator", data := .fields #[.ref t, .int 0 0] }
/-- a new iterator of the tuple at t -/
def ItT (t it : Addr) : HO := .ext fun h => h.get? it = some (itTup t)
section
variable {P : Program} {w : World} {H : Hp} {h : Heap} {t it : Addr}
theorem itT_ok (e : h.get? it = some (itTup t)) : ObjOk P w H h it (ItT t it) := ⟨e, ⟨_, e⟩, fun _ _ z k => k _ z⟩
end
section
variable {X : Cx}
def rIterT (K : PySem.W.Frag) (n : Nat) : List V → Hp → VK → Prop := fun xs H Q => ∃ (t : Addr) (zs : List V), xs = [.ref t] ∧ SqT K H t zs ∧ ∀ it, H it = none → n ≤ it → Q (.ref it) (upd H it (ItT t it))
theorem call_iterT : CallR X (.builtin "iter") (rIterT X.K X.s_0.heap.objs.size) := by
  intro pins s σ H xs us Q I r h
  obtain ⟨t, zs, rfl, hq, q⟩ := h
  obtain ⟨u, rfl, ru⟩ := vals1 r
  cases ru
  obtain ⟨its, rv, pl, hz⟩ := I.tuple hq
  have ht : s.heap.IsTuple t its.toArray := pl
  refine Calls.call_function_entry (by decide +kernel) (by decide +kernel) PySem.W.kdk_entry_iter (PySem.W.kdk_args_iter _) ?_
  unfold Builtin.«iter»
  refine wpAny_bind (m := someArgs "iter" 1 2 _) (wpAny_of_eq (a := [Value.ref t]) (by first | rfl | kernel_rfl!) ?_)
  show wpAny _ _ (pyIter (.ref t) >>= _) _ _ _
  refine wpAny_bind (wpAny_pyIter_tuple ht (wpAny_pure ⟨_, rfl, ?_⟩))
  exact ⟨.ref s.heap.objs.size, _, I.laid (t' := s.toks) (fun b u e => Heap.get?_push_of_some _ e) (Nat.le_refl _) (itT_ok (Heap.get?_push_size _ rfl)), rfl, q _ (I.hok.fresh (Nat.le_refl _)) I.sz⟩
end
/-- one run of a def whose body is walked for this one state -/
theorem run_at {CX : CXT} {P : Program} {w : World} {K : PySem.W.Frag} {mg : Str → Option Value} {base : Heap} {k : Nat} {f : Addr} {fd : FuncData} {x qual : Str} {params : Arguments} {body : List Stmt} {scope : Scope} {N ps : List Str} {A : Around} {outer : List Env} {s : Shared} {H : Hp} {us : List Value} {vs : List V} {Q : VK} {E : XK}
    (F : FunD K x qual params body scope [] [] f fd) (S : FnScope N ps scope) (hl : vs.length = ps.length) (hr : Room (k + 1) A) (e0 : Env0 P w K mg base A outer s H) (hb : BindsTo s fd ⟨us, []⟩ (ps.zip us)) (r : Vals vs us)
    (hbody : ∀ cdv, Room k (A.deeper (envOfC qual scope s.heap.objs.size f cdv)) → ∃ t, PSs (cxOf CX P w K mg base N qual scope f cdv A outer s H E) body t ∧ t { nx := fun _ H' => Q .non H', rt := Q } (start N vs) H) :
    codeAny (model P w) A (.call (.ref f) ⟨us, []⟩) (CR CX outer P w H s Q E) s := by
  obtain ⟨oc, od, dV, kV, doc, pm, an, cdv, ct, osl, rfl, lk, hcd, _, _⟩ := F.ex
  have kin : K.In s.heap := e0.mod.kin.keeps fun b o e => (e0.bs b o e).1
  have nol : s.heap.NoLimit := e0.mod.nolimit.keeps fun b o e => (e0.bs b o e).1
  have kinds : ∀ y ∈ ps.zip us, scope.names.lookup y.1 = some .local ∨ (scope.names.lookup y.1 = some .cell ∧ ((cellsFrom (s.heap.objs.size + 1) scope.names []).lookup y.1).isSome = true) := by
    rintro ⟨n, v⟩ hy
    exact (S.par n (List.of_mem_zip hy).1).elim .inl fun q => .inr ⟨q, PySem.W.cellsFrom_some _ _ _ (.inl q)⟩
  refine codeAny_call_function hr.depth (kin _ _ lk) rfl S.co S.gen rfl (PySem.W.codeRec_of kin hcd) (hb _ _ _ _ (wpAny_newFunctionEnv_cells S.kind kinds fun env he s1 x => ?_))
  subst he
  refine ⟨nol.keeps x.toInCall.keep, codeAny_func ?_⟩
  obtain ⟨t, ht, hq⟩ := hbody cdv (hr.deeper _)
  have I : Inv (cxOf CX P w K mg base N qual scope f cdv A outer s H E) [] (start N vs) H s1 := inv_start S hr.hd e0 hl r x
  refine wpAny_mono (ht.run [] s1 (start N vs) H _ I hq) (fun fl s' hs => ?_) fun e s' hs => hs
  match fl, hs with
  | .ret u, ⟨v, σ', H', J, rv, q⟩ => exact ⟨v, H', J.os, J.bare, J.base, J.hok, rv, q⟩
  | .next, ⟨σ', H', J, q⟩ => exact ⟨.non, H', J.os, J.bare, J.base, J.hok, rfl, q⟩
  | .brk, ⟨_, _, _, q⟩ => exact False.elim q
  | .cont, ⟨_, _, _, q⟩ => exact False.elim q
/-- what is known of a class whose __iter__ gives the iterator of its cells -/
structure OwnIt (P : Program) (w : World) (K : PySem.W.Frag) (mg : Str → Option Value) (base : Heap) (C f : Addr) (fd : FuncData) (fld : Str) : Prop where
  sp : Spc K C "__iter__" f
  bd : Binds K fd ["self"] []
  run : ∀ (A : Around) (outer : List Env) (s : Shared) (H : Hp) (p dx t : Addr) (fs : List (Str × V)) (zs : List V) (Q : VK) (E : XK), Room 1 A → Env0 P w K mg base A outer s H → BindsTo s fd ⟨[.ref p], []⟩ ((["self"] : List Str).zip [Value.ref p]) → H p = some (.ins C dx fs) → fs.lookup fld = some (.ref t) → SqT K H t zs →
    (∀ it, H it = none → s.heap.objs.size ≤ it → Q (.ref it) (upd H it (ItT t it))) → codeAny (model P w) A (.call (.ref f) ⟨[.ref p], []⟩) (CR CX0 outer P w H s Q E) s
section
variable {X : Cx} {C f : Addr} {fd : FuncData} {fld : Str}
theorem own_iter (M : OwnIt X.prog X.w X.K X.mg X.base C f fd fld) {A : Around} (sb : L2.Sub X 1 A) {pins : List (Addr × Obj)} {σ : St} {H : Hp} {s : Shared} {p dx t : Addr} {fs : List (Str × V)} {zs : List V} (I : Inv X pins σ H s) (hp : H p = some (.ins C dx fs)) (hl : fs.lookup fld = some (.ref t)) (ht : SqT X.K H t zs)
    {Q : Value → Shared → Prop} (h : ∀ it s', Inv X pins σ H s' → s'.heap.IsTupleIter it t 0 → FpOk X pins H it → Q (.ref it) s') : wpAny (model X.prog X.w) A (pyIter (.ref p)) Q X.xe s := by
  obtain ⟨mA, J, _⟩ := ins_get I.hok hp
  obtain ⟨od, J, _⟩ := J.look
  obtain ⟨m, hF⟩ := I.fr
  refine PySem.W.owit_iter hF I.ok.mod.kin J M.sp.at_ M.sp.fn ?_
  have z : Env0 X.prog X.w X.K X.mg X.base A X.stack s H := by
    have e := I.env0
    exact ⟨by rw [sb.fr]; exact e.frames, e.mod, e.bs, e.bsz, e.funs, e.frf, e.hok, e.bare⟩
  have bi := M.bd s [.ref p] I.kIn rfl
  refine wpAny_call (codeAny_mono (M.run A X.stack s H p dx t fs zs (fun v H' => ∃ it, v = .ref it ∧ H it = none ∧ s.heap.objs.size ≤ it ∧ H' = upd H it (ItT t it)) (fun _ _ _ => False) sb.room z bi hp hl ht fun it n1 n2 => ⟨it, rfl, n1, n2, rfl⟩) fun g s' hq => ?_)
  match g, hq with
  | .error e, hq => exact hq.elim
  | .ok (.ret u), hq =>
    obtain ⟨v, H', I', rv, it, rfl, n1, n2, rfl⟩ := I.after hq
    cases rv
    have e0 : s'.heap.get? it = some (itTup t) := (I'.hok it _ (upd_same (o := ItT t it))).1
    have I2 : Inv X pins σ H s' := by
      have := ItX.inv_drop I' (a := it) (upd_same (o := ItT t it))
      rw [ItX.dropH_upd n1] at this
      exact this
    have fp : FpOk X pins H it := by
      have := ItX.inv_fp I' (upd_same (o := ItT t it)) (Nat.le_trans I.sz n2)
      rw [ItX.dropH_upd n1] at this
      exact this
    have hi : s'.heap.IsTupleIter it t 0 := ⟨_, e0, rfl, rfl⟩
    unfold PySem.W.OwitIt
    exact wpAny_specialOf hi.typeIs PySem.F.slot_tuple_iterator_next.lookup (h it s' I2 hi fp)
  | .ok .next, hq => exact False.elim hq
  | .ok .brk, hq => exact False.elim hq
  | .ok .cont, hq => exact False.elim hq
/-- for x in o -/
def iOwn (K : PySem.W.Frag) (C : Addr) (fld : Str) (tl : TE) : TI := fun σ H R => tl σ H fun x H1 => ∃ p dx fs t zs, x = .ref p ∧ H1 p = some (.ins C dx fs) ∧ fs.lookup fld = some (.ref t) ∧ SqT K H1 t zs ∧ R (Itt K t) H1
theorem pi_own (M : OwnIt X.prog X.w X.K X.mg X.base C f fd fld) (hr : Room 1 X.A) {tg l : Expr} {tl : TE} (hl : PE X l tl) : PI X tg l (iOwn X.K C fld tl) := by
  refine ⟨fun pins s σ H R I h => ?_⟩
  refine thn (hl.run pins s σ H _ I h) fun v s1 ⟨x, H1, I1, r1, p, dx, fs, t, zs, e, hp, hf, ht, q⟩ => ?_
  subst e
  cases r1
  refine own_iter M ⟨hr, rfl⟩ I1 hp hf ht fun it s2 I2 hi fp => ?_
  exact ⟨it, [it], _, _, H1, rfl, I2, turn_tuple t it, hi, fun b hb => by rw [List.mem_singleton.mp hb]; exact fp, q⟩
end
end WL
end L2
set_option Elab.async false
set_option linter.all false
set_option maxRecDepth 100000
set_option maxHeartbeats 4000000
namespace L2
namespace WL
open PySem PySem.Spec PyProof.Rows K1
section
variable {X : Cx} {pins : List (Addr × Obj)} {σ : St} {H : Hp} {A1 : Around} {q it t : Addr} {zs : List V} {Rs : Result → Shared → Prop}
/-- the list at q filled from the iterator of a tuple -/
theorem own_fill (hh : A1.in1.handled = none) (hqi : it ≠ q) (ht : ∀ i, SqT X.K (upd H q (.lst (zs.take i))) t zs) (fp : FpOk X pins H it) (hdone : ∀ s, Inv X pins σ (upd H q (.lst zs)) s → Rs (.ok (.ret .none)) s) :
    ∀ (n i : Nat) (s : Shared), zs.length - i = n → i ≤ zs.length → Inv X pins σ (upd H q (.lst (zs.take i))) s → s.heap.IsTupleIter it t i → codeAny (model X.prog X.w) A1 (.builtin "list.extend.loop" ⟨[.ref q, .ref it, .none], []⟩) Rs s := by
  intro n
  induction n with
  | zero =>
    intro i s hn hi I st
    have e : i = zs.length := by omega
    subst e
    rw [List.take_length] at I
    refine codeAny_builtin PySem.F.entry_extend_loop ?_
    rw [Around.under_plainId PySem.F.plain_extend_loop _]
    show wpAny _ A1.in1 (pyNext (.ref it) >>= _) _ _ s
    have ht' := ht zs.length
    rw [List.take_length] at ht'
    obtain ⟨its, rv, p, hz⟩ := I.tuple ht'
    have hl := rv.length
    obtain ⟨f0, f1, f2, f3, f4, f5⟩ := fp
    refine wpAny_bind (wpAny_pyNext_tuple_end hh st (show s.heap.IsTuple t its.toArray from p) (by simp; omega) fun h' eb => wpAny_pure (hdone _ ?_))
    exact I.turned (t' := s.toks) (fun b o hb e => eb b o hb e) (by rw [upd_ne hqi]; exact f0) f1 f3 f4 f5
  | succ n ih =>
    intro i s hn hi I st
    have lt : i < zs.length := by omega
    refine codeAny_builtin PySem.F.entry_extend_loop ?_
    rw [Around.under_plainId PySem.F.plain_extend_loop _]
    show wpAny _ A1.in1 (pyNext (.ref it) >>= _) _ _ s
    obtain ⟨its, rv, p, hz⟩ := I.tuple (ht i)
    obtain ⟨u, hu, ru⟩ := rv.get (List.getElem?_eq_getElem lt)
    obtain ⟨f0, f1, f2, f3, f4, f5⟩ := id fp
    refine wpAny_bind (wpAny_pyNext_tuple_item st (show s.heap.IsTuple t its.toArray from p) (x := u) (by simpa using hu) fun h' st' sb => ?_)
    have I1 : Inv X pins σ (upd H q (.lst (zs.take i))) { s with heap := h' } := I.turned (t' := s.toks) (fun b o hb e => (sb.2 b hb).trans e) (by rw [upd_ne hqi]; exact f0) f1 f3 f4 f5
    show wpAny _ A1.in1 (updateSeq q (·.push u) >>= _) _ _ _
    obtain ⟨z, its2, k, r2, hl, e⟩ := I1.lstM upd_same
    have hz2 : zs.length ≤ sizeLine := hz
    have hll : its2.length = i := by
      rw [← hl, List.length_take]
      omega
    refine wpAny_bind (wpAny_updateSeq e rfl (wpAny_pure ⟨plainId_quiet PySem.F.plain_extend_loop _, ?_⟩) (by rw [List.size_toArray]; omega) (by show (its2.toArray.push u).size ≤ sizeLine + 1; rw [Array.size_push, List.size_toArray]; omega))
    have tk : zs.take (i + 1) = zs.take i ++ [zs[i]] := by rw [List.take_succ, List.getElem?_eq_getElem lt]; rfl
    have I2 := I1.lset (its' := its2 ++ [u]) (ys := zs.take (i + 1)) (f := (·.push u)) (t' := s.toks) upd_same e (by simp) (by rw [tk]; exact r2.append (.cons ru .nil)) (by rw [List.length_take]; omega)
    rw [upd_upd] at I2
    exact ih (i + 1) _ (by omega) (by omega) I2 (st'.at fun o e => (Heap.get?_update_other _ _ (Ne.symm hqi)).trans e)
end
section
variable {X : Cx} {CX : CXT} {k : Nat} {C f g : Addr} {fd gd : FuncData} {fld : Str} {spL : Sp} {EL : XK}
/-- the length that the class's __len__ tells -/
theorem own_hintL {pins : List (Addr × Obj)} {σ : St} {H : Hp} {s : Shared} {A : Around} {p dx : Addr} {fs : List (Str × V)} {n : Nat} {Q : Bool → Shared → Prop} (M : Spc X.K C "__len__" g) (F : FnOk X.prog X.w X.K X.mg X.base CX0 k g gd ["self"] spL) (sb : L2.Sub X (k + 1) A) (hb : Binds X.K gd ["self"] [])
    (I : Inv X pins σ H s) (hp : H p = some (.ins C dx fs)) (hn : n ≤ 1000) (hsp : spL [.ref p] H (fun v H' => v = .int (n : Nat) ∧ H' = H) EL) (h : ∀ s', Inv X pins σ H s' → Q (decide (n ≠ 0)) s') :
    wpAny (model X.prog X.w) A (Builtin.List.listLengthHint (.ref p)) Q X.xe s := by
  obtain ⟨mA, J, _⟩ := ins_get I.hok hp
  obtain ⟨od, J, _⟩ := J.look
  obtain ⟨m, hF⟩ := I.fr
  unfold Builtin.List.listLengthHint
  refine wpAny_bind (wpAny_bind (J.type.here ((PySem.W.looks_findIn I.kIn M.at_).here ?_)))
  refine PySem.W.KFB.if_not rfl ?_
  refine PySem.W.KFB.if_so rfl ?_
  refine wpAny_bind (wpAny_rule ?_)
  refine wpAny_bind (wpAny_attempt ?_)
  refine PySem.W.len_K hF I.ok.mod.kin J M.at_ M.fn ?_
  refine wpAny_mono (run_fn0 (us := [.ref p]) (vs := [.ref p]) F (L2.Sub.in1 sb) hb I (.cons rfl .nil) hsp) (fun r s' q => ?_) fun e s' he => he
  obtain ⟨z, H', I', rz, rfl, rfl⟩ := q
  obtain ⟨t, rfl⟩ := rz
  refine ⟨⟨by omega, by omega⟩, ?_⟩
  refine wpAny_bind (wpAny_of_eq (a := some (n : Int)) rfl ?_)
  show wpAny _ A (if Builtin.List.listTooLong (n : Int).toNat = true then _ else pure ((n : Int) != 0)) _ _ _
  rw [Int.toNat_natCast, notLongL (by rw [sizeLine_eq]; omega)]
  refine PySem.W.KFB.if_not rfl (wpAny_pure ?_)
  have e : ((n : Int) != 0) = decide (n ≠ 0) := by
    by_cases z : n = 0
    · subst z
      rfl
    · rw [decide_eq_true z]
      simp [z]
  rw [e]
  exact h _ (I'.tok _)
/-- list(o), o with an own __iter__ over the tuple in the field fld and an own __len__ -/
def rListO (K : PySem.W.Frag) (C : Addr) (fld : Str) (spL : Sp) (EL : XK) : List V → Hp → VK → Prop := fun xs H Q => ∃ p dx fs t zs, xs = [.ref p] ∧ H p = some (.ins C dx fs) ∧ fs.lookup fld = some (.ref t) ∧ H t = some (.tup zs) ∧ zs.length ≤ 1000 ∧
  ∀ q, H q = none → (∃ n : Nat, n ≤ 1000 ∧ spL [.ref p] (upd H q (.lst [])) (fun v H' => v = .int (n : Nat) ∧ H' = upd H q (.lst [])) EL) ∧ Q (.ref q) (upd H q (.lst zs))
theorem call_listO (hc : X.calm = true) (M : OwnIt X.prog X.w X.K X.mg X.base C f fd fld) (L : Spc X.K C "__len__" g) (F : FnOk X.prog X.w X.K X.mg X.base CX0 k g gd ["self"] spL) (hb : Binds X.K gd ["self"] []) (hr : Room (k + 3) X.A) : CallR X (.type "list") (rListO X.K C fld spL EL) := by
  intro pins s σ H xs us Q I rv h
  obtain ⟨p, dx, fs, t, zs, rfl, hp, hf, ht, hz, hq⟩ := h
  obtain ⟨u, rfl, ru⟩ := rv.one
  cases ru
  have s2 : L2.Sub X (k + 1) X.A.in1.in1 := L2.Sub.in1 (L2.Sub.in1 (⟨hr, rfl⟩ : L2.Sub X (k + 3) X.A))
  refine callType_codes (Q₁ := fun obj s₁ => obj = .ref s.heap.objs.size ∧ s₁ = { s with heap := s.heap.push { cls := .type "list", data := .seq #[] } }) PySem.F.called_list (PySem.F.typeCall_list_1 _) PySem.F.entry_list_init
    (code_list_new _ ⟨rfl, rfl⟩) fun obj s₁ h₁ => ?_
  obtain ⟨rfl, rfl⟩ := h₁
  have hS : (s.heap.push { cls := .type "list", data := .seq #[] }).get? s.heap.objs.size = some { cls := .type "list", data := .seq #[] } := Heap.get?_push_size _ rfl
  have fr : H s.heap.objs.size = none := I.hok.fresh (Nat.le_refl _)
  obtain ⟨⟨n, hn, hsp⟩, q⟩ := hq _ fr
  refine ⟨⟨_, hS, rfl⟩, PySem.F.args_list_init_2 _ _, ?_⟩
  have I1 : Inv X pins σ (upd H s.heap.objs.size (.lst [])) { s with heap := s.heap.push { cls := .type "list", data := .seq #[] } } := I.lnew (its := []) (t' := s.toks) .nil (Nat.zero_le _)
  show wpAny _ _ (Builtin.List.listItems (.ref s.heap.objs.size) >>= _) _ _ _
  refine wpAny_bind ?_
  unfold Builtin.List.listItems
  refine wpAny_bind (wpAny_seqItems hS rfl (wpAny_pure ?_))
  show wpAny _ _ (updateSeq s.heap.objs.size (fun _ => #[]) >>= fun _ => letGo (#[] : Array Value).toList.reverse >>= fun _ => _) _ _ _
  have I2 := I1.lset (f := fun _ => #[]) (its := []) (its' := []) (ys := []) (t' := s.toks) upd_same hS rfl .nil (Nat.zero_le _)
  rw [upd_upd] at I2
  refine wpAny_bind (wpAny_updateSeq hS rfl (wpAny_bind (wpAny_letGo ?_)))
  generalize hsz : s.heap.objs.size = d at *
  generalize hh2 : Heap.update (s.heap.push { cls := .type "list", data := .seq #[] }) d (Obj.mapSeq fun _ => #[]) = h2 at I2 ⊢
  have pd : p ≠ d := ne_of_none hp fr
  have td : t ≠ d := ne_of_none ht fr
  have hp2 : upd H d (.lst []) p = some (.ins C dx fs) := by rw [upd_ne pd]; exact hp
  have ht2 : ∀ ys, SqT X.K (upd H d (.lst ys)) t zs := fun ys => SqT.of (by rw [upd_ne td]; exact ht)
  obtain ⟨mA, J, _⟩ := ins_get I2.hok hp2
  obtain ⟨od, J, _⟩ := J.look
  show wpAny _ _ (Builtin.List.listExtendWith (.ref d) (.ref p) .none) _ _ _
  unfold Builtin.List.listExtendWith
  refine wpAny_bind (J.type.here ?_)
  have e1 : Builtin.List.listSameRef (.ref d) (.ref p) = false := by simp [Builtin.List.listSameRef, Ne.symm pd]
  have e2 : (Value.ref C == Value.type "list") = false := rfl
  have e3 : (Value.ref C == Value.type "tuple") = false := rfl
  simp only [e1, e2, e3, Bool.or_false, Bool.false_eq_true, if_false]
  refine wpAny_bind (own_iter M (s2.mono (by omega)) I2 hp2 hf (ht2 []) fun it s3 I3 hi fp => ?_)
  have itd : it ≠ d := fun z => by
    have := fp.1
    rw [z, upd_same] at this
    cases this
  have fpH : FpOk X pins H it := ⟨by have := fp.1; rw [upd_ne itd] at this; exact this, fp.2⟩
  obtain ⟨o, ho, hoc, hod⟩ := id hi
  have I4 := I3.pinned (fp := [it]) (fun b hb => by rw [List.mem_singleton.mp hb]; exact fp) (fun b hb => by
    rw [List.mem_singleton.mp hb]
    exact ⟨o, ho, fun v z => by rw [hod] at z; cases z⟩)
  refine wpAny_bind (wpAny_holding (own_hintL L F s2 hb I4 hp2 hn hsp fun s5 I5 => ?_))
  have pn := (I5.pin (it, o) (List.mem_append_right _ (List.mem_append_right _ (mem_pinsAt (List.mem_singleton.mpr rfl) ho)))).1
  have hi5 : s5.heap.IsTupleIter it t 0 := ⟨o, pn, hoc, hod⟩
  have I6 := I5.unpinned
  have hA : X.A.in1.in1.handled = none := I.ok.hd hc
  have fill : ∀ s6, Inv X pins σ (upd H d (.lst [])) s6 → s6.heap.IsTupleIter it t 0 → codeAny (model X.prog X.w) X.A.in1 (.builtin "list.extend.loop" ⟨[.ref d, .ref it, .none], []⟩) (wants (fun r s₂ => r = .none ∧ EP X pins σ Q (.ref d) s₂) X.xe) s6 := fun s6 I7 h7 =>
    own_fill (H := H) hA itd (fun i => ht2 _) fpH (fun s8 I8 => ⟨rfl, .ref d, _, I8, rfl, q⟩) zs.length 0 s6 (by omega) (Nat.zero_le _) I7 h7
  refine wpAny_ite_split (fun _ => ?_) (fun _ => wpAny_pure ⟨plainId_quiet PySem.F.plain_extend_loop _, fill _ I6 hi5⟩)
  obtain ⟨z3, its3, k3, r3, hl3, w3⟩ := I6.lstM upd_same
  cases r3
  refine wpAny_bind (wpAny_rule (wpAny_bind ?_))
  show wpAny _ _ (updateSeq d (·.push .none) >>= fun _ => updateSeq d (·.pop)) _ _ _
  refine wpAny_bind (wpAny_updateSeq w3 rfl ?_)
  have I7 := I6.lset (f := (·.push Value.none)) (its' := [Value.none]) (ys := [.non]) (t' := s5.toks) upd_same w3 (by simp) (.cons rfl .nil) (by rw [List.length_singleton, sizeLine_eq]; decide)
  obtain ⟨z4, its4, k4, r4, hl4, w4⟩ := I7.lstM upd_same
  obtain ⟨u4, rfl, ru4⟩ := r4.one
  refine wpAny_updateSeq w4 rfl ?_ (by show 1 ≤ sizeLine; rw [sizeLine_eq]; decide) (by show 0 ≤ sizeLine + 1; exact Nat.zero_le _)
  have I8 := I7.lset (f := (·.pop)) (its := [u4]) (its' := []) (ys := []) (t' := s5.toks) upd_same w4 (by rfl) .nil (Nat.zero_le _)
  rw [upd_upd, upd_upd] at I8
  refine wpAny_pure ⟨plainId_quiet PySem.F.plain_extend_loop _, fill _ I8 ?_⟩
  exact (hi5.at fun o e => (Heap.get?_update_other _ _ (Ne.symm itd)).trans e).at fun o e => (Heap.get?_update_other _ _ (Ne.symm itd)).trans e
end
end WL
end L2
set_option Elab.async false
set_option linter.all false
set_option maxRecDepth 100000
set_option maxHeartbeats 4000000
namespace L2
namespace WL
open PySem PySem.Spec PyProof.Rows K1
open Builtin
/-! ### == and != by the class's __eq__ -/
section
variable {M : Model} {A : Around} {E : Value → Shared → Prop} {s : Shared} {K : PySem.W.Frag} {x C : Addr} {ox : Obj} {od : Option Obj} {name : Str} {id : String} {args : List Value}
theorem ifBound_B {Q : Option Value → Shared → Prop} (kin : K.In s.heap) (I : PySem.W.InstAt s.heap x ox C od) (hs : PySem.W.findIn K (.ref C) name = some (some (.builtin id))) (hb : bindSpecial (.builtin id) (.ref x) = pure (.builtin id, [.ref x]))
    (h : wpAny M A (call (.builtin id) (.ref x :: args)) (fun v => Q (some v)) E s) : wpAny M A (callSpecialIfBound? (.ref x) name args) Q E s := by
  simp only [callSpecialIfBound?, bindSpecialIfBound?]
  refine wpAny_holding (wpAny_bind (wpAny_bind (wpAny_bind (I.type.here ((PySem.W.looks_findIn kin hs).here ?_)))))
  simp only [hb]
  have go : wpAny M A (call (.builtin id) ([.ref x] ++ args) >>= fun v => pure (some v)) Q E s := wpAny_bind (wpAny_mono h (fun _ _ z => wpAny_pure z) fun _ _ z => z)
  refine wpAny_bind (wpAny_askSetting (wpAny_ite ?_))
  split
  · exact wpAny_bind (wpAny_pure (wpAny_pure go))
  · exact wpAny_tryCatch (wpAny_bind (wpAny_pure (wpAny_pure go)))
end
section
variable {X : Cx} {CX : CXT} {k : Nat} {C f : Addr} {fd : FuncData} {ps : List Str} {sp : Sp} {E : XK}
def rEqO (K : PySem.W.Frag) (C : Addr) (sp : Sp) (E : XK) (g : Bool → Bool) : R2 := fun x y H Q => ∃ a dx fs t, x = .ref a ∧ H a = some (.ins C dx fs) ∧ TyX K H y t ∧ PySem.W.notFirst K C t = true ∧ sp [x, y] H (fun v H' => ∃ b, v = .bl b ∧ Q (.bl (g b)) H') E
theorem op_eqO (M : Spc X.K C "__eq__" f) (F : FnOk X.prog X.w X.K X.mg X.base CX k f fd ps sp) (hr : Room k X.A) (hu : X.A.units < cLine) (hb : Binds X.K fd ps []) (hx : Passes CX X E) : OpR X (compareOp .Eq) (rEqO X.K C sp E id) := by
  intro pins s σ H x y v u Q I rx ry h
  obtain ⟨a, dx, fs, t, rfl, ha, ty, hn, hsp⟩ := h
  cases rx
  obtain ⟨mA, J, _⟩ := ins_get I.hok ha
  obtain ⟨od, J, _⟩ := J.look
  obtain ⟨m, hF⟩ := I.fr
  obtain ⟨Pk, Z, pk, _⟩ := kit_of I ry ty
  refine PySem.W.cmp_K (op := .Eq) hu hF I.ok.mod.kin J (Z.ty _ _ I.kIn pk) hn M.at_ M.fn ?_
  refine wpAny_mono (run_fn (us := [.ref a, u]) (vs := [.ref a, y]) F hr hb .nil hx I (.cons rfl (.cons ry .nil)) hsp) (fun r s' q => ?_) fun _ _ z => z
  obtain ⟨z, H', I', rz, b, rfl, q⟩ := q
  cases rz
  exact ⟨.bl b, H', I', rfl, q⟩
theorem op_neO (M : Spc X.K C "__eq__" f) (hne : PySem.W.findIn X.K (.ref C) "__ne__" = some (some (.builtin "object.__ne__"))) (hmo : PySem.W.mroIn X.K C (.type "object") = some true) (F : FnOk X.prog X.w X.K X.mg X.base CX0 k f fd ps sp) (hr : Room (k + 1) X.A) (hu : X.A.units + 1 < cLine) (hb : Binds X.K fd ps []) : OpR X (compareOp .NotEq) (rEqO X.K C sp E not) := by
  intro pins s σ H x y v u Q I rx ry h
  obtain ⟨a, dx, fs, t, rfl, ha, ty, hn, hsp⟩ := h
  cases rx
  obtain ⟨mA, J, _⟩ := ins_get I.hok ha
  obtain ⟨od, J, _⟩ := J.look
  obtain ⟨m, hF⟩ := I.fr
  obtain ⟨Pk, Z, pk, _⟩ := kit_of I ry ty
  have inst : PySem.W.Looks (model X.prog X.w) s.heap (isInstance (.ref a) (.type "object")) true := J.type.andThen (PySem.W.looks_mroIn I.kIn hmo)
  have one : wpAny (model X.prog X.w) X.A (tryCompare (.ref a) "__ne__" u) (fun r s' => ∃ v, r = some v ∧ EP X pins σ Q v s') X.xe s := by
    unfold tryCompare
    refine wpAny_bind (ifBound_B I.kIn J hne (PySem.F.cmp_object.ne.bind _) (wpAny_call (codeAny_call_builtin PySem.F.cmp_object.ne.plain PySem.F.cmpEntry_ne (PySem.W.check_slot PySem.F.cmpKind_ne PySem.F.cmpSplit_ne inst (PySem.F.cmpArgs_ne _ _) ?_))))
    unfold Builtin.«object.__ne__»
    refine wpAny_bind (wpAny_of_eq (a := (Value.ref a, [u])) (by first | rfl | kernel_rfl) ?_)
    show wpAny _ _ (cRoomFor "comparison" [.ref a, u] >>= _) _ _ _
    refine wpAny_bind (wpAny_cRoomFor hu ?_)
    refine wpAny_bind (PySem.W.ifBound_K I.kIn J M.at_ M.fn ?_)
    refine wpAny_mono (run_fn0 (us := [.ref a, u]) (vs := [.ref a, y]) F (L2.Sub.in1 ⟨hr, rfl⟩) hb I (.cons rfl (.cons ry .nil)) hsp) (fun r s' q => ?_) fun _ _ z => z
    obtain ⟨z, H', I', rz, b, rfl, q⟩ := q
    cases rz
    show wpAny _ _ (truthy (.bool b) >>= _) _ _ _
    refine wpAny_bind (wpAny_truthy_bool (wpAny_pure ?_))
    exact wpAny_pure ⟨_, rfl, .bl (!b), H', I', rfl, q⟩
  show wpAny _ _ (richCompare .NotEq (.ref a) u) _ _ _
  unfold richCompare
  simp only [oneThing_ref]
  refine wpAny_holding (wpAny_bind (wpAny_cRoomFor (Nat.lt_of_succ_lt hu) ?_))
  refine wpAny_bind (J.type.here (wpAny_bind ((Z.ty _ _ I.kIn pk).here ?_)))
  split
  · rename_i q
    have e : PySem.W.subIn X.K t (.ref C) = some false := by
      rcases Bool.or_eq_true_iff.mp hn with e | e
      · rw [beq_iff_eq.mp e] at q
        simp at q
      · exact beq_iff_eq.mp e
    refine wpAny_bind ((PySem.W.looks_subIn I.kIn e).here ?_)
    simp only [Bool.false_eq_true, if_false]
    refine wpAny_bind (wpAny_mono one (fun r s' z => ?_) fun _ _ e => e)
    obtain ⟨v, rfl, hq⟩ := z
    exact wpAny_pure hq
  · refine wpAny_bind (wpAny_pure ?_)
    simp only [Bool.false_eq_true, if_false]
    refine wpAny_bind (wpAny_mono one (fun r s' z => ?_) fun _ _ e => e)
    obtain ⟨v, rfl, hq⟩ := z
    exact wpAny_pure hq
end
end WL
end L2
set_option Elab.async false
set_option linter.all false
set_option maxRecDepth 100000
set_option maxHeartbeats 4000000
namespace L2
namespace WL
open PySem PySem.Spec PyProof.Rows K1
/-! ### data of texts -/
abbrev dS (xs : List Str) : List PyData := xs.map .str
def sOk (xs : List Str) : Prop := ∀ x ∈ xs, ∀ c ∈ x.cps.toList, c < 1114112
theorem dp_strs {K : PySem.W.Frag} {H : Hp} : ∀ xs : List Str, DpAll K H (xs.map .str) (dS xs)
  | [] => .nil
  | x :: xs => .cons (.str x) (dp_strs xs)
theorem lay_strs : ∀ {xs : List Str}, sOk xs → PyData.canLayAll0 (dS xs) = true
  | [], _ => rfl
  | x :: xs, h => by
    show (PyData.canLay0 (.str x) && PyData.canLayAll0 (dS xs)) = true
    rw [lay_strs fun y hy => h y (List.mem_cons_of_mem _ hy), Bool.and_true]
    show (x.cps.all (· < 1114112)) = true
    rw [Array.all_eq_true']
    intro c hc
    exact decide_eq_true (h x (List.mem_cons_self ..) c (by simpa using hc))
theorem dep_strs : ∀ xs : List Str, PyData.depthAll (dS xs) = 0
  | [] => rfl
  | x :: xs => by
    show max 0 (PyData.depthAll (dS xs)) = 0
    rw [dep_strs xs]
    rfl
theorem shape_tup {xs : List Str} (h : sOk xs) : SeqAt.shaped (.tuple (dS xs)) = true := by
  unfold SeqAt.shaped
  have e : PyData.depth (.tuple (dS xs)) = PyData.depthAll (dS xs) + 1 := rfl
  rw [e, dep_strs]
  show (PyData.canLayAll0 (dS xs) && true) = true
  rw [lay_strs h]
  rfl
theorem eqv_strs : ∀ xs ys : List Str, PyData.eqvAll (dS xs) (dS ys) = decide (xs = ys)
  | [], [] => rfl
  | [], y :: ys => rfl
  | x :: xs, [] => rfl
  | x :: xs, y :: ys => by
    show ((x == y) && PyData.eqvAll (dS xs) (dS ys)) = _
    rw [eqv_strs xs ys]
    by_cases e : x = y
    · subst e
      by_cases f : xs = ys
      · subst f
        simp
      · rw [decide_eq_false f, decide_eq_false (fun z => f (List.cons.inj z).2), Bool.and_false]
    · have e2 : (x == y) = false := by simpa using e
      rw [e2, Bool.false_and, decide_eq_false (fun z => e (List.cons.inj z).1)]
section
variable {X : Cx} {pins : List (Addr × Obj)} {σ : St} {H : Hp} {s : Shared}
theorem eqP_tup (I : Inv X pins σ H s) {A : Around} (hu : A.units + 64 < cLine) {a b : Addr} {xs ys : List Str} (ha : SqT X.K H a (xs.map .str)) (hb : SqT X.K H b (ys.map .str)) (ox : sOk xs) (oy : sOk ys) :
    SeqAt.EqP X.prog X.w A s (.ref a) (.ref b) (decide (xs = ys)) := by
  obtain ⟨as, r1⟩ := Dp.reads I (.tuple (dS xs)) (.ref a) (.ref a) (.tup ha (dp_strs xs)) rfl
  obtain ⟨bs, r2⟩ := Dp.reads I (.tuple (dS ys)) (.ref b) (.ref b) (.tup hb (dp_strs ys)) rfl
  have e : PyData.eqv (.tuple (dS xs)) (.tuple (dS ys)) = decide (xs = ys) := eqv_strs xs ys
  rw [← e]
  exact (SeqAt.eqAt_reads _ _ A s _ _ as bs r1 r2 (SeqAt.canLay_of_shaped (shape_tup ox)) (SeqAt.canLay_of_shaped (shape_tup oy)) (SeqAt.room_of_shaped (shape_tup ox) hu)).eqP
/-- whether two dicts from texts to tuples of texts are equal -/
def dEq (ps qs : Rws) : Bool := decide (ps.length = qs.length) && ps.all fun p => decide (srcs qs p.1 = some p.2)
def rOk (ps : Rws) : Prop := ∀ p ∈ ps, sOk p.2
theorem srcs_mem {ps : Rws} {z : Str} {xs : List Str} (h : srcs ps z = some xs) : ∃ p ∈ ps, p.1 = z ∧ p.2 = xs := by
  unfold srcs at h
  obtain ⟨p, hp, rfl⟩ := Option.map_eq_some_iff.mp h
  exact ⟨p, List.mem_of_find?_eq_some hp, of_decide_eq_true (by have := List.find?_some hp; simpa using this), rfl⟩
theorem hits_tup (I : Inv X pins σ H s) {A : Around} (hu : A.units + 64 < cLine) {ls : List (Key × V)} {qs : Rws} (dl : DTup X.K H ls qs) (oq : rOk qs) {vb : List (Key × Value)} (rb : KV ls vb) : ∀ {ks : List (Key × V)} {ps : Rws}, DTup X.K H ks ps → rOk ps → ∀ {va : List (Key × Value)}, KV ks va →
    PySem.W.KeqHitsP X.prog X.w A s vb va (ps.all fun p => decide (srcs qs p.1 = some p.2))
  | _, _, .nil, _, va, r => by
    cases r
    exact .nil
  | kv :: ks, p :: ps, .cons ⟨e1, a, e2, q⟩ t, op, va, r => by
    cases r with
    | @cons _ w _ ws h tl =>
      obtain ⟨key, v⟩ := w
      obtain ⟨h1, h2⟩ := h
      have h1' : kv.1 = key := h1
      subst h1'
      rw [e2] at h2
      cases (show v = Value.ref a from h2)
      have ih := hits_tup I hu dl oq rb t (fun p' hp' => op p' (List.mem_cons_of_mem _ hp')) tl
      rw [List.all_cons]
      rcases dl.get (z := p.1) with ⟨xs, b, g1, g2, g3⟩ | ⟨g1, g2⟩
      · have rr : RelO (some (.ref b)) (valueAt vb kv.1) := by
          rw [← g2, ← e1]
          exact rb.val kv.1
        obtain ⟨y, hy, ry⟩ := rr.some_of
        cases (show y = Value.ref b from ry)
        obtain ⟨p', hp', _, rfl⟩ := srcs_mem g1
        have eq := eqP_tup I hu q g3 (op p (List.mem_cons_self ..)) (oq p' hp')
        have e : decide (srcs qs p.1 = some p.2) = decide (p.2 = p'.2) := by
          rw [g1]
          by_cases z : p.2 = p'.2
          · rw [decide_eq_true z, decide_eq_true (by rw [z])]
          · rw [decide_eq_false z, decide_eq_false (fun w => z (Option.some.inj w).symm)]
        rw [e]
        exact .hit hy eq ih
      · have rr : RelO none (valueAt vb kv.1) := by
          rw [← g2, ← e1]
          exact rb.val kv.1
        have hn : valueAt vb kv.1 = none := by
          cases z : valueAt vb kv.1 with
          | none => rfl
          | some y =>
            rw [z] at rr
            cases rr
        rw [g1, decide_eq_false (fun z => nomatch z), Bool.false_and]
        exact .miss hn
def rEqDT (K : PySem.W.Frag) : R2 := fun x y H Q => ∃ a b ks ls ps qs, x = .ref a ∧ y = .ref b ∧ H a = some (.dK ks) ∧ H b = some (.dK ls) ∧ DTup K H ks ps ∧ DTup K H ls qs ∧ rOk ps ∧ rOk qs ∧ Q (.bl (dEq ps qs)) H
theorem op_eqDT (hu : X.A.units + 65 < cLine) : OpR X (compareOp .Eq) (rEqDT X.K) := by
  intro pins s σ H x y v u Q I rx ry h
  obtain ⟨a, b, ks, ls, ps, qs, rfl, rfl, ha, hb, dk, dl, op, oq, q⟩ := h
  cases rx
  cases ry
  obtain ⟨_, ya, va, ra, da⟩ := (show ObjOk X.prog X.w H s.heap a (.dK ks) from I.hok a _ ha)
  obtain ⟨_, yb, vb, rb, db⟩ := (show ObjOk X.prog X.w H s.heap b (.dK ls) from I.hok b _ hb)
  have e : (va.length == vb.length) = decide (ps.length = qs.length) := by
    rw [← ra.length, ← rb.length, dk.len, dl.len]
    by_cases z : ps.length = qs.length
    · rw [decide_eq_true z, z]
      simp
    · rw [decide_eq_false z]
      simpa using z
  show wpAny _ _ (richCompare .Eq _ _) _ _ _
  refine PySem.W.rcP_dicts (knd := mixKind X.prog X.w) ya yb da db (by omega) (fun _ => hits_tup I (A := X.A.in1) (by show X.A.units + 1 + 64 < cLine; omega) dl oq rb dk op ra) _ _ ?_
  rw [e]
  exact ⟨.bl (dEq ps qs), H, I, rfl, q⟩
end
end WL
end L2
namespace L2
namespace WL
open PySem PySem.Spec PyProof.Rows K1
/-- whether a value is a cell -/
def inWeb (rs : Rws) : V → Bool
  | .str z => decide (z ∈ rs.map Prod.fst)
  | _ => false
def spCon (K : PySem.W.Frag) (C : Addr) : Sp := fun vs H Q _ => ∃ (p : Addr) (x : V) (b : Bool) (rs : Rws), vs = [.ref p, x] ∧ IsWeb K H C p rs ∧ Good rs ∧ IsN K H x b ∧ ∀ H', Same H H' → Q (.bl (inWeb rs x)) H'
theorem isn_in {K : PySem.W.Frag} {H : Hp} {x : V} {b : Bool} {rs : Rws} (g : Good rs) (h : IsN K H x b) : (b = false → inWeb rs x = false) ∧ (b = true → ∃ z, x = .str z) := by
  rcases h with ⟨z, rfl, _, rfl⟩ | ⟨t, ty, kt, rfl⟩
  · refine ⟨fun e => decide_eq_false fun m => ?_, fun _ => ⟨z, rfl⟩⟩
    obtain ⟨r, hr, rfl⟩ := List.mem_map.mp m
    rw [g.nm r hr] at e
    cases e
  · refine ⟨fun _ => ?_, fun e => by cases e⟩
    cases x with
    | str z =>
      exfalso
      cases ty with
      | base h =>
        cases h
        rw [kit_ty (K := K) (a := "str") (b := "str") (r := true) (by decide +kernel)] at kt
        cases kt
    | _ => rfl
def spLenW (K : PySem.W.Frag) (C : Addr) : Sp := fun vs H Q _ => ∃ (p : Addr) (rs : Rws), vs = [.ref p] ∧ IsWeb K H C p rs ∧ Q (.int (rs.length : Nat)) H
def spCC (K : PySem.W.Frag) (C CU : Addr) : Sp := fun vs H Q E => ∃ (p : Addr) (v : V) (xs : List V) (rs : Rws), vs = [.ref p, v] ∧ Seq K H v xs ∧ IsWeb K H C p rs ∧ Good rs ∧ (∀ x ∈ xs, ∃ b, IsN K H x b) ∧
  ((xs.all (inWeb rs) = true ∧ ∀ H', Same H H' → Q .non H') ∨ ∃ x, xs.find? (fun x => !inWeb rs x) = some x ∧ Rz H E CU "cell" x)
def spSrc (K : PySem.W.Frag) (C CU : Addr) (f : Rws → Rws) : Sp := fun vs H Q E => ∃ (p : Addr) (x : V) (b : Bool) (rs : Rws), vs = [.ref p, x] ∧ IsWeb K H C p rs ∧ Good rs ∧ IsN K H x b ∧
  ((∃ z xs, x = .str z ∧ srcs (f rs) z = some xs ∧ z ∈ rs.map Prod.fst ∧ ∀ H' a, Same H H' → SqT K H' a (xs.map .str) → Q (.ref a) H') ∨ (inWeb rs x = false ∧ Rz H E CU "cell" x))
theorem Rz.up {H H1 : Hp} {E : XK} {C : Addr} {f : Str} {v : V} (h : Rz H E C f v) (s : Same H H1) : Rz H1 E C f v := fun H' d s' e => h H' d (s.trans s') e
end WL
end L2
namespace L2
namespace WL
open PySem PySem.Spec PyProof.Rows K1
/-- what isinstance asks of the class Web -/
structure Wk (K : PySem.W.Frag) (C : Addr) : Prop where
  ins : ∀ {H : Hp} {p dx : Addr} {fs : List (Str × V)}, H p = some (.ins C dx fs) → TyX K H (.ref p) (.ref C)
  self : PySem.W.kitOne K (.ref C) (.ref C) = some true
def wEq (rs qs : Rws) : Bool := decide (rs.map Prod.fst = qs.map Prod.fst) && dEq rs qs
def wOk (rs : Rws) : Prop := sOk (rs.map Prod.fst) ∧ rOk rs
theorem isNm_ok {z : Str} (h : isNm z = true) : ∀ c ∈ z.cps.toList, c < 1114112 := fun c m => by
  unfold isNm at h
  obtain ⟨_, h⟩ := Bool.and_eq_true_iff.mp h
  obtain ⟨_, h⟩ := Bool.and_eq_true_iff.mp h
  have := List.all_eq_true.mp h c m
  unfold okc at this
  obtain ⟨_, h2⟩ := Bool.and_eq_true_iff.mp this
  have := of_decide_eq_true h2
  omega
theorem Good.ok {rs : Rws} (g : Good rs) : wOk rs := ⟨fun x hx => by
  obtain ⟨r, hr, rfl⟩ := List.mem_map.mp hx
  exact isNm_ok (g.nm r hr), fun r hr x hx => by
  obtain ⟨r', hr', rfl⟩ := List.mem_map.mp ((g.sr r hr).2.2 x hx)
  exact isNm_ok (g.nm r' hr')⟩
def spEqW (K : PySem.W.Frag) (C : Addr) : Sp := fun vs H Q _ => ∃ (p : Addr) (y : V) (rs : Rws), vs = [.ref p, y] ∧ IsWeb K H C p rs ∧ wOk rs ∧
  ((∃ t, TyX K H y t ∧ PySem.W.kitOne K t (.ref C) = some false ∧ Q (.bl false) H) ∨ ∃ p2 qs, y = .ref p2 ∧ IsWeb K H C p2 qs ∧ wOk qs ∧ Q (.bl (wEq rs qs)) H)
end WL
end L2
set_option Elab.async false
set_option linter.all false
set_option maxRecDepth 100000
set_option maxHeartbeats 4000000
namespace L2
namespace WL
open PySem PySem.Spec PyProof.Rows K1
/-- list(e.values()) -/
def tListVals (te : TE) : TE := fun σ H Q => te σ H fun x H1 => ∃ (d : Addr) (kvs : List (Key × V)), x = .ref d ∧ H1 d = some (.dK kvs) ∧ ∀ p, H1 p = none → Q (.ref p) (upd H1 p (.lst (kvs.map (·.2))))
theorem vals_of {kvs : List (Key × V)} {vs : List (Key × Value)} (r : KV kvs vs) : Vals (kvs.map (·.2)) (vs.map (·.2)) := by
  unfold KV at r
  induction r with
  | nil => exact .nil
  | cons h _ ih => exact .cons h.2 ih
section
variable {X : Cx} {e : Expr} {te : TE} {p apos cpos pos : Pos}
theorem pe_listVals (hc : X.calm = true) (he : PE X e te) (hg : Gl X "list") (hm : X.mg "list" = none) (hbase : attributeBase e "values" X.env (eval e X.env) = eval e X.env := by rfl) (hline : (apos.endLine == cpos.line) = true := by rfl)
    (hs : starEach [.Call (.Attribute e "values" apos) [] [] cpos] X.env = (false, eval (.Call (.Attribute e "values" apos) [] [] cpos) X.env) :: starEach [] X.env := by rfl) :
    PE X (.Call (.Name "list" p) [.Call (.Attribute e "values" apos) [] [] cpos] [] pos) (tListVals te) := by
  refine ⟨fun pins s σ H Q I hq => ?_⟩
  refine wpAny_Call_Name_kw (ld_blt I hg hm PyProof.Rows.boot_list (PyProof.Rows.callWith_type1 ?_ hs rfl))
  rw [hs]
  show wpAny _ _ (spliced ((false, eval (.Call (.Attribute e "values" apos) [] [] cpos) X.env) :: backTo pos (starEach [] X.env))) _ _ s
  refine Calls.spliced_cons (wpAny_Call_method (T := "dict") (id := "dict.values") hbase rfl hline F.plainAttrs_dict F.slot_dict_values F.type_dict_values (thn (he.run pins s σ H _ I hq) fun u s1 ⟨x, H1, I1, rx, d, kvs, ex, hd, q⟩ => ?_))
  subst ex
  obtain rfl : u = Value.ref d := rx
  obtain ⟨hz, hs0, vs, kv, hdo⟩ := I1.hok d _ hd
  obtain ⟨ep, hat⟩ := hdo.dictAt
  have lk : kvs.length = vs.length := Paired.length kv
  have I2 : Inv X pins σ H1 { s1 with heap := s1.heap.push { cls := .type "dict_values", data := .fields #[.ref d] } } := I1.kept (t' := s1.toks) fun b ob q => Heap.get?_push_of_some _ q
  refine ⟨hdo.typeIs, hdo.mapOf.noDict, ?_⟩
  show wpAny _ _ (callWith cpos (.builtin "dict.values") [.ref d] [] []) _ X.xe s1
  refine method_meetsIn F.slot_dict_values F.entry_dict_values rfl (PySem.evalArgs_none ⟨rfl, hdo.typeIs, F.args_dict_values_1 _, _, meets_dict_values (mixKind X.prog X.w) d hs0, ⟨vs, hdo⟩, Calls.spliced_nil ?_⟩)
  refine PySem.W.kdl_call (PySem.W.kdl_values (knd := mixKind X.prog X.w) (kvs := vs) (ep := ep)) (I1.ok.hd hc) ⟨⟨_, Heap.get?_push_size _ rfl, rfl, rfl⟩, hat.push _⟩ (by omega) fun h' tk acc c hk hD hacc => ?_
  refine ⟨.ref _, _, I2.laid (t' := tk) (o := .lst (kvs.map (·.2))) hk (Nat.le_refl _) ⟨by rw [List.length_map]; exact hz, acc.toList, c, ?_, ?_⟩, rfl, q _ (I2.hok.fresh (Nat.le_refl _))⟩
  · have ea : acc.toList = vs.map (·.2) := by
      apply List.ext_getElem?
      intro i
      rw [List.getElem?_map, Array.getElem?_toList]
      cases hv : acc[i]? with
      | some v =>
        obtain ⟨k, hk'⟩ := hacc.2 i v hv
        rw [hk']
        rfl
      | none =>
        have : acc.size ≤ i := Array.getElem?_eq_none_iff.mp hv
        rw [hacc.1] at this
        rw [List.getElem?_eq_none this]
        rfl
    rw [ea]
    exact vals_of kv
  · rw [Array.toArray_toList]
    exact hD
end
end WL
end L2
set_option Elab.async false
set_option linter.all false
set_option maxRecDepth 100000
set_option maxHeartbeats 4000000
namespace L2
namespace WL
open PySem PySem.Spec PyProof.Rows K1
/-! ### walks along arrows -/
/-- behind k arrows from b, all cells but b told ones -/
def wk (rs : Rws) (cs : List Str) (b : Str) : Nat → Str → Prop
  | 0, x => x = b
  | k + 1, x => x ∈ cs ∧ ∃ y, wk rs cs b k y ∧ x ∈ tgt rs y
/-- k + 1 arrows from b back to b -/
def clo (rs : Rws) (cs : List Str) (b : Str) (k : Nat) : Prop := ∃ y, wk rs cs b k y ∧ b ∈ tgt rs y
inductive Pth (rs : Rws) (cs : List Str) (b : Str) : Nat → List Str → Prop
  | nil : Pth rs cs b 0 [b]
  | snoc {k : Nat} {p : List Str} {y x : Str} (h : Pth rs cs b k p) (l : p.getLast? = some y) (c : x ∈ cs) (t : x ∈ tgt rs y) : Pth rs cs b (k + 1) (p ++ [x])
theorem Pth.len {rs : Rws} {cs : List Str} {b : Str} {k : Nat} {p : List Str} (h : Pth rs cs b k p) : p.length = k + 1 := by
  induction h with
  | nil => rfl
  | snoc h l c t ih =>
    rw [List.length_append, ih]
    rfl
theorem Pth.last {rs : Rws} {cs : List Str} {b : Str} {k : Nat} {p : List Str} (h : Pth rs cs b k p) : ∃ y, p.getLast? = some y ∧ wk rs cs b k y := by
  induction h with
  | nil => exact ⟨b, rfl, rfl⟩
  | @snoc k p y x h l c t ih =>
    obtain ⟨y', e1, e2⟩ := ih
    rw [l] at e1
    cases e1
    exact ⟨x, by simp, c, y, e2, t⟩
theorem Pth.mem {rs : Rws} {cs : List Str} {b : Str} (hb : b ∈ cs) {k : Nat} {p : List Str} (h : Pth rs cs b k p) : ∀ x ∈ p, x ∈ cs := by
  induction h with
  | nil =>
    intro x hx
    have : x = b := by simpa using hx
    rw [this]
    exact hb
  | @snoc k p y x h l c t ih =>
    intro z hz
    rcases List.mem_append.mp hz with hz | hz
    · exact ih z hz
    · have : z = x := by simpa using hz
      rw [this]
      exact c
theorem Pth.head {rs : Rws} {cs : List Str} {b : Str} {k : Nat} {p : List Str} (h : Pth rs cs b k p) : p[0]? = some b := by
  induction h with
  | nil => rfl
  | @snoc k p y x h l c t ih =>
    have : 0 < p.length := by
      rw [h.len]
      omega
    rw [List.getElem?_append_left this]
    exact ih
theorem Pth.arrow {rs : Rws} {cs : List Str} {b : Str} {k : Nat} {p : List Str} (h : Pth rs cs b k p) : ∀ i x y, p[i]? = some x → p[i + 1]? = some y → y ∈ tgt rs x := by
  induction h with
  | nil =>
    intro i x y h1 h2
    rw [List.getElem?_eq_none (by simp)] at h2
    cases h2
  | @snoc k p y x h l c t ih =>
    intro i u v h1 h2
    have hl := h.len
    have lt : i + 1 < (p ++ [x]).length := (List.getElem?_eq_some_iff.mp h2).1
    rw [List.length_append] at lt
    have lt' : i + 1 < p.length + 1 := lt
    by_cases hi : i + 1 < p.length
    · rw [List.getElem?_append_left hi] at h2
      rw [List.getElem?_append_left (by omega)] at h1
      exact ih i u v h1 h2
    · have ei : i + 1 = p.length := by omega
      rw [List.getElem?_append_right (by omega)] at h2
      have e2 : v = x := by
        rw [ei, Nat.sub_self] at h2
        exact (Option.some.inj h2).symm
      rw [List.getElem?_append_left (by omega)] at h1
      have e1 : p.getLast? = some u := by
        rw [List.getLast?_eq_getElem?]
        have : p.length - 1 = i := by omega
        rw [this]
        exact h1
      rw [l] at e1
      cases e1
      rw [e2]
      exact t
/-- ps are the walks of k arrows: each one is, each end has one -/
structure Lev (rs : Rws) (cs : List Str) (b : Str) (k : Nat) (ps : List (List Str)) : Prop where
  pth : ∀ p ∈ ps, Pth rs cs b k p
  all : ∀ x, wk rs cs b k x → ∃ p ∈ ps, p.getLast? = some x
/-- qs are ps one cell longer -/
structure Lng (rs : Rws) (cs : List Str) (ps qs : List (List Str)) : Prop where
  of : ∀ q ∈ qs, ∃ p ∈ ps, ∃ y x, p.getLast? = some y ∧ x ∈ tgt rs y ∧ x ∈ cs ∧ q = p ++ [x]
  all : ∀ p ∈ ps, ∀ y, p.getLast? = some y → ∀ x ∈ tgt rs y, x ∈ cs → ∃ q ∈ qs, q.getLast? = some x
theorem Lev.next {rs : Rws} {cs : List Str} {b : Str} {k : Nat} {ps qs : List (List Str)} (h : Lev rs cs b k ps) (l : Lng rs cs ps qs) : Lev rs cs b (k + 1) qs where
  pth := fun q hq => by
    obtain ⟨p, hp, y, x, e1, e2, e3, rfl⟩ := l.of q hq
    exact .snoc (h.pth p hp) e1 e3 e2
  all := fun x hx => by
    obtain ⟨c, y, hy, t⟩ := hx
    obtain ⟨p, hp, e⟩ := h.all y hy
    exact l.all p hp y e x t c
theorem Lev.zero {rs : Rws} {cs : List Str} {b : Str} : Lev rs cs b 0 [[b]] where
  pth := fun p hp => by
    have : p = [b] := by simpa using hp
    rw [this]
    exact .nil
  all := fun x hx => ⟨[b], by simp, by rw [show x = b from hx]; rfl⟩
theorem wk_none {rs : Rws} {cs : List Str} {b : Str} {k : Nat} (h : ∀ x, ¬ wk rs cs b k x) : ∀ j x, ¬ wk rs cs b (k + j) x
  | 0, x => h x
  | j + 1, x => fun z => by
    obtain ⟨_, y, hy, _⟩ := z
    exact wk_none h j y hy
/-! ### the dict of longer paths -/
def putM (M : Rws) (x : Str) (xs : List Str) : Rws := if (M.any fun m => decide (m.1 = x)) = true then M.map fun m => if m.1 = x then (m.1, xs) else m else M ++ [(x, xs)]
theorem putM_mem {M : Rws} {x : Str} {xs : List Str} {m : Str × List Str} (h : m ∈ putM M x xs) : m ∈ M ∨ m = (x, xs) := by
  unfold putM at h
  split at h
  · obtain ⟨m', hm', e⟩ := List.mem_map.mp h
    by_cases z : m'.1 = x
    · rw [if_pos z] at e
      exact .inr (by rw [← e, z])
    · rw [if_neg z] at e
      exact .inl (e ▸ hm')
  · rcases List.mem_append.mp h with h | h
    · exact .inl h
    · exact .inr (by simpa using h)
theorem putM_keys {M : Rws} {x : Str} {xs : List Str} : (putM M x xs).map Prod.fst = if (M.any fun m => decide (m.1 = x)) = true then M.map Prod.fst else M.map Prod.fst ++ [x] := by
  unfold putM
  split
  · rw [List.map_map]
    apply List.map_congr_left
    intro m _
    show (if m.1 = x then (m.1, xs) else m).1 = m.1
    split <;> rfl
  · rw [List.map_append]
    rfl
theorem any_key {M : Rws} {x : Str} : (M.any fun m => decide (m.1 = x)) = true ↔ x ∈ M.map Prod.fst := by
  rw [List.any_eq_true]
  constructor
  · rintro ⟨m, hm, e⟩
    exact List.mem_map.mpr ⟨m, hm, of_decide_eq_true e⟩
  · intro h
    obtain ⟨m, hm, e⟩ := List.mem_map.mp h
    exact ⟨m, hm, decide_eq_true e⟩
theorem putM_nodup {M : Rws} {x : Str} {xs : List Str} (nd : (M.map Prod.fst).Nodup) : ((putM M x xs).map Prod.fst).Nodup := by
  rw [putM_keys]
  split
  · exact nd
  · rename_i h
    rw [any_key] at h
    rw [List.nodup_append]
    refine ⟨nd, by simp, fun a ha b hb => ?_⟩
    have : b = x := by simpa using hb
    rw [this]
    exact fun e => h (e ▸ ha)
theorem putM_has {M : Rws} {x : Str} {xs : List Str} {z : Str} (h : z ∈ M.map Prod.fst ∨ z = x) : z ∈ (putM M x xs).map Prod.fst := by
  rw [putM_keys]
  split
  · rename_i k
    rcases h with h | h
    · exact h
    · rw [h]
      exact any_key.mp k
  · rcases h with h | h
    · exact List.mem_append_left _ h
    · rw [h]
      simp
/-- a dict from texts to lists of texts -/
def DLst (H : Hp) (kvs : List (Key × V)) (M : Rws) : Prop := Paired (fun (kv : Key × V) (m : Str × List Str) => kv.1 = kS m.1 ∧ ∃ a, kv.2 = .ref a ∧ H a = some (.lst (m.2.map .str))) kvs M
theorem DLst.same {H H' : Hp} {kvs : List (Key × V)} {M : Rws} (h : DLst H kvs M) (s : Same H H') : DLst H' kvs M := Paired.imp (fun _ _ ⟨e, a, e2, q⟩ => ⟨e, a, e2, s _ _ q⟩) h
theorem DLst.any {H : Hp} {x : Str} : ∀ {kvs : List (Key × V)} {M : Rws}, DLst H kvs M → (kvs.any fun kv => decide (kv.1 = kS x)) = (M.any fun m => decide (m.1 = x))
  | _, _, .nil => rfl
  | kv :: ks, m :: ms, .cons h t => by
    rw [List.any_cons, List.any_cons, DLst.any t]
    congr 1
    rw [h.1]
    by_cases e : m.1 = x
    · rw [decide_eq_true e, decide_eq_true (by rw [e])]
    · have e2 : ¬ kS m.1 = kS x := fun z => e (Sum.inr.inj z)
      rw [decide_eq_false e, decide_eq_false e2]
theorem DLst.repl {H : Hp} {x : Str} {xs : List Str} {q : Addr} (hq : H q = some (.lst (xs.map .str))) : ∀ {kvs : List (Key × V)} {M : Rws}, DLst H kvs M →
    DLst H (kvs.map fun kv => if kv.1 = kS x then (kv.1, .ref q) else kv) (M.map fun m => if m.1 = x then (m.1, xs) else m)
  | _, _, .nil => .nil
  | kv :: ks, m :: ms, .cons h t => by
    rw [List.map_cons, List.map_cons]
    refine .cons ?_ (DLst.repl hq t)
    by_cases e : m.1 = x
    · rw [if_pos e, if_pos (by rw [h.1, e])]
      exact ⟨h.1, q, rfl, hq⟩
    · rw [if_neg e, if_neg (by rw [h.1]; exact fun z => e (Sum.inr.inj z))]
      exact h
theorem DLst.put {H : Hp} {x : Str} {xs : List Str} {q : Addr} {kvs : List (Key × V)} {M : Rws} (h : DLst H kvs M) (hq : H q = some (.lst (xs.map .str))) : DLst H (putK kvs (kS x) (.ref q)) (putM M x xs) := by
  have e := h.any (x := x)
  unfold putK putM
  rw [e]
  split
  · exact h.repl hq
  · exact Paired.snoc h ⟨rfl, q, rfl, hq⟩
/-- a list of lists of texts -/
def PthV (H : Hp) (v : V) (q : List Str) : Prop := ∃ a, v = .ref a ∧ H a = some (.lst (q.map .str))
theorem PthV.same {H H' : Hp} {v : V} {q : List Str} (h : PthV H v q) (s : Same H H') : PthV H' v q := let ⟨a, e, b⟩ := h; ⟨a, e, s _ _ b⟩
def PathsAt (H : Hp) (l : Addr) (ps : List (List Str)) : Prop := ∃ vs, H l = some (.lst vs) ∧ Paired (PthV H) vs ps
theorem PathsAt.same {H H' : Hp} {l : Addr} {ps : List (List Str)} (h : PathsAt H l ps) (s : Same H H') : PathsAt H' l ps := let ⟨vs, e, a⟩ := h; ⟨vs, s _ _ e, Paired.imp (fun _ _ r => r.same s) a⟩
theorem DLst.vals {H : Hp} : ∀ {kvs : List (Key × V)} {M : Rws}, DLst H kvs M → Paired (PthV H) (kvs.map (·.2)) (M.map Prod.snd)
  | _, _, .nil => .nil
  | _, _, .cons h t => .cons h.2 (DLst.vals t)
theorem tgt_cell {rs : Rws} {y x : Str} (h : x ∈ tgt rs y) : x ∈ rs.map Prod.fst := by
  unfold tgt at h
  obtain ⟨r, hr, rfl⟩ := List.mem_map.mp h
  exact List.mem_map.mpr ⟨r, (List.mem_filter.mp hr).1, rfl⟩
theorem tgt_len {rs : Rws} {y : Str} : (tgt rs y).length ≤ rs.length := by
  unfold tgt
  rw [List.length_map]
  exact List.length_filter_le _ _
theorem srcs_tgt {rs : Rws} (nd : (rs.map Prod.fst).Nodup) {y : Str} (h : y ∈ rs.map Prod.fst) : srcs (rs.map fun r => (r.1, tgt rs r.1)) y = some (tgt rs y) := by
  obtain ⟨r, hr, rfl⟩ := List.mem_map.mp h
  have := srcs_at (ps := rs.map fun r => (r.1, tgt rs r.1)) (by rw [List.map_map]; exact nd) (p := (r.1, tgt rs r.1)) (List.mem_map.mpr ⟨r, hr, rfl⟩)
  exact this
/-- one cell longer -/
def spLng (K : PySem.W.Frag) (C : Addr) : Sp := fun vs H Q _ => ∃ (p l : Addr) (vc : V) (rs : Rws) (cs : List Str) (ps : List (List Str)), vs = [.ref p, vc, .ref l] ∧ IsWeb K H C p rs ∧ Good rs ∧ Seq K H vc (cs.map .str) ∧ PathsAt H l ps ∧ ps.length ≤ 1000 ∧ (∀ q ∈ ps, q.length ≤ 1000 ∧ ∃ y, q.getLast? = some y ∧ y ∈ rs.map Prod.fst) ∧
  ∀ H' l' qs, Same H H' → PathsAt H' l' qs → qs.length ≤ rs.length → Lng rs cs ps qs → Q (.ref l') H'
end WL
end L2
set_option Elab.async false
set_option linter.all false
set_option maxRecDepth 100000
set_option maxHeartbeats 4000000
namespace L2
namespace WL
open PySem PySem.Spec PyProof.Rows K1
theorem wk_trans {rs : Rws} {cs : List Str} {b z : Str} {a : Nat} (h : wk rs cs b a z) : ∀ {d : Nat} {y : Str}, wk rs cs z d y → wk rs cs b (a + d) y
  | 0, y, e => by
    rw [show y = z from e]
    exact h
  | d + 1, y, ⟨c, u, hu, t⟩ => ⟨c, u, wk_trans h hu, t⟩
theorem Pth.between {rs : Rws} {cs : List Str} {b : Str} {k : Nat} {p : List Str} (h : Pth rs cs b k p) : ∀ i j x y, i ≤ j → p[i]? = some x → p[j]? = some y → wk rs cs x (j - i) y := by
  induction h with
  | nil =>
    intro i j x y hij h1 h2
    have l1 : j < 1 := (List.getElem?_eq_some_iff.mp h2).1
    have ei : i = 0 := by omega
    have ej : j = 0 := by omega
    subst ei
    subst ej
    cases h1
    cases h2
    exact rfl
  | @snoc k p u x h l c t ih =>
    intro i j v y hij h1 h2
    have hl := h.len
    have lt : j < (p ++ [x]).length := (List.getElem?_eq_some_iff.mp h2).1
    rw [List.length_append] at lt
    have lt' : j < p.length + 1 := lt
    by_cases hj : j < p.length
    · rw [List.getElem?_append_left hj] at h2
      rw [List.getElem?_append_left (by omega)] at h1
      exact ih i j v y hij h1 h2
    · have ej : j = p.length := by omega
      rw [List.getElem?_append_right (by omega), ej, Nat.sub_self] at h2
      have e2 : y = x := (Option.some.inj h2).symm
      by_cases hi : i = j
      · rw [hi, ej, List.getElem?_append_right (by omega), Nat.sub_self] at h1
        have e1 : v = x := (Option.some.inj h1).symm
        rw [hi, Nat.sub_self, e1, e2]
        exact rfl
      · rw [List.getElem?_append_left (by omega)] at h1
        have hu : p[p.length - 1]? = some u := by
          rw [← List.getLast?_eq_getElem?]
          exact l
        have := ih i (p.length - 1) v u (by omega) h1 hu
        have e3 : j - i = (p.length - 1 - i) + 1 := by omega
        rw [e3, e2]
        exact ⟨c, u, this, t⟩
/-- the least number of arrows back -/
def Min (rs : Rws) (cs : List Str) (b : Str) (k : Nat) : Prop := clo rs cs b k ∧ ∀ j, j < k → ¬ clo rs cs b j
theorem min_of {rs : Rws} {cs : List Str} {b : Str} : ∀ {k : Nat}, clo rs cs b k → ∃ m, m ≤ k ∧ Min rs cs b m := by
  intro k
  induction k using Nat.strongRecOn with
  | _ k ih =>
    intro h
    by_cases z : ∃ j, j < k ∧ clo rs cs b j
    · obtain ⟨j, hj, hc⟩ := z
      obtain ⟨m, hm, h2⟩ := ih j hj hc
      exact ⟨m, by omega, h2⟩
    · exact ⟨k, Nat.le_refl _, h, fun j hj hc => z ⟨j, hj, hc⟩⟩
theorem wk_path {rs : Rws} {cs : List Str} {b : Str} : ∀ {k : Nat} {x : Str}, wk rs cs b k x → ∃ p, Pth rs cs b k p ∧ p.getLast? = some x
  | 0, x, e => ⟨[b], .nil, by rw [show x = b from e]; rfl⟩
  | k + 1, x, ⟨c, u, hu, t⟩ => by
    obtain ⟨p, h1, h2⟩ := wk_path hu
    exact ⟨p ++ [x], .snoc h1 h2 c t, by simp⟩
theorem min_short {rs : Rws} {cs : List Str} {b : Str} {k : Nat} (h : Min rs cs b k) (hb : b ∈ cs) (hc : ∀ x ∈ cs, x ∈ rs.map Prod.fst) : k < rs.length := by
  obtain ⟨⟨y, hy, t⟩, hm⟩ := h
  obtain ⟨p, hp, hl⟩ := wk_path hy
  have nd : p.Nodup := by
    unfold List.Nodup
    rw [List.pairwise_iff_getElem]
    intro a c hal hcl hac e
    have hlen := hp.len
    obtain ⟨z, hz⟩ : ∃ z, p[a]? = some z := ⟨_, List.getElem?_eq_getElem hal⟩
    have hz2 : p[c]? = some z := by
      rw [List.getElem?_eq_getElem hcl, ← e, ← List.getElem?_eq_getElem hal]
      exact hz
    have h1 := hp.between 0 a b z (by omega) hp.head hz
    have hy2 : p[k]? = some y := by
      rw [List.getLast?_eq_getElem?, hlen] at hl
      exact hl
    have h2 := hp.between c k z y (by omega) hz2 hy2
    have h3 := wk_trans h1 h2
    exact hm (a - 0 + (k - c)) (by omega) ⟨y, h3, t⟩
  have := pig nd (F := rs.map Prod.fst) fun x hx => hc x (hp.mem hb x hx)
  rw [hp.len, List.length_map] at this
  omega
theorem none_of {rs : Rws} {cs : List Str} {b : Str} {k : Nat} (h : ∀ j, j < k → ¬ clo rs cs b j) (hk : rs.length ≤ k) (hb : b ∈ cs) (hc : ∀ x ∈ cs, x ∈ rs.map Prod.fst) : ∀ j, ¬ clo rs cs b j := fun j hj => by
  obtain ⟨m, _, hm⟩ := min_of hj
  exact h m (by have := min_short hm hb hc; omega) hm.1
theorem none_of_empty {rs : Rws} {cs : List Str} {b : Str} {k : Nat} (h : ∀ j, j < k → ¬ clo rs cs b j) (hk : ∀ x, ¬ wk rs cs b k x) : ∀ j, ¬ clo rs cs b j := fun j ⟨y, hy, t⟩ => by
  by_cases z : j < k
  · exact h j z ⟨y, hy, t⟩
  · have e : j = k + (j - k) := by omega
    rw [e] at hy
    exact wk_none hk _ _ hy
/-- a shortest ring from one cell -/
def spRF (K : PySem.W.Frag) (C : Addr) : Sp := fun vs H Q _ => ∃ (p : Addr) (vc : V) (b : Str) (rs : Rws) (cs : List Str), vs = [.ref p, vc, .str b] ∧ IsWeb K H C p rs ∧ Good rs ∧ Seq K H vc (cs.map .str) ∧ b ∈ cs ∧ (∀ x ∈ cs, x ∈ rs.map Prod.fst) ∧
  (∀ H' q k path y, Same H H' → Min rs cs b k → Pth rs cs b k path → path.getLast? = some y → b ∈ tgt rs y → H' q = some (.lst ((path ++ [b]).map .str)) → Q (.ref q) H') ∧ (∀ H', Same H H' → (∀ k, ¬ clo rs cs b k) → Q .non H')
end WL
end L2
namespace L2
namespace WL
open PySem PySem.Spec PyProof.Rows K1
/-- q is a ring from b, of k + 1 arrows -/
def RingAt (rs : Rws) (cs : List Str) (H : Hp) (q : Addr) (b : Str) (k : Nat) : Prop := b ∈ cs ∧ Min rs cs b k ∧ ∃ path y, Pth rs cs b k path ∧ path.getLast? = some y ∧ b ∈ tgt rs y ∧ H q = some (.lst ((path ++ [b]).map .str))
theorem RingAt.same {rs : Rws} {cs : List Str} {H H' : Hp} {q : Addr} {b : Str} {k : Nat} (h : RingAt rs cs H q b k) (s : Same H H') : RingAt rs cs H' q b k := let ⟨a, c, p, y, h1, h2, h3, h4⟩ := h; ⟨a, c, p, y, h1, h2, h3, s _ _ h4⟩
theorem RingAt.len {rs : Rws} {cs : List Str} {H : Hp} {q : Addr} {b : Str} {k : Nat} (h : RingAt rs cs H q b k) : ∃ xs : List Str, H q = some (.lst (xs.map .str)) ∧ xs.length = k + 2 := by
  obtain ⟨_, _, p, y, h1, _, _, h4⟩ := h
  exact ⟨p ++ [b], h4, by rw [List.length_append, h1.len]; rfl⟩
def spRing (K : PySem.W.Frag) (C CU : Addr) : Sp := fun vs H Q E => ∃ (p : Addr) (vc : V) (xs : List V) (rs : Rws), vs = [.ref p, vc] ∧ IsWeb K H C p rs ∧ Good rs ∧ Seq K H vc xs ∧ (∀ x ∈ xs, ∃ b, IsN K H x b) ∧
  ((∃ x, xs.find? (fun x => !inWeb rs x) = some x ∧ Rz H E CU "cell" x) ∨ ∃ cs : List Str, xs = cs.map .str ∧ (∀ x ∈ cs, x ∈ rs.map Prod.fst) ∧
    (∀ H' q b k, Same H H' → RingAt rs cs H' q b k → (∀ b' ∈ cs, ∀ k', clo rs cs b' k' → k ≤ k') → Q (.ref q) H') ∧ (∀ H', Same H H' → (∀ b' ∈ cs, ∀ k, ¬ clo rs cs b' k) → Q .non H'))
end WL
end L2
set_option Elab.async false
set_option linter.all false
set_option maxRecDepth 100000
set_option maxHeartbeats 4000000
namespace L2
namespace WL
open PySem PySem.Spec PyProof.Rows K1
/-! ### going out level by level -/
theorem tgt_iff {rs : Rws} {z x : Str} : x ∈ tgt rs z ↔ ∃ r ∈ rs, z ∈ r.2 ∧ r.1 = x := by
  unfold tgt
  rw [List.mem_map]
  constructor
  · rintro ⟨r, hr, e⟩
    obtain ⟨h1, h2⟩ := List.mem_filter.mp hr
    exact ⟨r, h1, of_decide_eq_true h2, e⟩
  · rintro ⟨r, h1, h2, e⟩
    exact ⟨r, List.mem_filter.mpr ⟨h1, decide_eq_true h2⟩, e⟩
/-- is a row's cell among the told ones, with a source in the level? -/
def onto (cs L : List Str) (r : Str × List Str) : Bool := decide (r.1 ∈ cs) && (r.2.map fun s => decide (s ∈ L)).any id
theorem onto_iff {cs L : List Str} {r : Str × List Str} : onto cs L r = true ↔ r.1 ∈ cs ∧ ∃ s ∈ r.2, s ∈ L := by
  unfold onto
  rw [Bool.and_eq_true, decide_eq_true_iff, List.any_map, List.any_eq_true]
  constructor
  · rintro ⟨h1, s, h2, h3⟩
    exact ⟨h1, s, h2, of_decide_eq_true h3⟩
  · rintro ⟨h1, s, h2, h3⟩
    exact ⟨h1, s, h2, decide_eq_true h3⟩
def nxt (rs : Rws) (cs M L : List Str) : List Str := (rs.filter fun r => onto cs L r && !decide (r.1 ∈ M)).map Prod.fst
theorem nxt_iff {rs : Rws} {cs M L : List Str} {x : Str} : x ∈ nxt rs cs M L ↔ x ∈ cs ∧ x ∉ M ∧ ∃ y ∈ L, x ∈ tgt rs y := by
  unfold nxt
  rw [List.mem_map]
  constructor
  · rintro ⟨r, hr, rfl⟩
    obtain ⟨h1, h2⟩ := List.mem_filter.mp hr
    have h2' : (onto cs L r && !decide (r.1 ∈ M)) = true := h2
    rw [Bool.and_eq_true] at h2'
    obtain ⟨h3, s, h4, h5⟩ := onto_iff.mp h2'.1
    refine ⟨h3, fun h => ?_, s, h5, tgt_iff.mpr ⟨r, h1, h4, rfl⟩⟩
    have := h2'.2
    rw [decide_eq_true h] at this
    cases this
  · rintro ⟨h1, h2, y, h3, h4⟩
    obtain ⟨r, h5, h6, rfl⟩ := tgt_iff.mp h4
    refine ⟨r, List.mem_filter.mpr ⟨h5, ?_⟩, rfl⟩
    show (onto cs L r && !decide (r.1 ∈ M)) = true
    rw [onto_iff.mpr ⟨h1, y, h6, h3⟩, decide_eq_false h2]
    rfl
structure Bfs (rs : Rws) (cs : List Str) (b : Str) (k : Nat) (E L : List Str) : Prop where
  a : ∀ j y, j < k → wk rs cs b j y → y ∈ E
  e : ∀ y, wk rs cs b k y → y ∈ E ∨ y ∈ L
  c : ∀ x ∈ L, wk rs cs b k x
  d : ∀ x ∈ E, b ∉ tgt rs x ∧ ∀ z ∈ tgt rs x, z ∈ cs → z ∈ E ∨ z ∈ L
  nd : (E ++ L).Nodup
  sub : ∀ x ∈ E ++ L, x ∈ rs.map Prod.fst
theorem Bfs.zero {rs : Rws} {cs : List Str} {b : Str} (h : b ∈ rs.map Prod.fst) : Bfs rs cs b 0 [] [b] where
  a := fun j y hj _ => absurd hj (Nat.not_lt_zero _)
  e := fun y hy => .inr (by rw [show y = b from hy]; exact List.mem_cons_self ..)
  c := fun x hx => show x = b by simpa using hx
  d := fun x hx => nomatch hx
  nd := by simp
  sub := fun x hx => by
    have : x = b := by simpa using hx
    rw [this]
    exact h
theorem Bfs.next {rs : Rws} {cs : List Str} {b : Str} {k : Nat} {E L : List Str} (B : Bfs rs cs b k E L) (nd : (rs.map Prod.fst).Nodup) (hb : ∀ x ∈ L, b ∉ tgt rs x) : Bfs rs cs b (k + 1) (E ++ L) (nxt rs cs (E ++ L) L) where
  a := fun j y hj hy => by
    by_cases z : j = k
    · rw [z] at hy
      exact List.mem_append.mpr (B.e y hy)
    · exact List.mem_append_left _ (B.a j y (by omega) hy)
  e := fun z ⟨hc, y, hy, ht⟩ => by
    rcases B.e y hy with h | h
    · exact .inl (List.mem_append.mpr ((B.d y h).2 z ht hc))
    · by_cases m : z ∈ E ++ L
      · exact .inl m
      · exact .inr (nxt_iff.mpr ⟨hc, m, y, h, ht⟩)
  c := fun x hx => by
    obtain ⟨h1, h2, y, h3, h4⟩ := nxt_iff.mp hx
    exact ⟨h1, y, B.c y h3, h4⟩
  d := fun x hx => by
    rcases List.mem_append.mp hx with h | h
    · exact ⟨(B.d x h).1, fun z hz hc => .inl (List.mem_append.mpr ((B.d x h).2 z hz hc))⟩
    · refine ⟨hb x h, fun z hz hc => ?_⟩
      by_cases m : z ∈ E ++ L
      · exact .inl m
      · exact .inr (nxt_iff.mpr ⟨hc, m, x, h, hz⟩)
  nd := List.nodup_append.mpr ⟨B.nd, (List.Nodup.sublist ((List.filter_sublist ..).map _) nd), fun x hx y hy e => by
    subst e
    exact (nxt_iff.mp hy).2.1 hx⟩
  sub := fun x hx => by
    rcases List.mem_append.mp hx with h | h
    · exact B.sub x h
    · obtain ⟨r, hr, e⟩ := List.mem_map.mp h
      exact List.mem_map.mpr ⟨r, (List.mem_filter.mp hr).1, e⟩
theorem Bfs.done {rs : Rws} {cs : List Str} {b : Str} {k : Nat} {E : List Str} (B : Bfs rs cs b k E []) : ∀ j, ¬ clo rs cs b j := fun j ⟨y, hy, ht⟩ => by
  have all : ∀ j y, wk rs cs b j y → y ∈ E := by
    intro j
    induction j with
    | zero =>
      intro y hy
      by_cases z : 0 < k
      · exact B.a 0 y z hy
      · have e : k = 0 := by omega
        rcases B.e y (by rw [e]; exact hy) with h | h
        · exact h
        · cases h
    | succ j ih =>
      rintro z ⟨hc, y, hy, ht⟩
      rcases (B.d y (ih y hy)).2 z ht hc with h | h
      · exact h
      · cases h
  exact (B.d y (all j y hy)).1 ht
theorem Bfs.hit {rs : Rws} {cs : List Str} {b : Str} {k : Nat} {E L : List Str} (B : Bfs rs cs b k E L) {x : Str} (hx : x ∈ L) (ht : b ∈ tgt rs x) : Min rs cs b k :=
  ⟨⟨x, B.c x hx, ht⟩, fun j hj ⟨y, hy, h⟩ => (B.d y (B.a j y hj hy)).1 h⟩
theorem Bfs.short {rs : Rws} {cs : List Str} {b : Str} {k : Nat} {E L : List Str} (B : Bfs rs cs b k E L) : E.length + L.length ≤ rs.length := by
  have := pig B.nd B.sub
  rw [List.length_append, List.length_map] at this
  exact this
def spRound (K : PySem.W.Frag) : Sp := fun vs H Q _ => ∃ (r c : Addr) (b : Str) (rs : Rws) (cs : List Str), vs = [.ref r, .ref c, .str b] ∧ RowsAt H r rs ∧ H c = some (.lst (cs.map .str)) ∧ (rs.map Prod.fst).Nodup ∧ rs.length ≤ 900 ∧ (∀ r ∈ rs, r.2.length ≤ 900) ∧
  sOk (rs.map Prod.fst) ∧ b ∈ rs.map Prod.fst ∧ b ∈ cs ∧ (∀ H' k, Same H H' → Min rs cs b k → Q (.int ((k + 1 : Nat) : Int)) H') ∧ (∀ H', Same H H' → (∀ k, ¬ clo rs cs b k) → Q (.int 0) H')
end WL
end L2
namespace L2
namespace WL
open PySem PySem.Spec PyProof.Rows K1
theorem nxt_take {rs : Rws} {cs M L : List Str} {i : Nat} {r : Str × List Str} (h : rs[i]? = some r) : nxt (rs.take (i + 1)) cs M L = nxt (rs.take i) cs M L ++ (if onto cs L r && !decide (r.1 ∈ M) then [r.1] else []) := by
  unfold nxt
  rw [List.take_succ, h, List.filter_append, List.map_append]
  congr 1
  show ((([r] : Rws).filter fun r => onto cs L r && !decide (r.1 ∈ M)).map Prod.fst) = _
  rw [List.filter_cons]
  split <;> rfl
theorem nxt_len {rs : Rws} {cs M L : List Str} : (nxt rs cs M L).length ≤ rs.length := by
  unfold nxt
  rw [List.length_map]
  exact List.length_filter_le ..
theorem shape_lst {xs : List Str} (h : sOk xs) : SeqAt.shaped (.list (dS xs)) = true := by
  unfold SeqAt.shaped
  have e : PyData.depth (.list (dS xs)) = PyData.depthAll (dS xs) + 1 := rfl
  rw [e, dep_strs]
  show (PyData.canLayAll0 (dS xs) && true) = true
  rw [lay_strs h]
  rfl
theorem shape_nil : SeqAt.shaped (.list []) = true := rfl
theorem nohit {rs : Rws} {cs L : List Str} {b : Str} (hb : b ∈ cs) (h : ∀ r ∈ rs, onto cs L r = true → r.1 ≠ b) : ∀ x ∈ L, b ∉ tgt rs x := fun x hx ht => by
  obtain ⟨r, h1, h2, rfl⟩ := tgt_iff.mp ht
  exact h r h1 (onto_iff.mpr ⟨hb, x, h2, hx⟩) rfl
end WL
end L2
namespace L2
namespace WL
open PySem PySem.Spec PyProof.Rows K1
/-! ### comprehensions over a list, with a condition -/
theorem lcf {K : PySem.W.Frag} {a : Addr} {xs : List V} {g : TG} {tt : TT} {te tl : TE} {vs : List Nat} {σ : St} {H : Hp} {Q : VK} (hq : SqL K H a xs) (he : ∀ Q : VK, Q (.ref a) H → tl σ H Q) (hn : xs.length ≤ 1000) (f : Nat → Option V)
    (hs : ∀ i x H' (Z : Option V → Hp → Prop), xs[i]? = some x → Same H H' → (∀ H'', Same H' H'' → Z (f i) H'') → g x (wipe σ vs) H' fun σ2 H2 => wipe σ2 vs = wipe σ vs ∧ tt σ2 H2 fun b H3 => if b = true then te σ2 H3 fun y H4 => Z (some y) H4 else Z none H3)
    (hd : ∀ D H', H D = none → Same H H' → H' D = some (.lst ((List.range xs.length).filterMap f)) → Q (.ref D) H') : tLc (iList K tl) g tt te vs σ H Q := by
  refine he _ ⟨a, rfl, ⟨_, hq⟩, fun D nD => ?_⟩
  refine lc_it (walk_list (xs := xs)) (fun i H' => Same H H' ∧ H' D = some (.lst ((List.range i).filterMap f))) ⟨same_upd nD, upd_same⟩ (fun i H' _ p => p.1.seq hq) (fun i x H' H'' hi p y => ?_) (fun H' p => hd D H' nD p.1 p.2)
  obtain ⟨rfl, hx⟩ := y
  have rs : (List.range (i + 1)).filterMap f = (List.range i).filterMap f ++ [i].filterMap f := by rw [List.range_succ, List.filterMap_append]
  refine hs i x _ (fun o H4 => match o with
    | some y => ∃ acc, H4 D = some (.lst acc) ∧ acc.length < sizeLine ∧ (Same H (upd H4 D (.lst (acc ++ [y]))) ∧ (upd H4 D (.lst (acc ++ [y]))) D = some (.lst ((List.range (i + 1)).filterMap f)))
    | none => Same H H4 ∧ H4 D = some (.lst ((List.range (i + 1)).filterMap f))) hx p.1 fun H2 s2 => ?_
  cases e : f i with
  | none =>
    refine ⟨p.1.trans s2, ?_⟩
    rw [rs]
    have : [i].filterMap f = [] := by simp [e]
    rw [this, List.append_nil]
    exact s2 _ _ p.2
  | some y =>
    refine ⟨_, s2 _ _ p.2, ?_, same_over nD (p.1.trans s2), ?_⟩
    · have := List.length_filterMap_le f (List.range i)
      rw [List.length_range] at this
      rw [sizeLine_eq]
      omega
    · rw [upd_same, rs]
      have : [i].filterMap f = [y] := by simp [e]
      rw [this]
theorem lcl {K : PySem.W.Frag} {a : Addr} {xs : List V} {g : TG} {te tl : TE} {vs : List Nat} {σ : St} {H : Hp} {Q : VK} (hq : SqL K H a xs) (he : ∀ Q : VK, Q (.ref a) H → tl σ H Q) (hn : xs.length ≤ 1000) (f : Nat → V)
    (hs : ∀ i x H' (Q' : VK), xs[i]? = some x → Same H H' → (∀ H'', Same H' H'' → Q' (f i) H'') → g x (wipe σ vs) H' fun σ2 H2 => wipe σ2 vs = wipe σ vs ∧ te σ2 H2 Q')
    (hd : ∀ D H', H D = none → Same H H' → H' D = some (.lst ((List.range xs.length).map f)) → Q (.ref D) H') : tLc (iList K tl) g tYes te vs σ H Q := by
  refine lcf hq he hn (fun i => some (f i)) (fun i x H' Z hx s z => ?_) fun D H' nD s e => hd D H' nD s ?_
  · exact hs i x H' (fun y H4 => Z (some y) H4) hx s z
  · rw [e, ← List.filterMap_eq_map]
    rfl
theorem rngF {α : Type} {xs : List α} {f : α → V} (d : α) : (List.range xs.length).map (fun i => f (xs.getD i d)) = xs.map f := by
  refine List.ext_getElem (by simp) fun i h1 h2 => ?_
  rw [List.length_map, List.length_range] at h1
  rw [List.getElem_map, List.getElem_map, List.getElem_range, List.getD_eq_getElem?_getD, List.getElem?_eq_getElem h1]
  rfl
end WL
end L2
namespace L2
namespace WL
open PySem PySem.Spec PyProof.Rows K1
theorem t_b1 {r : List V → Hp → VK → Prop} {tl : TE} {σ : St} {H : Hp} {Q : Bool → Hp → Prop} (h : tl σ H fun x H1 => r [x] H1 fun y H2 => ∃ c, y = .bl c ∧ Q c H2) : tB (tCB r (tCons tl tNil)) σ H Q := h
theorem t_nb1 {r : List V → Hp → VK → Prop} {tl : TE} {σ : St} {H : Hp} {Q : Bool → Hp → Prop} (h : tl σ H fun x H1 => r [x] H1 fun y H2 => ∃ c, y = .bl c ∧ Q (!c) H2) : tNot (tB (tCB r (tCons tl tNil))) σ H Q := h
theorem t_c1 {r : List V → Hp → VK → Prop} {tl : TE} {σ : St} {H : Hp} {Q : VK} (h : tl σ H fun x H1 => r [x] H1 Q) : tCB r (tCons tl tNil) σ H Q := h
end WL
end L2
set_option Elab.async false
set_option linter.all false
set_option maxRecDepth 100000
set_option maxHeartbeats 4000000
namespace L2
namespace WL
open PySem PySem.Spec PyProof.Rows K1
/-! ### e.f of an error that a suite holds -/
def tXd (C : Addr) (a : Addr) (cls : Value) (d : Option Addr) (f : Str) (te : TE) : TE := fun σ H Q => te σ H fun x H1 => x = .ref a ∧ cls = .ref C ∧ ∃ (dd : Addr) (v : V), d = some dd ∧ H1 dd = some (.xd [(f, v)]) ∧ Q v H1
theorem pe_xd {X : Cx} {C a : Addr} {oe : Obj} {cls : Value} {d : Option Addr} {pn : List (Addr × Obj)} {e : Expr} {te : TE} {pos : Pos} {f : Str} (T : XC X.K C) (hno : PySem.W.findIn X.K (.ref C) f = some none) (hz : Zc cls d oe) (hf : ∃ vs, oe.data = .fields vs)
    (he : PE (X.suite a ((a, oe) :: pn)) e te) (hb : attributeBase e f X.env (eval e X.env) = eval e X.env := by rfl) : PE (X.suite a ((a, oe) :: pn)) (.Attribute e f pos) (tXd C a cls d f te) := by
  refine ⟨fun pins s σ H Q I h => ?_⟩
  refine attr_of hb (thn (he.run pins s σ H _ I h) fun u s1 hh => ?_)
  obtain ⟨x, H1, I1, rx, rfl, rfl, dd, v, rfl, ea, q⟩ := hh
  obtain rfl : u = Value.ref a := rx
  obtain ⟨ha, _⟩ := I1.pin (a, oe) (List.mem_append_left _ List.mem_cons_self)
  obtain ⟨vs, hd⟩ := hf
  have hx : ObjOk X.prog X.w H1 s1.heap dd (.xd [(f, v)]) := I1.hok dd _ ea
  obtain ⟨mA, hns, hr⟩ := hx
  obtain ⟨od, ho, hl⟩ := lookIn_ns hns
  have l : List.lookup f [(f, v)] = some v := by simp [List.lookup]
  obtain ⟨u, hu, ru⟩ := RelO.some_of (v := v) (o := mA f) (by rw [← l]; exact hr f)
  have J : PySem.W.InstAt s1.heap a oe C (some od) := ⟨ha, hz.1, by unfold PySem.W.notCls; rw [hd] <;> rfl, by rw [hz.2]; exact ho⟩
  exact HandSPX.exc_get I1.kIn J T.ga T.gg T.ox.exC (PySem.W.findObj_own T.hd hno rfl (by rw [hl, hu])) (handed_of ru) ⟨v, H1, I1.tok _, ru, q⟩
def spRefL (K : PySem.W.Frag) (C : Addr) : Sp := fun vs H Q _ => ∃ (p : Addr) (vc : V) (xs : List V) (rs : Rws) (x : V), vs = [.ref p, vc] ∧ IsWeb K H C p rs ∧ Good rs ∧ Seq K H vc xs ∧ (∀ x ∈ xs, ∃ b, IsN K H x b) ∧ xs.find? (fun x => !inWeb rs x) = some x ∧
  ∀ H' q, Same H H' → H' q = some (.lst [x]) → Q (.ref q) H'
end WL
end L2
set_option Elab.async false
set_option linter.all false
set_option maxRecDepth 100000
set_option maxHeartbeats 4000000
namespace L2
namespace WL
open PySem PySem.Spec PyProof.Rows K1
/-! ### the web beside the pool -/
theorem Pl.hid {H : Hp} {p b : Addr} {n : Nat} {o : HO} (h : Pl H p n) (e : H b = some o) (ho : ∀ x y z : Int, o ≠ .lst [.int x, .int y, .int z]) : hide p H b = some o := by
  obtain ⟨x, y, z, e2, _⟩ := h
  rw [hide_ne]
  · exact e
  · intro c
    rw [c, e2] at e
    exact ho x y z (Option.some.inj e).symm
theorem Pl.sqT {K : PySem.W.Frag} {H : Hp} {p b : Addr} {n : Nat} {xs : List V} (h : Pl H p n) (e : SqT K H b xs) : SqT K (hide p H) b xs := by
  rcases e with (e | ⟨o, e⟩) | e
  · exact .inl (.inl (h.hid e (by intro x y z c; cases c)))
  · exact .inl (.inr ⟨o, h.hid e (by intro x y z c; cases c)⟩)
  · exact .inr e
theorem Pl.dtup {K : PySem.W.Frag} {H : Hp} {p : Addr} {n : Nat} {ks : List (Key × V)} {rs : Rws} (h : Pl H p n) (d : DTup K H ks rs) : DTup K (hide p H) ks rs := Paired.imp (fun _ _ ⟨e, a, e2, s⟩ => ⟨e, a, e2, h.sqT s⟩) d
theorem IsWeb.hid {K : PySem.W.Frag} {H : Hp} {C p pl : Addr} {n : Nat} {rs : Rws} (w : IsWeb K H C p rs) (h : Pl H pl n) : IsWeb K (hide pl H) C p rs := by
  obtain ⟨dx, c, s, a, t, ks, kt, av, W⟩ := w
  exact ⟨dx, c, s, a, t, ks, kt, av, h.hid W.ob (by intro x y z c; cases c), h.hid W.hc (by intro x y z c; cases c), h.hid W.hs (by intro x y z c; cases c), h.dtup W.ds, h.hid W.ha (by intro x y z c; cases c),
    Paired.imp (fun _ _ ⟨q, e1, e2⟩ => ⟨q, e1, h.hid e2 (by intro x y z c; cases c)⟩) W.da, h.hid W.ht (by intro x y z c; cases c), h.dtup W.dt⟩
theorem LawRows.good {m n : Nat} {rs : Rws} (h : LawRows m n rs) (hm : m ≤ 900) (hn : n ≤ 900) : Good rs := ⟨h.nd, h.l1, Nat.le_trans h.lm hm, fun r hr => ⟨Nat.le_trans (h.sr r hr).2.1 hn, (h.sr r hr).1, (h.sr r hr).2.2.2⟩, fun r hr => (h.nm r hr).1⟩
theorem RowT.g {K : PySem.W.Frag} {H : Hp} {v : V} {r : Str × List Str} (h : RowT H v r) : RowG K H v r := by
  obtain ⟨t, l, rfl, e1, e2⟩ := h
  exact ⟨.ref l, ⟨t, rfl, .inr (SqT.of e1)⟩, ⟨l, rfl, .inl (SqL.of e2)⟩⟩
/-- what a name of the law's is not -/
theorem law_zq {z : Str} (h : lawNm z) : z ≠ "zzzzqqqq" := fun e => by
  subst e
  rcases h.2 with h | h
  · exact absurd h (by decide)
  · exact absurd (h 122 (by decide)) (by decide)
theorem law_A {z : Str} (h : lawNm z) : z ≠ "A" := fun e => by
  subst e
  exact absurd h.1 (by decide)
end WL
end L2
set_option Elab.async false
set_option linter.all false
set_option maxRecDepth 100000
set_option maxHeartbeats 4000000
namespace L2
namespace WL
open PySem PySem.Spec PyProof.Rows K1
theorem Rd.hid {H : Hp} {l p : Addr} {u : HO} (h : Rd H l u) (n : H p = none) : Rd (hide p H) l u := by
  have ne : l ≠ p := by
    rcases h with h | ⟨o, h⟩ <;> exact ne_of_none h n
  rcases h with h | ⟨o, h⟩
  · exact .inl (by rw [hide_ne ne]; exact h)
  · exact .inr ⟨o, by rw [hide_ne ne]; exact h⟩
theorem SqL.hid {K : PySem.W.Frag} {H : Hp} {l p : Addr} {xs : List V} (h : SqL K H l xs) (n : H p = none) : SqL K (hide p H) l xs := by
  rcases h with h | h
  · exact .inl (Rd.hid h n)
  · exact .inr h
theorem SqL.sm {K : PySem.W.Frag} {H H' : Hp} {l : Addr} {xs : List V} (h : SqL K H l xs) (s : Same H H') : SqL K H' l xs := s.seq h
theorem same_mk {H H3 : Hp} {x dx : Addr} {o1 o2 : HO} (nx : H x = none) (nd : H dx = none) (e : H3 = upd (upd H dx o1) x o2) : Same H (hide x H3) := fun b o h => by
  rw [hide_ne (ne_of_none h nx), e, upd_ne (ne_of_none h nx), upd_ne (ne_of_none h nd)]
  exact h
/-! ### sizes of rings -/
theorem Min.uniq {rs : Rws} {cs : List Str} {b : Str} {k j : Nat} (h : Min rs cs b k) (g : Min rs cs b j) : k = j := by
  rcases Nat.lt_trichotomy k j with z | z | z
  · exact absurd h.1 (g.2 k z)
  · exact z
  · exact absurd g.1 (h.2 j z)
open Classical in
noncomputable def sz (rs : Rws) (cs : List Str) (b : Str) : Nat := if h : ∃ k, Min rs cs b k then h.choose + 1 else 0
theorem sz_min {rs : Rws} {cs : List Str} {b : Str} {k : Nat} (h : Min rs cs b k) : sz rs cs b = k + 1 := by
  have e : ∃ k, Min rs cs b k := ⟨k, h⟩
  unfold sz
  rw [dif_pos e, Min.uniq e.choose_spec h]
theorem sz_none {rs : Rws} {cs : List Str} {b : Str} (h : ∀ k, ¬ clo rs cs b k) : sz rs cs b = 0 := by
  unfold sz
  rw [dif_neg]
  rintro ⟨k, hk⟩
  exact h k hk.1
noncomputable def due (rs : Rws) (cs : List Str) : List Nat := (cs.map (sz rs cs)).filter fun n => decide (0 < n)
theorem due_mem {rs : Rws} {cs : List Str} {n : Nat} : n ∈ due rs cs ↔ 0 < n ∧ ∃ b ∈ cs, sz rs cs b = n := by
  unfold due
  rw [List.mem_filter, List.mem_map]
  constructor
  · rintro ⟨⟨b, h1, h2⟩, h3⟩
    exact ⟨of_decide_eq_true h3, b, h1, h2⟩
  · rintro ⟨h3, b, h1, h2⟩
    exact ⟨⟨b, h1, h2⟩, decide_eq_true h3⟩
theorem sz_pos {rs : Rws} {cs : List Str} {b : Str} (h : 0 < sz rs cs b) : ∃ k, Min rs cs b k ∧ sz rs cs b = k + 1 := by
  by_cases e : ∃ k, Min rs cs b k
  · obtain ⟨k, hk⟩ := e
    exact ⟨k, hk, sz_min hk⟩
  · unfold sz at h
    rw [dif_neg e] at h
    exact absurd h (Nat.lt_irrefl _)
theorem rngM {α β : Type} {xs : List α} {f : α → Option β} (d : α) : (List.range xs.length).filterMap (fun i => f (xs.getD i d)) = xs.filterMap f := by
  have e : (List.range xs.length).map (fun i => xs.getD i d) = xs := by
    refine List.ext_getElem (by simp) fun i h1 h2 => ?_
    rw [List.getElem_map, List.getElem_range, List.getD_eq_getElem?_getD, List.getElem?_eq_getElem h2]
    rfl
  conv => rhs; rw [← e]
  rw [List.filterMap_map]
  rfl
theorem due_vs {xs : List Nat} : xs.filterMap (fun n : Nat => if 0 < n then some (V.int (n : Int)) else none) = (xs.filter fun n : Nat => decide (0 < n)).map fun n : Nat => V.int (n : Int) := by
  induction xs with
  | nil => rfl
  | cons n xs ih =>
    by_cases h : 0 < n
    · rw [List.filterMap_cons, List.filter_cons_of_pos (by simpa using h), List.map_cons, ← ih]
      simp only [h, if_true]
    · rw [List.filterMap_cons, List.filter_cons_of_neg (by simpa using h), ← ih]
      simp only [h, if_false]
theorem dp_ints {K : PySem.W.Frag} {H : Hp} : ∀ xs : List Nat, DpAll K H (xs.map fun n : Nat => V.int (n : Int)) (xs.map fun n : Nat => .int (n : Int))
  | [] => .nil
  | x :: xs => .cons (.int _) (dp_ints xs)
theorem dep_ints : ∀ xs : List Nat, PyData.depthAll (xs.map fun n : Nat => .int (n : Int)) = 0 ∧ PyData.canLayAll0 (xs.map fun n : Nat => .int (n : Int)) = true
  | [] => ⟨rfl, rfl⟩
  | x :: xs => by
    obtain ⟨h1, h2⟩ := dep_ints xs
    constructor
    · show max 0 (PyData.depthAll (xs.map fun n : Nat => .int (n : Int))) = 0
      rw [h1]
      rfl
    · show (PyData.canLay0 (.int (x : Int)) && PyData.canLayAll0 (xs.map fun n : Nat => .int (n : Int))) = true
      rw [h2]
      rfl
theorem shape_ints (xs : List Nat) : SeqAt.shaped (.list (xs.map fun n : Nat => .int (n : Int))) = true := by
  unfold SeqAt.shaped
  have e : PyData.depth (.list (xs.map fun n : Nat => .int (n : Int))) = PyData.depthAll (xs.map fun n : Nat => .int (n : Int)) + 1 := rfl
  rw [e, (dep_ints xs).1]
  show (PyData.canLayAll0 (xs.map fun n : Nat => .int (n : Int)) && true) = true
  rw [(dep_ints xs).2]
  rfl
theorem eqv_nil (xs : List Nat) : PyData.eqv (.list (xs.map fun n : Nat => .int (n : Int))) (.list []) = decide (xs = []) := by
  cases xs with
  | nil => rfl
  | cons x xs => rfl
/-- what ring tells -/
def Told (rs : Rws) (cs : List Str) (H : Hp) (v : V) : Prop := (v = .non ∧ ∀ b ∈ cs, ∀ k, ¬ clo rs cs b k) ∨ ∃ q b k, v = .ref q ∧ RingAt rs cs H q b k ∧ ∀ b' ∈ cs, ∀ k', clo rs cs b' k' → k ≤ k'
theorem told_due {rs : Rws} {cs : List Str} {H : Hp} {v : V} (h : Told rs cs H v) : decide (v = .non) = decide (due rs cs = []) := by
  rcases h with ⟨rfl, hn⟩ | ⟨q, b, k, rfl, rg, _⟩
  · rw [decide_eq_true rfl, decide_eq_true]
    rw [List.eq_nil_iff_forall_not_mem]
    intro n hn'
    obtain ⟨h1, b, h2, h3⟩ := due_mem.mp hn'
    rw [sz_none (hn b h2)] at h3
    omega
  · rw [decide_eq_false (by intro z; cases z), decide_eq_false]
    intro z
    have : k + 1 ∈ due rs cs := due_mem.mpr ⟨by omega, b, rg.1, sz_min rg.2.1⟩
    rw [z] at this
    cases this
theorem spRing_of {K : PySem.W.Frag} {C CU p : Addr} {vc : V} {rs : Rws} {cs : List Str} {H : Hp} {Q : VK} {E : XK} (hw : IsWeb K H C p rs) (g : Good rs) (hs : Seq K H vc (cs.map .str)) (hcs : ∀ x ∈ cs, x ∈ rs.map Prod.fst)
    (q : ∀ H' v, Same H H' → Told rs cs H' v → Q v H') : spRing K C CU [.ref p, vc] H Q E := by
  refine ⟨p, vc, cs.map .str, rs, rfl, hw, g, hs, fun x hx => ?_, .inr ⟨cs, rfl, hcs, fun H' q' b k s rg hl => q H' _ s (.inr ⟨q', b, k, rfl, rg, hl⟩), fun H' s hn => q H' _ s (.inl ⟨rfl, hn⟩)⟩⟩
  obtain ⟨z, hz, rfl⟩ := List.mem_map.mp hx
  obtain ⟨r, hr, e⟩ := List.mem_map.mp (hcs z hz)
  have := g.nm r hr
  rw [e] at this
  exact ⟨true, .inl ⟨z, rfl, isNm_len this, this.symm⟩⟩
theorem seq_tail {a u : TS} {D : Ends} {σ : St} {H : Hp} (Mid : Hp → Prop) (h2 : ∀ H', Mid H' → u D σ H') (h1 : (∀ H', Mid H' → u D σ H') → tSeq a u D σ H) : tSeq a u D σ H := h1 h2
/-- a sixth thing that is no cell -/
def odds (t : Addr) : List V := [.str "A", .non, .int 5, .str "zzzzqqqq", .ref t, .bl true]
theorem odd_ok {K : PySem.W.Frag} {H : Hp} {t : Addr} {rs : Rws} {i : Nat} {x : V} (hn : ∀ r ∈ rs, lawNm r.1) (ht : H t = some (.tup [.str "a"])) (hx : (odds t)[i]? = some x) :
    (∃ b, IsN K H x b) ∧ inWeb rs x = false ∧ ∃ d, Dp K H x d ∧ SeqAt.shaped (.list [d]) = true ∧ PyData.eqv (.list [d]) (.list [d]) = true := by
  have nw : ∀ z : Str, (∀ r ∈ rs, r.1 ≠ z) → inWeb rs (.str z) = false := fun z h => by
    refine decide_eq_false fun m => ?_
    obtain ⟨r, hr, e⟩ := List.mem_map.mp m
    exact h r hr e
  match i, hx with
  | 0, hx =>
    obtain rfl := (Option.some.inj hx).symm
    exact ⟨⟨_, .inl ⟨_, rfl, by decide +kernel, rfl⟩⟩, nw _ fun r hr => law_A (hn r hr), _, .str _, by decide +kernel, by decide +kernel⟩
  | 1, hx =>
    obtain rfl := (Option.some.inj hx).symm
    exact ⟨⟨_, .inr ⟨_, .base .non, rfl, rfl⟩⟩, rfl, _, .non, by decide +kernel, by decide +kernel⟩
  | 2, hx =>
    obtain rfl := (Option.some.inj hx).symm
    exact ⟨⟨_, .inr ⟨_, .base (.int _), rfl, rfl⟩⟩, rfl, _, .int _, by decide +kernel, by decide +kernel⟩
  | 3, hx =>
    obtain rfl := (Option.some.inj hx).symm
    exact ⟨⟨_, .inl ⟨_, rfl, by decide +kernel, rfl⟩⟩, nw _ fun r hr => law_zq (hn r hr), _, .str _, by decide +kernel, by decide +kernel⟩
  | 4, hx =>
    obtain rfl := (Option.some.inj hx).symm
    exact ⟨⟨_, .inr ⟨_, .base (.tup ht), rfl, rfl⟩⟩, rfl, _, .tup (SqT.of ht) (.cons (.str _) .nil), by decide +kernel, by decide +kernel⟩
  | 5, hx =>
    obtain rfl := (Option.some.inj hx).symm
    exact ⟨⟨_, .inr ⟨_, .base (.bl _), rfl, rfl⟩⟩, rfl, _, .bl _, by decide +kernel, by decide +kernel⟩
  | i + 6, hx => cases hx
end WL
end L2
namespace L2
namespace WL
open PySem PySem.Spec PyProof.Rows K1
theorem ring_step {rs : Rws} {cs : List Str} {b y : Str} {k : Nat} {path : List Str} (h : Pth rs cs b k path) (hl : path.getLast? = some y) (hb : b ∈ tgt rs y) {j : Nat} (hj : j < k + 1) :
    ∃ u w, (path ++ [b])[j]? = some u ∧ (path ++ [b])[j + 1]? = some w ∧ w ∈ tgt rs u := by
  have len := h.len
  obtain ⟨u, hu⟩ : ∃ u, path[j]? = some u := ⟨_, List.getElem?_eq_getElem (by omega)⟩
  by_cases e : j = k
  · refine ⟨u, b, by rw [List.getElem?_append_left (by omega)]; exact hu, by rw [List.getElem?_append_right (by omega), e, len, Nat.sub_self]; rfl, ?_⟩
    rw [List.getLast?_eq_getElem?, len, show k + 1 - 1 = j by omega, hu] at hl
    rw [Option.some.inj hl]
    exact hb
  · obtain ⟨w, hw⟩ : ∃ w, path[j + 1]? = some w := ⟨_, List.getElem?_eq_getElem (by omega)⟩
    refine ⟨u, w, by rw [List.getElem?_append_left (by omega)]; exact hu, by rw [List.getElem?_append_left (by omega)]; exact hw, ?_⟩
    have := h.between j (j + 1) u w (by omega) hu hw
    rw [show j + 1 - j = 1 by omega] at this
    obtain ⟨_, z, hz, t⟩ := this
    rw [show z = u from hz] at t
    exact t
theorem src_of {rs : Rws} {u w : Str} (nd : (rs.map Prod.fst).Nodup) (h : w ∈ tgt rs u) : ∃ xs, srcs rs w = some xs ∧ w ∈ rs.map Prod.fst ∧ u ∈ xs := by
  obtain ⟨r, hr, h2, rfl⟩ := tgt_iff.mp h
  exact ⟨r.2, srcs_at nd hr, List.mem_map.mpr ⟨r, hr, rfl⟩, h2⟩
theorem good_isN {K : PySem.W.Frag} {H : Hp} {rs : Rws} (g : Good rs) {z : Str} (h : z ∈ rs.map Prod.fst) : IsN K H (.str z) true := by
  obtain ⟨r, hr, rfl⟩ := List.mem_map.mp h
  exact .inl ⟨_, rfl, isNm_len (g.nm r hr), (g.nm r hr).symm⟩
theorem in_web {rs : Rws} {z : Str} (h : z ∈ rs.map Prod.fst) : inWeb rs (.str z) = true := decide_eq_true h
theorem find_odd {rs : Rws} {cs : List Str} {od : V} {m : Nat} {rest : List V} (hcs : ∀ z ∈ cs, z ∈ rs.map Prod.fst) (h : inWeb rs od = false) : ((cs.map V.str).take m ++ [od] ++ rest).find? (fun x => !inWeb rs x) = some od := by
  rw [List.append_assoc, List.find?_append]
  have e : ((cs.map V.str).take m).find? (fun x => !inWeb rs x) = none := by
    rw [List.find?_eq_none]
    intro y hy
    obtain ⟨z, hz, rfl⟩ := List.mem_map.mp (List.mem_of_mem_take hy)
    rw [in_web (hcs z hz)]
    decide
  rw [e]
  show ((od :: rest).find? fun x => !inWeb rs x) = some od
  rw [List.find?_cons, h]
  rfl
end WL
end L2
set_option Elab.async false
set_option linter.all false
set_option maxRecDepth 100000
set_option maxHeartbeats 4000000
namespace L2
namespace WL
open PySem PySem.Spec PyProof.Rows K1 LamX
/-! ### the head with the law's table of code objects -/
def isTab : Option Obj → Bool
  | some ⟨.none, none, .fields vs, sl⟩ => vs.toList.isEmpty && sl.toList.isEmpty
  | _ => false
theorem isTab_ok {o : Option Obj} (h : isTab o = true) : o = some { cls := .none, data := .fields #[] } := by
  unfold isTab at h
  split at h
  · rename_i vs sl
    obtain ⟨h1, h2⟩ := Bool.and_eq_true_iff.mp h
    have e1 : vs = #[] := by
      cases vs
      simpa using h1
    have e2 : sl = #[] := by
      cases sl
      simpa using h2
    rw [e1, e2]
  · cases h
def frT (g : Addr → Option Obj) (n : Nat) : PySem.W.Frag := He.frG g ((He.asD g n).filter fun a => !isTab (g a))
def tabB (g : Addr → Option Obj) (K : PySem.W.Frag) : Bool := match PySem.W.tabIn K "law" with
  | some (c, p) => PySem.W.codeHdIn K c p && ((K.lookup p).isNone && isTab (g p))
  | none => false
structure TabF (K : PySem.W.Frag) (h : Heap) (c p : Addr) : Prop where
  i : PySem.W.tabIn K "law" = some (c, p)
  hd : PySem.W.codeHdIn K c p = true
  no : K.lookup p = none
  ob : h.get? p = some { cls := .none, data := .fields #[] }
theorem tabB_ok {g : Addr → Option Obj} {K : PySem.W.Frag} (h : tabB g K = true) : ∃ c p, PySem.W.tabIn K "law" = some (c, p) ∧ PySem.W.codeHdIn K c p = true ∧ K.lookup p = none ∧ g p = some { cls := .none, data := .fields #[] } := by
  unfold tabB at h
  split at h
  · rename_i c p e
    obtain ⟨h1, h⟩ := Bool.and_eq_true_iff.mp h
    obtain ⟨h2, h3⟩ := Bool.and_eq_true_iff.mp h
    exact ⟨c, p, e, h1, Option.isNone_iff_eq_none.mp h2, isTab_ok h3⟩
  · cases h
abbrev AlK : Type := He.AlD × Bool
def obsT (n : Nat) (fa : List He.Fa) (fn : List He.DefD) (ex : PySem.W.Frag → Bool) (g : Addr → Option Obj) : AlK := (He.obsD fa fn (frT g n), ex (frT g n) && tabB g (frT g n))
def hookT (n : Nat) (fa : List He.Fa) (fn : List He.DefD) (ex : PySem.W.Frag → Bool) : PySem.W.Hook where
  α := AlK
  obs := fun s => obsT n fa fn ex s.heap.get?
  val := fun _ => (He.valD fn, true)
  says := fun _ h => ∃ K : PySem.W.Frag, K.In h ∧ He.SaysD fa fn K ∧ ex K = true ∧ ∃ c p, TabF K h c p
  of := fun _ _ e => by
    obtain ⟨h1, h2⟩ := Bool.and_eq_true_iff.mp (show (ex _ && tabB _ _) = true from congrArg Prod.snd e)
    obtain ⟨c, p, a1, a2, a3, a4⟩ := tabB_ok h2
    exact ⟨_, He.frG_in, congrArg Prod.fst e, h1, c, p, a1, a2, a3, a4⟩
  keeps := fun _ _ _ ⟨K, hK, c, e, c', p, t⟩ k => ⟨K, PySem.W.Frag.In.keeps hK k, c, e, c', p, t.i, t.hd, t.no, k _ _ t.ob⟩
theorem obsT_eq {n : Nat} {fa : List He.Fa} {fn : List He.DefD} {ex : PySem.W.Frag → Bool} {g : Addr → Option Obj} {s : Shared} (h : ∀ a, g a = s.heap.get? a) : obsT n fa fn ex g = (hookT n fa fn ex).obs s := by
  have e : g = s.heap.get? := funext h
  rw [e] <;> rfl
/-- a def whose code object is known -/
theorem FunD.okC {P : Program} {w : World} {K : PySem.W.Frag} {mg : Str → Option Value} {base : Heap} {x qual : Str} {params : Arguments} {body : List Stmt} {scope : Scope} {dvs : List V} {kws : List (Str × V)} {f c : Addr} {fd : FuncData} {CX : CXT} {N ps : List Str} {k : Nat} {sp : Sp}
    (F : FunD K x qual params body scope dvs kws f fd) (hc : fd.code = .ref c) (S : FnScope N ps scope) (len : ∀ vs H Q E, sp vs H Q E → vs.length = ps.length)
    (hb : ∀ (A : Around) (outer : List Env) (s : Shared) (H : Hp) (vs : List V) (Q : VK) (E : XK), Room k (A.deeper (envOfC qual scope s.heap.objs.size f (.ref c))) → sp vs H Q E →
      ∃ t, PSs (cxOf CX P w K mg base N qual scope f (.ref c) A outer s H E) body t ∧ t { nx := fun _ H' => Q .non H', rt := Q } (start N vs) H) : FnOk P w K mg base CX (k + 1) f fd ps sp := by
  obtain ⟨oc, od, dV, kV, doc, pm, an, cdv, ct, osl, rfl, lk, hcd, _, _⟩ := F.ex
  obtain rfl : cdv = .ref c := hc
  exact fn_of lk hcd S len fun A outer s H vs Q E hr hsp => hb A outer s H vs Q E hr hsp
/-! ### [x] != [x] -/
def rNe1 (K : PySem.W.Frag) : R2 := fun x y H Q => ∃ a b v, x = .ref a ∧ y = .ref b ∧ SqL K H a [v] ∧ SqL K H b [v] ∧ (flatB v = true ∨ ∃ c, v = .ref c) ∧ Q (.bl false) H
theorem op_ne1 {X : Cx} (hu : X.A.units + 64 < cLine) : OpR X (compareOp .NotEq) (rNe1 X.K) := by
  intro pins s σ H x y v u Q I rx ry h
  obtain ⟨a, b, z, rfl, rfl, ha, hb, hz, q⟩ := h
  cases (show v = Value.ref a from rx)
  cases (show u = Value.ref b from ry)
  obtain ⟨us, r1, p1, _⟩ := I.list ha
  obtain ⟨ws, r2, p2, _⟩ := I.list hb
  obtain ⟨u1, rfl, e1⟩ := r1.one
  obtain ⟨u2, rfl, e2⟩ := r2.one
  refine SeqAt.RcNeAt.lists (e := fun _ => true) p1.isList p2.isList rfl (by omega) (fun j h1 h2 => ?_) X.prog X.w _ _ ?_
  · have j0 : j = 0 := by
      have : j < 1 := h1
      omega
    subst j0
    show SeqAt.EqAt X.A.in1 s u1 u2 true
    rcases hz with f | ⟨c, rfl⟩
    · exact eqAt_same e1 e2 f
    · cases (show u1 = Value.ref c from e1)
      cases (show u2 = Value.ref c from e2)
      exact SeqAt.EqAt.same _
  · exact ⟨.bl false, H, I, rfl, q⟩
/-! ### what stays beside pool, tables and some lists -/
def offT (H : Hp) : Hp := fun b => match H b with
  | some (.tbl _) => none
  | o => o
def offS (S : List Addr) (H : Hp) : Hp := fun b => if b ∈ S then none else H b
theorem offT_some {H : Hp} {b : Addr} {o : HO} (h : offT H b = some o) : H b = some o ∧ ∀ ps, o ≠ .tbl ps := by
  unfold offT at h
  split at h
  · cases h
  · rename_i z
    exact ⟨h, fun ps e => z ps (by rw [h, e])⟩
theorem offT_at {H : Hp} {b : Addr} {o : HO} (h : H b = some o) (n : ∀ ps, o ≠ .tbl ps) : offT H b = some o := by
  unfold offT
  rw [h]
  split
  · rename_i e
    exact absurd (Option.some.inj e) (n _)
  · rfl
theorem offT_le {H : Hp} : Same (offT H) H := fun b o e => (offT_some e).1
theorem offT_same {H H' : Hp} (s : Same H H') : Same (offT H) (offT H') := fun b o e => by
  obtain ⟨h, n⟩ := offT_some e
  exact offT_at (s _ _ h) n
theorem offT_ext {H H' : Hp} (s : ExtN H H') : Same (offT H) (offT H') := fun b o e => by
  obtain ⟨h, n⟩ := offT_some e
  exact offT_at (s _ _ h n) n
theorem offS_some {S : List Addr} {H : Hp} {b : Addr} {o : HO} (h : offS S H b = some o) : b ∉ S ∧ H b = some o := by
  unfold offS at h
  by_cases e : b ∈ S
  · rw [if_pos e] at h
    cases h
  · rw [if_neg e] at h
    exact ⟨e, h⟩
theorem offS_ne {S : List Addr} {H : Hp} {b : Addr} (h : b ∉ S) : offS S H b = H b := if_neg h
theorem offS_le {S : List Addr} {H : Hp} : Same (offS S H) H := fun b o e => (offS_some e).2
theorem offS_same {S : List Addr} {H H' : Hp} (s : Same H H') : Same (offS S H) (offS S H') := fun b o e => by
  obtain ⟨h, n⟩ := offS_some e
  rw [offS_ne h]
  exact s _ _ n
theorem offS_upd {S : List Addr} {H : Hp} {b : Addr} {o : HO} (h : b ∈ S) : offS S (upd H b o) = offS S H := by
  funext c
  by_cases e : c ∈ S
  · unfold offS
    rw [if_pos e, if_pos e]
  · rw [offS_ne e, offS_ne e, upd_ne (fun z => e (by rw [z]; exact h))]
/-- of a heap in which none of S stood, all stays -/
theorem offS_new {S : List Addr} {H0 H : Hp} (s : Same H0 H) (h : ∀ b ∈ S, H0 b = none) : Same H0 (offS S H) := fun b o e => by
  rw [offS_ne (fun z => by rw [h b z] at e; cases e)]
  exact s _ _ e
/-! ### tables beside the pool -/
theorem TabS.hid {H : Hp} {p P : Addr} {n : Nat} {q : Str} (t : TabS H P q) (h : Pl H p n) : TabS (hide p H) P q := by
  obtain ⟨ps, h1, h2, h3⟩ := t
  refine ⟨ps, h.hid h1 (by intro x y z c; cases c), h2, fun pos cv hc => ?_⟩
  obtain ⟨c, e1, e2⟩ := h3 pos cv hc
  exact ⟨c, e1, h.hid e2 (by intro x y z c; unfold CodeO at c; cases c)⟩
theorem TabS.sm {H H' : Hp} {P : Addr} {q : Str} (t : TabS H P q) (s : Same H H') : TabS H' P q := t.ext s
/-- the pool stays where only tables change -/
theorem Pl.extN {H H' : Hp} {p : Addr} {n : Nat} (h : Pl H p n) (e : ExtN H H') : Pl H' p n := by
  obtain ⟨a, b, c, h1, h2⟩ := h
  exact ⟨a, b, c, e _ _ h1 (by intro ps z; cases z), h2⟩
theorem ExtN.hide {H H' : Hp} {p : Addr} (e : ExtN H H') : Same (offT (WL.hide p H)) (offT (WL.hide p H')) := fun b o h => by
  obtain ⟨h1, n⟩ := offT_some h
  obtain ⟨h2, h3⟩ := hide_some h1
  exact offT_at (by rw [hide_ne h2]; exact e _ _ h3 n) n
end WL
end L2
set_option Elab.async false
set_option linter.all false
set_option maxRecDepth 100000
set_option maxHeartbeats 0
namespace L2
namespace K59
open PySem PySem.Spec PyProof.Rows K1 WL
def top (i : Nat) : Stmt := PySem.Challenge.pw_lotmarks_k59_whole_races_counted.main.body.getD i (.Pass ⟨0, 0, 0, 0⟩)
abbrev s_is_list : Stmt := top 1
abbrev s_is_name : Stmt := top 2
abbrev s_is_name_list : Stmt := top 3
abbrev s_BadWeb : Stmt := inClass (top 6) 0
abbrev s_UnknownCell : Stmt := inClass (top 7) 0
abbrev s_BadActs : Stmt := inClass (top 9) 0
abbrev s_members : Stmt := top 11
abbrev s_subset_of : Stmt := top 12
abbrev s_is_cell_list : Stmt := top 14
abbrev s_check_race : Stmt := top 15
abbrev s_race_arrows : Stmt := top 16
abbrev s_race_marks : Stmt := top 17
abbrev s_first_wrong_act : Stmt := top 18
abbrev s_is_act : Stmt := top 19
abbrev s_races : Stmt := top 20
abbrev s_ringless : Stmt := top 21
abbrev s_Web_init : Stmt := inClass (top 23) 0
abbrev s_Web_cells_with : Stmt := inClass (top 23) 1
abbrev s_Web_sources : Stmt := inClass (top 23) 2
abbrev s_Web_targets : Stmt := inClass (top 23) 3
abbrev s_Web_contains : Stmt := inClass (top 23) 4
abbrev s_Web_len : Stmt := inClass (top 23) 5
abbrev s_Web_iter : Stmt := inClass (top 23) 6
abbrev s_Web_eq : Stmt := inClass (top 23) 7
abbrev s_check_rows : Stmt := top 24
abbrev s_first_wrong_row : Stmt := top 25
abbrev s_is_row : Stmt := top 26
abbrev s_check_cells : Stmt := top 27
abbrev s_cell : Stmt := top 29
abbrev s_pool : Stmt := top 30
abbrev s_take : Stmt := top 31
abbrev s_names : Stmt := top 32
abbrev s_picked : Stmt := top 33
abbrev s_web : Stmt := top 34
abbrev s_cells : Stmt := top 35
abbrev s_sources : Stmt := top 36
abbrev s_arrows : Stmt := top 37
abbrev s_built : Stmt := top 38
abbrev s_least : Stmt := top 39
abbrev s_l_race_arrows : Stmt := top 40
abbrev s_race : Stmt := top 41
abbrev s_odd_cells : Stmt := top 42
abbrev s_sets : Stmt := top 43
abbrev s_told : Stmt := top 44
abbrev s_law : Stmt := top 45
def dfn (x : Str) (st : Stmt) : He.DefD := ⟨(x, none), x, x, defArgs st, defBody st, defScope st, [], []⟩
def mth (c m q : Str) (st : Stmt) : He.DefD := ⟨(c, some m), m, q, defArgs st, defBody st, defScope st, [], []⟩
def fn1 : List He.DefD := [dfn "is_list" s_is_list, dfn "is_name" s_is_name, dfn "is_name_list" s_is_name_list, mth "BadWeb" "__init__" "BadWeb.__init__" s_BadWeb, mth "UnknownCell" "__init__" "UnknownCell.__init__" s_UnknownCell, mth "BadActs" "__init__" "BadActs.__init__" s_BadActs, dfn "members" s_members, dfn "subset_of" s_subset_of, dfn "is_cell_list" s_is_cell_list, dfn "check_race" s_check_race, dfn "race_arrows" s_race_arrows, dfn "race_marks" s_race_marks, dfn "first_wrong_act" s_first_wrong_act, dfn "is_act" s_is_act, dfn "races" s_races, dfn "ringless" s_ringless, mth "Web" "__init__" "Web.__init__" s_Web_init, mth "Web" "cells_with_source" "Web.cells_with_source" s_Web_cells_with, mth "Web" "sources" "Web.sources" s_Web_sources, mth "Web" "targets" "Web.targets" s_Web_targets, mth "Web" "__contains__" "Web.__contains__" s_Web_contains, mth "Web" "__len__" "Web.__len__" s_Web_len, mth "Web" "__iter__" "Web.__iter__" s_Web_iter, mth "Web" "__eq__" "Web.__eq__" s_Web_eq, dfn "check_rows" s_check_rows]
def fn2 : List He.DefD := [dfn "first_wrong_row" s_first_wrong_row, dfn "is_row" s_is_row, dfn "check_cells" s_check_cells, dfn "_law_cell" s_cell, dfn "_law_pool" s_pool, dfn "_law_take" s_take, dfn "_law_names" s_names, dfn "_law_picked" s_picked, dfn "_law_web" s_web, dfn "_law_cells" s_cells, dfn "_law_sources" s_sources, dfn "_law_arrows" s_arrows, dfn "_law_built" s_built, dfn "_law_least" s_least, dfn "_law_race_arrows" s_l_race_arrows, dfn "_law_race" s_race, dfn "_law_odd_cells" s_odd_cells, dfn "_law_sets" s_sets, dfn "_law_told" s_told, dfn "law" s_law]
def fn : List He.DefD := fn1 ++ fn2
def fa : List He.Fa := [.glo "is_list", .glo "is_name", .glo "is_name_list", .glo "BadWeb", .glo "UnknownCell", .glo "BadCells", .glo "BadActs", .glo "members", .glo "subset_of", .glo "is_cell_list", .glo "check_race", .glo "race_arrows", .glo "race_marks", .glo "first_wrong_act", .glo "is_act", .glo "races", .glo "ringless", .glo "Web", .glo "check_rows", .glo "first_wrong_row", .glo "is_row", .glo "check_cells", .glo "_law_cell", .glo "_law_pool", .glo "_law_take", .glo "_law_names", .glo "_law_picked", .glo "_law_web", .glo "_law_cells", .glo "_law_sources", .glo "_law_arrows", .glo "_law_built", .glo "_law_least", .glo "_law_race_arrows", .glo "_law_race", .glo "_law_odd_cells", .glo "_law_sets", .glo "_law_told", .glo "law",
  .free "isinstance", .free "list", .free "tuple", .free "str", .free "len", .free "all", .free "any", .free "set", .free "iter", .free "enumerate"]
def fa2 : List He.Fa := [.free "range", .free "min", .free "int", .free "sorted", .free "sum", .cls "Web", .mkr "Web", .meth "Web" "cells_with_source", .meth "Web" "sources", .meth "Web" "targets", .meth "Web" "__contains__", .meth "Web" "__len__", .meth "Web" "__iter__", .meth "Web" "__eq__", .noat "Web" "cells", .noat "Web" "sources_of", .noat "Web" "arrows", .noat "Web" "targets_of", .exc "BadCells", .exm "BadCells" "BadCells" true]
def fieldB (K : PySem.W.Frag) (x f : Str) : Bool := He.eqO (PySem.W.findIn K (.ref (He.ga K x)) f) (some none) && (He.eqO (PySem.W.findIn K (.ref (He.ga K x)) "__init__") (some (some (.ref (He.ma K (He.ga K x) "__init__")))) && decide (PySem.W.typeIn K (.ref (He.ma K (He.ga K x) "__init__")) = some (.type "function")))
def clsB (K : PySem.W.Frag) (x : Str) : Bool := He.eqO (PySem.W.findIn K (.ref (He.ga K x)) "__class__") (some (some (.builtin "object.__class__"))) && (He.eqO (PySem.W.specialIn K (.builtin "object.__class__") "__get__") (some (some (.builtin "getset_descriptor.__get__"))) &&
  (decide (PySem.W.takesIn K (.builtin "object.__class__") = some true) && decide (PySem.W.mroIn K (He.ga K x) (.type "object") = some true)))
def ex (K : PySem.W.Frag) : Bool := xcB K (He.ga K "BadWeb") && (xcB K (He.ga K "UnknownCell") && (xcB K (He.ga K "BadActs") && (fieldB K "BadWeb" "index" && (fieldB K "UnknownCell" "cell" && (fieldB K "BadActs" "index" && (clsB K "Web" && (decide (PySem.W.kitOne K (.ref (He.ga K "Web")) (.ref (He.ga K "Web")) = some true))))))))
abbrev R : PySem.W.OpenRow := PySem.W.OpenLaw.row PySem.Challenge.rw_lotmarks_k59_whole_races_counted
abbrev hk : PySem.W.Hook := hookT 5 (fa ++ fa2) fn ex
def ob (s : PySem.W.SharedT) : AlK := obsT 5 (fa ++ fa2) fn ex (HandSHeadRun.getT s)
theorem ob_eq (s : PySem.W.SharedT) : ob s = hk.obs s.abs := obsT_eq (HandSHeadRun.getT_eq s)
def loose1 : List Str := ["is_list", "is_name", "is_name_list", "LotError", "BadWeb", "UnknownCell", "BadCells", "BadActs", "members", "subset_of", "is_cell_list", "check_race", "race_arrows", "race_marks", "first_wrong_act", "is_act", "races", "ringless", "Web", "check_rows"]
def loose2 : List Str := ["first_wrong_row", "is_row", "check_cells", "_law_cell", "_law_pool", "_law_take", "_law_names", "_law_picked", "_law_web", "_law_cells", "_law_sources", "_law_arrows", "_law_built", "_law_least", "_law_race_arrows", "_law_race", "_law_odd_cells", "_law_sets", "_law_told"]
def loose3 : List Str := []
def loose : List Str := loose1 ++ loose2 ++ loose3
theorem run (w : World) : HandSHeadRun.RunEq R (PySem.W.view R.prog [45]) hk ob 60000 loose w := by
  intro os
  kernel_rfl
end K59
end L2
set_option Elab.async false
set_option linter.all false
set_option maxRecDepth 100000
set_option maxHeartbeats 4000000
namespace L2
namespace K59
open PySem PySem.Spec PyProof.Rows K1 WL
/-! ### what the head tells -/
structure Bl (mg : Str → Option Value) : Prop where
  f_isinstance : mg "isinstance" = none
  f_list : mg "list" = none
  f_tuple : mg "tuple" = none
  f_str : mg "str" = none
  f_len : mg "len" = none
  f_all : mg "all" = none
  f_any : mg "any" = none
  f_set : mg "set" = none
  f_iter : mg "iter" = none
  f_enumerate : mg "enumerate" = none
  f_range : mg "range" = none
  f_min : mg "min" = none
  f_int : mg "int" = none
theorem bl_mk {K : PySem.W.Frag} {h : Heap} {mg : Str → Option Value} (X : K.In h) (G : h.Ns mainGlobals mg) (c : He.SaysD (fa ++ fa2) fn K) : Bl mg where
  f_isinstance := He.free_ok X G (c.fact 39 (f := .free "isinstance") rfl)
  f_list := He.free_ok X G (c.fact 40 (f := .free "list") rfl)
  f_tuple := He.free_ok X G (c.fact 41 (f := .free "tuple") rfl)
  f_str := He.free_ok X G (c.fact 42 (f := .free "str") rfl)
  f_len := He.free_ok X G (c.fact 43 (f := .free "len") rfl)
  f_all := He.free_ok X G (c.fact 44 (f := .free "all") rfl)
  f_any := He.free_ok X G (c.fact 45 (f := .free "any") rfl)
  f_set := He.free_ok X G (c.fact 46 (f := .free "set") rfl)
  f_iter := He.free_ok X G (c.fact 47 (f := .free "iter") rfl)
  f_enumerate := He.free_ok X G (c.fact 48 (f := .free "enumerate") rfl)
  f_range := He.free_ok X G (c.fact 49 (f := .free "range") rfl)
  f_min := He.free_ok X G (c.fact 50 (f := .free "min") rfl)
  f_int := He.free_ok X G (c.fact 51 (f := .free "int") rfl)
abbrev FnP (K : PySem.W.Frag) (x q : Str) (st : Stmt) (f : Addr) (fd : FuncData) : Prop := FunD K x q (defArgs st) (defBody st) (defScope st) [] [] f fd
section
variable {P : Program} {w : World} {K : PySem.W.Frag} {mg : Str → Option Value} {base : Heap} {f : Addr} {fd : FuncData}
/-! ### is_list -/
theorem sc_is_list : FnScope ["thing"] ["thing"] (defScope s_is_list) := ⟨rfl, rfl, rfl, by decide +kernel, rfl, by decide +kernel, by decide +kernel⟩
theorem ok_is_list (T : Bl mg) (F : FnP K "is_list" "is_list" s_is_list f fd) : FnOk P w K mg base CX0 1 f fd ["thing"] (spIsList K) := by
  refine F.ok sc_is_list (fun vs H Q E h => ?_) (fun cdv A outer s H vs Q E hr h => ?_)
  · obtain ⟨v, t, b, rfl, _⟩ := h
    rfl
  · refine ⟨_, PSs.nox (pss_one (ps_ret (pe_callB call_isiT rfl T.f_isinstance boot_isinstance (pa_cons (pv 0) (pa_cons (pe_tup (pa_cons (pe_bltn (v := .ty "list") rfl T.f_list PyProof.Rows.boot_list rfl) (pa_cons (pe_bltn (v := .ty "tuple") rfl T.f_tuple PyProof.Rows.boot_tuple rfl) pa_nil))) pa_nil))))), ?_⟩
    obtain ⟨v, t, b, rfl, ty, kt, q⟩ := h
    exact ⟨_, rfl, (show 2 ≤ sizeLine by decide), fun p np => ⟨v, p, [.ty "list", .ty "tuple"], t, LT, b, rfl, upd_same, .cons (.ty _) (.cons (.ty _) .nil), TyX.same ty (same_upd np), kt, q _ (same_upd np)⟩⟩
/-! ### is_name -/
theorem sc_is_name : FnScope ["thing"] ["thing"] (defScope s_is_name) := ⟨rfl, rfl, rfl, by decide +kernel, rfl, by decide +kernel, by decide +kernel⟩
theorem ok_is_name (T : Bl mg) (F : FnP K "is_name" "is_name" s_is_name f fd) : FnOk P w K mg base CX0 1 f fd ["thing"] (spIsName K) := by
  refine F.ok sc_is_name (fun vs H Q E h => ?_) (fun cdv A outer s H vs Q E hr h => ?_)
  · obtain ⟨v, b, rfl, _⟩ := h
    rfl
  · have nd := sc_is_name.nd
    refine ⟨_, PSs.nox (pss_one (ps_ret (pe_and (pe_callB call_isi rfl T.f_isinstance boot_isinstance (pa_cons (pv 0) (pa_cons (pe_bltn (v := .ty "str") rfl T.f_str PyProof.Rows.boot_str rfl) pa_nil)))
      (pe_and (pe_cmpR op_le (pe_callB call_len_str rfl T.f_len boot_len (pa_cons (pv 0) pa_nil)) pe_int (nomark _))
      (pe_and (pe_m0 PySem.F.slot_str_isascii PySem.F.type_str_isascii mt_isascii (pv 0))
      (pe_and (pe_m0 PySem.F.slot_str_isalpha PySem.F.type_str_isalpha mt_isalpha (pv 0))
      (pe_one (pe_m0 PySem.F.slot_str_islower PySem.F.type_str_islower mt_islower (pv 0))))))))), ?_⟩
    obtain ⟨v, b, rfl, hb, q⟩ := h
    rcases hb with ⟨z, rfl, hz, rfl⟩ | ⟨t, ty, kt, rfl⟩
    · have q1 := q H (Same.refl H)
      rw [isNm_txt] at q1
      refine ⟨_, rfl, _, .ty "str", _, _, true, rfl, .ty "str", .base (.str z), kit_ty (by decide +kernel), true, rfl, ?_⟩
      refine ⟨_, rfl, z, rfl, hz, (z.length : Nat), 8, rfl, rfl, _, rfl, ?_⟩
      have e8 : decide (((z.length : Nat) : Int) ≤ 8) = decide (z.length ≤ 8) := decide_eq_decide.mpr (by omega)
      rw [e8]
      cases e0 : decide (z.length ≤ 8) with
      | false =>
        rw [e0] at q1
        exact q1
      | true =>
        rw [e0] at q1
        refine ⟨_, rfl, ⟨_, rfl⟩, z, rfl, rfl, trivial, _, rfl, ?_⟩
        cases e1 : Txt.isascii z with
        | false =>
          rw [e1] at q1
          exact q1
        | true =>
          refine ⟨_, rfl, ⟨_, rfl⟩, z, rfl, rfl, trivial, _, rfl, ?_⟩
          rw [e1] at q1
          cases e2 : Txt.isalpha z with
          | false =>
            rw [e2] at q1
            exact q1
          | true =>
            rw [e2] at q1
            exact ⟨_, rfl, ⟨_, rfl⟩, z, rfl, rfl, trivial, q1⟩
    · exact ⟨_, rfl, _, .ty "str", t, _, false, rfl, .ty "str", ty, kt, false, rfl, q H (Same.refl H)⟩
/-! ### is_name_list -/
theorem sc_is_name_list : FnScope ["thing", "item"] ["thing"] (defScope s_is_name_list) := ⟨rfl, rfl, rfl, by decide +kernel, rfl, by decide +kernel, by decide +kernel⟩
theorem ok_is_name_list (T : Bl mg) (Cl : Cal P w K mg base "is_list" ["thing"] 1 (spIsList K)) (Cn : Cal P w K mg base "is_name" ["thing"] 1 (spIsName K)) (F : FnP K "is_name_list" "is_name_list" s_is_name_list f fd) :
    FnOk P w K mg base CX0 2 f fd ["thing"] (spNameList K) := by
  obtain ⟨fl, fdl, Gl, gl, kl, bl⟩ := Cl.ex
  obtain ⟨fn', fdn, Gn, gn, kn, bn⟩ := Cn.ex
  refine F.ok sc_is_name_list (fun vs H Q E h => ?_) (fun cdv A outer s H vs Q E hr h => ?_)
  · obtain ⟨v, c, rfl, _⟩ := h
    rfl
  · have nd := sc_is_name_list.nd
    refine ⟨_, PSs.nox (pss_cons (ps_if (PW.pt (pw_or (pt_not (pt_val (pe_call Gl hr rfl gl kl bl .nil pass0 (pa_cons (pv 0) pa_nil))))
        (pw_or1 (pt_not (pt_val (pe_callB (cr_all rfl) rfl T.f_all PyProof.Rows.boot_all (pa_cons (pe_lc (own := [("item", 1)]) (g := gName 1) (tt := tYes) rfl nd (pi_seq (pv 0)) (blkOk_by (N := ["thing", "item"]) (sc := defScope s_is_name_list) (by decide +kernel))
          (fun _ _ _ _ _ => pg_name (i := 1) nd rfl (Or.inl rfl)) (fun _ _ _ _ _ => pts_nil) (fun _ _ _ _ _ => pe_call Gn hr rfl gn kn bn .nil pass0 (pa_cons (pv 1) pa_nil))) pa_nil))))))) (pss_one (ps_ret pe_bl)) pss_nil)
      (pss_one (ps_ret (pe_cmpR op_eq (pe_lenTxt rfl rfl T.f_len rfl T.f_set (pv 0)) (pe_callB call_len rfl T.f_len boot_len (pa_cons (pv 0) pa_nil)) (nomark _))))), ?_⟩
    obtain ⟨v, c, rfl, hc, q⟩ := h
    rcases hc with ⟨t, ty, kt, rfl⟩ | ⟨xs, bs, hs, h9, hl, hi, rfl⟩
    · exact ⟨_, rfl, v, t, false, rfl, ty, kt, fun H' s' => ⟨false, rfl, q H' s'⟩⟩
    · obtain ⟨t, ty, kt⟩ := hs.kit
      refine ⟨_, rfl, v, t, true, rfl, ty, kt, fun H1 s1 => ⟨true, rfl, iteN rfl ?_⟩⟩
      refine t_nall ?_
      refine lc_seq (hs.same s1) (fun Q q => ⟨_, rfl, q⟩) (by omega) (fun i => .bl (bs.getD i false)) (fun i x H' Q' hx s' qq => ?_) (fun D H2 s2 e2 => ?_)
      · have lt : i < bs.length := by
          rw [hl]
          exact (List.getElem?_eq_some_iff.mp hx).1
        have hb : bs[i]? = some (bs.getD i false) := by rw [List.getD_eq_getElem?_getD, List.getElem?_eq_getElem lt]; rfl
        exact ⟨rfl, _, rfl, x, _, rfl, ((hi i x _ hx hb).same s1).same s', qq⟩
      · refine ⟨D, bs, rfl, SqL.of ?_, _, rfl, ?_⟩
        · rw [e2, ← hl]
          have e3 : (List.range bs.length).map (fun i => V.bl (bs.getD i false)) = ((List.range bs.length).map fun i => bs.getD i false).map V.bl := by rw [List.map_map]; rfl
          rw [e3, rngD]
        · refine ite2 (fun ha => ?_) fun ha => ?_
          · have e : bs.all id = false := by simpa using ha
            have e2' : nlB xs bs = false := by
              unfold nlB
              rw [e]
              rfl
            rw [e2'] at q
            exact q H2 (s1.trans s2)
          · have e : bs.all id = true := by simpa using ha
            have ex := all_strs hl hi e
            obtain ⟨a, rfl, hq⟩ := (hs.same s1).same s2
            have ll : (strsOf xs).length = xs.length := by
              have z := congrArg List.length ex
              rw [List.length_map] at z
              exact z.symm
            refine ⟨_, rfl, a, strsOf xs, rfl, by rw [← ex]; exact hq, by omega, _, rfl, .ref a, xs.length, rfl, Seq.len ⟨a, rfl, hq⟩, rfl, ?_⟩
            have e4 : decide (V.int ((SSx.ddN (strsOf xs) (strsOf xs).length).length : Nat) = V.int (xs.length : Nat)) = nlB xs bs := by
              unfold nlB
              rw [e, Bool.true_and]
              have z := SSx.ddN_nodup (xs := strsOf xs)
              by_cases n : (strsOf xs).Nodup
              · rw [decide_eq_true n, z.mpr n, ll]
                exact decide_eq_true rfl
              · rw [decide_eq_false n]
                refine decide_eq_false fun y => n (z.mp ?_)
                have y2 := V.int.inj y
                omega
            rw [e4]
            exact q H2 (s1.trans s2)
/-! ### is_row -/
theorem sc_is_row : FnScope ["thing"] ["thing"] (defScope s_is_row) := ⟨rfl, rfl, rfl, by decide +kernel, rfl, by decide +kernel, by decide +kernel⟩
theorem ok_is_row (T : Bl mg) (Cl : Cal P w K mg base "is_list" ["thing"] 1 (spIsList K)) (Cn : Cal P w K mg base "is_name" ["thing"] 1 (spIsName K)) (Cm : Cal P w K mg base "is_name_list" ["thing"] 2 (spNameList K)) (F : FnP K "is_row" "is_row" s_is_row f fd) :
    FnOk P w K mg base CX0 3 f fd ["thing"] (spIsRow K) := by
  obtain ⟨fl, fdl, Gl, gl, kl, bl⟩ := Cl.ex
  obtain ⟨fn', fdn, Gn, gn, kn, bn⟩ := Cn.ex
  obtain ⟨fm, fdm, Gm, gm, km, bm⟩ := Cm.ex
  refine F.ok sc_is_row (fun vs H Q E h => ?_) (fun cdv A outer s H vs Q E hr h => ?_)
  · obtain ⟨v, c, rfl, _⟩ := h
    rfl
  · have h1 := hr.mono (show 1 ≤ 2 by decide)
    refine ⟨_, PSs.nox (pss_one (ps_ret (pe_and (pe_call Gl h1 rfl gl kl bl .nil pass0 (pa_cons (pv 0) pa_nil)) (pe_and (pe_cmpR op_eq (pe_callB call_len rfl T.f_len boot_len (pa_cons (pv 0) pa_nil)) pe_int (nomark _))
      (pe_and (pe_call Gn h1 rfl gn kn bn .nil pass0 (pa_cons (pe_ix ix_seq (pv 0) pe_int fun _ _ => rfl) pa_nil)) (pe_one (pe_call Gm hr rfl gm km bm .nil pass0 (pa_cons (pe_ix ix_seq (pv 0) pe_int fun _ _ => rfl) pa_nil)))))))), ?_⟩
    obtain ⟨v, r, rfl, hv, q⟩ := h
    rcases hv with ⟨t, ty, kt, rfl⟩ | ⟨xs, hs, hv⟩
    · exact ⟨_, rfl, v, t, false, rfl, ty, kt, fun H' s' => ⟨false, rfl, q H' s'⟩⟩
    · obtain ⟨t, ty, kt⟩ := hs.kit
      refine ⟨_, rfl, v, t, true, rfl, ty, kt, fun H1 s1 => ⟨true, rfl, ?_⟩⟩
      refine ⟨_, rfl, v, xs.length, rfl, (hs.same s1).len, rfl, _, rfl, ?_⟩
      rcases hv with ⟨hn, rfl⟩ | ⟨x, y, b, c, rfl, hx, hy, rfl⟩
      · refine iteN (decide_eq_false fun z => hn ?_) (q H1 s1)
        have z2 := V.int.inj z
        omega
      · refine ⟨_, rfl, (hs.same s1).ix (x := x) rfl ⟨x, b, rfl, hx.same s1, fun H2 s2 => ⟨b, rfl, ?_⟩⟩⟩
        cases b with
        | false => exact q H2 (s1.trans s2)
        | true => exact ⟨_, rfl, ((hs.same s1).same s2).ix (x := y) rfl ⟨y, c, rfl, (hy.same s1).same s2, fun H3 s3 => q H3 ((s1.trans s2).trans s3)⟩⟩
/-! ### first_wrong_row -/
theorem sc_first : FnScope ["rows", "cells", "index", "row"] ["rows"] (defScope s_first_wrong_row) := ⟨rfl, rfl, rfl, by decide +kernel, rfl, by decide +kernel, by decide +kernel⟩
theorem ok_first (T : Bl mg) (Cl : Cal P w K mg base "is_list" ["thing"] 1 (spIsList K)) (Cr : Cal P w K mg base "is_row" ["thing"] 3 (spIsRow K)) (F : FnP K "first_wrong_row" "first_wrong_row" s_first_wrong_row f fd) :
    FnOk P w K mg base CX0 4 f fd ["rows"] (spFirst K) := by
  obtain ⟨fl, fdl, Gl, gl, kl, bl⟩ := Cl.ex
  obtain ⟨fr, fdr, Gr, gr, kr, br⟩ := Cr.ex
  refine F.ok sc_first (fun vs H Q E h => ?_) (fun cdv A outer s H vs Q E hr h => ?_)
  · obtain ⟨v, rfl, _⟩ := h
    rfl
  · have h1 := hr.mono (show 1 ≤ 3 by decide)
    have nd := sc_first.nd
    refine ⟨_, PSs.nox (pss_cons (ps_if (PW.pt (pw_or (pt_not (pt_val (pe_call Gl h1 rfl gl kl bl .nil pass0 (pa_cons (pv 0) pa_nil)))) (pw_or1 (pt_cmpR op_eq (pe_callB call_len rfl T.f_len boot_len (pa_cons (pv 0) pa_nil)) pe_int (nomark _))))) (pss_one (ps_ret pe_int)) pss_nil)
      (pss_cons (ps_set (i := 1) nd rfl (Or.inl rfl) (pe_lst pa_nil))
      (pss_cons (ps_for PassesOwn.never rfl (pi_enumS rfl T.f_enumerate (pa_cons (pv 0) pa_nil)) (pg_tup rfl (pgs_cons (pg_name (i := 2) nd rfl (Or.inl rfl)) (pgs_cons (pg_name (i := 3) nd rfl (Or.inl rfl)) pgs_nil)))
        (pss_cons (ps_if (PW.pt (pw_or (pt_not (pt_val (pe_call Gr hr rfl gr kr br .nil pass0 (pa_cons (pv 3) pa_nil)))) (pw_or1 (pt_cmpR op_in_seq (pe_ix ix_seq (pv 3) pe_int fun _ _ => rfl) (pv 1) rfl)))) (pss_one (ps_ret (pv 2))) pss_nil)
        (pss_one (ps_expr (pe_bm PySem.F.plainAttrs_list PySem.F.slot_list_append PySem.F.type_list_append mt_append (pv 1) (pa_cons (pe_ix ix_seq (pv 3) pe_int fun _ _ => rfl) pa_nil))))))
      (pss_one (ps_ret pe_non))))), ?_⟩
    obtain ⟨v, rfl, hv⟩ := h
    rcases hv with ⟨t, ty, kt, q⟩ | ⟨ds, hs, hn, hd, q⟩
    · exact ⟨_, rfl, v, t, false, rfl, ty, kt, fun H' s' => ⟨false, rfl, q H' s'⟩⟩
    · obtain ⟨t, ty, kt⟩ := hs.kit
      refine ⟨_, rfl, _, t, true, rfl, ty, kt, fun H1 s1 => ⟨true, rfl, iteN rfl ?_⟩⟩
      refine ⟨_, rfl, v, (ds.map Prod.fst).length, rfl, (hs.same s1).len, rfl, _, rfl, ?_⟩
      refine ite2 (fun hz => ?_) fun hz => ?_
      · have e : ds = [] := by
          have y := V.int.inj (of_decide_eq_true hz)
          rw [List.length_map] at y
          exact List.length_eq_zero_iff.mp (by omega)
        subst e
        exact q H1 s1
      · have ne : ds ≠ [] := fun e => by
          subst e
          exact hz (decide_eq_true rfl)
        have q' : ∀ H', Same H H' → Q (optV (firstW (ds.map Prod.snd) [] 0)) H' := by
          unfold firstR at q
          rw [if_neg ne] at q
          exact q
        refine ⟨(show 0 ≤ sizeLine by decide), fun c nc => ?_⟩
        have nc0 : H c = none := s1.free nc
        refine g_nm ?_
        dsimp only
        refine t_seqF ?_
        refine for_enumS hs (fun Q q => ⟨_, rfl, q⟩) (fun i σ H' => Same H H' ∧ (∃ o2 o3, σ = [some v, some (.ref c), o2, o3]) ∧ H' c = some (.lst (((ds.take i).map nmOf).map .str)) ∧ firstW (ds.map Prod.snd) [] 0 = firstW ((ds.drop i).map Prod.snd) ((ds.take i).map nmOf) i)
          ⟨s1.trans (same_upd nc), ⟨_, _, rfl⟩, upd_same, rfl⟩ (fun i σ H' p => p.1) ?_ ?_
        · rintro i y σ H2 T2 ey2 ⟨s2, ⟨o2, o3, rfl⟩, e2, ef⟩ nT
          have hi' : i < ds.length := by
            have z := (List.getElem?_eq_some_iff.mp ey2).1
            simpa using z
          have ey' : y = (ds[i]).1 := by
            rw [List.getElem?_map, List.getElem?_eq_getElem hi'] at ey2
            exact (Option.some.inj ey2).symm
          subst ey'
          have s3 : Same H (upd H2 T2 (.tup [.int (i : Nat), (ds[i]).1])) := s2.trans (same_upd nT)
          have e3 : (upd H2 T2 (.tup [.int (i : Nat), (ds[i]).1])) c = some (.lst (((ds.take i).map nmOf).map .str)) := same_upd nT _ _ e2
          have eT : (upd H2 T2 (.tup [.int (i : Nat), (ds[i]).1])) T2 = some (.tup [.int (i : Nat), (ds[i]).1]) := upd_same
          generalize upd H2 T2 (.tup [.int (i : Nat), (ds[i]).1]) = H3 at *
          refine ⟨T2, [.int (i : Nat), (ds[i]).1], rfl, SqT.of eT, rfl, _, _, rfl, _, _, rfl, rfl, ?_⟩
          obtain ⟨d1, d2⟩ := hd ds[i] (List.getElem_mem hi')
          have drop : ds.drop i = ds[i] :: ds.drop (i + 1) := List.drop_eq_getElem_cons hi'
          refine ⟨_, rfl, (ds[i]).1, (ds[i]).2.1, rfl, d1.same s3, fun H4 s4 => ⟨(ds[i]).2.1, rfl, ?_⟩⟩
          have out : ((ds[i]).2.1 = false ∨ (ds[i]).2.2 ∈ (ds.take i).map nmOf) → firstW (ds.map Prod.snd) [] 0 = some i := fun z => by
            rw [ef, drop, List.map_cons]
            show firstW (((ds[i]).2.1, (ds[i]).2.2) :: _) _ _ = _
            unfold firstW
            rw [if_pos z]
          cases hrw : (ds[i]).2.1 with
          | false =>
            have e := out (.inl hrw)
            have qq := q' H4 (s3.trans s4)
            rw [e] at qq
            exact ⟨_, rfl, qq⟩
          | true =>
            obtain ⟨y2, sq⟩ := d2 hrw
            have sq4 := (sq.same s3).same s4
            refine ⟨_, rfl, sq4.ix (x := .str (ds[i]).2.2) rfl ⟨_, rfl, c, _, rfl, .inl (SqL.of (s4 _ _ e3)), rfl, flat_strs' _, _, rfl, ?_⟩⟩
            refine ite2 (fun hin => ?_) fun hin => ?_
            · have m : (ds[i]).2.2 ∈ (ds.take i).map nmOf := by
                have z : inV (.str (ds[i]).2.2) (((ds.take i).map nmOf).map .str) = true := hin
                rw [in_strs] at z
                exact of_decide_eq_true z
              have e := out (.inr m)
              have qq := q' H4 (s3.trans s4)
              rw [e] at qq
              exact ⟨_, rfl, qq⟩
            · have m : ¬ (ds[i]).2.2 ∈ (ds.take i).map nmOf := fun z => hin (by
                show inV (.str (ds[i]).2.2) (((ds.take i).map nmOf).map .str) = true
                rw [in_strs]
                exact decide_eq_true z)
              refine ⟨_, rfl, .inl ⟨rfl, _, SqL.of (s4 _ _ e3)⟩, _, rfl, sq4.ix (x := .str (ds[i]).2.2) rfl ⟨c, _, _, rfl, rfl, s4 _ _ e3, ?_, ?_⟩⟩
              · rw [List.length_map, List.length_map, List.length_take, sizeLine_eq]
                omega
              · have tk : ds.take (i + 1) = ds.take i ++ [ds[i]] := by rw [List.take_succ, List.getElem?_eq_getElem hi']; rfl
                refine ⟨same_over nc0 (s3.trans s4), ⟨_, _, rfl⟩, ?_, ?_⟩
                · rw [upd_same, tk, List.map_append, List.map_append]
                  rfl
                · rw [ef, drop, List.map_cons, tk, List.map_append]
                  show firstW (((ds[i]).2.1, (ds[i]).2.2) :: _) _ _ = _
                  conv => lhs; unfold firstW
                  rw [if_neg]
                  · rfl
                  · rintro (z | z)
                    · rw [hrw] at z
                      cases z
                    · exact m z
        · rintro σ H2 ⟨s2, ⟨o2, o3, rfl⟩, e2, ef⟩
          have e : firstW (ds.map Prod.snd) [] 0 = none := by
            rw [ef, List.length_map, List.drop_length]
            rfl
          have qq := q' H2 s2
          rw [e] at qq
          exact qq
end
end K59
end L2
set_option Elab.async false
set_option linter.all false
set_option maxRecDepth 100000
set_option maxHeartbeats 4000000
namespace L2
namespace K59
open PySem PySem.Spec PyProof.Rows K1 WL
section
variable {P : Program} {w : World} {K : PySem.W.Frag} {mg : Str → Option Value} {base : Heap} {f : Addr} {fd : FuncData}
/-! ### _law_cell -/
theorem sc_cell : FnScope ["_law_script", "_law_k"] ["_law_script", "_law_k"] (defScope s_cell) := ⟨rfl, rfl, rfl, by decide +kernel, rfl, by decide +kernel, by decide +kernel⟩
theorem ok_cell (T : Bl mg) (F : FnP K "_law_cell" "_law_cell" s_cell f fd) : FnOk P w K mg base CX0 1 f fd ["_law_script", "_law_k"] (spCellL K) := by
  refine F.ok sc_cell (fun vs H Q E h => ?_) (fun cdv A outer s H vs Q E hr h => ?_)
  · obtain ⟨l, ns, j, rfl, _⟩ := h
    rfl
  · refine ⟨_, PSs.nox (pss_cons (ps_if (pt_cmpR op_lt (pv 1) (pe_callB call_len rfl T.f_len boot_len (pa_cons (pv 0) pa_nil)) (nomark _)) (pss_one (ps_ret (pe_ix ix_list (pv 0) (pv 1) fun _ _ => rfl))) pss_nil)
      (pss_one (ps_ret pe_int))), ?_⟩
    obtain ⟨l, ns, j, rfl, hs, q⟩ := h
    refine ⟨_, rfl, _, rfl, V.ref l, (ns.map V.int).length, rfl, .inl ⟨_, hs, rfl⟩, (j : Nat), ((ns.map V.int).length : Nat), rfl, rfl, _, rfl, ?_⟩
    refine ite2 (fun z => ?_) fun z => ?_
    · have hj : j < ns.length := by
        have z2 := of_decide_eq_true z
        rw [List.length_map] at z2
        omega
      exact ⟨_, rfl, _, rfl, l, _, _, _, rfl, rfl, hs, atI_cell hj, q _⟩
    · exact q 0
/-! ### _law_pool -/
theorem sc_pool : FnScope ["_law_cell_here", "_law_folded"] ["_law_cell_here"] (defScope s_pool) := ⟨rfl, rfl, rfl, by decide +kernel, rfl, by decide +kernel, by decide +kernel⟩
theorem ok_pool (T : Bl mg) (F : FnP K "_law_pool" "_law_pool" s_pool f fd) : FnOk P w K mg base CX0 1 f fd ["_law_cell_here"] spPoolL := by
  refine F.ok sc_pool (fun vs H Q E h => ?_) (fun cdv A outer s H vs Q E hr h => ?_)
  · obtain ⟨g, rfl, _⟩ := h
    rfl
  · refine ⟨_, PSs.nox (pss_cons (ps_set (i := 1) sc_pool.nd rfl (Or.inl rfl) (pe_op op_mul pe_int (pv 0)))
      (pss_cons (ps_if (pt_cmpR op_lt (pv 0) pe_int (nomark _)) (pss_one (ps_set (i := 1) sc_pool.nd rfl (Or.inl rfl) (pe_op op_sub (pe_op op_sub pe_int (pe_op op_mul pe_int (pv 0))) pe_int))) pss_nil)
      (pss_cons (ps_if (pt_cmpR op_ge (pv 1) (pe_op op_pow pe_int pe_int) (nomark _)) (pss_one (ps_ret (pe_lst (pa_cons (pv 1) (pa_cons (pe_op op_mod (pe_callTy call_int1 rfl T.f_int PyProof.Rows.boot_int (pa_cons (pv 1) pa_nil)) pe_int) (pa_cons pe_int pa_nil)))))) pss_nil)
      (pss_one (ps_ret (pe_lst (pa_cons pe_int (pa_cons (pe_op op_mod (pe_callTy call_int1 rfl T.f_int PyProof.Rows.boot_int (pa_cons (pv 1) pa_nil)) pe_int) (pa_cons pe_int pa_nil))))))))), ?_⟩
    obtain ⟨g, rfl, q0⟩ := h
    have q : ∀ p a b, H p = none → 0 ≤ a → 0 ≤ b → b < 1000000007 → Q (.ref p) (upd H p (.lst [.int a, .int b, .int 0])) := fun p a b hp ha hb hb1 => q0 p _ hp ⟨a, b, 0, upd_same, ha, hb, hb1, Int.le_refl 0, Int.le_refl 0⟩
    have tail : ∀ (n : Int), 0 ≤ n → (tSeq (tIfS (tTest (tOp (rI0 fun i j => .bl (decide (j ≤ i))) (tVar 1) (tOp (rI CPow fun i j => .int (i ^ j.toNat)) (tC (.int 10)) (tC (.int 18)))))
        (tRet (tLst (tCons (tVar 1) (tCons (tOp (rI (fun _ j => 0 < j) fun i j => .int (i % j)) (tCB (fun xs H Q => (∃ i, xs = [.int i] ∧ Q (.int i) H) ∨ ∃ k, xs = [.bl k] ∧ Q (.int (if k then 1 else 0)) H) (tCons (tVar 1) tNil)) (tC (.int 1000000007))) (tCons (tC (.int 0)) tNil))))) tNext)
        (tRet (tLst (tCons (tC (.int 0)) (tCons (tOp (rI (fun _ j => 0 < j) fun i j => .int (i % j)) (tCB (fun xs H Q => (∃ i, xs = [.int i] ∧ Q (.int i) H) ∨ ∃ k, xs = [.bl k] ∧ Q (.int (if k then 1 else 0)) H) (tCons (tVar 1) tNil)) (tC (.int 1000000007))) (tCons (tC (.int 0)) tNil))))))
        { nx := fun _ H' => Q .non H', rt := Q } [some (.int g), some (.int n)] H := by
      intro n hn
      have m0 : 0 ≤ n % 1000000007 := Int.emod_nonneg n (by decide)
      have m1 : n % 1000000007 < 1000000007 := Int.emod_lt_of_pos n (by decide)
      refine ⟨_, rfl, 10, 18, rfl, rfl, ⟨by decide, by decide, by decide⟩, _, _, rfl, rfl, _, rfl, ?_⟩
      refine ite2 (fun _ => ?_) fun _ => ?_
      · exact ⟨_, rfl, _, rfl, .inl ⟨n, rfl, n, 1000000007, rfl, rfl, (show (0 : Int) < 1000000007 by decide), (show 3 ≤ sizeLine by decide), fun p hp => q p n (n % 1000000007) hp hn m0 m1⟩⟩
      · exact ⟨_, rfl, .inl ⟨n, rfl, n, 1000000007, rfl, rfl, (show (0 : Int) < 1000000007 by decide), (show 3 ≤ sizeLine by decide), fun p hp => q p 0 (n % 1000000007) hp (Int.le_refl 0) m0 m1⟩⟩
    refine ⟨_, rfl, 2, g, rfl, rfl, .inl ⟨by decide, by decide⟩, ?_⟩
    refine ⟨_, rfl, _, _, rfl, rfl, _, rfl, ?_⟩
    refine ite2 (fun hg => ?_) fun hg => ?_
    · have hg' : g < 0 := of_decide_eq_true hg
      refine ⟨_, rfl, 2, g, rfl, rfl, .inl ⟨by decide, by decide⟩, _, _, rfl, rfl, _, _, rfl, rfl, ?_⟩
      exact tail (0 - 2 * g - 1) (by omega)
    · have hg' : ¬ g < 0 := fun z => hg (decide_eq_true z)
      exact tail (2 * g) (by omega)
/-! ### _law_take -/
abbrev nmTK : List Str := ["_law_pool_here", "_law_many", "_law_draw", "_law_mixed"]
theorem sc_take : FnScope nmTK ["_law_pool_here", "_law_many"] (defScope s_take) := ⟨rfl, rfl, rfl, by decide +kernel, rfl, by decide +kernel, by decide +kernel⟩
theorem ok_take (T : Bl mg) (F : FnP K "_law_take" "_law_take" s_take f fd) : FnOk P w K mg base CX0 1 f fd ["_law_pool_here", "_law_many"] spTakeL := by
  refine F.ok sc_take (fun vs H Q E h => ?_) (fun cdv A outer s H vs Q E hr h => ?_)
  · obtain ⟨p, m, n, rfl, _⟩ := h
    rfl
  · refine ⟨_, PSs.nox (pss_cons (ps_if (pt_cmpR op_gt (pe_ix ix_list (pv 0) pe_int fun _ _ => rfl) pe_int (nomark _))
        (pss_cons (ps_set (i := 2) sc_take.nd rfl (Or.inl rfl) (pe_op op_mod (pe_callTy call_int1 rfl T.f_int PyProof.Rows.boot_int (pa_cons (pe_ix ix_list (pv 0) pe_int fun _ _ => rfl) pa_nil)) (pv 1)))
        (pss_cons (ps_asg (pe_op op_fdiv (pe_ix ix_list (pv 0) pe_int fun _ _ => rfl) (pv 1)) (pg_sub (pv 0) pe_int set_list))
        (pss_one (ps_ret (pv 2))))) pss_nil)
      (pss_cons (ps_asg (pe_op op_add (pe_ix ix_list (pv 0) pe_int fun _ _ => rfl) pe_int) (pg_sub (pv 0) pe_int set_list))
      (pss_cons (ps_set (i := 3) sc_take.nd rfl (Or.inl rfl) (pe_op op_mod (pe_callTy call_int1 rfl T.f_int PyProof.Rows.boot_int (pa_cons (pe_op op_pow (pe_op op_add (pe_op op_add (pe_ix ix_list (pv 0) pe_int fun _ _ => rfl) (pe_op op_mul pe_int (pe_ix ix_list (pv 0) pe_int fun _ _ => rfl))) pe_int) pe_int) pa_nil)) pe_int))
      (pss_one (ps_ret (pe_op op_mod (pe_op op_mod (pe_callTy call_int1 rfl T.f_int PyProof.Rows.boot_int (pa_cons (pe_op op_mul (pe_op op_add (pv 3) (pe_ix ix_list (pv 0) pe_int fun _ _ => rfl)) pe_int) pa_nil)) pe_int) (pv 1))))))), ?_⟩
    obtain ⟨p, m, n, rfl, hm0, hm1, ⟨a, b, c, hp, ha, hb0, hb1, hc0, hcn⟩, hn, q0⟩ := h
    have q : ∀ r a' c', 0 ≤ r → r < m → 0 ≤ a' → 0 ≤ c' → c' ≤ c + 1 → Q (.int r) (upd H p (.lst [.int a', .int b, .int c'])) := fun r a' c' h1 h2 h3 h4 h5 => by
      have e := q0 r.toNat (upd H p (.lst [.int a', .int b, .int c'])) (by omega) hide_updp ⟨a', b, c', upd_same, h3, hb0, hb1, h4, by omega⟩
      rw [Int.toNat_of_nonneg h1] at e
      exact e
    refine ⟨_, rfl, p, _, 0, .int a, rfl, rfl, SqL.of hp, rfl, a, 0, rfl, rfl, _, rfl, ?_⟩
    refine ite2 (fun hg => ?_) fun hg => ?_
    · have hg' : 0 < a := of_decide_eq_true hg
      refine ⟨_, rfl, p, _, 0, .int a, rfl, rfl, SqL.of hp, rfl, .inl ⟨a, rfl, _, rfl, a, m, rfl, rfl, hm0, ?_⟩⟩
      refine ⟨_, rfl, p, _, 0, .int a, rfl, rfl, SqL.of hp, rfl, _, rfl, a, m, rfl, rfl, ⟨hm0, by omega⟩, _, rfl, p, _, 0, 0, rfl, rfl, hp, rfl, ?_⟩
      exact ⟨_, rfl, q (a % m) (a / m) c (Int.emod_nonneg a (by omega)) (Int.emod_lt_of_pos a hm0) (Int.ediv_nonneg ha (by omega)) hc0 (by omega)⟩
    · refine ⟨_, rfl, p, _, 2, .int c, rfl, rfl, SqL.of hp, rfl, c, 1, rfl, rfl, _, rfl, p, _, 2, 2, rfl, rfl, hp, rfl, ?_⟩
      have h1 : (upd H p (.lst [.int a, .int b, .int (c + 1)])) p = some (.lst [.int a, .int b, .int (c + 1)]) := upd_same
      have e1 : 0 ≤ b + 7919 * (c + 1) + 104729 := by omega
      have e2 : b + 7919 * (c + 1) + 104729 < 2 ^ 60 := by
        have : (2 : Int) ^ 60 = 1152921504606846976 := by decide
        omega
      refine ⟨_, rfl, p, _, 1, .int b, rfl, rfl, SqL.of h1, rfl, _, rfl, p, _, 2, .int (c + 1), rfl, rfl, SqL.of h1, rfl, 7919, c + 1, rfl, rfl, .inl ⟨by decide, by decide⟩, b, _, rfl, rfl, _, _, rfl, rfl, _, 5, rfl, rfl, ⟨by decide, by decide, ?_⟩, .inl ⟨_, rfl, _, 2147483647, rfl, rfl, (show (0 : Int) < 2147483647 by decide), ?_⟩⟩
      · have : (2 : Int) ^ 60 = 1152921504606846976 := by decide
        have : (2 : Nat) ^ 64 = 18446744073709551616 := by decide
        omega
      · refine ⟨_, rfl, _, rfl, p, _, 2, .int (c + 1), rfl, rfl, SqL.of h1, rfl, _, _, rfl, rfl, _, 40692, rfl, rfl, .inr ⟨by decide, by decide⟩, .inl ⟨_, rfl, _, 2147483629, rfl, rfl, (show (0 : Int) < 2147483629 by decide), _, rfl, _, m, rfl, rfl, hm0, ?_⟩⟩
        exact q _ a (c + 1) (Int.emod_nonneg _ (by omega)) (Int.emod_lt_of_pos _ hm0) ha (by omega) (Int.le_refl _)
end
end K59
end L2
set_option Elab.async false
set_option linter.all false
set_option maxRecDepth 100000
set_option maxHeartbeats 4000000
namespace L2
namespace K59
open PySem PySem.Spec PyProof.Rows K1 WL
section
variable {P : Program} {w : World} {K : PySem.W.Frag} {mg : Str → Option Value} {base : Heap} {f : Addr} {fd : FuncData}
/-! ### check_rows -/
abbrev nmCR : List Str := ["rows", "wrong", "row", "cells", "source"]
theorem sc_check_rows : FnScope nmCR ["rows"] (defScope s_check_rows) := ⟨rfl, rfl, rfl, by decide +kernel, rfl, by decide +kernel, by decide +kernel⟩
theorem ok_check_rows (T : Bl mg) (Cf : Cal P w K mg base "first_wrong_row" ["rows"] 4 (spFirst K)) (EB : Er P w K mg base "BadWeb" "index") (EU : Er P w K mg base "UnknownCell" "cell") (F : FnP K "check_rows" "check_rows" s_check_rows f fd) :
    FnOk P w K mg base (L2.CX P w) 5 f fd ["rows"] (spCheckRows K) := by
  obtain ⟨ff, fdf, Gf, gf, kf, bf⟩ := Cf.ex
  obtain ⟨fdB, GB, bB⟩ := EB.ex
  obtain ⟨fdU, GU, bU⟩ := EU.ex
  refine F.ok sc_check_rows (fun vs H Q E h => ?_) (fun cdv A outer s H vs Q E hr h => ?_)
  · obtain ⟨v, rfl, _⟩ := h
    rfl
  · have h2 := hr.mono (show 2 ≤ 4 by decide)
    have nd := sc_check_rows.nd
    refine ⟨_, pss_cons (ps_set (i := 1) nd rfl (Or.inl rfl) (pe_call Gf hr rfl gf kf bf .nil pass0 (pa_cons (pv 0) pa_nil)))
      (pss_cons (ps_if (pt_cmpR op_notN (pv 1) pe_non (nomark _)) (pss_one (ps_raiseV rfl (takes_of rfl rfl rfl rfl) EB.c EB.iC EB.tI GB h2 bB rfl EB.g (pv 1))) pss_nil)
      (pss_cons (ps_setLc (i := 3) (own := [("row", 2)]) (g := gName 2) (tt := tYes) rfl nd rfl rfl (sw_true rfl rfl rfl (by decide +kernel)) (pi_seq (pv 0)) (blkOk_by (N := nmCR) (sc := defScope s_check_rows) (by decide +kernel))
        (fun _ _ _ _ _ => pg_name (i := 2) nd rfl (Or.inl rfl)) (fun _ _ _ _ _ => pts_nil) (fun _ _ _ _ _ => pe_ix (r := rIx K) ix_seq (pv 2) pe_int fun _ _ => rfl))
      (pss_one (ps_for (passes_of rfl) rfl (pi_seq (pv 0)) (pg_name (i := 2) nd rfl (Or.inl rfl))
        (pss_one (ps_for (passes_of rfl) rfl (pi_seq (pe_ix ix_seq (pv 2) pe_int fun _ _ => rfl)) (pg_name (i := 4) nd rfl (Or.inl rfl))
          (pss_one (ps_if (pt_cmpR op_notIn_seq (pv 4) (pv 3) rfl) (pss_one (ps_raiseV rfl (takes_of rfl rfl rfl rfl) EU.c EU.iC EU.tI GU h2 bU rfl EU.g (pv 4))) pss_nil)))))))), ?_⟩
    obtain ⟨v, rfl, hv⟩ := h
    rcases hv with ⟨t, ty, kt, rz⟩ | ⟨ds, hs0, hn, hd, hv⟩
    · refine ⟨_, rfl, v, rfl, .inl ⟨t, ty, kt, fun H1 s1 => ⟨_, rfl, rfl, _, rfl, ?_⟩⟩⟩
      exact ⟨_, rfl, fun H2 d s2 nd2 e2 => rz H2 d (s1.trans s2) e2⟩
    · refine ⟨_, rfl, v, rfl, .inr ⟨ds, hs0, hn, hd, fun H1 s1 => ?_⟩⟩
      rcases hv with ⟨i, ei, rz⟩ | ⟨ei, rs, hl, hg, hU⟩
      · rw [ei]
        exact ⟨_, rfl, rfl, _, rfl, ⟨_, rfl, fun H2 d s2 nd2 e2 => rz H2 d (s1.trans s2) e2⟩⟩
      · rw [ei]
        refine ⟨_, rfl, rfl, _, rfl, iteN rfl ?_⟩
        have hs1 : Seq K H1 v (ds.map Prod.fst) := hs0.same s1
        refine t_next ?_
        dsimp only
        refine t_seqAsg ?_
        refine lc_seq hs1 (fun Q q => ⟨_, rfl, q⟩) (by rw [List.length_map]; omega) (fun i => .str ((rs.map Prod.fst).getD i Str.empty)) (fun i x H' Q' hx s' qq => ?_) (fun c H2 s2 e2 => ?_)
        · rw [List.getElem?_map] at hx
          obtain ⟨d, hdx, rfl⟩ := Option.map_eq_some_iff.mp hx
          have lt : i < rs.length := by
            rw [hl]
            exact (List.getElem?_eq_some_iff.mp hdx).1
          obtain ⟨y, g1, _⟩ := (hg i d rs[i] hdx (List.getElem?_eq_getElem lt)).1
          have e0 : (rs.map Prod.fst).getD i Str.empty = (rs[i]).1 := by
            rw [List.getD_eq_getElem?_getD, List.getElem?_map, List.getElem?_eq_getElem lt]
            rfl
          rw [e0] at qq
          exact ⟨rfl, _, rfl, ((g1.same s1).same s').ix (x := .str (rs[i]).1) rfl (qq H' (Same.refl _))⟩
        · have e3 : H2 c = some (.lst ((rs.map Prod.fst).map .str)) := by
            rw [e2, ← rngS, List.length_map, List.length_map, hl]
          have s12 := s1.trans s2
          show tFor _ _ _ _ _ _
          refine for_seq (hs1.same s2) (fun Q q => ⟨_, rfl, q⟩) (fun i σ H' => Same H2 H' ∧ (∃ o2 o4, σ = [some v, some .non, o2, some (.ref c), o4]) ∧ ∀ x ∈ (rs.take i).flatMap Prod.snd, x ∈ rs.map Prod.fst) ⟨Same.refl _, ⟨_, _, rfl⟩, by simp⟩ (fun i σ H' p => p.1) ?_ ?_
          · rintro i x σ H3 hx ⟨s3, ⟨o2, o4, rfl⟩, hall⟩
            rw [List.getElem?_map] at hx
            obtain ⟨d, hdx, rfl⟩ := Option.map_eq_some_iff.mp hx
            have lt : i < rs.length := by
              rw [hl]
              exact (List.getElem?_eq_some_iff.mp hdx).1
            obtain ⟨⟨y, g1, g2⟩, g3⟩ := hg i d rs[i] hdx (List.getElem?_eq_getElem lt)
            have g1' := ((g1.same s12).same s3)
            have g2' := ((g2.same s12).same s3)
            have split : rs.flatMap Prod.snd = (rs.take i).flatMap Prod.snd ++ ((rs[i]).2 ++ (rs.drop (i + 1)).flatMap Prod.snd) := by
              conv => lhs; rw [← List.take_append_drop i rs, List.drop_eq_getElem_cons lt]
              rw [List.flatMap_append, List.flatMap_cons]
            show tFor _ _ _ _ _ _
            refine for_seq g2' (fun Q q => ⟨_, rfl, g1'.ix (x := y) rfl q⟩) (fun j σ H' => Same H3 H' ∧ (∃ o2 o4, σ = [some v, some .non, o2, some (.ref c), o4]) ∧ ∀ x ∈ (rs[i]).2.take j, x ∈ rs.map Prod.fst) ⟨Same.refl _, ⟨_, _, rfl⟩, by simp⟩ (fun j σ H' p => p.1) ?_ ?_
            · rintro j z σ H4 hz ⟨s4, ⟨o2, o4, rfl⟩, hin⟩
              rw [List.getElem?_map] at hz
              obtain ⟨u, hu, rfl⟩ := Option.map_eq_some_iff.mp hz
              have ltj : j < (rs[i]).2.length := (List.getElem?_eq_some_iff.mp hu).1
              have uj : (rs[i]).2[j] = u := by
                rw [List.getElem?_eq_getElem ltj] at hu
                exact Option.some.inj hu
              refine ⟨_, rfl, _, rfl, c, _, rfl, .inl (SqL.of (s4 _ _ (s3 _ _ e3))), rfl, flat_strs' _, _, rfl, ?_⟩
              have ein : inV (.str u) ((rs.map Prod.fst).map .str) = decide (u ∈ rs.map Prod.fst) := in_strs _ _
              refine ite2 (fun hh => ?_) fun hh => ?_
              · have nin : u ∉ rs.map Prod.fst := by
                  have hh2 : (!inV (.str u) ((rs.map Prod.fst).map .str)) = true := hh
                  rw [ein] at hh2
                  simpa using hh2
                have fu : firstU (rs.map Prod.fst) rs = some u := by
                  unfold firstU
                  rw [split]
                  have e5 : (rs[i]).2 = (rs[i]).2.take j ++ u :: (rs[i]).2.drop (j + 1) := by
                    conv => lhs; rw [← List.take_append_drop j (rs[i]).2, List.drop_eq_getElem_cons ltj, uj]
                  rw [e5, List.append_assoc, List.cons_append, ← List.append_assoc]
                  refine find_at nin fun x hx => ?_
                  rcases List.mem_append.mp hx with hx | hx
                  · exact hall x hx
                  · exact hin x hx
                rcases hU with ⟨u2, e6, rz⟩ | ⟨e6, _⟩
                · rw [fu] at e6
                  cases e6
                  exact ⟨_, rfl, fun H5 d5 s5 nd5 e7 => rz H5 d5 (((s12.trans s3).trans s4).trans s5) e7⟩
                · rw [fu] at e6
                  cases e6
              · have isin : u ∈ rs.map Prod.fst := by
                  by_cases m : u ∈ rs.map Prod.fst
                  · exact m
                  · exfalso
                    refine hh ?_
                    show (!inV (.str u) ((rs.map Prod.fst).map .str)) = true
                    rw [ein, decide_eq_false m]
                    rfl
                refine ⟨s4, ⟨_, _, rfl⟩, fun x hx => ?_⟩
                rw [List.take_succ, hu] at hx
                rcases List.mem_append.mp hx with hx | hx
                · exact hin x hx
                · have e8 : x = u := by simpa using hx
                  rw [e8]
                  exact isin
            · rintro σ H4 ⟨s4, ⟨o2, o4, rfl⟩, hin⟩
              refine ⟨s3.trans s4, ⟨_, _, rfl⟩, fun x hx => ?_⟩
              rw [List.length_map, List.take_length] at hin
              rw [List.take_succ, List.getElem?_eq_getElem lt, List.flatMap_append] at hx
              rcases List.mem_append.mp hx with hx | hx
              · exact hall x hx
              · exact hin x (by simpa using hx)
          · rintro σ H3 ⟨s3, ⟨o2, o4, rfl⟩, hall⟩
            have fn0 : firstU (rs.map Prod.fst) rs = none := by
              unfold firstU
              refine find_none fun x hx => ?_
              refine hall x ?_
              rw [List.length_map, ← hl, List.take_length]
              exact hx
            rcases hU with ⟨u2, e6, rz⟩ | ⟨_, q⟩
            · rw [fn0] at e6
              cases e6
            · exact q H3 (s12.trans s3)
end
end K59
end L2
set_option Elab.async false
set_option linter.all false
set_option maxRecDepth 100000
set_option maxHeartbeats 4000000
namespace L2
namespace K59
open PySem PySem.Spec PyProof.Rows K1 WL
section
variable {P : Program} {w : World} {K : PySem.W.Frag} {mg : Str → Option Value} {base : Heap} {f : Addr} {fd : FuncData}
/-! ### Web.cells_with_source -/
abbrev nmCW : List Str := ["self", "source", "cell"]
theorem sc_cw : FnScope nmCW ["self", "source"] (defScope s_Web_cells_with) := ⟨rfl, rfl, rfl, by decide +kernel, rfl, by decide +kernel, by decide +kernel⟩
theorem ok_cells_with {C : Addr} (T : Bl mg) (W : Wt K mg C) (F : FnP K "cells_with_source" "Web.cells_with_source" s_Web_cells_with f fd) : FnOk P w K mg base CX0 1 f fd ["self", "source"] (spCW K C) := by
  refine F.ok sc_cw (fun vs H Q E h => ?_) (fun cdv A outer s H vs Q E hr h => ?_)
  · obtain ⟨p, z, dx, fs, c, s', ks, rs, rfl, _⟩ := h
    rfl
  · have nd := sc_cw.nd
    refine ⟨_, PSs.nox (pss_one (ps_ret (pe_callTy call_tuple_of rfl T.f_tuple PyProof.Rows.boot_tuple (pa_cons (pe_lc (own := [("cell", 2)]) (g := gName 2)
      (tt := tTest (tOp (rIn K false) (tVar 1) (tDGet (tFld K (tVar 0) "sources_of") (tVar 2)))) rfl nd (pi_tup (pe_fld (pv 0) rfl)) (blkOk_by (N := nmCW) (sc := defScope s_Web_cells_with) (by decide +kernel))
      (fun _ _ _ _ _ => pg_name (i := 2) nd rfl (Or.inl rfl)) (fun _ _ _ _ _ => pts_one (pt_cmpR op_in_seq (pv 1) (pe_dget (hu_of hr) (pe_fld (pv 0) rfl) (pv 2) fun _ _ => rfl) rfl)) (fun _ _ _ _ _ => pv 2)) pa_nil)))), ?_⟩
    obtain ⟨p, z, dx, fs, c, s', ks, rs, rfl, hp, lc, ls, hc, hs, ds, hnd, hl, q⟩ := h
    refine ⟨_, rfl, p, C, dx, fs, _, rfl, hp, W.cl, W.nc, lc, c, rfl, ⟨_, SqT.of hc⟩, fun D nD => ?_⟩
    refine lc_it (walk_tup (xs := (rs.map Prod.fst).map .str)) (fun i H' => Same H H' ∧ H' D = some (.lst ((tgt (rs.take i) z).map .str))) ⟨same_upd nD, upd_same⟩ (fun _ H' _ p => SqT.of (p.1 _ _ hc)) ?_ ?_
    · rintro i x H1 H1' hi ⟨s1, e1⟩ ⟨rfl, hx⟩
      rw [List.getElem?_map, List.getElem?_map] at hx
      obtain ⟨n', hn', rfl⟩ := Option.map_eq_some_iff.mp hx
      obtain ⟨r, hr', rfl⟩ := Option.map_eq_some_iff.mp hn'
      have mem : r ∈ rs := List.mem_of_getElem? hr'
      have ds1 := ds.same s1
      have gs := srcs_at hnd mem
      rcases ds1.get (z := r.1) with ⟨xs, a, g1, g2, g3⟩ | ⟨g1, _⟩
      · rw [gs] at g1
        cases g1
        refine ⟨rfl, _, rfl, _, rfl, p, C, dx, fs, _, rfl, s1 _ _ hp, W.cl, W.ns, ls, _, rfl, s', _, rfl, ?_, a, _, rfl, .inr g3, rfl, flat_strs' _, _, rfl, ?_⟩
        · rw [← g2]
          exact DGet.k (k := kS r.1) (s1 _ _ hs)
        · by_cases m : z ∈ r.2
          · have eb : inV (.str z) (r.2.map V.str) = true := by rw [in_strs, decide_eq_true m]
            refine iteP eb ⟨_, rfl, _, e1, ?_, same_over nD s1, ?_⟩
            · rw [List.length_map, sizeLine_eq]
              unfold tgt
              rw [List.length_map]
              have l1 := List.length_filter_le (fun r : Str × List Str => decide (z ∈ r.2)) (rs.take i)
              rw [List.length_take] at l1
              omega
            · rw [upd_same, tgt_take hr', if_pos m, List.map_append]
              rfl
          · have eb : inV (.str z) (r.2.map V.str) = false := by rw [in_strs, decide_eq_false m]
            refine iteN eb ⟨s1, ?_⟩
            rw [e1, tgt_take hr', if_neg m, List.append_nil]
      · rw [gs] at g1
        cases g1
    · rintro H1 ⟨s1, e1⟩
      rw [List.length_map, List.length_map, List.take_length] at e1
      refine ⟨D, _, rfl, .inl ⟨SqL.of e1, fun l nl => q l _ (s1.trans (same_upd nl)) (s1.free nl) upd_same⟩⟩
end
end K59
end L2
set_option Elab.async false
set_option linter.all false
set_option maxRecDepth 100000
set_option maxHeartbeats 4000000
namespace L2
namespace K59
open PySem PySem.Spec PyProof.Rows K1 WL
section
variable {P : Program} {w : World} {K : PySem.W.Frag} {mg : Str → Option Value} {base : Heap} {f : Addr} {fd : FuncData}
/-! ### Web.__init__ -/
abbrev nmWI : List Str := ["self", "rows", "row", "cell", "told", "source"]
theorem sc_wi : FnScope nmWI ["self", "rows"] (defScope s_Web_init) := ⟨rfl, rfl, rfl, by decide +kernel, rfl, by decide +kernel, by decide +kernel⟩
theorem ok_web_init {C fc : Addr} {fdc : FuncData} (T : Bl mg) (W : Wt K mg C) (Cc : ∃ f fd, FnOk P w K mg base (L2.CX P w) 5 f fd ["rows"] (spCheckRows K) ∧ mg "check_rows" = some (.ref f) ∧ PySem.W.keepIn K (.ref f) = true ∧ Binds K fd ["rows"] [])
    (Gw : FnOk P w K mg base CX0 1 fc fdc ["self", "source"] (spCW K C)) (bw : Binds K fdc ["self", "source"] []) (mw : Meth K C "cells_with_source" fc) (F : FnP K "__init__" "Web.__init__" s_Web_init f fd) : FnOk P w K mg base (L2.CX P w) 6 f fd ["self", "rows"] (spInit K C) := by
  obtain ⟨fr, fdr, Gr, gr, kr, br⟩ := Cc
  refine F.ok sc_wi (fun vs H Q E h => ?_) (fun cdv A outer s H vs Q E hr h => ?_)
  · obtain ⟨p, dx, v, rfl, _⟩ := h
    rfl
  · have nd := sc_wi.nd
    have h1 := hr.mono (show 1 ≤ 5 by decide)
    refine ⟨_, pss_cons (ps_expr (pe_call Gr hr rfl gr kr br .nil (passes_call (takes_of rfl rfl rfl rfl) fun _ _ _ _ h => h) (pa_cons (pv 1) pa_nil)))
      (pss_cons (ps_fld (pv 0) (pe_callTy call_tuple_of rfl T.f_tuple PyProof.Rows.boot_tuple (pa_cons (pe_lc (own := [("row", 2)]) (g := gName 2) (tt := tYes) (te := tOp (rIx K) (tVar 2) (tC (.int 0))) rfl nd (pi_seq (pv 1)) (blkOk_by (N := nmWI) (sc := defScope s_Web_init) (by decide +kernel))
        (fun _ _ _ _ _ => pg_name (i := 2) nd rfl (Or.inl rfl)) (fun _ _ _ _ _ => pts_nil) (fun _ _ _ _ _ => pe_ix (r := rIx K) ix_seq (pv 2) pe_int fun _ _ => rfl)) pa_nil)) rfl)
      (pss_cons (ps_fld (pv 0) (pe_dc (own := [("cell", 3), ("told", 4)]) (g := gSeq K 2 (gCons (gName 3) (gCons (gName 4) gNil))) (tt := tYes) (tk := tVar 3) (tv := tCB (rTupS K) (tCons (tVar 4) tNil)) rfl nd (pi_seq (pv 1)) (blkOk_by (N := nmWI) (sc := defScope s_Web_init) (by decide +kernel))
        (fun _ _ _ _ _ => pg_seq rfl (pgs_cons (pg_name (i := 3) nd rfl (Or.inl rfl)) (pgs_cons (pg_name (i := 4) nd rfl (Or.inl rfl)) pgs_nil))) (fun _ _ _ _ _ => pts_nil) (fun _ _ _ _ _ => pv 3) (fun _ _ _ _ _ => pe_callTy call_tupS rfl T.f_tuple PyProof.Rows.boot_tuple (pa_cons (pv 4) pa_nil))) rfl)
      (pss_cons (ps_fld (pv 0) (pe_callTy call_tuple_of rfl T.f_tuple PyProof.Rows.boot_tuple (pa_cons (pe_lc2 (own := [("cell", 3), ("source", 5)]) (vs1 := [5]) (g := gName 3) (g1 := gName 5) (tt := tYes) (tt1 := tYes) (wi1 := iTup K (tDGet (tFld K (tVar 0) "sources_of") (tVar 3))) (te := tTup (tCons (tVar 5) (tCons (tVar 3) tNil))) rfl nd (pi_tup (pe_fld (pv 0) rfl)) (blkOk_by (N := nmWI) (sc := defScope s_Web_init) (by decide +kernel)) (by decide)
        (fun _ _ _ _ _ => pg_name (i := 3) nd rfl (Or.inl rfl)) (fun _ _ _ _ _ => pts_nil) (fun _ _ _ _ _ => pi_tup (pe_dget (hu_of hr) (pe_fld (pv 0) rfl) (pv 3) fun _ _ => rfl)) (fun _ _ _ _ _ => pg_name (i := 5) nd rfl (Or.inl rfl)) (fun _ _ _ _ _ => pts_nil) (fun _ _ _ _ _ => pe_tup (pa_cons (pv 5) (pa_cons (pv 3) pa_nil)))) pa_nil)) rfl)
      (pss_one (ps_fld (pv 0) (pe_dc (own := [("cell", 3)]) (g := gName 3) (tt := tYes) (tk := tVar 3) (tv := tMeth C "cells_with_source" (spCW K C) [] E0 (tVar 0) (tCons (tVar 3) tNil)) rfl nd (pi_tup (pe_fld (pv 0) rfl)) (blkOk_by (N := nmWI) (sc := defScope s_Web_init) (by decide +kernel))
        (fun _ _ _ _ _ => pg_name (i := 3) nd rfl (Or.inl rfl)) (fun _ _ _ _ _ => pts_nil) (fun _ _ _ _ _ => pv 3) (fun _ _ _ _ _ => pe_meth (pv 0) W.cl mw Gw h1 bw .nil pass0 (pa_cons (pv 3) pa_nil))) rfl))))), ?_⟩
    obtain ⟨p, dx, v, rfl, hp, hb | ⟨xs, rs, hsh, hrh, g, q⟩⟩ := h
    · refine ⟨_, rfl, ?_⟩
      refine t_nil ?_
      dsimp only
      exact hb _
    · have hs : Seq K H v xs := hsh.same hide_le
      have hrow : Paired (RowG K H) xs rs := Paired.imp (fun _ _ r => r.same hide_le) hrh
      refine ⟨_, rfl, ?_⟩
      refine t_nil ?_
      dsimp only
      refine good_check hs hrow g fun H1 s1 => ?_
      have hlen : xs.length = rs.length := Paired.length hrow
      have hp1 := s1 _ _ hp
      -- self.cells
      refine t_seqFld ?_
      refine t_cb1 ?_
      refine lc_seq (hs.same s1) (fun Q q => ⟨_, rfl, q⟩) (by have := g.ln; omega) (fun i => .str ((rs.map Prod.fst).getD i Str.empty)) (fun i x H' Q' hx s' qq => ?_) (fun D H2 s2 e2 => ?_)
      · obtain ⟨r, hr, y, g1, _⟩ := Paired.getL hrow hx
        have e0 : (rs.map Prod.fst).getD i Str.empty = r.1 := by
          rw [List.getD_eq_getElem?_getD, List.getElem?_map, hr]
          rfl
        rw [e0] at qq
        exact ⟨rfl, _, rfl, ((g1.same s1).same s').ix (x := .str r.1) rfl (qq H' (Same.refl _))⟩
      have e3 : H2 D = some (.lst ((rs.map Prod.fst).map .str)) := by
        rw [e2, ← rngS, List.length_map, hlen]
      refine ⟨D, _, rfl, .inl ⟨SqL.of e3, fun c nc => ?_⟩⟩
      have s12 := s1.trans s2
      have pc : c ≠ p := fun z => by
        rw [z, s2 _ _ hp1] at nc
        cases nc
      have hcH : H2 c = none := nc
      refine ⟨_, rfl, p, C, dx, [], rfl, same_upd nc _ _ (s2 _ _ hp1), W.cl, W.nc, by decide, ?_⟩
      have sA : Same (hide p H) (hide p (upd (upd H2 c (.tup ((rs.map Prod.fst).map .str))) p (.ins C dx (putF "cells" (.ref c) [])))) := by
        rw [hide_updp]
        exact (hide_same s12).trans (hide_same (same_upd nc))
      have eA : (upd (upd H2 c (.tup ((rs.map Prod.fst).map .str))) p (.ins C dx (putF "cells" (.ref c) []))) p = some (.ins C dx (putF "cells" (.ref c) [])) := upd_same
      have cA : hide p (upd (upd H2 c (.tup ((rs.map Prod.fst).map .str))) p (.ins C dx (putF "cells" (.ref c) []))) c = some (.tup ((rs.map Prod.fst).map .str)) := by
        rw [hide_updp, hide_ne pc]
        exact upd_same
      generalize upd (upd H2 c (.tup ((rs.map Prod.fst).map .str))) p (.ins C dx (putF "cells" (.ref c) [])) = HA at sA eA cA ⊢
      clear e3 e2 s2 s12 nc hcH
      -- self.sources_of
      refine t_seqFld ?_
      refine dc_seq hsh (sA.trans hide_le) (fun Q q => ⟨_, rfl, q⟩) (fun D i H' => Same HA H' ∧ HA D = none ∧ ∃ kvs, H' D = some (.dK kvs) ∧ WL.DTup K (hide D H') kvs (rs.take i)) (fun D nD => ⟨same_upd nD, nD, [], upd_same, Paired.nil⟩)
        (fun D i H' p => (sA.trans hide_le).trans p.1) (fun D i x H' hx p => ?_) (fun D H' p => ?_)
      · obtain ⟨sB, nD, kvs, eD, dt⟩ := p
        obtain ⟨r, hr, y, g1, g2⟩ := Paired.getL hrh hx
        have sAB := (sA.trans hide_le).trans sB
        refine ⟨_, g1.same sAB, rfl, _, _, rfl, _, _, rfl, rfl, rfl, _, rfl, _, rfl, y, _, rfl, g2.same sAB, fun H3 l s3 sq => ?_⟩
        have e3 := s3 _ _ eD
        refine ⟨kvs, kS r.1, rfl, e3, ?_, same_over nD (sB.trans s3), nD, _, upd_same, ?_⟩
        · rw [dt.len, List.length_take, sizeLine_eq]
          have := g.ln
          omega
        · rw [hide_updp, List.take_succ, hr]
          exact (dt.same (hide_same s3)).snoc (sqt_hideD sq e3) (nodup_take g.nd hr)
      obtain ⟨sB, nD, ks, eD, dt⟩ := p
      rw [hlen, List.take_length] at dt
      have Dp : D ≠ p := fun z => by
        rw [z, eA] at nD
        cases nD
      have eB := sB _ _ eA
      refine ⟨_, rfl, p, C, dx, _, rfl, eB, W.cl, W.ns, (show 1 < 1000 by decide), ?_⟩
      have dtB : WL.DTup K (hide p H') ks rs := (dt.same hide_le).hide eB (fun _ z => nomatch z) (fun _ _ z => nomatch z)
      have sH : Same (hide p H) (hide p (upd H' p (.ins C dx (putF "sources_of" (.ref D) (putF "cells" (.ref c) []))))) := by
        rw [hide_updp]
        exact sA.trans (hide_same sB)
      have cB : hide p (upd H' p (.ins C dx (putF "sources_of" (.ref D) (putF "cells" (.ref c) [])))) c = some (.tup ((rs.map Prod.fst).map .str)) := by
        rw [hide_updp]
        exact hide_same sB _ _ cA
      have kB : hide p (upd H' p (.ins C dx (putF "sources_of" (.ref D) (putF "cells" (.ref c) [])))) D = some (.dK ks) := by
        rw [hide_updp, hide_ne Dp]
        exact eD
      have dB : WL.DTup K (hide p (upd H' p (.ins C dx (putF "sources_of" (.ref D) (putF "cells" (.ref c) []))))) ks rs := by
        rw [hide_updp]
        exact dtB
      have pB : (upd H' p (.ins C dx (putF "sources_of" (.ref D) (putF "cells" (.ref c) [])))) p = some (.ins C dx (putF "sources_of" (.ref D) (putF "cells" (.ref c) []))) := upd_same
      generalize upd H' p (.ins C dx (putF "sources_of" (.ref D) (putF "cells" (.ref c) []))) = HB at sH cB kB dB pB ⊢
      clear dtB eB Dp dt eD sB nD sA eA cA
      have lB1 : (putF "sources_of" (V.ref D) (putF "cells" (.ref c) [])).lookup ("cells" : Str) = some (.ref c) := rfl
      have lB2 : (putF "sources_of" (V.ref D) (putF "cells" (.ref c) [])).lookup ("sources_of" : Str) = some (.ref D) := rfl
      have gsrc : ∀ {H'' : Hp} {r : Str × List Str}, Same HB H'' → r ∈ rs → ∃ a, DGet H'' D (.str r.1) (some (.ref a)) ∧ SqT K H'' a (r.2.map .str) := fun {H'' r} s3 hr => by
        rcases ((dB.same hide_le).same s3).get (z := r.1) with ⟨ys, a, g1, g2, g3⟩ | ⟨g1, _⟩
        · rw [srcs_at g.nd hr] at g1
          cases g1
          refine ⟨a, ?_, g3⟩
          rw [← g2]
          exact DGet.k (k := kS r.1) (s3 _ _ (hide_some kB).2)
        · rw [srcs_at g.nd hr] at g1
          cases g1
      -- self.arrows
      refine t_seqFld ?_
      refine t_cb1 ?_
      refine ⟨_, rfl, p, C, dx, _, _, rfl, pB, W.cl, W.nc, lB1, c, rfl, ⟨_, SqT.of (hide_some cB).2⟩, fun D2 nD2 => ?_⟩
      refine lc2_it (walk_tup (xs := (rs.map Prod.fst).map .str)) (fun i H' => Same HB H' ∧ ∃ av, H' D2 = some (.lst av) ∧ Paired (PairT (hide D2 H')) av (arr (rs.take i))) ⟨same_upd nD2, [], upd_same, Paired.nil⟩ (fun _ H' _ p => SqT.of (p.1 _ _ (hide_some cB).2)) ?_ ?_
      · rintro i x H3 H3' hi ⟨s3, av, e3, d3⟩ ⟨rfl, hx⟩
        rw [List.getElem?_map, List.getElem?_map] at hx
        obtain ⟨n', hn', rfl⟩ := Option.map_eq_some_iff.mp hx
        obtain ⟨r, hr', rfl⟩ := Option.map_eq_some_iff.mp hn'
        have mem : r ∈ rs := List.mem_of_getElem? hr'
        obtain ⟨a, g2, g3⟩ := gsrc s3 mem
        refine ⟨rfl, _, rfl, p, C, dx, _, _, rfl, s3 _ _ pB, W.cl, W.ns, lB2, _, rfl, D, _, rfl, g2, a, rfl, ⟨_, g3⟩, ?_⟩
        have li : i < rs.length := (List.getElem?_eq_some_iff.mp hr').1
        have lr := (g.sr r mem).1
        refine lc2_in (walk_tup (xs := r.2.map .str)) (fun j H' => Same HB H' ∧ ∃ av, H' D2 = some (.lst av) ∧ Paired (PairT (hide D2 H')) av (arr (rs.take i) ++ (r.2.take j).map fun s => (s, r.1))) ⟨s3, av, e3, by simpa using d3⟩ (fun j H' _ p => ?_) ?_ ?_
        · obtain ⟨a', g2', g3'⟩ := gsrc p.1 mem
          have ea : a' = a := by
            rcases (dB.same hide_le).get (z := r.1) with ⟨ys, a2, h1, h2, h3⟩ | ⟨h1, _⟩
            · have k1 := (s3 _ _ (hide_some kB).2)
              have k2 := (p.1 _ _ (hide_some kB).2)
              have w1 := dget_inj g2 k1 (k := kS r.1)
              have w2 := dget_inj g2' k2 (k := kS r.1)
              rw [w1] at w2
              exact (V.ref.inj (Option.some.inj w2)).symm
            · rw [srcs_at g.nd mem] at h1
              cases h1
          rw [← ea]
          exact g3'
        · rintro j x H4 H4' hj ⟨s4, av, e4, d4⟩ ⟨rfl, hx2⟩
          rw [List.getElem?_map] at hx2
          obtain ⟨z, hz, rfl⟩ := Option.map_eq_some_iff.mp hx2
          refine ⟨rfl, _, rfl, _, rfl, (show 2 ≤ sizeLine by decide), fun t nt => ?_⟩
          have e4' := same_upd (o := .tup [.str z, .str r.1]) nt _ _ e4
          have td : t ≠ D2 := fun y => by
            rw [y, e4] at nt
            cases nt
          refine ⟨av, e4', ?_, same_over nD2 (s4.trans (same_upd nt)), _, upd_same, ?_⟩
          · have l1 := Paired.length d4
            have l2 := arr_len (l := rs.take i) fun r hr => (g.sr r (List.mem_of_mem_take hr)).1
            rw [List.length_append, List.length_map, List.length_take] at l1
            rw [List.length_take] at l2
            have := g.ln
            rw [sizeLine_eq]
            have : min i rs.length * 900 ≤ 900 * 900 := Nat.mul_le_mul_right _ (by omega)
            omega
          · rw [hide_updp, List.take_succ, hz, List.map_append, ← List.append_assoc]
            refine Paired.snoc (Paired.imp (fun _ _ r => r.same (hide_same (same_upd nt))) d4) ⟨t, rfl, ?_⟩
            rw [hide_ne td]
            exact upd_same
        · rintro H4 ⟨s4, av, e4, d4⟩
          rw [List.length_map, List.take_length, ← arr_take hr'] at d4
          exact ⟨s4, av, e4, d4⟩
      rintro H3 ⟨s3, av, e3, d3⟩
      rw [List.length_map, List.length_map, List.take_length] at d3
      refine ⟨D2, av, rfl, .inl ⟨SqL.of e3, fun t nt => ?_⟩⟩
      have s3t := s3.trans (same_upd (o := .tup av) nt)
      have tp : t ≠ p := fun z => by
        rw [z, s3 _ _ pB] at nt
        cases nt
      refine ⟨_, rfl, p, C, dx, _, rfl, s3t _ _ pB, W.cl, W.na, (show 2 < 1000 by decide), ?_⟩
      have d3' : Paired (PairT (hide p (upd H3 t (.tup av)))) av (arr rs) := Paired.imp (fun _ _ r => ((r.same hide_le).same (same_upd nt)).hide (s3t _ _ pB) (fun _ z => nomatch z)) d3
      have sC : Same (hide p HB) (hide p (upd (upd H3 t (.tup av)) p (.ins C dx (putF "arrows" (.ref t) (putF "sources_of" (.ref D) (putF "cells" (.ref c) [])))))) := by
        rw [hide_updp]
        exact hide_same s3t
      have dC : Paired (PairT (hide p (upd (upd H3 t (.tup av)) p (.ins C dx (putF "arrows" (.ref t) (putF "sources_of" (.ref D) (putF "cells" (.ref c) []))))))) av (arr rs) := by
        rw [hide_updp]
        exact d3'
      have tC : hide p (upd (upd H3 t (.tup av)) p (.ins C dx (putF "arrows" (.ref t) (putF "sources_of" (.ref D) (putF "cells" (.ref c) []))))) t = some (.tup av) := by
        rw [hide_updp, hide_ne tp]
        exact upd_same
      have pC : (upd (upd H3 t (.tup av)) p (.ins C dx (putF "arrows" (.ref t) (putF "sources_of" (.ref D) (putF "cells" (.ref c) []))))) p = some (.ins C dx (putF "arrows" (.ref t) (putF "sources_of" (.ref D) (putF "cells" (.ref c) [])))) := upd_same
      generalize upd (upd H3 t (.tup av)) p (.ins C dx (putF "arrows" (.ref t) (putF "sources_of" (.ref D) (putF "cells" (.ref c) [])))) = HC at sC dC tC pC ⊢
      clear d3' tp s3t nt d3 e3 s3 gsrc
      have cC := sC _ _ cB
      have kC := sC _ _ kB
      have dsC := dB.same sC
      have lC1 : (putF "arrows" (V.ref t) (putF "sources_of" (V.ref D) (putF "cells" (.ref c) []))).lookup ("cells" : Str) = some (.ref c) := rfl
      have lC2 : (putF "arrows" (V.ref t) (putF "sources_of" (V.ref D) (putF "cells" (.ref c) []))).lookup ("sources_of" : Str) = some (.ref D) := rfl
      have lC3 : (putF "arrows" (V.ref t) (putF "sources_of" (V.ref D) (putF "cells" (.ref c) []))).lookup ("cells_with_source" : Str) = none := rfl
      -- self.targets_of
      refine t_fld ?_
      refine ⟨_, rfl, p, C, dx, _, _, rfl, pC, W.cl, W.nc, lC1, c, rfl, ⟨_, SqT.of (hide_some cC).2⟩, fun D3 nD3 => ?_⟩
      refine dc_it (walk_tup (xs := (rs.map Prod.fst).map .str)) (fun i H' => Same HC H' ∧ ∃ kvs, H' D3 = some (.dK kvs) ∧ WL.DTup K (hide D3 H') kvs ((rs.take i).map fun r => (r.1, tgt rs r.1))) ⟨same_upd nD3, [], upd_same, Paired.nil⟩ (fun _ H' _ p => SqT.of (p.1 _ _ (hide_some cC).2)) ?_ ?_
      · rintro i x H3 H3' hi ⟨s3, kvs, e3, d3⟩ ⟨rfl, hx⟩
        rw [List.getElem?_map, List.getElem?_map] at hx
        obtain ⟨n', hn', rfl⟩ := Option.map_eq_some_iff.mp hx
        obtain ⟨r, hr', rfl⟩ := Option.map_eq_some_iff.mp hn'
        refine ⟨rfl, _, rfl, _, rfl, p, dx, _, rfl, s3 _ _ pC, lC3, _, rfl, p, r.1, dx, _, c, D, ks, rs, rfl, s3 _ _ pC, lC1, lC2, s3 _ _ (hide_some cC).2, s3 _ _ (hide_some kC).2, (dsC.same hide_le).same s3, g.nd, g.ln, fun q2 H4 s4 nq eq => ?_⟩
        have e4 := s4 _ _ e3
        refine ⟨kvs, kS r.1, rfl, e4, ?_, same_over nD3 (s3.trans s4), _, upd_same, ?_⟩
        · rw [d3.len, List.length_map, List.length_take, sizeLine_eq]
          have := g.ln
          omega
        · rw [hide_updp, List.take_succ, hr', List.map_append]
          refine (d3.same (hide_same s4)).snoc (sqt_hideD (SqT.of eq) e4) ?_
          rw [List.map_map]
          exact nodup_take g.nd hr'
      · rintro H3 ⟨s3, kvs, e3, d3⟩
        rw [List.length_map, List.length_map, List.take_length] at d3
        have e3p := s3 _ _ pC
        refine ⟨_, rfl, p, C, dx, _, rfl, e3p, W.cl, W.nt, (show 3 < 1000 by decide), ?_⟩
        have s4 : Same (hide p HC) (hide p (upd H3 p (.ins C dx (putF "targets_of" (.ref D3) (putF "arrows" (.ref t) (putF "sources_of" (.ref D) (putF "cells" (.ref c) []))))))) := by
          rw [hide_updp]
          exact hide_same s3
        have D3p : D3 ≠ p := fun z => by
          rw [z, pC] at nD3
          cases nD3
        refine q _ ((sH.trans sC).trans s4) ⟨dx, c, D, t, D3, ks, kvs, av, ⟨upd_same, (hide_some (s4 _ _ cC)).2, (hide_some (s4 _ _ kC)).2, (dsC.same s4).same hide_le, (hide_some (s4 _ _ tC)).2, Paired.imp (fun _ _ r => (r.same s4).same hide_le) dC, ?_, ?_⟩⟩
        · rw [upd_ne D3p]
          exact e3
        · have d4 : WL.DTup K (hide p (upd H3 p (.ins C dx (putF "targets_of" (.ref D3) (putF "arrows" (.ref t) (putF "sources_of" (.ref D) (putF "cells" (.ref c) []))))))) kvs (rs.map fun r => (r.1, tgt rs r.1)) := by
            rw [hide_updp]
            exact (d3.same hide_le).hide e3p (fun _ z => nomatch z) (fun _ _ z => nomatch z)
          exact d4.same hide_le
end
end K59
end L2
set_option Elab.async false
set_option linter.all false
set_option maxRecDepth 100000
set_option maxHeartbeats 4000000
namespace L2
namespace K59
open PySem PySem.Spec PyProof.Rows K1 WL
section
variable {P : Program} {w : World} {K : PySem.W.Frag} {mg : Str → Option Value} {base : Heap} {f : Addr} {fd : FuncData}
/-! ### Web.__contains__, __len__, __iter__ -/
theorem sc_con : FnScope ["self", "x"] ["self", "x"] (defScope s_Web_contains) := ⟨rfl, rfl, rfl, by decide +kernel, rfl, by decide +kernel, by decide +kernel⟩
theorem ok_con {C : Addr} (T : Bl mg) (W : Wt K mg C) (Cn : Cal P w K mg base "is_name" ["thing"] 1 (spIsName K)) (F : FnP K "__contains__" "Web.__contains__" s_Web_contains f fd) : FnOk P w K mg base CX0 2 f fd ["self", "x"] (spCon K C) := by
  refine F.ok sc_con (fun vs H Q E h => ?_) (fun cdv A outer s H vs Q E hr h => ?_)
  · obtain ⟨p, x, b, rs, rfl, _⟩ := h
    rfl
  · refine ⟨_, PSs.nox (pss_one (ps_ret (pe_and (pe_callB call_isi rfl T.f_isinstance boot_isinstance (pa_cons (pv 1) (pa_cons (pe_bltn (v := .ty "str") rfl T.f_str PyProof.Rows.boot_str rfl) pa_nil))) (pe_one (pe_cmp (pc_din (hu_of hr) (pv 1) (pe_fld (pv 0) rfl)) rfl))))), ?_⟩
    obtain ⟨p, x, b, rs, rfl, hw, g, hn, q⟩ := h
    have q1 := q H (Same.refl H)
    obtain ⟨i1, i2⟩ := isn_in g hn
    rcases hn with ⟨z, rfl, hz, _⟩ | ⟨t, ty, kt, eb⟩
    · refine ⟨_, rfl, _, .ty "str", _, _, true, rfl, .ty "str", .base (.str z), kit_ty (by decide +kernel), true, rfl, ?_⟩
      obtain ⟨dx, c, s', a, t, ks, kt, av, W1⟩ := hw
      refine ⟨_, rfl, _, rfl, p, C, dx, _, _, rfl, W1.ob, W.cl, W.ns, rfl, s', _, rfl, DGet.k (k := kS z) W1.hs, ?_⟩
      have e : (valV ks (kS z)).isSome = inWeb rs (.str z) := by
        rcases W1.ds.get (z := z) with ⟨xs, a', g1, g2, _⟩ | ⟨g1, g2⟩
        · rw [g2]
          symm
          refine decide_eq_true ?_
          obtain ⟨p', hp', rfl, _⟩ := srcs_mem g1
          exact List.mem_map.mpr ⟨p', hp', rfl⟩
        · rw [g2]
          symm
          exact decide_eq_false (srcs_none.mp g1)
      rw [e]
      exact q1
    · rw [i1 eb] at q1
      exact ⟨_, rfl, _, .ty "str", t, _, false, rfl, .ty "str", ty, kt, false, rfl, q1⟩
theorem sc_len : FnScope ["self"] ["self"] (defScope s_Web_len) := ⟨rfl, rfl, rfl, by decide +kernel, rfl, by decide +kernel, by decide +kernel⟩
theorem ok_len {C : Addr} (T : Bl mg) (W : Wt K mg C) (F : FnP K "__len__" "Web.__len__" s_Web_len f fd) : FnOk P w K mg base CX0 1 f fd ["self"] (spLenW K C) := by
  refine F.ok sc_len (fun vs H Q E h => ?_) (fun cdv A outer s H vs Q E hr h => ?_)
  · obtain ⟨p, rs, rfl, _⟩ := h
    rfl
  · refine ⟨_, PSs.nox (pss_one (ps_ret (pe_callB call_len rfl T.f_len boot_len (pa_cons (pe_fld (pv 0) rfl) pa_nil)))), ?_⟩
    obtain ⟨p, rs, rfl, ⟨dx, c, s', a, t, ks, kt, av, W1⟩, q⟩ := h
    refine ⟨_, rfl, p, C, dx, _, _, rfl, W1.ob, W.cl, W.nc, rfl, .ref c, rs.length, rfl, .inr ⟨_, SqT.of W1.hc, by rw [List.length_map, List.length_map]⟩, q⟩
theorem sc_iter : FnScope ["self"] ["self"] (defScope s_Web_iter) := ⟨rfl, rfl, rfl, by decide +kernel, rfl, by decide +kernel, by decide +kernel⟩
theorem own_it {C : Addr} (T : Bl mg) (W : Wt K mg C) (M : Spc K C "__iter__" f) (b : Binds K fd ["self"] []) (F : FnP K "__iter__" "Web.__iter__" s_Web_iter f fd) : OwnIt P w K mg base C f fd "cells" :=
  ⟨M, b, fun A outer s H p dx t fs zs Q E hr e0 hb hp hl ht q => run_at (k := 0) (vs := [.ref p]) F sc_iter rfl hr e0 hb (.cons (show RelV (.ref p) (.ref p) from rfl) .nil) fun cdv hr' => ⟨_, pss_one (ps_ret (pe_callB call_iterT rfl T.f_iter PyProof.Rows.boot_iter (pa_cons (pe_fld (pv 0) rfl) pa_nil))),
    ⟨_, rfl, p, C, dx, fs, _, rfl, hp, W.cl, W.nc, hl, t, zs, rfl, ht, fun it n1 n2 => q it n1 n2⟩⟩⟩
end
end K59
end L2
set_option Elab.async false
set_option linter.all false
set_option maxRecDepth 100000
set_option maxHeartbeats 4000000
namespace L2
namespace K59
open PySem PySem.Spec PyProof.Rows K1 WL
section
variable {P : Program} {w : World} {K : PySem.W.Frag} {mg : Str → Option Value} {base : Heap} {f : Addr} {fd : FuncData}
/-! ### Web.__eq__ -/
theorem sc_eq : FnScope ["self", "other"] ["self", "other"] (defScope s_Web_eq) := ⟨rfl, rfl, rfl, by decide +kernel, rfl, by decide +kernel, by decide +kernel⟩
theorem ok_eq {C : Addr} (T : Bl mg) (W : Wt K mg C) (Wi : Wk K C) (F : FnP K "__eq__" "Web.__eq__" s_Web_eq f fd) : FnOk P w K mg base CX0 1 f fd ["self", "other"] (spEqW K C) := by
  refine F.ok sc_eq (fun vs H Q E h => ?_) (fun cdv A outer s H vs Q E hr h => ?_)
  · obtain ⟨p, y, rs, rfl, _⟩ := h
    rfl
  · have hu65 : (A.deeper (envOfC "Web.__eq__" (defScope s_Web_eq) s.heap.objs.size f cdv)).units + 65 < cLine := by
      have := hr.un
      omega
    refine ⟨_, PSs.nox (pss_one (ps_ret (pe_and (pe_callB call_isi rfl T.f_isinstance boot_isinstance (pa_cons (pv 1) (pa_cons (pe_glob (v := .ref C) rfl W.mg rfl (by decide +kernel)) pa_nil)))
      (pe_and (pe_cmpR (op_eqD hr.units) (pe_fld (pv 0) rfl) (pe_fld (pv 1) rfl) (nomark _)) (pe_one (pe_cmpR (op_eqDT hu65) (pe_fld (pv 0) rfl) (pe_fld (pv 1) rfl) (nomark _))))))), ?_⟩
    obtain ⟨p, y, rs, rfl, ⟨dx, c, s', a, t, ks, kt, av, W1⟩, ok, hy⟩ := h
    rcases hy with ⟨ty, tx, kt', q⟩ | ⟨p2, qs, rfl, ⟨dx2, c2, s2, a2, t2, ks2, kt2, av2, W2⟩, ok2, q⟩
    · exact ⟨_, rfl, _, .ref C, ty, _, false, rfl, .own C, tx, kt', false, rfl, q⟩
    · refine ⟨_, rfl, _, .ref C, .ref C, _, true, rfl, .own C, Wi.ins W2.ob, Wi.self, true, rfl, ?_⟩
      refine ⟨_, rfl, p, C, dx, _, _, rfl, W1.ob, W.cl, W.nc, rfl, _, rfl, p2, C, dx2, _, _, rfl, W2.ob, W.cl, W.nc, rfl, .tuple (dS (rs.map Prod.fst)), .tuple (dS (qs.map Prod.fst)), .tup (SqT.of W1.hc) (dp_strs _), .tup (SqT.of W2.hc) (dp_strs _), shape_tup ok.1, shape_tup ok2.1, _, rfl, ?_⟩
      have e1 : PyData.eqv (.tuple (dS (rs.map Prod.fst))) (.tuple (dS (qs.map Prod.fst))) = decide (rs.map Prod.fst = qs.map Prod.fst) := eqv_strs _ _
      have e2 : wEq rs qs = (PyData.eqv (.tuple (dS (rs.map Prod.fst))) (.tuple (dS (qs.map Prod.fst))) && dEq rs qs) := by rw [e1]; rfl
      rw [e2] at q
      cases hh : PyData.eqv (.tuple (dS (rs.map Prod.fst))) (.tuple (dS (qs.map Prod.fst))) with
      | false =>
        rw [hh] at q
        exact q
      | true =>
        rw [hh] at q
        exact ⟨_, rfl, p, C, dx, _, _, rfl, W1.ob, W.cl, W.ns, rfl, _, rfl, p2, C, dx2, _, _, rfl, W2.ob, W.cl, W.ns, rfl, s', s2, ks, ks2, rs, qs, rfl, rfl, W1.hs, W2.hs, W1.ds, W2.ds, ok.2, ok2.2, q⟩
/-! ### check_cells, Web.sources, Web.targets -/
abbrev nmCC : List Str := ["web", "things", "thing"]
theorem sc_cc : FnScope nmCC ["web", "things"] (defScope s_check_cells) := ⟨rfl, rfl, rfl, by decide +kernel, rfl, by decide +kernel, by decide +kernel⟩
theorem ok_cc {C fc : Addr} {fdc : FuncData} (T : Bl mg) (M : Spc K C "__contains__" fc) (Gc : FnOk P w K mg base CX0 2 fc fdc ["self", "x"] (spCon K C)) (bc : Binds K fdc ["self", "x"] []) (EU : Er P w K mg base "UnknownCell" "cell") (F : FnP K "check_cells" "check_cells" s_check_cells f fd) :
    FnOk P w K mg base (L2.CX P w) 3 f fd ["web", "things"] (spCC K C (He.ga K "UnknownCell")) := by
  obtain ⟨fdU, GU, bU⟩ := EU.ex
  refine F.ok sc_cc (fun vs H Q E h => ?_) (fun cdv A outer s H vs Q E hr h => ?_)
  · obtain ⟨p, v, xs, rs, rfl, _⟩ := h
    rfl
  · have nd := sc_cc.nd
    refine ⟨_, pss_one (ps_for (passes_of rfl) rfl (pi_seq (pv 1)) (pg_name (i := 2) nd rfl (Or.inl rfl))
      (pss_one (ps_if (pt_cmpR (op_notInO M Gc hr bc pass0) (pv 2) (pv 0) rfl) (pss_one (ps_raiseV rfl (takes_of rfl rfl rfl rfl) EU.c EU.iC EU.tI GU hr bU rfl EU.g (pv 2))) pss_nil))), ?_⟩
    obtain ⟨p, v, xs, rs, rfl, hs, hw, g, hx, hU⟩ := h
    show tFor _ _ _ _ _ _
    refine for_seq hs (fun Q q => ⟨_, rfl, q⟩) (fun i σ H' => Same H H' ∧ (∃ o, σ = [some (.ref p), some v, o]) ∧ (xs.take i).all (inWeb rs) = true) ⟨Same.refl H, ⟨_, rfl⟩, by simp⟩ (fun i σ H' p => p.1) ?_ ?_
    · rintro i x σ H1 hxi ⟨s1, ⟨o, rfl⟩, hall⟩
      obtain ⟨b, hb⟩ := hx x (List.mem_of_getElem? hxi)
      have hw1 := hw.same s1
      obtain ⟨dx, c, s', a, t, ks, kt, av, W1⟩ := id hw1
      refine ⟨_, rfl, _, rfl, p, dx, _, rfl, W1.ob, p, x, b, rs, rfl, hw1, g, hb.same s1, fun H2 s2 => ⟨_, rfl, _, rfl, ?_⟩⟩
      have tk : xs.take (i + 1) = xs.take i ++ [x] := by rw [List.take_succ, hxi]; rfl
      have split : xs = xs.take i ++ x :: xs.drop (i + 1) := by
        have lt : i < xs.length := (List.getElem?_eq_some_iff.mp hxi).1
        conv => lhs; rw [← List.take_append_drop i xs, List.drop_eq_getElem_cons lt]
        rw [List.getElem?_eq_getElem lt] at hxi
        rw [Option.some.inj hxi]
      refine ite2 (fun hh => ?_) fun hh => ?_
      · have hx0 : inWeb rs x = false := by
          have hh2 : (!inWeb rs x) = true := hh
          simpa using hh2
        have fu : xs.find? (fun x => !inWeb rs x) = some x := by
          rw [split, List.find?_append]
          have e1 : (xs.take i).find? (fun x => !inWeb rs x) = none := by
            rw [List.find?_eq_none]
            intro y hy
            have := List.all_eq_true.mp hall y hy
            simp [this]
          rw [e1, List.find?_cons, hx0]
          rfl
        rcases hU with ⟨ha, _⟩ | ⟨x2, e2, rz⟩
        · exfalso
          rw [split, List.all_append, List.all_cons, hx0, Bool.false_and, Bool.and_false] at ha
          cases ha
        · rw [fu] at e2
          cases e2
          exact ⟨_, rfl, fun H5 d5 s5 nd5 e7 => rz H5 d5 ((s1.trans s2).trans s5) e7⟩
      · have hx1 : inWeb rs x = true := by
          cases z : inWeb rs x with
          | true => rfl
          | false =>
            exfalso
            refine hh ?_
            show (!inWeb rs x) = true
            rw [z]
            rfl
        refine ⟨s1.trans s2, ⟨_, rfl⟩, ?_⟩
        rw [tk, List.all_append, hall, List.all_cons, hx1]
        rfl
    · rintro σ H1 ⟨s1, ⟨o, rfl⟩, hall⟩
      rw [List.take_length] at hall
      rcases hU with ⟨_, q⟩ | ⟨x2, e2, rz⟩
      · exact q H1 s1
      · exfalso
        have := List.find?_some e2
        rw [List.all_eq_true.mp hall x2 (List.mem_of_find?_eq_some e2)] at this
        cases this
theorem cc_one {C CU p : Addr} {x : V} {b : Bool} {rs : Rws} {H : Hp} {Q : VK} {E : XK} {T1 : Addr} (hw : IsWeb K H C p rs) (g : Good rs) (hb : IsN K H x b) (nt : H T1 = none)
    (h : (inWeb rs x = true ∧ ∀ H', Same (upd H T1 (.tup [x])) H' → Q .non H') ∨ (inWeb rs x = false ∧ Rz H E CU "cell" x)) : spCC K C CU [.ref p, .ref T1] (upd H T1 (.tup [x])) Q E := by
  have s1 := same_upd (o := .tup [x]) nt
  refine ⟨p, .ref T1, [x], rs, rfl, ⟨T1, rfl, .inr (SqT.of upd_same)⟩, hw.same s1, g, fun y hy => ?_, ?_⟩
  · have : y = x := by simpa using hy
    rw [this]
    exact ⟨b, hb.same s1⟩
  · rcases h with ⟨h1, q⟩ | ⟨h1, rz⟩
    · exact .inl ⟨by rw [List.all_cons, h1]; rfl, q⟩
    · exact .inr ⟨x, by rw [List.find?_cons, h1]; rfl, rz.up s1⟩
theorem sc_src : FnScope ["self", "cell"] ["self", "cell"] (defScope s_Web_sources) := ⟨rfl, rfl, rfl, by decide +kernel, rfl, by decide +kernel, by decide +kernel⟩
theorem ok_sources {C : Addr} (T : Bl mg) (W : Wt K mg C) (Cc : ∃ f fd, FnOk P w K mg base (L2.CX P w) 3 f fd ["web", "things"] (spCC K C (He.ga K "UnknownCell")) ∧ mg "check_cells" = some (.ref f) ∧ PySem.W.keepIn K (.ref f) = true ∧ Binds K fd ["web", "things"] [])
    (F : FnP K "sources" "Web.sources" s_Web_sources f fd) : FnOk P w K mg base (L2.CX P w) 4 f fd ["self", "cell"] (spSrc K C (He.ga K "UnknownCell") id) := by
  obtain ⟨fr, fdr, Gr, gr, kr, br⟩ := Cc
  refine F.ok sc_src (fun vs H Q E h => ?_) (fun cdv A outer s H vs Q E hr h => ?_)
  · obtain ⟨p, x, b, rs, rfl, _⟩ := h
    rfl
  · refine ⟨_, pss_cons (ps_expr (pe_call Gr hr rfl gr kr br .nil (passes_call (takes_of rfl rfl rfl rfl) fun _ _ _ _ h => h) (pa_cons (pv 0) (pa_cons (pe_tup (pa_cons (pv 1) pa_nil)) pa_nil))))
      (pss_one (ps_ret (pe_dget (hu_of hr) (pe_fld (pv 0) rfl) (pv 1) fun _ _ => rfl))), ?_⟩
    obtain ⟨p, x, b, rs, rfl, hw, g, hb, h⟩ := h
    refine ⟨_, rfl, _, rfl, (show 1 ≤ sizeLine by decide), fun T1 nt => ?_⟩
    refine t_nil ?_
    dsimp only
    refine cc_one hw g hb nt ?_
    rcases h with ⟨z, xs, rfl, hz, hm, q⟩ | ⟨h1, rz⟩
    · refine .inl ⟨decide_eq_true hm, fun H' s1 => ?_⟩
      have s2 := (same_upd (o := .tup [.str z]) nt).trans s1
      obtain ⟨dx, c, s', a, t, ks, kt, av, W1⟩ := hw.same s2
      rcases W1.ds.get (z := z) with ⟨ys, a', g1, g2, g3⟩ | ⟨g1, _⟩
      · rw [show srcs rs z = some xs from hz] at g1
        cases g1
        refine ⟨_, rfl, p, C, dx, _, _, rfl, W1.ob, W.cl, W.ns, rfl, _, rfl, s', .ref a', rfl, ?_, q H' a' s2 g3⟩
        rw [← g2]
        exact DGet.k (k := kS z) W1.hs
      · rw [show srcs rs z = some xs from hz] at g1
        cases g1
    · exact .inr ⟨h1, rz⟩
theorem sc_tgt : FnScope ["self", "cell"] ["self", "cell"] (defScope s_Web_targets) := ⟨rfl, rfl, rfl, by decide +kernel, rfl, by decide +kernel, by decide +kernel⟩
def tgtR (rs : Rws) : Rws := rs.map fun r => (r.1, tgt rs r.1)
theorem ok_targets {C : Addr} (T : Bl mg) (W : Wt K mg C) (Cc : ∃ f fd, FnOk P w K mg base (L2.CX P w) 3 f fd ["web", "things"] (spCC K C (He.ga K "UnknownCell")) ∧ mg "check_cells" = some (.ref f) ∧ PySem.W.keepIn K (.ref f) = true ∧ Binds K fd ["web", "things"] [])
    (F : FnP K "targets" "Web.targets" s_Web_targets f fd) : FnOk P w K mg base (L2.CX P w) 4 f fd ["self", "cell"] (spSrc K C (He.ga K "UnknownCell") tgtR) := by
  obtain ⟨fr, fdr, Gr, gr, kr, br⟩ := Cc
  refine F.ok sc_tgt (fun vs H Q E h => ?_) (fun cdv A outer s H vs Q E hr h => ?_)
  · obtain ⟨p, x, b, rs, rfl, _⟩ := h
    rfl
  · refine ⟨_, pss_cons (ps_expr (pe_call Gr hr rfl gr kr br .nil (passes_call (takes_of rfl rfl rfl rfl) fun _ _ _ _ h => h) (pa_cons (pv 0) (pa_cons (pe_tup (pa_cons (pv 1) pa_nil)) pa_nil))))
      (pss_one (ps_ret (pe_dget (hu_of hr) (pe_fld (pv 0) rfl) (pv 1) fun _ _ => rfl))), ?_⟩
    obtain ⟨p, x, b, rs, rfl, hw, g, hb, h⟩ := h
    refine ⟨_, rfl, _, rfl, (show 1 ≤ sizeLine by decide), fun T1 nt => ?_⟩
    refine t_nil ?_
    dsimp only
    refine cc_one hw g hb nt ?_
    rcases h with ⟨z, xs, rfl, hz, hm, q⟩ | ⟨h1, rz⟩
    · refine .inl ⟨decide_eq_true hm, fun H' s1 => ?_⟩
      have s2 := (same_upd (o := .tup [.str z]) nt).trans s1
      obtain ⟨dx, c, s', a, t, ks, kt, av, W1⟩ := hw.same s2
      rcases W1.dt.get (z := z) with ⟨ys, a', g1, g2, g3⟩ | ⟨g1, _⟩
      · rw [show srcs (rs.map fun r => (r.1, tgt rs r.1)) z = some xs from hz] at g1
        cases g1
        refine ⟨_, rfl, p, C, dx, _, _, rfl, W1.ob, W.cl, W.nt, rfl, _, rfl, t, .ref a', rfl, ?_, q H' a' s2 g3⟩
        rw [← g2]
        exact DGet.k (k := kS z) W1.ht
      · rw [show srcs (rs.map fun r => (r.1, tgt rs r.1)) z = some xs from hz] at g1
        cases g1
    · exact .inr ⟨h1, rz⟩
end
end K59
end L2
set_option Elab.async false
set_option linter.all false
set_option maxRecDepth 100000
set_option maxHeartbeats 4000000
namespace L2
namespace K59
open PySem PySem.Spec PyProof.Rows K1 WL LamX
section
variable {P : Program} {w : World} {K : PySem.W.Frag} {mg : Str → Option Value} {base : Heap} {f : Addr} {fd : FuncData}
def stems : List Str := ["m", "c", "zz", "abcdefgh", "k", "ba", "x", "again", "d", "lot", "a", "y"]
theorem erase_perm {α : Type} : ∀ {l : List α} {n : Nat} {x : α}, l[n]? = some x → (x :: l.eraseIdx n).Perm l
  | [], n, x, h => by simp at h
  | a :: l, 0, x, h => by
    cases h
    exact List.Perm.refl _
  | a :: l, n + 1, x, h => (List.Perm.swap a x _).trans (List.Perm.cons a (erase_perm h))
theorem erase_map {α β : Type} (f : α → β) : ∀ (l : List α) (n : Nat), (l.map f).eraseIdx n = (l.eraseIdx n).map f
  | [], n => rfl
  | a :: l, 0 => rfl
  | a :: l, n + 1 => by
    show f a :: (l.map f).eraseIdx n = f a :: (l.eraseIdx n).map f
    rw [erase_map f l n]
theorem pick_perm {α : Type} {found left xs : List α} {r : Nat} {x : α} (hx : left[r]? = some x) (h : (found ++ left).Perm xs) : ((found ++ [x]) ++ left.eraseIdx r).Perm xs := by
  rw [List.append_assoc]
  exact (List.Perm.append_left found (erase_perm hx)).trans h
def spNames63 (K : PySem.W.Frag) : Sp := fun vs H Q _ => ∃ (p : Addr) (m n : Nat), vs = [.ref p, .int (m : Nat)] ∧ m ≤ 8 ∧ Pl H p n ∧ n ≤ 800000000 ∧
  ∀ (zs : List Str) H' q, Same (hide p H) (hide p H') → Pl H' p (n + m) → zs.length = m → zs.Nodup → (∀ z ∈ zs, z ∈ stems) → hide p H q = none → hide p H' q = some (.lst (zs.map .str)) → Q (.ref q) H'
/-! ### _law_names -/
abbrev nmNA : List Str := ["_law_pool_here", "_law_many", "_law_stems", "_law_found", "_law_k"]
theorem sc_names : FnScope nmNA ["_law_pool_here", "_law_many"] (defScope s_names) := ⟨rfl, rfl, rfl, by decide +kernel, rfl, by decide +kernel, by decide +kernel⟩
theorem ok_names (T : Bl mg) (fr : mg "range" = none) (Ct : Cal P w K mg base "_law_take" ["_law_pool_here", "_law_many"] 1 spTakeL) (F : FnP K "_law_names" "_law_names" s_names f fd) : FnOk P w K mg base CX0 2 f fd ["_law_pool_here", "_law_many"] (spNames63 K) := by
  obtain ⟨ft, fdt, Gt, gt, kt, bt⟩ := Ct.ex
  refine F.ok sc_names (fun vs H Q E h => ?_) (fun cdv A outer s H vs Q E hr h => ?_)
  · obtain ⟨p, m, n, rfl, _⟩ := h
    rfl
  · have nd := sc_names.nd
    refine ⟨_, PSs.nox (pss_cons (ps_set (i := 2) nd rfl (Or.inl rfl) (pe_lst (pa_cons pe_str (pa_cons pe_str (pa_cons pe_str (pa_cons pe_str (pa_cons pe_str (pa_cons pe_str (pa_cons pe_str (pa_cons pe_str (pa_cons pe_str (pa_cons pe_str (pa_cons pe_str (pa_cons pe_str pa_nil))))))))))))))
      (pss_cons (ps_set (i := 3) nd rfl (Or.inl rfl) (pe_lst pa_nil))
      (pss_cons (ps_for PassesOwn.never rfl (pi_range1 rfl fr (pa_cons (pv 1) pa_nil)) (pg_name (i := 4) nd rfl (Or.inl rfl))
        (pss_one (ps_expr (pe_bm PySem.F.plainAttrs_list PySem.F.slot_list_append PySem.F.type_list_append mt_append (pv 3) (pa_cons
          (pe_bm PySem.F.plainAttrs_list PySem.F.slot_list_pop PySem.F.type_list_pop mt_popAt (pv 2) (pa_cons (pe_call Gt hr rfl gt kt bt .nil pass0 (pa_cons (pv 0) (pa_cons (pe_callB call_len rfl T.f_len boot_len (pa_cons (pv 2) pa_nil)) pa_nil))) pa_nil)) pa_nil)))))
      (pss_one (ps_ret (pv 3)))))), ?_⟩
    obtain ⟨p, m, n, rfl, hm, hP, hn, q⟩ := h
    refine ⟨(show 12 ≤ sizeLine by decide), fun l nl => ?_⟩
    obtain ⟨lp, sl, el⟩ := hide_new (o := .lst (stems.map .str)) hP.ne nl
    have P1 := hP.new (o := .lst (stems.map .str)) nl
    show tSeq _ _ _ _ (upd H l (.lst (stems.map .str)))
    have eL : (upd H l (.lst (stems.map .str))) l = some (.lst (stems.map .str)) := upd_same
    have nlp : hide p H l = none := hide_none nl
    generalize upd H l (.lst (stems.map .str)) = HA at *
    refine ⟨(show 0 ≤ sizeLine by decide), fun c nc => ?_⟩
    obtain ⟨cp, sc, ec⟩ := hide_new (o := .lst []) P1.ne nc
    have P2 := P1.new (o := .lst []) nc
    have lc : l ≠ c := ne_of_none eL nc
    have ncp : hide p H c = none := by
      have z : hide p HA c = none := hide_none nc
      cases e : hide p H c with
      | none => rfl
      | some o =>
        have := sl _ _ e
        rw [z] at this
        cases this
    have eC : (upd HA c (.lst [])) c = some (.lst []) := upd_same
    have eL2 : (upd HA c (.lst [])) l = some (.lst (stems.map .str)) := same_upd nc _ _ eL
    have s2 := sl.trans sc
    generalize upd HA c (.lst []) = HB at *
    refine g_nm ?_
    dsimp only
    refine t_seqF ?_
    refine ⟨_, rfl, _, rfl, by omega, by omega, ?_⟩
    rw [Int.toNat_natCast]
    refine for_range (fun i σ H' => ∃ (left found : List Str) (o4 : Option V), σ = [some (.ref p), some (.int (m : Nat)), some (.ref l), some (.ref c), o4] ∧ Same (hide p H) (hide p H') ∧ Pl H' p (n + i) ∧ H' l = some (.lst (left.map .str)) ∧ H' c = some (.lst (found.map .str)) ∧
      (found ++ left).Perm stems ∧ found.length = i) ⟨stems, [], _, rfl, s2, P2, eL2, eC, List.Perm.refl _, rfl⟩ ?_ ?_
    · rintro i σ H3 hi ⟨left, found, o4, rfl, s3, P3, el3, ef3, hp, hlen⟩
      have hl12 : left.length + i = 12 := by
        have := hp.length_eq
        rw [List.length_append] at this
        have e12 : stems.length = 12 := rfl
        omega
      refine g_nm ?_
      refine ⟨_, rfl, .inl ⟨rfl, _, SqL.of ef3⟩, _, rfl, .inl ⟨rfl, _, SqL.of el3⟩, _, rfl, _, rfl, .ref l, (left.map V.str).length, rfl, .inl ⟨_, SqL.of el3, rfl⟩, p, (left.map V.str).length, n + i, rfl, by rw [List.length_map]; omega, by rw [List.length_map]; omega, P3, by omega, fun r H4 hr4 h4 P4 => ?_⟩
      have lp3 : l ≠ p := lp
      have eat : ∀ b o, b ≠ p → H3 b = some o → H4 b = some o := fun b o hb e => by
        rw [← hide_ne (H := H4) hb, h4, hide_ne hb]
        exact e
      have el4 := eat _ _ lp el3
      have ef4 := eat _ _ cp ef3
      rw [List.length_map] at hr4
      have hr5 : r < left.length := by omega
      obtain ⟨x, hx⟩ : ∃ x, left[r]? = some x := ⟨_, List.getElem?_eq_getElem hr5⟩
      have hxv : (left.map V.str)[r]? = some (.str x) := by rw [List.getElem?_map, hx]; rfl
      have hsi : seqIndex? (r : Int) (left.map V.str).length = some r := by
        rw [seqIndex_of (by omega) (by rw [List.length_map]; omega), Int.toNat_natCast]
      refine ⟨l, _, (r : Int), r, .str x, rfl, rfl, el4, by omega, by omega, hsi, hxv, ?_⟩
      refine ⟨c, found.map V.str, .str x, rfl, rfl, by rw [upd_ne (Ne.symm lc)]; exact ef4, by rw [List.length_map, sizeLine_eq]; omega, ?_⟩
      refine ⟨left.eraseIdx r, found ++ [x], _, rfl, ?_, (P4.upd lp).upd cp, ?_, ?_, pick_perm hx hp, by rw [List.length_append, hlen]; rfl⟩
      · rw [hide_upd cp, hide_upd lp, h4]
        exact same_over ncp (same_over nlp s3)
      · rw [upd_ne lc, upd_same, erase_map]
      · rw [upd_same, List.map_append]
        rfl
    · rintro σ H3 ⟨left, found, o4, rfl, s3, P3, el3, ef3, hp, hlen⟩
      refine ⟨_, rfl, q found H3 c s3 P3 hlen ?_ ?_ ncp (by rw [hide_ne cp]; exact ef3)⟩
      · exact (List.nodup_append.mp (hp.nodup_iff.mpr (by decide +kernel))).1
      · exact fun z hz => hp.subset (List.mem_append_left _ hz)
end
end K59
end L2
set_option Elab.async false
set_option linter.all false
set_option maxRecDepth 100000
set_option maxHeartbeats 4000000
namespace L2
namespace K59
open PySem PySem.Spec PyProof.Rows K1 WL LamX
section
variable {P : Program} {w : World} {K : PySem.W.Frag} {mg : Str → Option Value} {base : Heap} {f : Addr} {fd : FuncData}
theorem pick_perm3 {α : Type} {found dr left xs : List α} {r : Nat} {x : α} (hx : left[r]? = some x) (h : (found ++ dr ++ left).Perm xs) : ((found ++ [x]) ++ dr ++ left.eraseIdx r).Perm xs ∧ (found ++ (dr ++ [x]) ++ left.eraseIdx r).Perm xs := by
  have h2 : (found ++ (dr ++ [x]) ++ left.eraseIdx r).Perm xs := by
    have := pick_perm hx h
    rw [← List.append_assoc]
    exact this
  refine ⟨?_, h2⟩
  refine List.Perm.trans ?_ h2
  refine List.Perm.append_right _ ?_
  rw [List.append_assoc]
  exact List.Perm.append_left _ (List.perm_append_comm)
def spPicked (K : PySem.W.Frag) : Sp := fun vs H Q _ => ∃ (p a : Addr) (sh : Int) (xs : List V) (n : Nat), vs = [.ref p, .ref a, .int sh] ∧ SqL K (hide p H) a xs ∧ xs.length ≤ 1000 ∧ Pl H p n ∧ n ≤ 800000000 ∧
  ∀ (ys zs : List V) H' q, (ys ++ zs).Perm xs → Same (hide p H) (hide p H') → Pl H' p (n + 2 * xs.length) → hide p H q = none → hide p H' q = some (.lst ys) → (4 ≤ sh → zs = []) → Q (.ref q) H'
/-! ### _law_picked -/
abbrev nmPK : List Str := ["_law_pool_here", "_law_things", "_law_share", "_law_left", "_law_found", "_law_k", "_law_thing"]
theorem sc_picked : FnScope nmPK ["_law_pool_here", "_law_things", "_law_share"] (defScope s_picked) := ⟨rfl, rfl, rfl, by decide +kernel, rfl, by decide +kernel, by decide +kernel⟩
theorem ok_picked (T : Bl mg) (fr : mg "range" = none) (Ct : Cal P w K mg base "_law_take" ["_law_pool_here", "_law_many"] 1 spTakeL) (F : FnP K "_law_picked" "_law_picked" s_picked f fd) : FnOk P w K mg base CX0 2 f fd ["_law_pool_here", "_law_things", "_law_share"] (spPicked K) := by
  obtain ⟨ft, fdt, Gt, gt, kt, bt⟩ := Ct.ex
  refine F.ok sc_picked (fun vs H Q E h => ?_) (fun cdv A outer s H vs Q E hr h => ?_)
  · obtain ⟨p, a, sh, xs, n, rfl, _⟩ := h
    rfl
  · have nd := sc_picked.nd
    refine ⟨_, PSs.nox (pss_cons (ps_set (i := 3) nd rfl (Or.inl rfl) (pe_callTy call_list_of rfl T.f_list PyProof.Rows.boot_list (pa_cons (pv 1) pa_nil)))
      (pss_cons (ps_set (i := 4) nd rfl (Or.inl rfl) (pe_lst pa_nil))
      (pss_cons (ps_for PassesOwn.never rfl (pi_range1 rfl fr (pa_cons (pe_callB call_len rfl T.f_len boot_len (pa_cons (pv 1) pa_nil)) pa_nil)) (pg_name (i := 5) nd rfl (Or.inl rfl))
        (pss_cons (ps_set (i := 6) nd rfl (Or.inl rfl) (pe_bm PySem.F.plainAttrs_list PySem.F.slot_list_pop PySem.F.type_list_pop mt_popAt (pv 3) (pa_cons (pe_call Gt hr rfl gt kt bt .nil pass0 (pa_cons (pv 0) (pa_cons (pe_callB call_len rfl T.f_len boot_len (pa_cons (pv 3) pa_nil)) pa_nil))) pa_nil)))
        (pss_one (ps_if (pt_cmpR op_lt (pe_call Gt hr rfl gt kt bt .nil pass0 (pa_cons (pv 0) (pa_cons pe_int pa_nil))) (pv 2) (nomark _)) (pss_one (ps_expr (pe_bm PySem.F.plainAttrs_list PySem.F.slot_list_append PySem.F.type_list_append mt_append (pv 4) (pa_cons (pv 6) pa_nil)))) pss_nil))))
      (pss_one (ps_ret (pv 4)))))), ?_⟩
    obtain ⟨p, a, sh, xs, n, rfl, hs, hl, hP, hn, q⟩ := h
    have hsH : SqL K H a xs := Same.seq hide_le hs
    refine ⟨_, rfl, a, xs, rfl, .inl hsH, fun l nl => ?_⟩
    obtain ⟨lp, sl, el⟩ := hide_new (o := .lst xs) hP.ne nl
    have P1 := hP.new (o := .lst xs) nl
    have eL : (upd H l (.lst xs)) l = some (.lst xs) := upd_same
    have nlp : hide p H l = none := hide_none nl
    generalize upd H l (.lst xs) = HA at *
    refine ⟨(show 0 ≤ sizeLine by decide), fun c nc => ?_⟩
    obtain ⟨cp, sc, ec⟩ := hide_new (o := .lst []) P1.ne nc
    have P2 := P1.new (o := .lst []) nc
    have lc : l ≠ c := ne_of_none eL nc
    have ncp : hide p H c = none := by
      have z : hide p HA c = none := hide_none nc
      cases e : hide p H c with
      | none => rfl
      | some o =>
        have := sl _ _ e
        rw [z] at this
        cases this
    have eC : (upd HA c (.lst [])) c = some (.lst []) := upd_same
    have eL2 : (upd HA c (.lst [])) l = some (.lst xs) := same_upd nc _ _ eL
    have s2 := sl.trans sc
    generalize upd HA c (.lst []) = HB at *
    have hs2 : SqL K HB a xs := Same.seq hide_le (s2.seq hs)
    refine g_nm ?_
    dsimp only
    refine t_seqF ?_
    refine ⟨_, rfl, .ref a, xs.length, rfl, .inl ⟨_, hs2, rfl⟩, _, rfl, by omega, by omega, ?_⟩
    rw [Int.toNat_natCast]
    refine for_range (fun i σ H' => ∃ (left found dr : List V) (o5 o6 : Option V), σ = [some (.ref p), some (.ref a), some (.int sh), some (.ref l), some (.ref c), o5, o6] ∧ Same (hide p H) (hide p H') ∧ Pl H' p (n + 2 * i) ∧ H' l = some (.lst left) ∧ H' c = some (.lst found) ∧
      (found ++ dr ++ left).Perm xs ∧ left.length + i = xs.length ∧ (4 ≤ sh → dr = [])) ⟨xs, [], [], _, _, rfl, s2, P2, eL2, eC, List.Perm.refl _, rfl, fun _ => rfl⟩ ?_ ?_
    · rintro i σ H3 hi ⟨left, found, dr, o5, o6, rfl, s3, P3, el3, ef3, hp, hlen, h4d⟩
      refine g_nm ?_
      refine ⟨_, rfl, .inl ⟨rfl, _, SqL.of el3⟩, _, rfl, _, rfl, .ref l, left.length, rfl, .inl ⟨_, SqL.of el3, rfl⟩, p, left.length, n + 2 * i, rfl, by omega, by omega, P3, by omega, fun r H4 hr4 h4 P4 => ?_⟩
      have eat : ∀ b o, b ≠ p → H3 b = some o → H4 b = some o := fun b o hb e => by
        rw [← hide_ne (H := H4) hb, h4, hide_ne hb]
        exact e
      have el4 := eat _ _ lp el3
      have ef4 := eat _ _ cp ef3
      have hr5 : r < left.length := by omega
      obtain ⟨x, hx⟩ : ∃ x, left[r]? = some x := ⟨_, List.getElem?_eq_getElem hr5⟩
      have hsi : seqIndex? (r : Int) left.length = some r := by
        rw [seqIndex_of (by omega) (by omega), Int.toNat_natCast]
      refine ⟨l, _, (r : Int), r, x, rfl, rfl, el4, by omega, by omega, hsi, hx, ?_⟩
      obtain ⟨k1, k2⟩ := pick_perm3 hx hp
      have e2 : (left.eraseIdx r).length + (i + 1) = xs.length := by
        have := List.length_eraseIdx_of_lt hr5
        omega
      have el5 : (upd H4 l (.lst (left.eraseIdx r))) l = some (.lst (left.eraseIdx r)) := upd_same
      have ef5 : (upd H4 l (.lst (left.eraseIdx r))) c = some (.lst found) := by rw [upd_ne (Ne.symm lc)]; exact ef4
      have s5 : Same (hide p H) (hide p (upd H4 l (.lst (left.eraseIdx r)))) := by
        rw [hide_upd lp, h4]
        exact same_over nlp s3
      have P5 := P4.upd (o := .lst (left.eraseIdx r)) lp
      generalize upd H4 l (.lst (left.eraseIdx r)) = H5 at *
      refine g_nm ?_
      refine ⟨_, rfl, p, 4, n + 2 * i + 1, rfl, by omega, by omega, P5, by omega, fun r2 H6 hr6 h6 P6 => ?_⟩
      have eat6 : ∀ b o, b ≠ p → H5 b = some o → H6 b = some o := fun b o hb e => by
        rw [← hide_ne (H := H6) hb, h6, hide_ne hb]
        exact e
      have el6 := eat6 _ _ lp el5
      have ef6 := eat6 _ _ cp ef5
      have s6 : Same (hide p H) (hide p H6) := by rw [h6]; exact s5
      refine ⟨_, rfl, _, _, rfl, rfl, _, rfl, ?_⟩
      refine ite2 (fun _ => ?_) fun hge => ?_
      · refine ⟨_, rfl, .inl ⟨rfl, _, SqL.of ef6⟩, _, rfl, c, found, x, rfl, rfl, ef6, ?_, ?_⟩
        · rw [sizeLine_eq]
          have := hp.length_eq
          rw [List.length_append, List.length_append] at this
          omega
        refine ⟨left.eraseIdx r, found ++ [x], dr, _, _, rfl, ?_, (P6.upd cp).le (by omega), ?_, upd_same, k1, e2, h4d⟩
        · rw [hide_upd cp]
          exact same_over ncp s6
        · rw [upd_ne lc]
          exact el6
      · exact ⟨left.eraseIdx r, found, dr ++ [x], _, _, rfl, s6, P6.le (by omega), el6, ef6, k2, e2, fun h4 => absurd (decide_eq_true (show (r2 : Int) < sh by omega)) hge⟩
    · rintro σ H3 ⟨left, found, dr, o5, o6, rfl, s3, P3, el3, ef3, hp, hlen, h4d⟩
      have e0 : left = [] := List.length_eq_zero_iff.mp (by omega)
      subst e0
      rw [List.append_nil] at hp
      exact ⟨_, rfl, q found dr H3 c hp s3 P3 ncp (by rw [hide_ne cp]; exact ef3) h4d⟩
end
end K59
end L2
set_option Elab.async false
set_option linter.all false
set_option maxRecDepth 100000
set_option maxHeartbeats 4000000
namespace L2
namespace WL
open PySem PySem.Spec PyProof.Rows K1 LamX
/-! ### i not in r -/
theorem op_notInRng {X : Cx} : OpR X (compareOp .NotIn) (fun x y H Q => ∃ i a lo hi, x = V.int i ∧ y = V.ref a ∧ H a = some (.rng lo hi) ∧ Q (.bl (!decide (lo ≤ i ∧ i < hi))) H) := by
  intro pins s σ H x y v u Q I rx ry h
  obtain ⟨i, a, lo, hi, rfl, rfl, ha, q⟩ := h
  obtain ⟨k, rfl⟩ := rx
  obtain rfl : u = Value.ref a := ry
  obtain ⟨t1, t2, t3, ho⟩ := I.hok a _ ha
  have ty : s.TypeIs (.ref a) "range" := ⟨_, ho, rfl⟩
  have fin : wpAny (model X.prog X.w) X.A (pure (Value.bool (!(Builtin.Range.rangePlace? lo hi 1 i).isSome)) : Sem Value) (EP X pins σ Q) X.xe s := by
    rw [place1]
    exact wpAny_pure ⟨.bl _, H, I, rfl, q⟩
  show wpAny _ _ (do return Value.bool (!(← contains (Value.ref a) (Value.int i k)))) _ _ s
  exact wpAny_bind (wpAny_contains_slot (T := "range") ty PySem.F.slot_range_contains (call_meets PySem.F.slot_range_contains ty PySem.F.entry_range_contains (PySem.F.args_range_contains_2 _ _) (q_contains a lo hi i t1 t2 t3 k) ⟨ho, wpAny_truthy_bool fin⟩))
/-! ### what comes of making a web -/
inductive Out where
  | made (cs : List Str)
  | bad (i : Nat)
  | unk (z : Str)
def Out.d : Out → PyData
  | .made cs => .tuple [.str "made", .tuple (dS cs)]
  | .bad i => .tuple [.str "bad", .int (i : Nat)]
  | .unk z => .tuple [.str "unknown", .str z]
/-- what comes of rows that look so -/
def MetOf (K : PySem.W.Frag) (H : Hp) (v : V) (o : Out) : Prop := (∃ t, TyX K H v t ∧ PySem.W.kitAny K t LT = some false ∧ o = .bad 0) ∨
  ∃ ds : List (V × Bool × Str), Seq K H v (ds.map Prod.fst) ∧ ds.length ≤ 1000 ∧ (∀ d ∈ ds, RowD K H d) ∧ ((∃ i, firstR ds = some i ∧ o = .bad i) ∨
    (firstR ds = none ∧ ∃ rs : Rws, Paired (fun (d : V × Bool × Str) (r : Str × List Str) => RowG K H d.1 r ∧ r.2.length ≤ 900) ds rs ∧ ((∃ u, firstU (rs.map Prod.fst) rs = some u ∧ o = .unk u) ∨ (Good rs ∧ o = .made (rs.map Prod.fst)))))
def spMet (K : PySem.W.Frag) : Sp := fun vs H Q _ => ∃ v o, vs = [v] ∧ MetOf K H v o ∧ ∀ H' q, Same H H' → Dp K H' (.ref q) o.d → Q (.ref q) H'
theorem passLen {X : Cx} {W : WX} (tk : Takes X W) : ∀ (pins : List (Addr × Obj)) (σ : St) (H : Hp) (s : Shared) (e : Value) (s' : Shared), Inv X pins σ H s → L2.CX X.prog X.w X.stack H s (fun cls d H => ∀ σ : St, σ.length = X.N.length → W cls d σ H) e s' → X.xe e s' :=
  fun _ σ _ _ e s' I c => tk e s' (XE.of_call I (fun cls d H' h => h σ I.len) c)
theorem Rz.of {H H4 : Hp} {E : XK} {C : Addr} {f : Str} {v : V} (s : Same H H4) (h : ∀ H' d, Same H H' → H' d = some (.xd [(f, v)]) → E (.ref C) (some d) H') : Rz H4 E C f v := fun H' d s' e => h H' d (s.trans s') e
/-- web or error of rows that look so -/
theorem MetOf.init {K : PySem.W.Frag} {H H4 : Hp} {C x dx : Addr} {v : V} {o : Out} {Q : VK} {E : XK} (h : MetOf K H v o) (nx : H x = none) (nd : H dx = none) (e4 : upd (upd H dx (.own x)) x (.ins C dx []) = H4)
    (mk : ∀ rs H', Same H H' → o = .made (rs.map Prod.fst) → Good rs → IsWeb K H' C x rs → Q .non H')
    (bad : ∀ i, o = .bad i → ∀ H' d, Same H H' → H' d = some (.xd [("index", .int (i : Nat))]) → E (.ref (He.ga K "BadWeb")) (some d) H')
    (unk : ∀ z, o = .unk z → ∀ H' d, Same H H' → H' d = some (.xd [("cell", .str z)]) → E (.ref (He.ga K "UnknownCell")) (some d) H') : spInit K C [.ref x, v] H4 Q E := by
  have sx := same_mk nx nd e4.symm
  have s4 := sx.trans hide_le
  have hx : H4 x = some (.ins C dx []) := by rw [← e4]; exact upd_same
  refine ⟨x, dx, v, rfl, hx, ?_⟩
  rcases h with ⟨t, h1, h2, rfl⟩ | ⟨ds, h1, h2, h3, h⟩
  · exact .inl fun Q' => ⟨v, rfl, .inl ⟨t, TyX.same h1 s4, h2, Rz.of s4 (bad 0 rfl)⟩⟩
  · rcases h with ⟨i, hi, rfl⟩ | ⟨h0, rs, hp, ⟨u, hu, rfl⟩ | ⟨g, rfl⟩⟩
    · exact .inl fun Q' => ⟨v, rfl, .inr ⟨ds, h1.same s4, h2, fun d hd => (h3 d hd).same s4, .inl ⟨i, hi, Rz.of s4 (bad i rfl)⟩⟩⟩
    · exact .inl fun Q' => ⟨v, rfl, .inr ⟨ds, h1.same s4, h2, fun d hd => (h3 d hd).same s4, .inr ⟨h0, rs, (Paired.length hp).symm, fun i d r e1 e2 => by
        obtain ⟨r', e3, h5⟩ := Paired.getL hp e1
        rw [e2] at e3
        cases e3
        exact ⟨h5.1.same s4, h5.2⟩, .inl ⟨u, hu, Rz.of s4 (unk u rfl)⟩⟩⟩⟩
    · refine .inr ⟨ds.map Prod.fst, rs, h1.same sx, ?_, g, fun H' s' w => mk rs H' ((sx.trans s').trans hide_le) rfl g w⟩
      have key : ∀ {l : List (V × Bool × Str)} {m : Rws}, Paired (fun (d : V × Bool × Str) (r : Str × List Str) => RowG K H d.1 r ∧ r.2.length ≤ 900) l m → Paired (RowG K (hide x H4)) (l.map Prod.fst) m := by
        intro l m hp
        induction hp with
        | nil => exact .nil
        | cons a _ ih => exact .cons (a.1.same sx) ih
      exact key hp
end WL
end L2
set_option Elab.async false
set_option linter.all false
set_option maxRecDepth 100000
set_option maxHeartbeats 4000000
namespace L2
namespace WL
open PySem PySem.Spec PyProof.Rows K1 LamX
/-! ### xs != [] -/
def rNeNil (K : PySem.W.Frag) : R2 := fun x y H Q => ∃ a b xs, x = .ref a ∧ y = .ref b ∧ SqL K H a xs ∧ SqL K H b [] ∧ Q (.bl (!xs.isEmpty)) H
theorem op_neNil {X : Cx} (hu : X.A.units + 64 < cLine) : OpR X (compareOp .NotEq) (rNeNil X.K) := by
  intro pins s σ H x y v u Q I rx ry h
  obtain ⟨a, b, xs, rfl, rfl, ha, hb, q⟩ := h
  cases (show v = Value.ref a from rx)
  cases (show u = Value.ref b from ry)
  obtain ⟨us, r1, p1, _⟩ := I.list ha
  obtain ⟨ws, r2, p2, _⟩ := I.list hb
  cases r2
  cases r1 with
  | nil => exact SeqAt.RcNeAt.lists (e := fun _ => true) p1.isList p2.isList rfl (by omega) (fun j h1 h2 => absurd h1 (Nat.not_lt_zero j)) X.prog X.w _ _ ⟨.bl false, H, I, rfl, q⟩
  | cons h t => exact SeqAt.RcNeAt.lists_lengths p1.isList p2.isList (by simp) (by omega) X.prog X.w _ _ ⟨.bl true, H, I, rfl, q⟩
/-! ### rows by their looks -/
abbrev Lk : Type := Bool × Str × List Str
/-- a value that may be a list of names; what it lists if it is one -/
def NL1 (K : PySem.W.Frag) (H : Hp) (s : V) (c : Bool) (ss : List Str) : Prop := (∃ t, TyX K H s t ∧ PySem.W.kitAny K t LT = some false ∧ c = false) ∨
  ∃ (l : Addr) (xs : List V) (bs : List Bool), s = .ref l ∧ H l = some (.lst xs) ∧ xs.length ≤ 900 ∧ bs.length = xs.length ∧ (∀ (i : Nat) x b, xs[i]? = some x → bs[i]? = some b → IsN K H x b) ∧ c = nlB xs bs ∧ (c = true → xs = ss.map .str)
theorem NL1.same {K : PySem.W.Frag} {H H' : Hp} {v : V} {c : Bool} {ss : List Str} (h : NL1 K H v c ss) (s : Same H H') : NL1 K H' v c ss := by
  rcases h with ⟨t, h1, h2⟩ | ⟨l, xs, bs, h1, h2, h3, h4, h5, h6⟩
  · exact .inl ⟨t, TyX.same h1 s, h2⟩
  · exact .inr ⟨l, xs, bs, h1, s _ _ h2, h3, h4, fun i x b e e2 => (h5 i x b e e2).same s, h6⟩
theorem NL1.nlis {K : PySem.W.Frag} {H : Hp} {v : V} {c : Bool} {ss : List Str} (h : NL1 K H v c ss) : NLis K H v c := by
  rcases h with h | ⟨l, xs, bs, rfl, h2, h3, h4, h5, h6, _⟩
  · exact .inl h
  · exact .inr ⟨xs, bs, ⟨l, rfl, .inl (SqL.of h2)⟩, h3, h4, h5, h6⟩
/-- a cell and its sources, by their looks -/
def CS (K : PySem.W.Frag) (H : Hp) (c s : V) (e : Lk) : Prop := ∃ bc bs, IsN K H c bc ∧ NL1 K H s bs e.2.2 ∧ e.1 = (bc && bs) ∧ (bc = true → c = .str e.2.1)
theorem CS.same {K : PySem.W.Frag} {H H' : Hp} {c s : V} {e : Lk} (h : CS K H c s e) (q : Same H H') : CS K H' c s e := let ⟨bc, bs, h1, h2, h3⟩ := h; ⟨bc, bs, h1.same q, h2.same q, h3⟩
/-- rows as the law has them (tuples), as it hands them in (lists) -/
def ItD (K : PySem.W.Frag) (H : Hp) (v : V) (e : Lk) : Prop := (v = .non ∧ e.1 = false) ∨ ∃ t c s, v = .ref t ∧ H t = some (.tup [c, s]) ∧ CS K H c s e
def ItM (K : PySem.W.Frag) (H : Hp) (v : V) (e : Lk) : Prop := (v = .non ∧ e.1 = false) ∨ ∃ t c s, v = .ref t ∧ H t = some (.lst [c, s]) ∧ CS K H c s e
theorem ItD.same {K : PySem.W.Frag} {H H' : Hp} {v : V} {e : Lk} (h : ItD K H v e) (q : Same H H') : ItD K H' v e := by
  rcases h with h | ⟨t, c, s, h1, h2, h3⟩
  · exact .inl h
  · exact .inr ⟨t, c, s, h1, q _ _ h2, h3.same q⟩
theorem ItM.same {K : PySem.W.Frag} {H H' : Hp} {v : V} {e : Lk} (h : ItM K H v e) (q : Same H H') : ItM K H' v e := by
  rcases h with h | ⟨t, c, s, h1, h2, h3⟩
  · exact .inl h
  · exact .inr ⟨t, c, s, h1, q _ _ h2, h3.same q⟩
theorem kit_non {K : PySem.W.Frag} : PySem.W.kitAny K (.type "NoneType") LT = some false := by
  unfold PySem.W.kitAny
  rw [kit_ty (K := K) (a := "NoneType") (b := "list") (r := false) (by decide +kernel)]
  show PySem.W.kitAny K (.type "NoneType") [.type "tuple"] = some false
  unfold PySem.W.kitAny
  rw [kit_ty (K := K) (a := "NoneType") (b := "tuple") (r := false) (by decide +kernel)]
  rfl
theorem strsOf_strs (xs : List Str) : strsOf (xs.map .str) = xs := strsOf_map xs
theorem ItM.rowD {K : PySem.W.Frag} {H : Hp} {v : V} {e : Lk} (h : ItM K H v e) : RowD K H (v, e.1, e.2.1) := by
  rcases h with ⟨rfl, e1⟩ | ⟨t, c, s, rfl, h2, bc, bs, h3, h4, h5, h6⟩
  · exact ⟨.inl ⟨_, .base .non, kit_non, e1⟩, fun z => by rw [show e.1 = true from z] at e1; cases e1⟩
  · have q : Seq K H (.ref t) [c, s] := ⟨t, rfl, .inl (SqL.of h2)⟩
    refine ⟨.inr ⟨[c, s], q, .inr ⟨c, s, bc, bs, rfl, h3, h4.nlis, h5⟩⟩, fun z => ?_⟩
    rw [show e.1 = true from z] at h5
    obtain ⟨g1, _⟩ := Bool.and_eq_true_iff.mp h5.symm
    rw [← h6 g1]
    exact ⟨s, q⟩
/-- what comes of rows that look so -/
def outOf (es : List Lk) : Out := if es = [] then .bad 0 else match firstW (es.map fun e => (e.1, e.2.1)) [] 0 with
  | some i => .bad i
  | none => match firstU (es.map fun e => e.2.1) (es.map Prod.snd) with
    | some u => .unk u
    | none => .made (es.map fun e => e.2.1)
theorem firstW_no : ∀ {l : List (Bool × Str)} {seen : List Str} {i : Nat}, firstW l seen i = none → (∀ e ∈ l, e.1 = true) ∧ (l.map Prod.snd).Nodup ∧ ∀ e ∈ l, e.2 ∉ seen
  | [], _, _, _ => ⟨(fun e h => nomatch h), List.nodup_nil, (fun e h => nomatch h)⟩
  | (r, z) :: l, seen, i, h => by
    unfold firstW at h
    by_cases c : r = false ∨ z ∈ seen
    · rw [if_pos c] at h
      cases h
    · rw [if_neg c] at h
      obtain ⟨h1, h2, h3⟩ := firstW_no h
      have cr : r = true := by
        cases r with
        | true => rfl
        | false => exact absurd (.inl rfl) c
      have cz : z ∉ seen := fun m => c (.inr m)
      refine ⟨fun e he => ?_, ?_, fun e he => ?_⟩
      · rcases List.mem_cons.mp he with rfl | he
        · exact cr
        · exact h1 e he
      · rw [List.map_cons]
        refine List.nodup_cons.mpr ⟨fun m => ?_, h2⟩
        obtain ⟨e, he, ez⟩ := List.mem_map.mp m
        exact h3 e he (List.mem_append_right _ (by rw [ez]; exact List.mem_singleton.mpr rfl))
      · rcases List.mem_cons.mp he with rfl | he
        · exact cz
        · exact fun m => h3 e he (List.mem_append_left _ m)
theorem firstU_none {cells : List Str} {rs : Rws} (h : firstU cells rs = none) : ∀ r ∈ rs, ∀ s ∈ r.2, s ∈ cells := fun r hr s hs => by
  unfold firstU at h
  have := List.find?_eq_none.mp h s (List.mem_flatMap.mpr ⟨r, hr, hs⟩)
  simpa using this
theorem CS.true_ {K : PySem.W.Frag} {H : Hp} {c s : V} {e : Lk} (h : CS K H c s e) (t : e.1 = true) : c = .str e.2.1 ∧ isNm e.2.1 = true ∧ ∃ l, s = .ref l ∧ H l = some (.lst (e.2.2.map .str)) ∧ e.2.2.length ≤ 900 ∧ e.2.2.Nodup := by
  obtain ⟨bc, bs, h1, h2, h3, h4⟩ := h
  rw [t] at h3
  obtain ⟨g1, g2⟩ := Bool.and_eq_true_iff.mp h3.symm
  subst g1 g2
  have ec := h4 rfl
  refine ⟨ec, ?_, ?_⟩
  · rcases h1 with ⟨z, ez, _, en⟩ | ⟨_, _, _, e⟩
    · rw [ec] at ez
      cases ez
      exact en.symm
    · cases e
  · rcases h2 with ⟨_, _, _, e⟩ | ⟨l, xs, bs', rfl, h5, h6, h7, h8, h9, h10⟩
    · cases e
    · have ex := h10 rfl
      subst ex
      rw [List.length_map] at h6
      refine ⟨l, rfl, h5, h6, ?_⟩
      unfold nlB at h9
      have := (Bool.and_eq_true_iff.mp h9.symm).2
      rw [strsOf_strs] at this
      exact of_decide_eq_true this
theorem met_of {K : PySem.W.Frag} {H : Hp} {v : V} {vs : List V} {es : List Lk} (hq : Seq K H v vs) (hp : Paired (ItM K H) vs es) (hl : es.length ≤ 900) : MetOf K H v (outOf es) := by
  have hvl := Paired.length hp
  have ds : ∃ ds : List (V × Bool × Str), ds.map Prod.fst = vs ∧ ds.map Prod.snd = (es.map fun e => (e.1, e.2.1)) ∧ (∀ d ∈ ds, RowD K H d) ∧ Paired (fun (d : V × Bool × Str) (e : Lk) => d = (d.1, e.1, e.2.1) ∧ ItM K H d.1 e) ds es := by
    clear hq hl hvl
    induction hp with
    | nil => exact ⟨[], rfl, rfl, (fun d h => nomatch h), .nil⟩
    | @cons v e vs es h t ih =>
      obtain ⟨ds, h1, h2, h3, h4⟩ := ih
      refine ⟨(v, e.1, e.2.1) :: ds, by rw [List.map_cons, h1], by rw [List.map_cons, List.map_cons, h2], fun d hd => ?_, .cons ⟨rfl, h⟩ h4⟩
      rcases List.mem_cons.mp hd with rfl | hd
      · exact h.rowD
      · exact h3 d hd
  obtain ⟨ds, h1, h2, h3, h4⟩ := ds
  have dl : ds.length = es.length := by rw [← List.length_map (f := Prod.fst), h1, hvl]
  refine .inr ⟨ds, by rw [h1]; exact hq, by omega, h3, ?_⟩
  unfold outOf
  by_cases e0 : es = []
  · rw [if_pos e0]
    refine .inl ⟨0, ?_, rfl⟩
    have : ds = [] := List.length_eq_zero_iff.mp (by rw [dl, e0]; rfl)
    unfold firstR
    rw [if_pos this]
  · rw [if_neg e0]
    have fr : firstR ds = firstW (es.map fun e => (e.1, e.2.1)) [] 0 := by
      unfold firstR
      rw [if_neg (fun z => e0 (List.length_eq_zero_iff.mp (by rw [← dl, z]; rfl))), h2]
    cases hw : firstW (es.map fun e => (e.1, e.2.1)) [] 0 with
    | some i => exact .inl ⟨i, fr.trans hw, rfl⟩
    | none =>
      obtain ⟨w1, w2, _⟩ := firstW_no hw
      have all : ∀ e ∈ es, e.1 = true := fun e he => w1 (e.1, e.2.1) (List.mem_map.mpr ⟨e, he, rfl⟩)
      refine .inr ⟨fr.trans hw, es.map Prod.snd, ?_, ?_⟩
      · have key : ∀ {l : List (V × Bool × Str)} {m : List Lk}, Paired (fun (d : V × Bool × Str) (e : Lk) => d = (d.1, e.1, e.2.1) ∧ ItM K H d.1 e) l m → (∀ e ∈ m, e.1 = true) → Paired (fun (d : V × Bool × Str) (r : Str × List Str) => RowG K H d.1 r ∧ r.2.length ≤ 900) l (m.map Prod.snd) := by
          intro l m hp
          induction hp with
          | nil => exact fun _ => .nil
          | @cons d e l m a _ ih =>
            intro hall
            refine .cons ?_ (ih fun e he => hall e (List.mem_cons_of_mem _ he))
            have et := hall e (List.mem_cons_self ..)
            rcases a.2 with ⟨_, z⟩ | ⟨t, c, s, h1, h2, h3⟩
            · rw [et] at z
              cases z
            · obtain ⟨rfl, _, l', rfl, h5, h6, _⟩ := h3.true_ et
              rw [h1]
              exact ⟨⟨.ref l', ⟨t, rfl, .inl (SqL.of h2)⟩, ⟨l', rfl, .inl (SqL.of h5)⟩⟩, h6⟩
        exact key h4 all
      · have em : (es.map Prod.snd).map Prod.fst = es.map fun e => e.2.1 := by rw [List.map_map]; rfl
        rw [em]
        cases hu : firstU (es.map fun e => e.2.1) (es.map Prod.snd) with
        | some u => exact .inl ⟨u, rfl, rfl⟩
        | none =>
          have looks : ∀ e ∈ es, isNm e.2.1 = true ∧ e.2.2.length ≤ 900 ∧ e.2.2.Nodup := fun e he => by
            obtain ⟨i, hi⟩ := List.getElem?_of_mem he
            obtain ⟨v, _, hv⟩ := Paired.get hp hi
            rcases hv with ⟨_, z⟩ | ⟨t, c, s, _, _, h3⟩
            · rw [all e he] at z
              cases z
            · obtain ⟨_, g1, _, _, _, g2, g3⟩ := h3.true_ (all e he)
              exact ⟨g1, g2, g3⟩
          refine .inr ⟨⟨?_, ?_, ?_, fun r hr => ?_, fun r hr => ?_⟩, rfl⟩
          · rw [em]
            rw [List.map_map] at w2
            exact w2
          · rw [List.length_map]
            exact List.length_pos_iff.mpr e0
          · rw [List.length_map]
            exact hl
          · obtain ⟨e, he, rfl⟩ := List.mem_map.mp hr
            rw [em]
            exact ⟨(looks e he).2.1, (looks e he).2.2, fun s hs => firstU_none hu e.2 hr s hs⟩
          · obtain ⟨e, he, rfl⟩ := List.mem_map.mp hr
            exact (looks e he).1
def spDue (K : PySem.W.Frag) : Sp := fun vs H Q _ => ∃ (a : Addr) (xs : List V) (es : List Lk), vs = [.ref a] ∧ H a = some (.lst xs) ∧ Paired (ItD K H) xs es ∧ es.length ≤ 100 ∧ ∀ H' q, Same H H' → Dp K H' (.ref q) (outOf es).d → Q (.ref q) H'
theorem strange_vs (names l : List Str) : l.filterMap (fun s => if s ∈ names then none else some (V.str s)) = (l.filter fun s => decide (s ∉ names)).map .str := by
  induction l with
  | nil => rfl
  | cons x xs ih =>
    by_cases m : x ∈ names
    · have e1 : decide (x ∉ names) = false := decide_eq_false fun z => z m
      simp only [List.filterMap_cons, m, if_true, List.filter_cons, e1, not_true_eq_false, decide_false, Bool.false_eq_true, if_false]
      exact ih
    · have e1 : decide (x ∉ names) = true := decide_eq_true m
      simp only [List.filterMap_cons, m, if_false, List.filter_cons, not_false_eq_true, decide_true, if_true, List.map_cons]
      rw [ih]
/-- whether one of them stands ahead of itself: by places -/
theorem dup_any (ss : List Str) : ((List.range ss.length).map fun k => decide (ss.getD k Str.empty ∈ ss.take k)).any id = !decide ss.Nodup := by
  rw [Bool.eq_iff_iff, List.any_map, List.any_eq_true, Bool.not_eq_true', decide_eq_false_iff_not]
  constructor
  · rintro ⟨k, hk, h⟩ nd
    have hk' := List.mem_range.mp hk
    have h' : ss.getD k Str.empty ∈ ss.take k := of_decide_eq_true h
    rw [List.getD_eq_getElem?_getD, List.getElem?_eq_getElem hk'] at h'
    have e : ss = ss.take k ++ ss.drop k := (List.take_append_drop k ss).symm
    rw [e] at nd
    exact (List.nodup_append.mp nd).2.2 _ h' _ (by rw [List.drop_eq_getElem_cons hk']; exact List.mem_cons_self ..) rfl
  · intro nd
    refine Classical.byContradiction fun no => nd ?_
    refine List.pairwise_iff_getElem.mpr fun i j hi hj hij e => no ⟨j, List.mem_range.mpr hj, ?_⟩
    show decide _ = true
    refine decide_eq_true ?_
    rw [List.getD_eq_getElem?_getD, List.getElem?_eq_getElem hj]
    show ss[j] ∈ ss.take j
    rw [← e]
    exact List.mem_take_iff_getElem.mpr ⟨i, by omega, rfl⟩
end WL
end L2
set_option Elab.async false
set_option linter.all false
set_option maxRecDepth 100000
set_option maxHeartbeats 4000000
namespace L2
namespace WL
open PySem PySem.Spec PyProof.Rows K1 LamX
/-! ### rows spoilt -/
theorem nl1_strs {K : PySem.W.Frag} {H : Hp} {l : Addr} {xs : List Str} (h : H l = some (.lst (xs.map .str))) (hl : xs.length ≤ 900) (hn : ∀ x ∈ xs, isNm x = true) : NL1 K H (.ref l) (decide xs.Nodup) xs := by
  refine .inr ⟨l, xs.map .str, xs.map fun _ => true, rfl, h, by rw [List.length_map]; exact hl, by rw [List.length_map, List.length_map], fun i x b e1 e2 => ?_, ?_, fun _ => rfl⟩
  · rw [List.getElem?_map] at e1 e2
    obtain ⟨z, hz, rfl⟩ := Option.map_eq_some_iff.mp e1
    obtain ⟨_, _, rfl⟩ := Option.map_eq_some_iff.mp e2
    have := hn z (List.mem_of_getElem? hz)
    exact .inl ⟨z, rfl, isNm_len this, this.symm⟩
  · unfold nlB
    rw [strsOf_strs]
    have : (xs.map fun _ => true).all id = true := by simp
    rw [this, Bool.true_and]
theorem nm_is {K : PySem.W.Frag} {H : Hp} {z : Str} (h : isNm z = true) : IsN K H (.str z) true := .inl ⟨z, rfl, isNm_len h, h.symm⟩
theorem cs_strs {K : PySem.W.Frag} {H : Hp} {l : Addr} {z : Str} {xs : List Str} (hz : isNm z = true) (h : H l = some (.lst (xs.map .str))) (hl : xs.length ≤ 900) (hn : ∀ x ∈ xs, isNm x = true) : CS K H (.str z) (.ref l) (decide xs.Nodup, z, xs) :=
  ⟨true, _, nm_is hz, nl1_strs h hl hn, by rw [Bool.true_and], fun _ => rfl⟩
theorem RowT.itd {K : PySem.W.Frag} {H : Hp} {v : V} {r : Str × List Str} (h : RowT H v r) (hz : isNm r.1 = true) (hl : r.2.length ≤ 900) (hn : ∀ x ∈ r.2, isNm x = true) : ItD K H v (decide r.2.Nodup, r.1, r.2) := by
  obtain ⟨t, l, rfl, e1, e2⟩ := h
  exact .inr ⟨t, _, _, rfl, e1, cs_strs hz e2 hl hn⟩
/-- the odd things -/
def oddW (a : Addr) : List V := [.str "A", .str "", .non, .int 5, .str "abcdefghi", .ref a]
theorem odd_n {K : PySem.W.Frag} {H : Hp} {a : Addr} {i : Nat} {x : V} (ha : H a = some (.lst [.str "a"])) (hx : (oddW a)[i]? = some x) : IsN K H x false := by
  match i, hx with
  | 0, hx => obtain rfl := (Option.some.inj hx).symm; exact .inl ⟨_, rfl, by decide +kernel, by decide +kernel⟩
  | 1, hx => obtain rfl := (Option.some.inj hx).symm; exact .inl ⟨_, rfl, by decide +kernel, by decide +kernel⟩
  | 2, hx => obtain rfl := (Option.some.inj hx).symm; exact .inr ⟨_, .base .non, rfl, rfl⟩
  | 3, hx => obtain rfl := (Option.some.inj hx).symm; exact .inr ⟨_, .base (.int _), rfl, rfl⟩
  | 4, hx => obtain rfl := (Option.some.inj hx).symm; exact .inl ⟨_, rfl, by decide +kernel, by decide +kernel⟩
  | 5, hx => obtain rfl := (Option.some.inj hx).symm; exact .inr ⟨_, .base (.lst ha), rfl, rfl⟩
  | i + 6, hx => cases hx
theorem kit_none {K : PySem.W.Frag} {t : String} (h1 : PySem.W.kitOne K (.type t) (.type "list") = some false) (h2 : PySem.W.kitOne K (.type t) (.type "tuple") = some false) : PySem.W.kitAny K (.type t) LT = some false := by
  unfold PySem.W.kitAny
  rw [h1]
  show PySem.W.kitAny K (.type t) [.type "tuple"] = some false
  unfold PySem.W.kitAny
  rw [h2]
  rfl
theorem odd_l {K : PySem.W.Frag} {H : Hp} {a : Addr} {i : Nat} {x : V} (ha : H a = some (.lst [.str "a"])) (hx : (oddW a)[i]? = some x) : ∃ c ss, NL1 K H x c ss := by
  have ks : PySem.W.kitAny K (.type "str") LT = some false := kit_none (kit_ty (by decide +kernel)) (kit_ty (by decide +kernel))
  match i, hx with
  | 0, hx => obtain rfl := (Option.some.inj hx).symm; exact ⟨false, [], .inl ⟨_, .base (.str _), ks, rfl⟩⟩
  | 1, hx => obtain rfl := (Option.some.inj hx).symm; exact ⟨false, [], .inl ⟨_, .base (.str _), ks, rfl⟩⟩
  | 2, hx => obtain rfl := (Option.some.inj hx).symm; exact ⟨false, [], .inl ⟨_, .base .non, kit_non, rfl⟩⟩
  | 3, hx => obtain rfl := (Option.some.inj hx).symm; exact ⟨false, [], .inl ⟨_, .base (.int _), kit_none (kit_ty (by decide +kernel)) (kit_ty (by decide +kernel)), rfl⟩⟩
  | 4, hx => obtain rfl := (Option.some.inj hx).symm; exact ⟨false, [], .inl ⟨_, .base (.str _), ks, rfl⟩⟩
  | 5, hx => obtain rfl := (Option.some.inj hx).symm; exact ⟨_, ["a"], nl1_strs (xs := ["a"]) ha (by decide) (by decide +kernel)⟩
  | i + 6, hx => cases hx
/-- names and an odd thing behind them -/
theorem nl_odd {K : PySem.W.Frag} {H : Hp} {l : Addr} {xs : List Str} {x : V} (h : H l = some (.lst (xs.map .str ++ [x]))) (hl : xs.length ≤ 800) (hn : ∀ x ∈ xs, isNm x = true) (hx : IsN K H x false) : NL1 K H (.ref l) false [] := by
  refine .inr ⟨l, _, (xs.map fun _ => true) ++ [false], rfl, h, by rw [List.length_append, List.length_map]; show _ + 1 ≤ _; omega, by simp, fun i y b e1 e2 => ?_, ?_, fun z => nomatch z⟩
  · by_cases hi : i < xs.length
    · rw [List.getElem?_append_left (by rw [List.length_map]; exact hi), List.getElem?_map] at e1 e2
      obtain ⟨z, hz, rfl⟩ := Option.map_eq_some_iff.mp e1
      obtain ⟨_, _, rfl⟩ := Option.map_eq_some_iff.mp e2
      exact nm_is (hn z (List.mem_of_getElem? hz))
    · have hb : i < (xs.map V.str ++ [x]).length := (List.getElem?_eq_some_iff.mp e1).1
      have hi' : i = xs.length := by
        rw [List.length_append, List.length_map] at hb
        have : i < xs.length + 1 := hb
        omega
      subst hi'
      rw [List.getElem?_append_right (by rw [List.length_map]; exact Nat.le_refl _), List.length_map, Nat.sub_self] at e1 e2
      cases e1
      cases e2
      exact hx
  · unfold nlB
    rw [List.all_append]
    simp
theorem cut_one (ss : List Str) : cutV (ss.map V.str) none (some (1 : Int)) = (ss.take 1).map .str := by
  cases ss with
  | nil => rfl
  | cons x xs =>
    rw [show (1 : Int) = ((1 : Nat) : Int) from rfl, cut_to (by simp), List.map_take]
theorem paired_map {α β γ : Type} {R : α → γ → Prop} {f : β → γ} {l : List α} {m : List β} (h : Paired (fun a b => R a (f b)) l m) : Paired R l (m.map f) := by
  induction h with
  | nil => exact .nil
  | cons h _ ih => exact .cons h ih
theorem paired_take {α β : Type} {R : α → β → Prop} : ∀ (n : Nat) {l : List α} {m : List β}, Paired R l m → Paired R (l.take n) (m.take n)
  | 0, _, _, _ => by rw [List.take_zero, List.take_zero]; exact .nil
  | n + 1, _, _, .nil => .nil
  | n + 1, _, _, .cons h t => .cons h (paired_take n t)
theorem paired_drop {α β : Type} {R : α → β → Prop} : ∀ (n : Nat) {l : List α} {m : List β}, Paired R l m → Paired R (l.drop n) (m.drop n)
  | 0, _, _, h => h
  | n + 1, _, _, .nil => .nil
  | n + 1, _, _, .cons h t => paired_drop n t
/-! ### objects known, by places in a list -/
def Has (B : Hp) (L : List (Addr × HO)) : Prop := ∀ x ∈ L, B x.1 = some x.2
theorem Has.ix {B : Hp} {L : List (Addr × HO)} (h : Has B L) (i : Nat) {a : Addr} {o : HO} (e : L[i]? = some (a, o)) : B a = some o := h (a, o) (List.mem_of_getElem? e)
theorem Has.same {B B' : Hp} {L : List (Addr × HO)} (h : Has B L) (s : Same B B') : Has B' L := fun x hx => s _ _ (h x hx)
theorem alo {p d : Addr} {H B0 : Hp} {n : Nat} {L : List (Addr × HO)} {o : HO} (hL : Has (hide p H) L) (P : Pl H p n) (S : Same B0 (hide p H)) (nd : H d = none) : Has (hide p (upd H d o)) ((d, o) :: L) ∧ Pl (upd H d o) p n ∧ Same B0 (hide p (upd H d o)) := by
  obtain ⟨h1, h2, h3⟩ := hide_new (o := o) P.ne nd
  refine ⟨fun x hx => ?_, P.new nd, S.trans h2⟩
  rcases List.mem_cons.mp hx with rfl | hx
  · exact h3
  · exact h2 _ _ (hL x hx)
def spSpoilt (K : PySem.W.Frag) : Sp := fun vs H Q _ => ∃ (p q : Addr) (n : Nat) (rs : Rws), vs = [.ref p, .ref q] ∧ Pl H p n ∧ n ≤ 600000000 ∧ RowsAt (hide p H) q rs ∧ LawRows 6 6 rs ∧
  ∀ (es : List Lk) (xs : List V) H' r, Same (hide p H) (hide p H') → Pl H' p (n + 4) → hide p H r = none → hide p H' r = some (.lst xs) → Paired (ItD K (hide p H')) xs es → es.length ≤ 20 → Q (.ref r) H'
end WL
end L2
set_option Elab.async false
set_option linter.all false
set_option maxRecDepth 100000
set_option maxHeartbeats 4000000
namespace L2
namespace WL
open PySem PySem.Spec PyProof.Rows K1 LamX
/-! ### facts beside hidden things: a heap with less -/
/-- H' has all of H but some lists and tables -/
structure Less (H H' : Hp) : Prop where
  le : ∀ b o, H b = some o → (∀ xs, o ≠ .lst xs) → (∀ ps, o ≠ .tbl ps) → H' b = some o
theorem Less.sqT {K : PySem.W.Frag} {H H' : Hp} {a : Addr} {xs : List V} (L : Less H H') (h : SqT K H a xs) : SqT K H' a xs := by
  rcases h with (h | ⟨o, h⟩) | h
  · exact .inl (.inl (L.le _ _ h (fun ys z => nomatch z) fun ps z => nomatch z))
  · exact .inl (.inr ⟨o, L.le _ _ h (fun ys z => nomatch z) fun ps z => nomatch z⟩)
  · exact .inr h
theorem Less.web {K : PySem.W.Frag} {H H' : Hp} {C p : Addr} {rs : Rws} (L : Less H H') (w : IsWeb K H C p rs) : IsWeb K H' C p rs := by
  obtain ⟨dx, c, s, a, t, ks, kt, av, W⟩ := w
  have g : ∀ b o, H b = some o → (∀ xs, o ≠ .lst xs) → (∀ ps, o ≠ .tbl ps) → H' b = some o := L.le
  have dt : ∀ {ks : List (Key × V)} {rs : Rws}, DTup K H ks rs → DTup K H' ks rs := fun d => Paired.imp (fun _ _ ⟨e, a, e2, s⟩ => ⟨e, a, e2, L.sqT s⟩) d
  exact ⟨dx, c, s, a, t, ks, kt, av, g _ _ W.ob (fun _ z => nomatch z) (fun _ z => nomatch z), g _ _ W.hc (fun _ z => nomatch z) (fun _ z => nomatch z), g _ _ W.hs (fun _ z => nomatch z) (fun _ z => nomatch z), dt W.ds,
    g _ _ W.ha (fun _ z => nomatch z) (fun _ z => nomatch z), Paired.imp (fun _ _ ⟨q, e1, e2⟩ => ⟨q, e1, g _ _ e2 (fun _ z => nomatch z) (fun _ z => nomatch z)⟩) W.da, g _ _ W.ht (fun _ z => nomatch z) (fun _ z => nomatch z), dt W.dt⟩
theorem less_offS {S : List Addr} {H : Hp} (h : ∀ b ∈ S, ∃ xs, H b = some (.lst xs)) : Less H (offS S H) := ⟨fun b o e n _ => by
  rw [offS_ne]
  · exact e
  · intro m
    obtain ⟨xs, e2⟩ := h b m
    rw [e] at e2
    exact n xs (Option.some.inj e2)⟩
theorem less_hide {E : Addr} {H : Hp} {xs : List V} (h : H E = some (.lst xs)) : Less H (hide E H) := ⟨fun b o e n _ => by
  rw [hide_ne (fun z => by rw [z, h] at e; exact n xs (Option.some.inj e).symm)]
  exact e⟩
theorem less_offT {H : Hp} : Less H (offT H) := ⟨fun b o e _ n => offT_at e n⟩
theorem Less.trans {H H1 H2 : Hp} (a : Less H H1) (b : Less H1 H2) : Less H H2 := ⟨fun c o e n m => b.le _ _ (a.le _ _ e n m) n m⟩
theorem SqL.offT {K : PySem.W.Frag} {H : Hp} {l : Addr} {xs : List V} (h : SqL K H l xs) : SqL K (offT H) l xs := by
  rcases h with (h | ⟨o, h⟩) | h
  · exact .inl (.inl (offT_at h fun ps z => nomatch z))
  · exact .inl (.inr ⟨o, offT_at h fun ps z => nomatch z⟩)
  · exact .inr h
theorem RowT.offT {H : Hp} {v : V} {r : Str × List Str} (h : RowT H v r) : RowT (WL.offT H) v r := by
  obtain ⟨t, l, e, a, b⟩ := h
  exact ⟨t, l, e, offT_at a (fun ps z => nomatch z), offT_at b fun ps z => nomatch z⟩
theorem RowsAt.offT {H : Hp} {q : Addr} {rs : Rws} (h : RowsAt H q rs) : RowsAt (WL.offT H) q rs := by
  obtain ⟨vs, e, a⟩ := h
  exact ⟨vs, offT_at e (fun ps z => nomatch z), Paired.imp (fun _ _ r => RowT.offT r) a⟩
theorem RowT.hidP {H : Hp} {p : Addr} {n : Nat} {v : V} {r : Str × List Str} (h : RowT H v r) (P : Pl H p n) : RowT (hide p H) v r := by
  obtain ⟨t, l, e, a, b⟩ := h
  refine ⟨t, l, e, P.hid a (by intro x y z c; cases c), P.hid b fun x y z c => ?_⟩
  have c' : r.2.map V.str = [.int x, .int y, .int z] := HO.lst.inj c
  cases e2 : r.2 with
  | nil =>
    rw [e2] at c'
    cases c'
  | cons s ss =>
    rw [e2] at c'
    cases (List.cons.inj c').1
theorem RowsAt.hidP {H : Hp} {p q : Addr} {n : Nat} {rs : Rws} (h : RowsAt H q rs) (P : Pl H p n) (ne : rs ≠ []) : RowsAt (hide p H) q rs := by
  obtain ⟨vs, e, a⟩ := h
  refine ⟨vs, P.hid e fun x y z c => ?_, Paired.imp (fun _ _ r => r.hidP P) a⟩
  cases a with
  | nil => exact ne rfl
  | cons h t =>
    obtain ⟨t, l, rfl, _⟩ := h
    cases (List.cons.inj (HO.lst.inj c)).1
/-- what the law keeps at hand -/
structure LawSt (K : PySem.W.Frag) (C x l q p pt : Addr) (n : Nat) (ns : List Int) (rs : Rws) (nm : Str) (H : Hp) : Prop where
  hl : SqL K (WL.offT (hide p H)) l (ns.map V.int)
  w : IsWeb K (WL.offT H) C x rs
  r : RowsAt (WL.offT H) q rs
  pl : Pl H p n
  tb : TabS H pt nm
theorem LawSt.same {K : PySem.W.Frag} {C x l q p pt : Addr} {n : Nat} {ns : List Int} {rs : Rws} {nm : Str} {H H' : Hp} (h : LawSt K C x l q p pt n ns rs nm H) (s : Same H H') : LawSt K C x l q p pt n ns rs nm H' :=
  ⟨SqL.sm h.hl (offT_same (hide_same s)), h.w.same (offT_same s), h.r.same (offT_same s), h.pl.same s, LamX.TabS.ext h.tb s⟩
theorem LawSt.ext {K : PySem.W.Frag} {C x l q p pt : Addr} {n : Nat} {ns : List Int} {rs : Rws} {nm : Str} {H H' : Hp} (h : LawSt K C x l q p pt n ns rs nm H) (e : ExtN H H') (t : TabS H' pt nm) : LawSt K C x l q p pt n ns rs nm H' :=
  ⟨SqL.sm h.hl (ExtN.hide e), h.w.same (offT_ext e), h.r.same (offT_ext e), h.pl.extN e, t⟩
theorem LawSt.web {K : PySem.W.Frag} {C x l q p pt : Addr} {n : Nat} {ns : List Int} {rs : Rws} {nm : Str} {H : Hp} (h : LawSt K C x l q p pt n ns rs nm H) : IsWeb K H C x rs := h.w.same offT_le
theorem LawSt.rows {K : PySem.W.Frag} {C x l q p pt : Addr} {n : Nat} {ns : List Int} {rs : Rws} {nm : Str} {H : Hp} (h : LawSt K C x l q p pt n ns rs nm H) : RowsAt H q rs := h.r.same offT_le
/-! ### webs compared -/
theorem dEq_self {rs : Rws} (nd : (rs.map Prod.fst).Nodup) : dEq rs rs = true := by
  unfold dEq
  rw [decide_eq_true rfl, Bool.true_and, List.all_eq_true]
  exact fun p hp => decide_eq_true (srcs_at nd hp)
theorem wEq_self {rs : Rws} (g : Good rs) : wEq rs rs = true := by
  unfold wEq
  rw [decide_eq_true rfl, dEq_self g.nd]
  rfl
theorem Good.rev {rs : Rws} (g : Good rs) : Good rs.reverse := by
  have m : rs.reverse.map Prod.fst = (rs.map Prod.fst).reverse := List.map_reverse ..
  refine ⟨?_, by rw [List.length_reverse]; exact g.l1, by rw [List.length_reverse]; exact g.ln, fun r hr => ?_, fun r hr => g.nm r (List.mem_reverse.mp hr)⟩
  · rw [m]
    exact (List.reverse_perm _).nodup_iff.mpr g.nd
  · obtain ⟨h1, h2, h3⟩ := g.sr r (List.mem_reverse.mp hr)
    exact ⟨h1, h2, fun s hs => by rw [m]; exact List.mem_reverse.mpr (h3 s hs)⟩
theorem wEq_rev {rs : Rws} (g : Good rs) (h : 1 < rs.length) : wEq rs rs.reverse = false := by
  unfold wEq
  rw [decide_eq_false, Bool.false_and]
  intro e
  rw [List.map_reverse] at e
  have hl : (rs.map Prod.fst).length = rs.length := List.length_map ..
  have nd := g.nd
  generalize rs.map Prod.fst = l at e hl nd
  have h0 : 0 < l.length := by omega
  have hk : l.length - 1 < l.length := by omega
  have e2 : l[0] = l[l.length - 1] := by
    have : l[0]? = l.reverse[0]? := by rw [← e]
    rw [List.getElem?_reverse h0, List.getElem?_eq_getElem h0, List.getElem?_eq_getElem (by omega)] at this
    exact Option.some.inj this
  exact List.pairwise_iff_getElem.mp nd 0 (l.length - 1) h0 hk (by omega) e2
def revS (rs : Rws) : Rws := rs.map fun r => (r.1, r.2.reverse)
theorem revS_fst (rs : Rws) : (revS rs).map Prod.fst = rs.map Prod.fst := by
  unfold revS
  rw [List.map_map]
  rfl
theorem Good.revS {rs : Rws} (g : Good rs) : Good (revS rs) := by
  refine ⟨by rw [revS_fst]; exact g.nd, by unfold WL.revS; rw [List.length_map]; exact g.l1, by unfold WL.revS; rw [List.length_map]; exact g.ln, fun r hr => ?_, fun r hr => ?_⟩
  · obtain ⟨r', hr', rfl⟩ := List.mem_map.mp hr
    obtain ⟨h1, h2, h3⟩ := g.sr r' hr'
    exact ⟨by show r'.2.reverse.length ≤ 900; rw [List.length_reverse]; exact h1, (List.reverse_perm _).nodup_iff.mpr h2, fun s hs => by rw [revS_fst]; exact h3 s (List.mem_reverse.mp hs)⟩
  · obtain ⟨r', hr', rfl⟩ := List.mem_map.mp hr
    exact g.nm r' hr'
theorem wEq_revS {rs : Rws} (g : Good rs) : wEq rs (revS rs) = decide (revS rs = rs) := by
  have nd2 : ((revS rs).map Prod.fst).Nodup := by rw [revS_fst]; exact g.nd
  have hall : (rs.all fun p => decide (srcs (revS rs) p.1 = some p.2)) = decide (revS rs = rs) := by
    rw [Bool.eq_iff_iff, List.all_eq_true, decide_eq_true_iff]
    have at_ : ∀ r ∈ rs, srcs (revS rs) r.1 = some r.2.reverse := fun r hr => srcs_at nd2 (p := (r.1, r.2.reverse)) (List.mem_map.mpr ⟨r, hr, rfl⟩)
    constructor
    · intro h
      unfold revS
      conv => rhs; rw [← List.map_id rs]
      refine List.map_congr_left fun r hr => ?_
      have := of_decide_eq_true (h r hr)
      rw [at_ r hr] at this
      rw [Option.some.inj this]
      rfl
    · intro h r hr
      refine decide_eq_true ?_
      rw [at_ r hr]
      have : (revS rs).map id = rs.map id := by rw [h]
      unfold revS at this
      rw [List.map_map] at this
      have e := (List.map_inj_left.mp this) r hr
      have e2 : r.2.reverse = r.2 := congrArg Prod.snd e
      rw [e2]
  unfold wEq dEq
  rw [revS_fst, decide_eq_true rfl, Bool.true_and, hall]
  have : (revS rs).length = rs.length := by unfold revS; rw [List.length_map]
  rw [decide_eq_true this.symm, Bool.true_and]
/-! ### rows as data -/
def dRows (rs : Rws) : List PyData := rs.map fun r => .tuple [.str r.1, .list (dS r.2)]
theorem dp_rows {K : PySem.W.Frag} {H : Hp} : ∀ {vs : List V} {rs : Rws}, Paired (RowT H) vs rs → DpAll K H vs (dRows rs)
  | _, _, .nil => .nil
  | _, _, .cons ⟨t, l, e, a, b⟩ h => by
    subst e
    exact .cons (.tup (SqT.of a) (.cons (.str _) (.cons (.lst (SqL.of b) (dp_strs _)) .nil))) (dp_rows h)
theorem eqv_rows : ∀ as bs : Rws, PyData.eqvAll (dRows as) (dRows bs) = decide (as = bs)
  | [], [] => rfl
  | [], b :: bs => rfl
  | a :: as, [] => rfl
  | a :: as, b :: bs => by
    show (((a.1 == b.1) && (PyData.eqvAll (dS a.2) (dS b.2) && true)) && PyData.eqvAll (dRows as) (dRows bs)) = _
    rw [eqv_rows as bs, eqv_strs, Bool.and_true, Bool.eq_iff_iff]
    simp only [Bool.and_eq_true, beq_iff_eq, decide_eq_true_iff, List.cons.injEq, Prod.ext_iff]
theorem lay_rows : ∀ {rs : Rws}, (∀ r ∈ rs, sOk [r.1] ∧ sOk r.2) → PyData.canLayAll0 (dRows rs) = true
  | [], _ => rfl
  | r :: rs, h => by
    obtain ⟨h1, h2⟩ := h r (List.mem_cons_self ..)
    have l1 : (PyData.canLay0 (.str r.1) && true) = true := lay_strs h1
    rw [Bool.and_true] at l1
    show ((PyData.canLay0 (.str r.1) && (PyData.canLayAll0 (dS r.2) && true)) && PyData.canLayAll0 (dRows rs)) = true
    rw [lay_rows fun r hr => h r (List.mem_cons_of_mem _ hr), lay_strs h2, l1]
    rfl
theorem dep_rows : ∀ rs : Rws, PyData.depthAll (dRows rs) ≤ 2
  | [] => Nat.zero_le _
  | r :: rs => by
    show max (max 0 (max (PyData.depthAll (dS r.2) + 1) 0) + 1) (PyData.depthAll (dRows rs)) ≤ 2
    have := dep_rows rs
    rw [dep_strs]
    omega
theorem shape_rows {rs : Rws} (g : Good rs) : SeqAt.shaped (.list (dRows rs)) = true := by
  have ok := Good.ok g
  unfold SeqAt.shaped
  refine Bool.and_eq_true_iff.mpr ⟨lay_rows fun r hr => ⟨fun x hx => ?_, ok.2 r hr⟩, decide_eq_true ?_⟩
  · rw [show x = r.1 by simpa using hx]
    exact ok.1 _ (List.mem_map.mpr ⟨r, hr, rfl⟩)
  · show PyData.depthAll (dRows rs) + 1 ≤ 64
    have := dep_rows rs
    omega
/-! ### outcomes as data -/
theorem shape_strs2 {a : Str} {xs : List Str} (ha : sOk [a]) (h : sOk xs) : SeqAt.shaped (.tuple [.str a, .tuple (dS xs)]) = true := by
  have l1 : (PyData.canLay0 (.str a) && true) = true := lay_strs ha
  rw [Bool.and_true] at l1
  unfold SeqAt.shaped
  refine Bool.and_eq_true_iff.mpr ⟨?_, decide_eq_true ?_⟩
  · show (PyData.canLay0 (.str a) && (PyData.canLayAll0 (dS xs) && true)) = true
    rw [l1, lay_strs h]
    rfl
  · show max 0 (max (PyData.depthAll (dS xs) + 1) 0) + 1 ≤ 64
    rw [dep_strs]
    omega
theorem sOk_lit {a : Str} (h : (a.cps.toList.all fun c => decide (c < 1114112)) = true) : sOk [a] := fun x hx => by
  rw [show x = a by simpa using hx]
  intro c m
  exact of_decide_eq_true (List.all_eq_true.mp h c m)
def Out.ok : Out → Prop
  | .made cs => sOk cs
  | .bad _ => True
  | .unk z => sOk [z]
theorem shape_out {o : Out} (h : o.ok) : SeqAt.shaped o.d = true := by
  cases o with
  | made cs => exact shape_strs2 (sOk_lit (by decide +kernel)) h
  | bad i =>
    unfold SeqAt.shaped
    refine Bool.and_eq_true_iff.mpr ⟨?_, rfl⟩
    have l2 : PyData.canLay0 (.str ("bad" : Str)) = true := by decide +kernel
    show (PyData.canLay0 (.str ("bad" : Str)) && (PyData.canLay0 (.int (i : Nat)) && true)) = true
    rw [l2]
    rfl
  | unk z =>
    have l1 : (PyData.canLay0 (.str z) && true) = true := lay_strs h
    rw [Bool.and_true] at l1
    unfold SeqAt.shaped
    refine Bool.and_eq_true_iff.mpr ⟨?_, rfl⟩
    have l2 : PyData.canLay0 (.str ("unknown" : Str)) = true := by decide +kernel
    show (PyData.canLay0 (.str ("unknown" : Str)) && (PyData.canLay0 (.str z) && true)) = true
    rw [l1, l2]
    rfl
theorem out_ok {K : PySem.W.Frag} {H : Hp} {xs : List V} {es : List Lk} (hp : Paired (ItD K H) xs es) : (outOf es).ok := by
  unfold outOf
  by_cases e0 : es = []
  · rw [if_pos e0]
    exact trivial
  · rw [if_neg e0]
    cases hw : firstW (es.map fun e => (e.1, e.2.1)) [] 0 with
    | some i => exact trivial
    | none =>
      obtain ⟨w1, _, _⟩ := firstW_no hw
      have looks : ∀ e ∈ es, isNm e.2.1 = true ∧ ∀ s ∈ e.2.2, isNm s = true := fun e he => by
        have et : e.1 = true := w1 (e.1, e.2.1) (List.mem_map.mpr ⟨e, he, rfl⟩)
        obtain ⟨i, hi⟩ := List.getElem?_of_mem he
        obtain ⟨v, _, hv⟩ := Paired.get hp hi
        rcases hv with ⟨_, z⟩ | ⟨t, c, s, _, _, h3⟩
        · rw [et] at z
          cases z
        · refine ⟨(h3.true_ et).2.1, fun s hs => ?_⟩
          obtain ⟨bc, bs, h4, h5, h6, h7⟩ := h3
          rw [et] at h6
          obtain ⟨_, g2⟩ := Bool.and_eq_true_iff.mp h6.symm
          rcases h5 with ⟨_, _, _, e⟩ | ⟨l, ys, bl, _, _, _, h8, h9, h10, h11⟩
          · rw [g2] at e
            cases e
          · have ey := h11 g2
            obtain ⟨j, hj⟩ := List.getElem?_of_mem hs
            have hy : ys[j]? = some (.str s) := by rw [ey, List.getElem?_map, hj]; rfl
            have lt : j < bl.length := by rw [h8]; exact (List.getElem?_eq_some_iff.mp hy).1
            have hb : bl[j]? = some bl[j] := List.getElem?_eq_getElem lt
            rw [g2] at h10
            unfold nlB at h10
            have ha := (Bool.and_eq_true_iff.mp h10.symm).1
            have hbt : bl[j] = true := List.all_eq_true.mp ha _ (List.getElem_mem lt)
            rcases h9 j _ _ hy hb with ⟨z, e1, _, e2⟩ | ⟨_, _, _, e2⟩
            · cases e1
              rw [← e2]
              exact hbt
            · rw [hbt] at e2
              cases e2
      cases hu : firstU (es.map fun e => e.2.1) (es.map Prod.snd) with
      | some u =>
        have m := List.mem_of_find?_eq_some hu
        obtain ⟨r, hr, hs⟩ := List.mem_flatMap.mp m
        obtain ⟨e, he, rfl⟩ := List.mem_map.mp hr
        intro x hx
        rw [show x = u by simpa using hx]
        exact isNm_ok ((looks e he).2 u hs)
      | none =>
        intro x hx
        obtain ⟨e, he, rfl⟩ := List.mem_map.mp hx
        exact isNm_ok (looks e he).1
end WL
end L2
namespace L2
namespace WL
open PySem PySem.Spec PyProof.Rows K1 LamX
/-! ### rows handed in -/
/-- a tuple of a name and a list of S -/
def PrT (H : Hp) (S : List Addr) (v : V) (r : Str × List Str) : Prop := ∃ t l, v = .ref t ∧ H t = some (.tup [.str r.1, .ref l]) ∧ H l = some (.lst (r.2.map .str)) ∧ l ∈ S
theorem PrT.same {H H' : Hp} {S S' : List Addr} {v : V} {r : Str × List Str} (h : PrT H S v r) (s : Same H H') (m : ∀ b ∈ S, b ∈ S') : PrT H' S' v r := let ⟨t, l, e, a, b, c⟩ := h; ⟨t, l, e, s _ _ a, s _ _ b, m _ c⟩
/-- .. a tuple or a list -/
def HdT (H : Hp) (S : List Addr) (v : V) (r : Str × List Str) : Prop := ∃ t l, v = .ref t ∧ (H t = some (.tup [.str r.1, .ref l]) ∨ H t = some (.lst [.str r.1, .ref l])) ∧ t ∉ S ∧ H l = some (.lst (r.2.map .str)) ∧ l ∈ S
theorem HdT.same {H H' : Hp} {S : List Addr} {v : V} {r : Str × List Str} (h : HdT H S v r) (s : Same H H') : HdT H' S v r := by
  obtain ⟨t, l, e, a, b, c, d⟩ := h
  exact ⟨t, l, e, a.imp (s _ _) (s _ _), b, s _ _ c, d⟩
theorem HdT.g {K : PySem.W.Frag} {H : Hp} {S : List Addr} {v : V} {r : Str × List Str} (h : HdT H S v r) : RowG K H v r := by
  obtain ⟨t, l, rfl, a | a, b, c, d⟩ := h
  · exact ⟨.ref l, ⟨t, rfl, .inr (SqT.of a)⟩, ⟨l, rfl, .inl (SqL.of c)⟩⟩
  · exact ⟨.ref l, ⟨t, rfl, .inl (SqL.of a)⟩, ⟨l, rfl, .inl (SqL.of c)⟩⟩
/-- .. whatever the list holds by now -/
def HdW (H : Hp) (S : List Addr) (v : V) : Prop := ∃ t l z, v = .ref t ∧ (H t = some (.tup [z, .ref l]) ∨ H t = some (.lst [z, .ref l])) ∧ l ∈ S
theorem HdT.w {H : Hp} {S : List Addr} {v : V} {r : Str × List Str} (h : HdT H S v r) : HdW (offS S H) S v := by
  obtain ⟨t, l, e, a, b, c, d⟩ := h
  exact ⟨t, l, _, e, by rw [offS_ne b]; exact a, d⟩
theorem HdW.same {H H' : Hp} {S : List Addr} {v : V} (h : HdW H S v) (s : Same H H') : HdW H' S v := by
  obtain ⟨t, l, z, e, a, d⟩ := h
  exact ⟨t, l, z, e, a.imp (s _ _) (s _ _), d⟩
theorem HdW.seq {K : PySem.W.Frag} {H : Hp} {S : List Addr} {v : V} (h : HdW H S v) : ∃ l z, Seq K H v [z, .ref l] ∧ l ∈ S := by
  obtain ⟨t, l, z, rfl, a | a, d⟩ := h
  · exact ⟨l, z, ⟨t, rfl, .inr (SqT.of a)⟩, d⟩
  · exact ⟨l, z, ⟨t, rfl, .inl (SqL.of a)⟩, d⟩
theorem same_hide_new {H H' : Hp} {D : Addr} (s : Same H H') (n : H D = none) : Same H (hide D H') := fun b o e => by
  rw [hide_ne (ne_of_none e n)]
  exact s _ _ e
theorem paired_imp2 {α β : Type} {F G : α → β → Prop} {l : List α} {m : List β} (h : Paired F l m) (f : ∀ a b, F a b → G a b) : Paired G l m := Paired.imp f h
theorem thirteen {r : List (Option V)} (h : r.length = 13) : ∃ o1 o2 o3 o4 o5 o6 o7 o8 o9 o10 o11 o12 o13 : Option V, r = [o1, o2, o3, o4, o5, o6, o7, o8, o9, o10, o11, o12, o13] := by
  match r, h with
  | [o1, o2, o3, o4, o5, o6, o7, o8, o9, o10, o11, o12, o13], _ => exact ⟨o1, o2, o3, o4, o5, o6, o7, o8, o9, o10, o11, o12, o13, rfl⟩
end WL
end L2
namespace L2
namespace WL
open PySem PySem.Spec PyProof.Rows K1 LamX
theorem init_rows {K : PySem.W.Frag} {H H4 : Hp} {C x dx q : Addr} {rs : Rws} {Q : VK} {E : XK} (h : RowsAt H q rs) (g : Good rs) (nx : H x = none) (nd : H dx = none) (e4 : upd (upd H dx (.own x)) x (.ins C dx []) = H4)
    (mk : ∀ H', Same H H' → IsWeb K H' C x rs → Q .non H') : spInit K C [.ref x, .ref q] H4 Q E := by
  obtain ⟨vs, eq, hvs⟩ := h
  have sx := same_mk nx nd e4.symm
  refine ⟨x, dx, .ref q, rfl, by rw [← e4]; exact upd_same, .inr ⟨vs, rs, ⟨q, rfl, .inl (SqL.of (sx _ _ eq))⟩, ?_, g, fun H' s' w => mk H' ((sx.trans s').trans hide_le) w⟩⟩
  exact Paired.imp (fun _ _ r => RowT.g (r.same sx)) hvs
theorem paired_rev {α β : Type} {R : α → β → Prop} {l : List α} {m : List β} (h : Paired R l m) : Paired R l.reverse m.reverse := by
  induction h with
  | nil => exact .nil
  | cons h _ ih =>
    rw [List.reverse_cons, List.reverse_cons]
    exact Paired.snoc ih h
/-- the odd things that are no cells -/
def odds9 (t u d : Addr) : List V := [.str "A", .str "", .non, .int 5, .bl true, .ref t, .ref u, .ref d, .str "zzzzqqqq"]
theorem odd9_ok {K : PySem.W.Frag} {H : Hp} {t u d : Addr} {rs : Rws} {i : Nat} {x : V} (hn : ∀ r ∈ rs, lawNm r.1) (ht : H t = some (.tup [.str "a"])) (hu : H u = some (.lst [.str "a"])) (hd : H d = some (.dK [])) (hx : (odds9 t u d)[i]? = some x) :
    (∃ b, IsN K H x b) ∧ inWeb rs x = false ∧ (flatB x = true ∨ ∃ c, x = .ref c) := by
  have nw : ∀ z : Str, (∀ r ∈ rs, r.1 ≠ z) → inWeb rs (.str z) = false := fun z h => by
    refine decide_eq_false fun m => ?_
    obtain ⟨r, hr, e⟩ := List.mem_map.mp m
    exact h r hr e
  match i, hx with
  | 0, hx =>
    obtain rfl := (Option.some.inj hx).symm
    exact ⟨⟨_, .inl ⟨_, rfl, by decide +kernel, rfl⟩⟩, nw _ fun r hr => law_A (hn r hr), .inl rfl⟩
  | 1, hx =>
    obtain rfl := (Option.some.inj hx).symm
    refine ⟨⟨_, .inl ⟨_, rfl, by decide +kernel, rfl⟩⟩, nw _ fun r hr e => ?_, .inl rfl⟩
    have := (hn r hr).1
    rw [e] at this
    exact absurd this (by decide +kernel)
  | 2, hx =>
    obtain rfl := (Option.some.inj hx).symm
    exact ⟨⟨_, .inr ⟨_, .base .non, rfl, rfl⟩⟩, rfl, .inl rfl⟩
  | 3, hx =>
    obtain rfl := (Option.some.inj hx).symm
    exact ⟨⟨_, .inr ⟨_, .base (.int _), rfl, rfl⟩⟩, rfl, .inl rfl⟩
  | 4, hx =>
    obtain rfl := (Option.some.inj hx).symm
    exact ⟨⟨_, .inr ⟨_, .base (.bl _), rfl, rfl⟩⟩, rfl, .inl rfl⟩
  | 5, hx =>
    obtain rfl := (Option.some.inj hx).symm
    exact ⟨⟨_, .inr ⟨_, .base (.tup ht), rfl, rfl⟩⟩, rfl, .inr ⟨_, rfl⟩⟩
  | 6, hx =>
    obtain rfl := (Option.some.inj hx).symm
    exact ⟨⟨_, .inr ⟨_, .base (.lst hu), rfl, rfl⟩⟩, rfl, .inr ⟨_, rfl⟩⟩
  | 7, hx =>
    obtain rfl := (Option.some.inj hx).symm
    exact ⟨⟨_, .inr ⟨_, .base (.dK hd), rfl, rfl⟩⟩, rfl, .inr ⟨_, rfl⟩⟩
  | 8, hx =>
    obtain rfl := (Option.some.inj hx).symm
    exact ⟨⟨_, .inl ⟨_, rfl, by decide +kernel, rfl⟩⟩, nw _ fun r hr => law_zq (hn r hr), .inl rfl⟩
  | i + 9, hx => cases hx
theorem six6 {r : List (Option V)} (h : r.length = 6) : ∃ o1 o2 o3 o4 o5 o6 : Option V, r = [o1, o2, o3, o4, o5, o6] := by
  match r, h with
  | [o1, o2, o3, o4, o5, o6], _ => exact ⟨o1, o2, o3, o4, o5, o6, rfl⟩
end WL
end L2
namespace L2
namespace WL
open PySem PySem.Spec PyProof.Rows K1 LamX
/-- x and y, where both ways end in false -/
theorem and_tail {b : Bool} {H : Hp} {R : Bool → Hp → Prop} {tb : TT} {σ : St} (Mid : Hp → Prop) (h0 : Mid H) (h2 : ∀ H', Mid H' → R false H') (h1 : b = true → (∀ H', Mid H' → R false H') → tb σ H R) : (fun (c : Bool) (H1 : Hp) => if c = true then tb σ H1 R else R false H1) b H := by
  cases b with
  | false => exact iteN rfl (h2 H h0)
  | true => exact iteP rfl (h1 rfl h2)
end WL
end L2
namespace L2
namespace WL
open PySem PySem.Spec PyProof.Rows K1 LamX
mutual
theorem dp_same {K : PySem.W.Frag} {H H' : Hp} (s : Same H H') : ∀ {v : V} {d : PyData}, Dp K H v d → Dp K H' v d
  | _, _, .non => .non
  | _, _, .bl b => .bl b
  | _, _, .int i => .int i
  | _, _, .str x => .str x
  | _, _, .lst h a => .lst (s.seq h) (dpA_same s a)
  | _, _, .tup h a => .tup (SqT.same h s) (dpA_same s a)
theorem dpA_same {K : PySem.W.Frag} {H H' : Hp} (s : Same H H') : ∀ {vs : List V} {ds : List PyData}, DpAll K H vs ds → DpAll K H' vs ds
  | _, _, .nil => .nil
  | _, _, .cons h t => .cons (dp_same s h) (dpA_same s t)
end
/-- things of which no web comes: bad at 0 -/
def odds6 (a d t : Addr) : List V := [.ref a, .non, .int 5, .str "ab", .ref d, .ref t]
theorem odd6_met {K : PySem.W.Frag} {H : Hp} {a d t : Addr} {i : Nat} {x : V} (ha : H a = some (.lst [])) (hd : H d = some (.dK [])) (ht : H t = some (.tup [])) (hx : (odds6 a d t)[i]? = some x) : MetOf K H x (.bad 0) := by
  have emp : ∀ v, Seq K H v [] → MetOf K H v (.bad 0) := fun v h => .inr ⟨[], h, Nat.zero_le _, (fun d hd => nomatch hd), .inl ⟨0, rfl, rfl⟩⟩
  match i, hx with
  | 0, hx =>
    obtain rfl := (Option.some.inj hx).symm
    exact emp _ ⟨a, rfl, .inl (SqL.of ha)⟩
  | 1, hx =>
    obtain rfl := (Option.some.inj hx).symm
    exact .inl ⟨_, .base .non, kit_non, rfl⟩
  | 2, hx =>
    obtain rfl := (Option.some.inj hx).symm
    exact .inl ⟨_, .base (.int _), kit_none (kit_ty (by decide +kernel)) (kit_ty (by decide +kernel)), rfl⟩
  | 3, hx =>
    obtain rfl := (Option.some.inj hx).symm
    exact .inl ⟨_, .base (.str _), kit_none (kit_ty (by decide +kernel)) (kit_ty (by decide +kernel)), rfl⟩
  | 4, hx =>
    obtain rfl := (Option.some.inj hx).symm
    exact .inl ⟨_, .base (.dK hd), kit_none (kit_ty (by decide +kernel)) (kit_ty (by decide +kernel)), rfl⟩
  | 5, hx =>
    obtain rfl := (Option.some.inj hx).symm
    exact emp _ ⟨t, rfl, .inr (SqT.of ht)⟩
  | i + 6, hx => cases hx
end WL
end L2
set_option Elab.async false
set_option linter.all false
set_option maxRecDepth 100000
set_option maxHeartbeats 4000000
namespace L2
namespace K59
open PySem PySem.Spec PyProof.Rows K1 WL LamX
section
variable {P : Program} {w : World} {K : PySem.W.Frag} {mg : Str → Option Value} {base : Heap} {f : Addr} {fd : FuncData}
def RowL (H : Hp) (v : V) (r : Str × List Str) : Prop := ∃ t l, v = .ref t ∧ H t = some (.lst [.str r.1, .ref l]) ∧ H l = some (.lst (r.2.map .str))
theorem RowL.same {H H' : Hp} {v : V} {r : Str × List Str} (h : RowL H v r) (s : Same H H') : RowL H' v r := let ⟨t, l, e, a, b⟩ := h; ⟨t, l, e, s _ _ a, s _ _ b⟩
theorem stems_nm : ∀ z ∈ stems, isNm z = true := by decide +kernel
/-- rows as the law draws them: lists of a name and a list of names -/
structure LRows (most : Nat) (rs : Rws) : Prop where
  nd : (rs.map Prod.fst).Nodup
  l1 : 1 ≤ rs.length
  lm : rs.length ≤ most
  nm : ∀ r ∈ rs, r.1 ∈ stems
  sr : ∀ r ∈ rs, r.2.Nodup ∧ r.2.length ≤ rs.length ∧ ∀ s ∈ r.2, s ∈ rs.map Prod.fst
theorem LRows.good {most : Nat} {rs : Rws} (h : LRows most rs) (hm : most ≤ 8) : Good rs := ⟨h.nd, h.l1, Nat.le_trans h.lm (by omega), fun r hr => ⟨Nat.le_trans (h.sr r hr).2.1 (Nat.le_trans h.lm (by omega)), (h.sr r hr).1, (h.sr r hr).2.2⟩, fun r hr => stems_nm _ (h.nm r hr)⟩
def spWebL (K : PySem.W.Frag) : Sp := fun vs H Q _ => ∃ (p : Addr) (most n : Nat), vs = [.ref p, .int (most : Nat)] ∧ 1 ≤ most ∧ most ≤ 7 ∧ Pl H p n ∧ n ≤ 700000000 ∧
  ∀ (rs : Rws) (vl : List V) H' q, Same (hide p H) (hide p H') → Pl H' p (n + 150) → LRows most rs → hide p H q = none → hide p H' q = some (.lst vl) → Paired (RowL (hide p H')) vl rs → Q (.ref q) H'
/-! ### _law_web -/
abbrev nmWB : List Str := ["_law_pool_here", "_law_most", "_law_cells_here", "_law_share", "_law_cell_here"]
theorem sc_web : FnScope nmWB ["_law_pool_here", "_law_most"] (defScope s_web) := ⟨rfl, rfl, rfl, by decide +kernel, rfl, by decide +kernel, by decide +kernel⟩
theorem ok_web (T : Bl mg) (Ct : Cal P w K mg base "_law_take" ["_law_pool_here", "_law_many"] 1 spTakeL) (Cn : Cal P w K mg base "_law_names" ["_law_pool_here", "_law_many"] 2 (spNames63 K)) (Cp : Cal P w K mg base "_law_picked" ["_law_pool_here", "_law_things", "_law_share"] 2 (spPicked K))
    (F : FnP K "_law_web" "_law_web" s_web f fd) : FnOk P w K mg base CX0 3 f fd ["_law_pool_here", "_law_most"] (spWebL K) := by
  obtain ⟨ft, fdt, Gt, gt, kt, bt⟩ := Ct.ex
  obtain ⟨fn, fdn, Gn, gn, kn, bn⟩ := Cn.ex
  obtain ⟨fp, fdp, Gp, gp, kp, bp⟩ := Cp.ex
  refine F.ok sc_web (fun vs H Q E h => ?_) (fun cdv A outer s H vs Q E hr h => ?_)
  · obtain ⟨p, most, n, rfl, _⟩ := h
    rfl
  · have nd := sc_web.nd
    have h1 := hr.mono (show 1 ≤ 2 by decide)
    refine ⟨_, PSs.nox (pss_cons (ps_set (i := 2) nd rfl (Or.inr rfl) (pe_call Gn hr rfl gn kn bn .nil pass0 (pa_cons (pv 0) (pa_cons (pe_op op_add pe_int (pe_call Gt h1 rfl gt kt bt .nil pass0 (pa_cons (pv 0) (pa_cons (pv 1) pa_nil)))) pa_nil))))
      (pss_cons (ps_set (i := 3) nd rfl (Or.inr rfl) (pe_op op_add pe_int (pe_call Gt h1 rfl gt kt bt .nil pass0 (pa_cons (pv 0) (pa_cons pe_int pa_nil)))))
      (pss_one (ps_ret (pe_lc (own := [("_law_cell_here", 4)]) (g := gName 4) (tt := tYes) rfl nd (pi_list (pv 2)) (blkOk_by (N := nmWB) (sc := defScope s_web) (by decide +kernel)) (fun _ _ _ _ _ => pg_name (i := 4) nd rfl (Or.inl rfl)) (fun _ _ _ _ _ => pts_nil)
        (fun _ _ _ _ _ => pe_lst (pa_cons (pv 4) (pa_cons (pe_call Gp hr rfl gp kp bp .nil pass0 (pa_cons (pv 0) (pa_cons (pv 2) (pa_cons (pv 3) pa_nil)))) pa_nil)))))))), ?_⟩
    obtain ⟨p, most, n, rfl, hm1, hm7, hP, hn, q⟩ := h
    refine ⟨_, rfl, _, rfl, _, rfl, p, most, n, rfl, by omega, by omega, hP, by omega, fun r H1 hr1 e1 P1 => ?_⟩
    refine ⟨1, r, rfl, rfl, p, 1 + r, n + 1, (show ([V.ref p, V.int (1 + (r : Int))] : List V) = [V.ref p, V.int ((1 + r : Nat) : Int)] by rw [show ((1 + r : Nat) : Int) = 1 + (r : Int) by omega]), by omega, P1, by omega, fun zs H2 l s2 P2 hlen hnd hst fl el => ?_⟩
    rw [e1] at s2 fl
    refine g_nm ?_
    try dsimp only
    refine t_seqAsg ?_
    refine ⟨_, rfl, p, 3, n + 1 + (1 + r), rfl, by decide, by decide, P2, by omega, fun r2 H3 hr2 h3 P3 => ?_⟩
    refine ⟨1, r2, rfl, rfl, ?_⟩
    refine g_nm ?_
    have el3 : hide p H3 l = some (.lst (zs.map .str)) := by rw [h3]; exact el
    refine ⟨_, rfl, l, rfl, ⟨_, SqL.of (hide_le _ _ el3)⟩, fun D nD => ?_⟩
    obtain ⟨Dp, sE, eE⟩ := hide_new (o := .lst []) P3.ne nD
    have lD : l ≠ D := fun e => by rw [e, hide_none nD] at el3; cases el3
    have hzs : zs.length ≤ 7 := by omega
    refine lc_it (walk_list (xs := zs.map .str)) (fun j H' => Same (hide p H3) (hide D (hide p H')) ∧ Pl H' p (n + 1 + (1 + r) + 1 + 14 * j) ∧ ∃ (hv : List V) (rs : Rws), hide p H' D = some (.lst hv) ∧ Paired (RowL (hide D (hide p H'))) hv rs ∧ rs.map Prod.fst = zs.take j ∧ ∀ r ∈ rs, r.2.Nodup ∧ r.2.length ≤ zs.length ∧ ∀ s ∈ r.2, s ∈ zs)
      ⟨same_hide_new sE (hide_none nD), P3.new nD, [], [], eE, .nil, rfl, fun r hr => nomatch hr⟩ (fun j H' _ p => SqL.of (hide_le _ _ (hide_le _ _ (p.1 _ _ el3)))) (fun j y H5z H5 hj pj yy => ?_) (fun H5 pj => ?_)
    · obtain ⟨rfl, hy⟩ := yy
      obtain ⟨s5, P5, hv, rs, eh, hhv, hfst, hsr⟩ := pj
      rw [List.getElem?_map] at hy
      obtain ⟨z, hz, rfl⟩ := Option.map_eq_some_iff.mp hy
      have el5 := hide_le _ _ (s5 _ _ el3)
      have hj7 : j < zs.length := (List.getElem?_eq_some_iff.mp hz).1
      refine ⟨rfl, _, rfl, _, rfl, _, rfl, _, rfl, p, l, _, zs.map .str, _, rfl, SqL.of el5, by rw [List.length_map]; omega, P5, by omega, fun ys zs' H6 d hperm s6 P6 nd6 ed6 _ => ?_⟩
      rw [List.length_map] at P6
      obtain ⟨ss, ess, hss⟩ := perm_strs hperm
      obtain ⟨s1, s2', rfl, e1', e2'⟩ := List.map_eq_append_iff.mp ess.symm
      subst e1'
      have hnd1 : s1.Nodup := (List.nodup_append.mp (hss.nodup_iff.mpr hnd)).1
      have hl1 : s1.length ≤ zs.length := by
        have := hss.length_eq
        rw [List.length_append] at this
        omega
      have hmem1 : ∀ s ∈ s1, s ∈ zs := fun s hs => hss.subset (List.mem_append_left _ hs)
      have hs6 := hide_same (p := D) s6
      have eh6 := s6 _ _ eh
      have dD : d ≠ D := fun e => by
        rw [e, eh] at nd6
        cases nd6
      have ed6' : hide D (hide p H6) d = some (.lst (s1.map .str)) := by rw [hide_ne dD]; exact ed6
      refine ⟨(show 2 ≤ sizeLine by decide), fun t nt => ?_⟩
      obtain ⟨tp, st, et⟩ := hide_new (o := .lst [.str z, .ref d]) P6.ne nt
      have P7 := P6.new (o := .lst [.str z, .ref d]) nt
      have tD : t ≠ D := fun e => by
        have := hide_le _ _ eh6
        rw [← e, nt] at this
        cases this
      generalize upd H6 t (.lst [.str z, .ref d]) = H7 at *
      have hst7 := hide_same (p := D) st
      refine ⟨hv, hide_le _ _ (st _ _ eh6), ?_, ?_⟩
      · have := congrArg List.length hfst
        rw [List.length_map, List.length_take] at this
        rw [Paired.length hhv, sizeLine_eq]
        omega
      · rw [hide_upd Dp, hide_updp]
        refine ⟨(s5.trans hs6).trans hst7, (P7.upd Dp).le (by omega), hv ++ [.ref t], rs ++ [(z, s1)], upd_same, Paired.snoc (paired_imp2 hhv fun _ _ h => (h.same hs6).same hst7) ⟨t, d, rfl, by rw [hide_ne tD]; exact et, hst7 _ _ ed6'⟩, ?_, fun r hr => ?_⟩
        · rw [List.map_append, hfst, List.take_succ, hz]
          rfl
        · rcases List.mem_append.mp hr with hr | hr
          · exact hsr r hr
          · rw [show r = (z, s1) by simpa using hr]
            exact ⟨hnd1, hl1, hmem1⟩
    · obtain ⟨s5, P5, hv, rs, eh, hhv, hfst, hsr⟩ := pj
      rw [List.length_map] at hfst P5
      rw [List.take_length] at hfst
      have lrs : rs.length = zs.length := by rw [← hfst, List.length_map]
      have s35 : Same (hide p H3) (hide p H5) := s5.trans hide_le
      rw [← h3] at s2
      have DH : hide p H D = none := s2.free (hide_none nD)
      refine q rs hv H5 D (s2.trans s35) (P5.le (by omega)) ⟨by rw [hfst]; exact hnd, by omega, by omega, fun r hr => hst _ (by rw [← hfst]; exact List.mem_map_of_mem hr), fun r hr => ?_⟩ DH eh (paired_imp2 hhv fun _ _ h => h.same hide_le)
      obtain ⟨a, b, c⟩ := hsr r hr
      exact ⟨a, by omega, fun s hs => by rw [hfst]; exact c s hs⟩
end
end K59
end L2
set_option Elab.async false
set_option linter.all false
set_option maxRecDepth 100000
set_option maxHeartbeats 4000000
namespace L2
namespace K59
open PySem PySem.Spec PyProof.Rows K1 WL LamX
section
variable {P : Program} {w : World} {K : PySem.W.Frag} {mg : Str → Option Value} {base : Heap} {f : Addr} {fd : FuncData}
abbrev ENo : XK := fun _ _ _ => False
theorem passN {X : Cx} : Passes (L2.CX X.prog X.w) X ENo := passes_call takes_none5 fun _ _ _ _ h => h.elim
/-- a row as the law hands it in: a tuple of a name and a tuple of names -/
def RowQ (K : PySem.W.Frag) (H : Hp) (v : V) (r : Str × List Str) : Prop := ∃ t l, v = .ref t ∧ H t = some (.tup [.str r.1, .ref l]) ∧ SqT K H l (r.2.map .str)
theorem RowQ.same {H H' : Hp} {v : V} {r : Str × List Str} (h : RowQ K H v r) (s : Same H H') : RowQ K H' v r := let ⟨t, l, e, a, b⟩ := h; ⟨t, l, e, s _ _ a, SqT.same b s⟩
theorem RowQ.g {H : Hp} {v : V} {r : Str × List Str} (h : RowQ K H v r) : RowG K H v r := by
  obtain ⟨t, l, rfl, a, b⟩ := h
  exact ⟨.ref l, ⟨t, rfl, .inr (SqT.of a)⟩, ⟨l, rfl, .inr b⟩⟩
theorem init_q {H : Hp} {C x dx q : Addr} {vl : List V} {rs : Rws} {Q : VK} {E : XK} (eq : H q = some (.lst vl)) (hv : Paired (RowQ K H) vl rs) (g : Good rs) (nx : H x = none) (nd : H dx = none) (mk : ∀ H', Same H H' → IsWeb K H' C x rs → Q .non H') : spInit K C [.ref x, .ref q] (upd (upd H dx (.own x)) x (.ins C dx [])) Q E := by
  have sx := same_mk nx nd (rfl : upd (upd H dx (.own x)) x (.ins C dx []) = upd (upd H dx (.own x)) x (.ins C dx []))
  refine ⟨x, dx, .ref q, rfl, upd_same, .inr ⟨vl, rs, ⟨q, rfl, .inl (SqL.of (sx _ _ eq))⟩, ?_, g, fun H' s' w => mk H' ((sx.trans s').trans hide_le) w⟩⟩
  exact Paired.imp (fun _ _ r => (r.same sx).g) hv
def spBuilt (K : PySem.W.Frag) (C : Addr) : Sp := fun vs H Q _ => ∃ (q : Addr) (vl : List V) (rs : Rws), vs = [.ref q] ∧ H q = some (.lst vl) ∧ Paired (RowL H) vl rs ∧ Good rs ∧ ∀ x H', Same H H' → IsWeb K H' C x rs → Q (.ref x) H'
/-! ### _law_built -/
abbrev nmBU : List Str := ["_law_rows", "_law_cell_here", "_law_sources_here"]
theorem sc_built : FnScope nmBU ["_law_rows"] (defScope s_built) := ⟨rfl, rfl, rfl, by decide +kernel, rfl, by decide +kernel, by decide +kernel⟩
theorem ok_built {C fi : Addr} {fdi : FuncData} (T : Bl mg) (W : Wt K mg C) (Mw : Mk K C fi) (Gi : FnOk P w K mg base (L2.CX P w) 6 fi fdi ["self", "rows"] (spInit K C)) (bi : Binds K fdi ["self", "rows"] []) (F : FnP K "_law_built" "_law_built" s_built f fd) : FnOk P w K mg base CX0 8 f fd ["_law_rows"] (spBuilt K C) := by
  refine F.ok sc_built (fun vs H Q E h => ?_) (fun cdv A outer s H vs Q E hr h => ?_)
  · obtain ⟨q, vl, rs, rfl, _⟩ := h
    rfl
  · have nd := sc_built.nd
    refine ⟨_, PSs.nox (pss_one (ps_ret (pe_make Mw Gi hr rfl W.mg bi .nil passN (pa_cons (pe_lc (own := [("_law_cell_here", 1), ("_law_sources_here", 2)]) (g := gSeq K 2 (gCons (gName 1) (gCons (gName 2) gNil))) (tt := tYes) (te := tTup (tCons (tVar 1) (tCons (tCB (rTupS K) (tCons (tVar 2) tNil)) tNil))) rfl nd (pi_list (pv 0)) (blkOk_by (N := nmBU) (sc := defScope s_built) (by decide +kernel))
      (fun _ _ _ _ _ => pg_seq rfl (pgs_cons (pg_name (i := 1) nd rfl (Or.inl rfl)) (pgs_cons (pg_name (i := 2) nd rfl (Or.inl rfl)) pgs_nil))) (fun _ _ _ _ _ => pts_nil) (fun _ _ _ _ _ => pe_tup (pa_cons (pv 1) (pa_cons (pe_callTy call_tupS rfl T.f_tuple PyProof.Rows.boot_tuple (pa_cons (pv 2) pa_nil)) pa_nil)))) pa_nil)))), ?_⟩
    obtain ⟨q, vl, rs, rfl, eq, hvl, g, k⟩ := h
    have lv := Paired.length hvl
    refine ⟨_, rfl, q, rfl, ⟨_, SqL.of eq⟩, fun D nD => ?_⟩
    refine lc_it (walk_list (xs := vl)) (fun i H' => Same H H' ∧ ∃ ol, H' D = some (.lst ol) ∧ Paired (RowQ K (hide D H')) ol (rs.take i)) ⟨same_upd nD, [], upd_same, .nil⟩ (fun i H' _ p => SqL.of (p.1 _ _ eq)) ?_ ?_
    · rintro i x H1o H1 hi ⟨s1, ol, eD, hol⟩ ⟨rfl, hx⟩
      obtain ⟨r, hri, t, l, rfl, et, el⟩ := Paired.getL hvl hx
      refine ⟨_, ⟨t, rfl, .inl (SqL.of (s1 _ _ et))⟩, rfl, _, _, rfl, _, _, rfl, rfl, rfl, ?_⟩
      refine ⟨_, rfl, _, rfl, .ref l, _, rfl, ⟨l, rfl, .inl (SqL.of (s1 _ _ el))⟩, fun H2 q2 s2 sq2 => ?_⟩
      refine ⟨(show 2 ≤ sizeLine by decide), fun u nu => ?_⟩
      have e2 := s2 _ _ eD
      have su : Same H2 (upd H2 u (.tup [.str r.1, .ref q2])) := same_upd nu
      have e3 := su _ _ e2
      have uD : u ≠ D := fun e => by rw [e, e2] at nu; cases nu
      have hl := g.ln
      refine ⟨ol, e3, ?_, same_over nD (s1.trans (s2.trans su)), _, upd_same, ?_⟩
      · rw [Paired.length hol, List.length_take, sizeLine_eq]
        omega
      · rw [hide_updp, List.take_succ, hri]
        refine Paired.snoc (Paired.imp (fun _ _ h => RowQ.same h (hide_same (s2.trans su))) hol) ⟨u, q2, rfl, ?_, SqT.same (sqt_hide sq2 e2 (fun ys z => nomatch z) fun q ys z => nomatch z) (hide_same su)⟩
        rw [hide_ne uD]
        exact upd_same
    · rintro H1 ⟨s1, ol, eD, hol⟩
      rw [lv, List.take_length] at hol
      intro x dx nx ndx ne
      exact init_q eD (Paired.imp (fun _ _ h => RowQ.same h hide_le) hol) g nx ndx fun H2 s2 w2 => ⟨rfl, k x H2 (s1.trans s2) w2⟩
end
end K59
end L2
set_option Elab.async false
set_option linter.all false
set_option maxRecDepth 100000
set_option maxHeartbeats 4000000
namespace L2
namespace K59
open PySem PySem.Spec PyProof.Rows K1 WL LamX
section
variable {P : Program} {w : World} {K : PySem.W.Frag} {mg : Str → Option Value} {base : Heap} {f : Addr} {fd : FuncData}
/-! ### _law_cells -/
def spCellsL (K : PySem.W.Frag) : Sp := fun vs H Q _ => ∃ (a : Addr) (vl : List V) (rs : Rws), vs = [.ref a] ∧ SqL K H a vl ∧ Paired (RowL H) vl rs ∧ rs.length ≤ 1000 ∧ ∀ D H', Same H H' → H D = none → H' D = some (.lst ((rs.map Prod.fst).map .str)) → Q (.ref D) H'
theorem sc_cells : FnScope ["_law_rows", "_law_cell_here", "_law_sources_here"] ["_law_rows"] (defScope s_cells) := ⟨rfl, rfl, rfl, by decide +kernel, rfl, by decide +kernel, by decide +kernel⟩
theorem ok_cells (F : FnP K "_law_cells" "_law_cells" s_cells f fd) : FnOk P w K mg base CX0 1 f fd ["_law_rows"] (spCellsL K) := by
  refine F.ok sc_cells (fun vs H Q E h => ?_) (fun cdv A outer s H vs Q E hr h => ?_)
  · obtain ⟨a, vl, rs, rfl, _⟩ := h
    rfl
  · have nd := sc_cells.nd
    refine ⟨_, PSs.nox (pss_one (ps_ret (pe_lc (own := [("_law_cell_here", 1), ("_law_sources_here", 2)]) (g := gSeq K 2 (gCons (gName 1) (gCons (gName 2) gNil))) (tt := tYes) (te := tVar 1) rfl nd (pi_list (pv 0)) (blkOk_by (N := ["_law_rows", "_law_cell_here", "_law_sources_here"]) (sc := defScope s_cells) (by decide +kernel))
      (fun _ _ _ _ _ => pg_seq rfl (pgs_cons (pg_name (i := 1) nd rfl (Or.inl rfl)) (pgs_cons (pg_name (i := 2) nd rfl (Or.inl rfl)) pgs_nil))) (fun _ _ _ _ _ => pts_nil) (fun _ _ _ _ _ => pv 1)))), ?_⟩
    obtain ⟨a, vl, rs, rfl, hs, hrow, hl, q⟩ := h
    have lv := Paired.length hrow
    refine ⟨_, rfl, a, rfl, ⟨_, hs⟩, fun D nD => ?_⟩
    refine lc_it (walk_list (xs := vl)) (fun i H' => Same H H' ∧ H' D = some (.lst (((rs.take i).map Prod.fst).map .str))) ⟨same_upd nD, upd_same⟩ (fun i H' _ p => p.1.seq hs) ?_ ?_
    · rintro i x H1 H1' hi ⟨s1, e1⟩ ⟨rfl, hx⟩
      obtain ⟨r, hri, t, l, rfl, et, el⟩ := Paired.getL hrow hx
      refine ⟨_, ⟨t, rfl, .inl (SqL.of (s1 _ _ et))⟩, rfl, _, _, rfl, _, _, rfl, rfl, rfl, _, rfl, _, e1, ?_, same_over nD s1, ?_⟩
      · rw [List.length_map, List.length_map, List.length_take, sizeLine_eq]
        omega
      · rw [List.take_succ, hri, List.map_append, List.map_append]
        exact upd_same
    · rintro H1 ⟨s1, e1⟩
      rw [lv, List.take_length] at e1
      exact q D H1 s1 nD e1
/-! ### _law_sources: the very list -/
def spSourcesL (K : PySem.W.Frag) : Sp := fun vs H Q _ => ∃ (a : Addr) (vl : List V) (rs : Rws) (r : Str × List Str), vs = [.ref a, .str r.1] ∧ SqL K H a vl ∧ Paired (RowL H) vl rs ∧ rs.length ≤ 1000 ∧ (rs.map Prod.fst).Nodup ∧ r ∈ rs ∧ ∀ l H', Same H H' → H l = some (.lst (r.2.map .str)) → Q (.ref l) H'
abbrev nmSO : List Str := ["_law_rows", "_law_cell_here", "_law_other", "_law_sources_here"]
theorem sc_sources : FnScope nmSO ["_law_rows", "_law_cell_here"] (defScope s_sources) := ⟨rfl, rfl, rfl, by decide +kernel, rfl, by decide +kernel, by decide +kernel⟩
/-! ### _law_arrows -/
def spArrowsL (K : PySem.W.Frag) : Sp := fun vs H Q _ => ∃ (a : Addr) (vl : List V) (rs : Rws), vs = [.ref a] ∧ SqL K H a vl ∧ Paired (RowL H) vl rs ∧ rs.length ≤ 8 ∧ (∀ r ∈ rs, r.2.length ≤ 8) ∧ ∀ D pl H', Same H H' → H D = none → H' D = some (.lst pl) → Paired (PairT H') pl (arr rs) → Q (.ref D) H'
abbrev nmAR : List Str := ["_law_rows", "_law_found", "_law_cell_here", "_law_sources_here", "_law_source"]
theorem sc_arrows : FnScope nmAR ["_law_rows"] (defScope s_arrows) := ⟨rfl, rfl, rfl, by decide +kernel, rfl, by decide +kernel, by decide +kernel⟩
theorem arr_len8 : ∀ {l : Rws}, (∀ r ∈ l, r.2.length ≤ 8) → (arr l).length ≤ l.length * 8
  | [], _ => Nat.zero_le _
  | r :: l, h => by
    have h1 := h r (List.mem_cons_self ..)
    have h2 := arr_len8 (l := l) fun x hx => h x (List.mem_cons_of_mem _ hx)
    show (r.2.map (fun s => (s, r.1)) ++ arr l).length ≤ (l.length + 1) * 8
    rw [List.length_append, List.length_map]
    omega
theorem paired_append {α β : Type} {R : α → β → Prop} : ∀ {l1 l2 : List α} {m1 m2 : List β}, Paired R l1 m1 → Paired R l2 m2 → Paired R (l1 ++ l2) (m1 ++ m2)
  | _, _, _, _, .nil, h => h
  | _, _, _, _, .cons h t, h2 => .cons h (paired_append t h2)
theorem PairT_same {H H' : Hp} {v : V} {p : Str × Str} (h : PairT H v p) (s : Same H H') : PairT H' v p := let ⟨q, e, a⟩ := h; ⟨q, e, s _ _ a⟩
theorem ok_arrows (F : FnP K "_law_arrows" "_law_arrows" s_arrows f fd) : FnOk P w K mg base CX0 1 f fd ["_law_rows"] (spArrowsL K) := by
  refine F.ok sc_arrows (fun vs H Q E h => ?_) (fun cdv A outer s H vs Q E hr h => ?_)
  · obtain ⟨a, vl, rs, rfl, _⟩ := h
    rfl
  · have nd := sc_arrows.nd
    refine ⟨_, PSs.nox (pss_cons (ps_set (i := 1) nd rfl (Or.inl rfl) (pe_lst pa_nil))
      (pss_cons (ps_for PassesOwn.never rfl (pi_list (pv 0)) (pg_seq rfl (pgs_cons (pg_name (i := 2) nd rfl (Or.inr rfl)) (pgs_cons (pg_name (i := 3) nd rfl (Or.inl rfl)) pgs_nil)))
        (pss_one (ps_expr (pe_bm PySem.F.plainAttrs_list PySem.F.slot_list_extend PySem.F.type_list_extend mt_extend (pv 1) (pa_cons (pe_lc (own := [("_law_source", 4)]) (g := gName 4) (tt := tYes) rfl nd (pi_list (pv 3)) (blkOk_by (N := nmAR) (sc := defScope s_arrows) (by decide +kernel))
          (fun _ _ _ _ _ => pg_name (i := 4) nd rfl (Or.inl rfl)) (fun _ _ _ _ _ => pts_nil) (fun _ _ _ _ _ => pe_tup (pa_cons (pv 4) (pa_cons (pv 2) pa_nil)))) pa_nil)))))
      (pss_one (ps_ret (pv 1))))), ?_⟩
    obtain ⟨a, vl, rs, rfl, hs, hrow, hl, h8, q⟩ := h
    have lv := Paired.length hrow
    refine ⟨(show 0 ≤ sizeLine by decide), fun c nc => ?_⟩
    refine g_nm ?_
    dsimp only
    refine t_seqF ?_
    refine ⟨_, rfl, a, rfl, ⟨_, (same_upd nc).seq hs⟩, ?_⟩
    refine for_it (walk_list (xs := vl)) (fun i σ H' => ∃ (pl : List V) (o2 o3 o4 : Option V), σ = [some (.ref a), some (.ref c), o2, o3, o4] ∧ Same H H' ∧ H' c = some (.lst pl) ∧ Paired (PairT (hide c H')) pl (arr (rs.take i)))
      ⟨[], _, _, _, rfl, same_upd nc, upd_same, .nil⟩ (fun i σ H' _ ⟨pl, _, _, _, _, s3, _⟩ => s3.seq hs) ?_ ?_
    · rintro i x σ H3o H3 hi ⟨pl, o2, o3, o4, rfl, s3, ec, hpl⟩ ⟨rfl, hx⟩
      obtain ⟨r, hri, t, l, rfl, et, el⟩ := Paired.getL hrow hx
      have el3 := s3 _ _ el
      have hr8 := h8 r (List.mem_of_getElem? hri)
      refine ⟨_, ⟨t, rfl, .inl (SqL.of (s3 _ _ et))⟩, rfl, _, _, rfl, _, _, rfl, rfl, ?_⟩
      refine ⟨_, rfl, .inl ⟨rfl, _, SqL.of ec⟩, _, rfl, l, rfl, ⟨_, SqL.of el3⟩, fun D nD => ?_⟩
      have Dc : D ≠ c := fun e => by rw [e, ec] at nD; cases nD
      refine lc_it (walk_list (xs := r.2.map .str)) (fun m H' => Same H3 H' ∧ ∃ nl, H' D = some (.lst nl) ∧ Paired (PairT (hide D H')) nl ((r.2.map fun s => (s, r.1)).take m)) ⟨same_upd nD, [], upd_same, .nil⟩ (fun m H' _ z => SqL.of (z.1 _ _ el3)) ?_ ?_
      · rintro m x H4o H4 hm ⟨s4, nl, e4, hnl⟩ ⟨rfl, hx2⟩
        rw [List.getElem?_map] at hx2
        obtain ⟨z, hz, rfl⟩ := Option.map_eq_some_iff.mp hx2
        refine ⟨rfl, _, rfl, _, rfl, (show 2 ≤ sizeLine by decide), fun u nu => ?_⟩
        have su : Same H4 (upd H4 u (.tup [.str z, .str r.1])) := same_upd nu
        have e5 := su _ _ e4
        have uD : u ≠ D := fun e => by rw [e, e4] at nu; cases nu
        refine ⟨nl, e5, ?_, same_over nD (s4.trans su), _, upd_same, ?_⟩
        · rw [Paired.length hnl, List.length_take, List.length_map, sizeLine_eq]
          omega
        · rw [hide_updp, List.take_succ, List.getElem?_map, hz]
          refine Paired.snoc (Paired.imp (fun _ _ h => PairT_same h (hide_same su)) hnl) ⟨u, rfl, ?_⟩
          rw [hide_ne uD]
          exact upd_same
      · rintro H4 ⟨s4, nl, e4, hnl⟩
        have ef : (r.2.map fun s => (s, r.1)).take ((r.2.map V.str).length) = r.2.map fun s => (s, r.1) := List.take_of_length_le (by simp)
        rw [ef] at hnl
        have ec4 := s4 _ _ ec
        refine ⟨c, D, pl, nl, rfl, rfl, ec4, e4, ?_, pl ++ nl, _, _, _, rfl, same_over nc (s3.trans s4), upd_same, ?_⟩
        · have l1 := arr_len8 (l := rs.take i) fun x hx => h8 x (List.mem_of_mem_take hx)
          rw [List.length_take] at l1
          rw [Paired.length hpl, Paired.length hnl, List.length_map, sizeLine_eq]
          have : min i rs.length * 8 ≤ 8 * 8 := Nat.mul_le_mul_right _ (by omega)
          omega
        · rw [hide_updp, arr_take hri]
          refine paired_append (Paired.imp (fun _ _ h => PairT_same h (hide_same s4)) hpl) (Paired.imp (fun _ _ h => ?_) hnl)
          obtain ⟨q1, e, h2⟩ := PairT_same h hide_le
          refine ⟨q1, e, ?_⟩
          rw [hide_ne (fun z => by rw [z, ec4] at h2; cases h2)]
          exact h2
    · rintro σ H3 ⟨pl, o2, o3, o4, rfl, s3, ec, hpl⟩
      rw [lv, List.take_length] at hpl
      exact ⟨_, rfl, q c pl H3 s3 nc ec (Paired.imp (fun _ _ h => PairT_same h hide_le) hpl)⟩
end
end K59
end L2
set_option Elab.async false
set_option linter.all false
set_option maxRecDepth 100000
set_option maxHeartbeats 4000000
namespace L2
namespace K59
open PySem PySem.Spec PyProof.Rows K1 WL LamX
section
variable {P : Program} {w : World} {K : PySem.W.Frag} {mg : Str → Option Value} {base : Heap} {f : Addr} {fd : FuncData}
/-! ### is_act -/
/-- whether a value is a list of m things that begins with z -/
def ActIs (K : PySem.W.Frag) (H : Hp) (v : V) (z : Str) (m : Nat) (b : Bool) : Prop := (∃ t, TyX K H v t ∧ PySem.W.kitAny K t LT = some false ∧ b = false) ∨
  ∃ xs, Seq K H v xs ∧ ((xs.length ≠ m ∧ b = false) ∨ (xs.length = m ∧ ∃ x d, xs[0]? = some x ∧ Dp K H x d ∧ SeqAt.shaped d = true ∧ b = PyData.eqv d (.str z)))
def spIsAct (K : PySem.W.Frag) : Sp := fun vs H Q _ => ∃ v z m b, vs = [v, .str z, .int (m : Nat)] ∧ ActIs K H v z m b ∧ SeqAt.shaped (.str z) = true ∧ ∀ H', Same H H' → Q (.bl b) H'
theorem sc_isact : FnScope ["thing", "word", "many"] ["thing", "word", "many"] (defScope s_is_act) := ⟨rfl, rfl, rfl, by decide +kernel, rfl, by decide +kernel, by decide +kernel⟩
theorem ok_isact (T : Bl mg) (Cl : Cal P w K mg base "is_list" ["thing"] 1 (spIsList K)) (F : FnP K "is_act" "is_act" s_is_act f fd) : FnOk P w K mg base CX0 2 f fd ["thing", "word", "many"] (spIsAct K) := by
  obtain ⟨fl, fdl, Gl, gl, kl, bl⟩ := Cl.ex
  refine F.ok sc_isact (fun vs H Q E h => ?_) (fun cdv A outer s H vs Q E hr h => ?_)
  · obtain ⟨v, z, m, b, rfl, _⟩ := h
    rfl
  · have hu := hr.units
    refine ⟨_, PSs.nox (pss_one (ps_ret (pe_and (pe_call Gl hr rfl gl kl bl .nil pass0 (pa_cons (pv 0) pa_nil)) (pe_and (pe_cmpR op_eq (pe_callB call_len rfl T.f_len boot_len (pa_cons (pv 0) pa_nil)) (pv 2) (nomark _)) (pe_one (pe_cmpR (op_eqD hu) (pe_ix ix_seq (pv 0) pe_int fun _ _ => rfl) (pv 1) (nomark _))))))), ?_⟩
    obtain ⟨v, z, m, b, rfl, hv, sz, q⟩ := h
    rcases hv with ⟨t, ty, kt, rfl⟩ | ⟨xs, hs, hv⟩
    · exact ⟨_, rfl, v, t, false, rfl, ty, kt, fun H' s' => ⟨false, rfl, q H' s'⟩⟩
    · obtain ⟨t, ty, kt⟩ := hs.kit
      refine ⟨_, rfl, v, t, true, rfl, ty, kt, fun H1 s1 => ⟨true, rfl, iteP rfl ?_⟩⟩
      refine ⟨_, rfl, v, xs.length, rfl, (hs.same s1).len, _, rfl, rfl, ?_⟩
      rcases hv with ⟨hn, rfl⟩ | ⟨hm, x, d, hx, hd, sd, rfl⟩
      · have : decide (V.int (xs.length : Nat) = V.int (m : Nat)) = false := decide_eq_false fun e => hn (by
          have := V.int.inj e
          omega)
        rw [this]
        exact ⟨false, rfl, q H1 s1⟩
      · have : decide (V.int (xs.length : Nat) = V.int (m : Nat)) = true := decide_eq_true (by rw [hm])
        rw [this]
        refine ⟨true, rfl, iteP rfl ?_⟩
        refine ⟨_, rfl, (hs.same s1).ix (x := x) (atI_nat (j := 0) hx) ⟨_, rfl, d, .str z, WL.dp_same s1 hd, .str z, sd, sz, q H1 s1⟩⟩
/-! ### race_arrows -/
def raceA (rs : Rws) (cs : List Str) : List (Str × Str) := (arr rs).filter fun a => decide (a.2 ∈ cs)
def spRA (K : PySem.W.Frag) (C : Addr) : Sp := fun vs H Q _ => ∃ (p : Addr) (cv : V) (rs : Rws) (cs : List Str), vs = [.ref p, cv] ∧ IsWeb K H C p rs ∧ Good rs ∧ Seq K H cv (cs.map .str) ∧ ∀ D al H', Same H H' → H D = none → H' D = some (.lst al) → Paired (PairT H') al (raceA rs cs) → Q (.ref D) H'
theorem sc_ra : FnScope ["web", "cells", "arrow"] ["web", "cells"] (defScope s_race_arrows) := ⟨rfl, rfl, rfl, by decide +kernel, rfl, by decide +kernel, by decide +kernel⟩
theorem filt_take {α : Type} {l : List α} {i : Nat} {x : α} {p : α → Bool} (h : l[i]? = some x) : (l.take (i + 1)).filter p = (l.take i).filter p ++ if p x = true then [x] else [] := by
  rw [List.take_succ, h, List.filter_append]
  congr 1
  show List.filter p [x] = _
  rw [List.filter_cons, List.filter_nil]
theorem ok_ra {C : Addr} (T : Bl mg) (W : Wt K mg C) (F : FnP K "race_arrows" "race_arrows" s_race_arrows f fd) : FnOk P w K mg base CX0 1 f fd ["web", "cells"] (spRA K C) := by
  refine F.ok sc_ra (fun vs H Q E h => ?_) (fun cdv A outer s H vs Q E hr h => ?_)
  · obtain ⟨p, cv, rs, cs, rfl, _⟩ := h
    rfl
  · have nd := sc_ra.nd
    refine ⟨_, PSs.nox (pss_one (ps_ret (pe_lc (own := [("arrow", 2)]) (g := gName 2) (tt := tTest (tOp (rIn K false) (tOp (rIx K) (tVar 2) (tC (.int 1))) (tVar 1))) (te := tVar 2) rfl nd (pi_tup (pe_fld (pv 0) rfl)) (blkOk_by (N := ["web", "cells", "arrow"]) (sc := defScope s_race_arrows) (by decide +kernel))
      (fun _ _ _ _ _ => pg_name (i := 2) nd rfl (Or.inl rfl)) (fun _ _ _ _ _ => pts_one (pt_cmpR op_in_seq (pe_ix ix_seq (pv 2) pe_int fun _ _ => rfl) (pv 1) rfl)) (fun _ _ _ _ _ => pv 2)))), ?_⟩
    obtain ⟨p, cv, rs, cs, rfl, ⟨dx, c, s', a, t, ks, kt, av, W1⟩, g, ⟨ca, rfl, hcs⟩, q⟩ := h
    have la : av.length ≤ 900 * 900 := by
      have l1 := Paired.length W1.da
      have l2 := arr_len (l := rs) fun r hr => (g.sr r hr).1
      have l3 : rs.length * 900 ≤ 900 * 900 := Nat.mul_le_mul_right _ g.ln
      omega
    refine ⟨_, rfl, p, C, dx, _, _, rfl, W1.ob, W.cl, W.na, rfl, a, rfl, ⟨_, SqT.of W1.ha⟩, fun D nD => ?_⟩
    refine lc_it (walk_tup (xs := av)) (fun i H' => Same H H' ∧ ∃ al, H' D = some (.lst al) ∧ Paired (PairT (hide D H')) al (((arr rs).take i).filter fun a => decide (a.2 ∈ cs))) ⟨same_upd nD, [], upd_same, .nil⟩ (fun i H' _ p => SqT.of (p.1 _ _ W1.ha)) ?_ ?_
    · rintro i x H1o H1 hi ⟨s1, al, eD, hal⟩ ⟨rfl, hx⟩
      obtain ⟨b, hb, q1, rfl, e1⟩ := Paired.getL W1.da hx
      have e1' := s1 _ _ e1
      have hcs1 : SqL K H1 ca (cs.map .str) ∨ SqT K H1 ca (cs.map .str) := by
        rcases hcs with h | h
        · exact .inl (s1.seq h)
        · exact .inr (SqT.same h s1)
      have ft := filt_take (p := fun a : Str × Str => decide (a.2 ∈ cs)) hb
      refine ⟨rfl, _, rfl, Seq.ix (x := .str b.2) ⟨q1, rfl, .inr (SqT.of e1')⟩ rfl ⟨_, rfl, ca, _, rfl, hcs1, rfl, flat_strs' _, _, rfl, ?_⟩⟩
      by_cases m : b.2 ∈ cs
      · have eb : inV (.str b.2) (cs.map V.str) = true := by rw [in_strs, decide_eq_true m]
        refine iteP eb ⟨_, rfl, al, eD, ?_, same_over nD s1, _, upd_same, ?_⟩
        · have l1 := Paired.length hal
          have l2 := List.length_filter_le (fun a : Str × Str => decide (a.2 ∈ cs)) ((arr rs).take i)
          rw [List.length_take] at l2
          rw [sizeLine_eq]
          have := Paired.length W1.da
          omega
        · rw [hide_updp, ft, if_pos (decide_eq_true m)]
          refine Paired.snoc hal ⟨q1, rfl, ?_⟩
          rw [hide_ne (fun z => by rw [z, eD] at e1'; cases e1')]
          exact e1'
      · have eb : inV (.str b.2) (cs.map V.str) = false := by rw [in_strs, decide_eq_false m]
        refine iteN eb ⟨s1, al, eD, ?_⟩
        rw [ft, if_neg (by rw [decide_eq_false m]; decide), List.append_nil]
        exact hal
    · rintro H1 ⟨s1, al, eD, hal⟩
      rw [Paired.length W1.da, List.take_length] at hal
      exact q D al H1 s1 nD eD (Paired.imp (fun _ _ h => PairT_same h hide_le) hal)
end
end K59
end L2
set_option Elab.async false
set_option linter.all false
set_option maxRecDepth 100000
set_option maxHeartbeats 4000000
namespace L2
namespace WL
open PySem PySem.Spec PyProof.Rows K1 LamX
/-! ### X(), X an own error class without own __init__ -/
theorem pmk_own0 {X : Cx} {C : Addr} {bmB : List Value} {B newId initId : String} {x : Str} {p pos : Pos} (F : ExcBaseFacts B newId initId bmB) (q : PySem.W.excIn X.K C bmB newId = true) (gC : X.mg x = some (.ref C)) (kC : PySem.W.keepIn X.K (.ref C) = true) (r : Raises X (.ref C)) (hg : Gl X x)
    (hdb : (x == ("__debug__" : Str)) = false := by decide) : PMk X (.Call (.Name x p) [] [] pos) (fun _ H Q => Q (.ref C) none H) := by
  intro pins s σ H Q I h
  refine wpAny_Call_Name_kw (ld_glob I hg gC (PySem.W.callWith_K0 I.kIn kC ?_) hdb)
  obtain ⟨bm, N, nm, qn, bs, hdct, sn, sub, ab, col, dd, k0, k1, k2, k3, k5, mN, hC, hN, hni, T⟩ := exc_obj I.kIn q
  show wpAny _ _ (call (.ref C) []) _ _ _
  refine wpAny_call_exc_subT F T hC hN hni (fun h' e hm => ?_) (by show 0 ≤ sizeLine; exact Nat.zero_le _)
  exact mk_of I hm r h (I.hok.gone hm.new)
/-- what is known of such a class -/
structure E0c (K : PySem.W.Frag) (mg : Str → Option Value) (x : Str) : Prop where
  g : mg x = some (.ref (He.ga K x))
  xi : PySem.W.excIn K (He.ga K x) He.veBase "ValueError.__new__" = true
  k : PySem.W.keepIn K (.ref (He.ga K x)) = true
  s : PySem.W.subIn K (.ref (He.ga K x)) (.type "BaseException") = some true
  t : PySem.W.typeIn K (.ref (He.ga K x)) = some (.type "type")
/-! ### whole numbers that are no truths -/
def IntV (K : PySem.W.Frag) (H : Hp) (v : V) (o : Option Int) : Prop := (∃ i, v = .int i ∧ o = some i) ∨ ∃ t b1 b2, TyX K H v t ∧ PySem.W.kitOne K t (.type "int") = some b1 ∧ PySem.W.kitOne K t (.type "bool") = some b2 ∧ (b1 && !b2) = false ∧ o = none
theorem IntV.same {K : PySem.W.Frag} {H H' : Hp} {v : V} {o : Option Int} (h : IntV K H v o) (s : Same H H') : IntV K H' v o := by
  rcases h with h | ⟨t, b1, b2, h1, h2⟩
  · exact .inl h
  · exact .inr ⟨t, b1, b2, TyX.same h1 s, h2⟩
def isI : V → Option Int
  | .int i => some i
  | _ => none
theorem intV_flat {K : PySem.W.Frag} {H : Hp} {v : V} (h : flatV v = true) : IntV K H v (isI v) := by
  cases v with
  | int i => exact .inl ⟨i, rfl, rfl⟩
  | non => exact .inr ⟨_, false, false, .base .non, kit_ty (by decide +kernel), kit_ty (by decide +kernel), rfl, rfl⟩
  | bl b => exact .inr ⟨_, true, true, .base (.bl b), kit_ty (by decide +kernel), kit_ty (by decide +kernel), rfl, rfl⟩
  | str z => exact .inr ⟨_, false, false, .base (.str z), kit_ty (by decide +kernel), kit_ty (by decide +kernel), rfl, rfl⟩
  | _ => cases h
theorem intV_tup {K : PySem.W.Frag} {H : Hp} {a : Addr} {xs : List V} (h : H a = some (.tup xs)) : IntV K H (.ref a) none := .inr ⟨_, false, false, .base (.tup h), kit_ty (by decide +kernel), kit_ty (by decide +kernel), rfl, rfl⟩
def spIsInt (K : PySem.W.Frag) : Sp := fun vs H Q _ => ∃ v o, vs = [v] ∧ IntV K H v o ∧ Q (.bl o.isSome) H
def cntB (o : Option Int) : Bool := match o with
  | some i => decide (0 ≤ i)
  | none => false
def spIsCount (K : PySem.W.Frag) : Sp := fun vs H Q _ => ∃ v o, vs = [v] ∧ IntV K H v o ∧ Q (.bl (cntB o)) H
/-! ### arrows of pieces -/
abbrev A3 : Type := Str × Int × Str
def ArIs (K : PySem.W.Frag) (H : Hp) (cs : List Str) (v : V) (b : Bool) : Prop := (∃ t, TyX K H v t ∧ PySem.W.kitAny K t LT = some false ∧ b = false) ∨
  ∃ xs, Seq K H v xs ∧ ((xs.length ≠ 3 ∧ b = false) ∨ ∃ x y z o, xs = [x, y, z] ∧ IntV K H y o ∧ (o = none → b = false) ∧ ∀ i, o = some i → flatV x = true ∧ flatV z = true ∧ b = (inV x (cs.map .str) && (inV z (cs.map .str) && (decide (-1 ≤ i) && decide (i ≤ 1)))))
theorem ArIs.same {K : PySem.W.Frag} {H H' : Hp} {cs : List Str} {v : V} {b : Bool} (h : ArIs K H cs v b) (s : Same H H') : ArIs K H' cs v b := by
  rcases h with ⟨t, h1, h2⟩ | ⟨xs, h1, h⟩
  · exact .inl ⟨t, TyX.same h1 s, h2⟩
  · refine .inr ⟨xs, h1.same s, ?_⟩
    rcases h with h | ⟨x, y, z, o, e, h2, h3⟩
    · exact .inl h
    · exact .inr ⟨x, y, z, o, e, h2.same s, h3⟩
def v3 (a : A3) : List V := [.str a.1, .int a.2.1, .str a.2.2]
def d3 (a : A3) : PyData := .tuple [.str a.1, .int a.2.1, .str a.2.2]
def ArD (K : PySem.W.Frag) (H : Hp) (cs : List Str) (d : V × Bool × A3) : Prop := ArIs K H cs d.1 d.2.1 ∧ (d.2.1 = true → Seq K H d.1 (v3 d.2.2))
theorem ArD.same {K : PySem.W.Frag} {H H' : Hp} {cs : List Str} {d : V × Bool × A3} (h : ArD K H cs d) (s : Same H H') : ArD K H' cs d := ⟨h.1.same s, fun e => (h.2 e).same s⟩
def spPA (K : PySem.W.Frag) : Sp := fun vs H Q _ => ∃ c v cs b, vs = [c, v] ∧ Seq K H c ((cs : List Str).map .str) ∧ ArIs K H cs v b ∧ ∀ H', Same H H' → Q (.bl b) H'
/-- the first wrong one: by looks -/
def firstG {α : Type} [DecidableEq α] : List (Bool × α) → List α → Nat → Option Nat
  | [], _, _ => none
  | (r, z) :: l, seen, i => if r = false ∨ z ∈ seen then some i else firstG l (seen ++ [z]) (i + 1)
def spFA (K : PySem.W.Frag) : Sp := fun vs H Q _ => ∃ c v cs, vs = [c, v] ∧ Seq K H c ((cs : List Str).map .str) ∧ ((∃ t, TyX K H v t ∧ PySem.W.kitAny K t LT = some false ∧ ∀ H', Same H H' → Q (.int 0) H') ∨
  ∃ ds : List (V × Bool × A3), Seq K H v (ds.map Prod.fst) ∧ ds.length ≤ 500 ∧ (∀ d ∈ ds, ArD K H cs d ∧ (d.2.1 = true → sOk [d.2.2.1, d.2.2.2.2])) ∧ ∀ H', Same H H' → Q (optV (firstG (ds.map Prod.snd) [] 0)) H')
theorem eqv_d3 (a b : A3) : PyData.eqv (d3 a) (d3 b) = decide (a = b) := by
  show ((a.1 == b.1) && ((a.2.1 == b.2.1) && ((a.2.2 == b.2.2) && true))) = _
  rw [Bool.and_true, Bool.eq_iff_iff]
  simp only [Bool.and_eq_true, beq_iff_eq, decide_eq_true_iff, Prod.ext_iff]
theorem shape_d3 {a : A3} (h : sOk [a.1, a.2.2]) : PyData.canLay0 (d3 a) = true := by
  have l1 : (PyData.canLay0 (.str a.1) && (PyData.canLay0 (.str a.2.2) && true)) = true := lay_strs h
  rw [Bool.and_true] at l1
  obtain ⟨h1, h2⟩ := Bool.and_eq_true_iff.mp l1
  show (PyData.canLay0 (.str a.1) && (PyData.canLay0 (.int a.2.1) && (PyData.canLay0 (.str a.2.2) && true))) = true
  rw [h1, h2]
  rfl
theorem shape_d3s : ∀ {as : List A3}, (∀ a ∈ as, sOk [a.1, a.2.2]) → PyData.canLayAll0 (as.map d3) = true ∧ PyData.depthAll (as.map d3) ≤ 1
  | [], _ => ⟨rfl, Nat.zero_le _⟩
  | a :: as, h => by
    obtain ⟨h1, h2⟩ := shape_d3s fun x hx => h x (List.mem_cons_of_mem _ hx)
    constructor
    · show (PyData.canLay0 (d3 a) && PyData.canLayAll0 (as.map d3)) = true
      rw [shape_d3 (h a (List.mem_cons_self ..)), h1]
      rfl
    · show max 1 (PyData.depthAll (as.map d3)) ≤ 1
      omega
theorem shaped_d3 {a : A3} (h : sOk [a.1, a.2.2]) : SeqAt.shaped (d3 a) = true := by
  unfold SeqAt.shaped
  exact Bool.and_eq_true_iff.mpr ⟨shape_d3 h, rfl⟩
theorem shaped_l3 {as : List A3} (h : ∀ a ∈ as, sOk [a.1, a.2.2]) : SeqAt.shaped (.list (as.map d3)) = true := by
  obtain ⟨h1, h2⟩ := shape_d3s h
  unfold SeqAt.shaped
  refine Bool.and_eq_true_iff.mpr ⟨h1, decide_eq_true ?_⟩
  show PyData.depthAll (as.map d3) + 1 ≤ 64
  omega
theorem dp_v3 {K : PySem.W.Frag} {H : Hp} {q : Addr} {a : A3} (h : SqT K H q (v3 a)) : Dp K H (.ref q) (d3 a) := .tup h (.cons (.str _) (.cons (.int _) (.cons (.str _) .nil)))
theorem any_d3 (a : A3) (as : List A3) : ((as.map d3).any fun z => PyData.eqv z (d3 a)) = decide (a ∈ as) := by
  rw [List.any_map, Bool.eq_iff_iff, List.any_eq_true, decide_eq_true_iff]
  constructor
  · rintro ⟨b, hb, e⟩
    have e' : PyData.eqv (d3 b) (d3 a) = true := e
    rw [eqv_d3] at e'
    rw [← of_decide_eq_true e']
    exact hb
  · intro h
    refine ⟨a, h, ?_⟩
    show PyData.eqv (d3 a) (d3 a) = true
    rw [eqv_d3]
    exact decide_eq_true rfl
/-- a triple at an address -/
def Trip (K : PySem.W.Frag) (H : Hp) (v : V) (a : A3) : Prop := ∃ q, v = .ref q ∧ SqT K H q (v3 a)
theorem Trip.same {K : PySem.W.Frag} {H H' : Hp} {v : V} {a : A3} (h : Trip K H v a) (s : Same H H') : Trip K H' v a := let ⟨q, e, x⟩ := h; ⟨q, e, SqT.same x s⟩
theorem trips_dp {K : PySem.W.Frag} {H : Hp} : ∀ {vs : List V} {as : List A3}, Paired (Trip K H) vs as → DpAll K H vs (as.map d3)
  | _, _, .nil => .nil
  | _, _, .cons ⟨q, e, h⟩ t => by
    subst e
    exact .cons (dp_v3 h) (trips_dp t)
end WL
end L2
set_option Elab.async false
set_option linter.all false
set_option maxRecDepth 100000
set_option maxHeartbeats 4000000
namespace L2
namespace WL
open PySem PySem.Spec PyProof.Rows K1 LamX
/-! ### pieces in a row -/
def ltr (k : Nat) : Str := ⟨#[97 + k]⟩
theorem cps_app (a b : Str) : (a ++ b).cps.toList = a.cps.toList ++ b.cps.toList := by
  show (a.cps ++ b.cps).toList = _
  exact Array.toList_append
theorem len_cps (z : Str) : z.length = z.cps.toList.length := by simp [Str.length]
theorem app_len (c : Str) (k : Nat) : (c ++ ltr k).length = c.length + 1 := by
  rw [len_cps, len_cps, cps_app, List.length_append]
  rfl
theorem str_ext {a b : Str} (h : a.cps.toList = b.cps.toList) : a = b := by
  cases a
  cases b
  congr 1
  exact Array.toList_inj.mp h
theorem app_inj {c c' : Str} {k k' : Nat} (h : c ++ ltr k = c' ++ ltr k') : c = c' ∧ k = k' := by
  have e : c.cps.toList ++ [97 + k] = c'.cps.toList ++ [97 + k'] := by
    have := congrArg (fun z : Str => z.cps.toList) h
    simp only [cps_app] at this
    exact this
  obtain ⟨e1, e2⟩ := List.append_inj' e rfl
  exact ⟨str_ext e1, by have := (List.cons.inj e2).1; omega⟩
theorem app_nm {c : Str} {k : Nat} (h : isNm c = true) (h7 : c.length ≤ 7) (hk : k < 26) : isNm (c ++ ltr k) = true := by
  unfold isNm at h ⊢
  obtain ⟨h1, h2⟩ := Bool.and_eq_true_iff.mp h
  obtain ⟨_, h3⟩ := Bool.and_eq_true_iff.mp h2
  rw [app_len, decide_eq_true (by omega), decide_eq_true (by omega), cps_app, List.all_append, h3]
  show (true && (true && (true && (okc (97 + k) && true)))) = true
  have : okc (97 + k) = true := by
    unfold okc
    rw [decide_eq_true (by omega), decide_eq_true (by omega)]
    rfl
  rw [this]
  rfl
def fnd (as : List A3) (c : Str) (k : Nat) : List (Str × Int) := (as.filter fun a => decide (a.2.2 = c)).map fun a => (a.1, (k : Int) + a.2.1)
def srcsOf (as : List A3) (c : Str) (k n : Nat) : List Str := ((fnd as c k).filter fun e => decide (0 ≤ e.2) && decide (e.2 < (n : Int))).map fun e => e.1 ++ ltr e.2.toNat
def rowsOf (cs : List Str) (as : List A3) (n : Nat) : Rws := (List.range n).flatMap fun k => cs.map fun c => (c ++ ltr k, srcsOf as c k n)
structure PcOk (cs : List Str) (as : List A3) : Prop where
  nd : cs.Nodup
  ne : cs ≠ []
  nm : ∀ c ∈ cs, isNm c = true ∧ c.length ≤ 7
  lc : cs.length ≤ 30
  na : as.Nodup
  la : as.length ≤ 500
  ar : ∀ a ∈ as, a.1 ∈ cs ∧ a.2.2 ∈ cs ∧ -1 ≤ a.2.1 ∧ a.2.1 ≤ 1
theorem rows_fst (cs : List Str) (as : List A3) (n : Nat) : (rowsOf cs as n).map Prod.fst = (List.range n).flatMap fun k => cs.map fun c => c ++ ltr k := by
  unfold rowsOf
  rw [List.map_flatMap]
  congr 1
  funext k
  rw [List.map_map]
  rfl
theorem fm_len {α β : Type} (g : Nat → α → β) (cs : List α) : ∀ n, ((List.range n).flatMap fun k => cs.map (g k)).length = n * cs.length := fun n => by
  induction n with
  | zero => simp
  | succ n ih =>
    rw [List.range_succ, List.flatMap_append, List.length_append, ih]
    simp [Nat.succ_mul]
theorem rows_len (cs : List Str) (as : List A3) (n : Nat) : (rowsOf cs as n).length = n * cs.length := fm_len _ cs n
theorem rows_good {cs : List Str} {as : List A3} {n : Nat} (h : PcOk cs as) (h1 : 1 ≤ n) (h26 : n ≤ 26) : Good (rowsOf cs as n) := by
  have lc := h.lc
  have lp : 0 < cs.length := List.length_pos_iff.mpr h.ne
  have hmem : ∀ {c : Str} {k : Nat}, c ∈ cs → k < n → c ++ ltr k ∈ (rowsOf cs as n).map Prod.fst := fun {c k} hc hk => by
    rw [rows_fst]
    exact List.mem_flatMap.mpr ⟨k, List.mem_range.mpr hk, List.mem_map.mpr ⟨c, hc, rfl⟩⟩
  refine ⟨?_, ?_, ?_, fun r hr => ?_, fun r hr => ?_⟩
  · rw [rows_fst]
    refine List.pairwise_flatMap.mpr ⟨fun k _ => List.pairwise_map.mpr (List.Pairwise.imp (fun hab e => hab (app_inj e).1) h.nd), ?_⟩
    refine List.Pairwise.imp (fun hab x hx y hy e => ?_) List.nodup_range
    obtain ⟨c, _, rfl⟩ := List.mem_map.mp hx
    obtain ⟨c', _, rfl⟩ := List.mem_map.mp hy
    exact hab (app_inj e).2
  · rw [rows_len]
    exact Nat.mul_pos h1 lp
  · rw [rows_len]
    exact Nat.le_trans (Nat.mul_le_mul h26 lc) (by decide)
  · obtain ⟨k, hk, hr2⟩ := List.mem_flatMap.mp hr
    obtain ⟨c, hc, rfl⟩ := List.mem_map.mp hr2
    have hk' := List.mem_range.mp hk
    refine ⟨?_, ?_, fun s hs => ?_⟩
    · show (srcsOf as c k n).length ≤ 900
      unfold srcsOf fnd
      rw [List.length_map]
      refine Nat.le_trans (List.length_filter_le ..) ?_
      rw [List.length_map]
      exact Nat.le_trans (List.length_filter_le ..) (Nat.le_trans h.la (by decide))
    · show (srcsOf as c k n).Nodup
      unfold srcsOf
      have nf : (fnd as c k).Nodup := by
        unfold fnd
        refine List.pairwise_map.mpr (List.Pairwise.imp_of_mem (fun {a b} ha hb (hab : a ≠ b) e => hab ?_) (h.na.filter _))
        have ta := of_decide_eq_true (List.mem_filter.mp ha).2
        have tb := of_decide_eq_true (List.mem_filter.mp hb).2
        have e1 : a.1 = b.1 := (Prod.mk.inj e).1
        have e2 : (k : Int) + a.2.1 = (k : Int) + b.2.1 := (Prod.mk.inj e).2
        exact (fun {x y : A3} (h1 : x.1 = y.1) (h2 : x.2.1 = y.2.1) (h3 : x.2.2 = y.2.2) => (Prod.ext h1 (Prod.ext h2 h3) : x = y)) e1 (by omega) (ta.trans tb.symm)
      refine List.pairwise_map.mpr (List.Pairwise.imp_of_mem (fun {a b} ha hb (hab : a ≠ b) e => hab ?_) (nf.filter _))
      have pa := (Bool.and_eq_true_iff.mp (List.mem_filter.mp ha).2).1
      have pb := (Bool.and_eq_true_iff.mp (List.mem_filter.mp hb).2).1
      have pa' : 0 ≤ a.2 := of_decide_eq_true pa
      have pb' : 0 ≤ b.2 := of_decide_eq_true pb
      obtain ⟨e1, e2⟩ := app_inj e
      exact Prod.ext e1 (by omega)
    · obtain ⟨e, he, rfl⟩ := List.mem_map.mp (show s ∈ srcsOf as c k n from hs)
      obtain ⟨he1, he2⟩ := List.mem_filter.mp he
      obtain ⟨a, ha, rfl⟩ := List.mem_map.mp he1
      obtain ⟨b1, b2⟩ := Bool.and_eq_true_iff.mp he2
      have b1' := of_decide_eq_true b1
      have b2' := of_decide_eq_true b2
      exact hmem (h.ar a (List.mem_filter.mp ha).1).1 (by omega)
  · obtain ⟨k, hk, hr2⟩ := List.mem_flatMap.mp hr
    obtain ⟨c, hc, rfl⟩ := List.mem_map.mp hr2
    have hk' := List.mem_range.mp hk
    exact app_nm (h.nm c hc).1 (h.nm c hc).2 (by omega)
/-! ### what a piece is in the heap -/
def pFld (c a : Addr) : List (Str × V) := [("cells", .ref c), ("arrows", .ref a)]
structure PcAt (K : PySem.W.Frag) (H : Hp) (C p : Addr) (cs : List Str) (as : List A3) (dx c a : Addr) (av : List V) : Prop where
  ob : H p = some (.ins C dx (pFld c a))
  hc : SqT K H c (cs.map .str)
  ha : SqT K H a av
  da : Paired (Trip K H) av as
theorem PcAt.same {K : PySem.W.Frag} {H H' : Hp} {C p : Addr} {cs : List Str} {as : List A3} {dx c a : Addr} {av : List V} (h : PcAt K H C p cs as dx c a av) (s : Same H H') : PcAt K H' C p cs as dx c a av :=
  ⟨s _ _ h.ob, SqT.same h.hc s, SqT.same h.ha s, Paired.imp (fun _ _ x => x.same s) h.da⟩
def IsPc (K : PySem.W.Frag) (H : Hp) (C p : Addr) (cs : List Str) (as : List A3) : Prop := ∃ dx c a av, PcAt K H C p cs as dx c a av
theorem IsPc.same {K : PySem.W.Frag} {H H' : Hp} {C p : Addr} {cs : List Str} {as : List A3} (h : IsPc K H C p cs as) (s : Same H H') : IsPc K H' C p cs as := let ⟨dx, c, a, av, x⟩ := h; ⟨dx, c, a, av, x.same s⟩
/-- what the head tells of the class Piece -/
structure Pt (K : PySem.W.Frag) (mg : Str → Option Value) (C : Addr) : Prop where
  cl : Cls K C
  nc : NoAttr K C "cells"
  na : NoAttr K C "arrows"
  mg : mg "Piece" = some (.ref C)
def Bz (H : Hp) (E : XK) (C : Addr) : Prop := ∀ H', Same H H' → E (.ref C) none H'
def spPiece (K : PySem.W.Frag) (C : Addr) : Sp := fun vs H Q E => ∃ (p dx : Addr) (cv av : V), vs = [.ref p, cv, av] ∧ H p = some (.ins C dx []) ∧ ((NLis K H cv false ∧ Bz H E (He.ga K "BadPiece")) ∨
  ∃ cs : List Str, NLis K H cv true ∧ Seq K H cv (cs.map .str) ∧ cs.length ≤ 900 ∧ (∀ c ∈ cs, c.length ≤ 1000) ∧ ((cs = [] ∧ Bz H E (He.ga K "BadPiece")) ∨ (cs ≠ [] ∧ (cs.all fun c => decide (c.length ≤ 7)) = false ∧ Bz H E (He.ga K "BadPiece")) ∨
    (cs ≠ [] ∧ (cs.all fun c => decide (c.length ≤ 7)) = true ∧ ((∃ t, TyX K H av t ∧ PySem.W.kitAny K t LT = some false ∧ Rz H E (He.ga K "BadArrow") "index" (.int 0)) ∨
      ∃ ds : List (V × Bool × A3), Seq K H av (ds.map Prod.fst) ∧ ds.length ≤ 500 ∧ (∀ d ∈ ds, ArD K H cs d ∧ (d.2.1 = true → sOk [d.2.2.1, d.2.2.2.2])) ∧ ((∃ i, firstG (ds.map Prod.snd) [] 0 = some i ∧ Rz H E (He.ga K "BadArrow") "index" (.int (i : Nat))) ∨
        (firstG (ds.map Prod.snd) [] 0 = none ∧ (∀ d ∈ ds, d.2.1 = true) ∧ ∀ H', Same (hide p H) (hide p H') → IsPc K H' C p cs (ds.map fun d => d.2.2) → Q .non H'))))))
/-- comprehensions over either, any elements -/
theorem lc_seqI {K : PySem.W.Frag} {v : V} {xs : List V} {g : TG} {tt : TT} {te tl : TE} {vs : List Nat} {σ : St} {H0 H : Hp} {Q : VK} (hq : Seq K H0 v xs) (s0 : Same H0 H) (he : ∀ Q : VK, Q v H → tl σ H Q) (Pv : Addr → Nat → Hp → Prop) (h0 : ∀ D, H D = none → Pv D 0 (upd H D (.lst [])))
    (hl : ∀ D i H', Pv D i H' → Same H0 H') (hs : ∀ D i x H', H D = none → xs[i]? = some x → Pv D i H' → g x (wipe σ vs) H' fun σ2 H2 => wipe σ2 vs = wipe σ vs ∧ tt σ2 H2 fun b H3 =>
      if b = true then te σ2 H3 fun y H4 => ∃ acc, H4 D = some (.lst acc) ∧ acc.length < sizeLine ∧ Pv D (i + 1) (upd H4 D (.lst (acc ++ [y]))) else Pv D (i + 1) H3) (hd : ∀ D H', H D = none → Pv D xs.length H' → Q (.ref D) H') : tLc (iSeq K tl) g tt te vs σ H Q := by
  obtain ⟨a, rfl, hq⟩ := hq
  rcases hq with hq | hq
  · exact he _ ⟨a, xs, rfl, .inl ⟨s0.seq hq, fun D nD => lc_it (walk_list (xs := xs)) (Pv D) (h0 D nD) (fun i H' _ p => (hl D i H' p).seq hq) (fun i x H' H'' _ p y => by
      obtain ⟨rfl, hx⟩ := y
      exact hs D i x _ nD hx p) (fun H' p => hd D H' nD p)⟩⟩
  · exact he _ ⟨a, xs, rfl, .inr ⟨SqT.same hq s0, fun D nD => lc_it (walk_tup (xs := xs)) (Pv D) (h0 D nD) (fun i H' _ p => SqT.same hq (hl D i H' p)) (fun i x H' H'' _ p y => by
      obtain ⟨rfl, hx⟩ := y
      exact hs D i x _ nD hx p) (fun H' p => hd D H' nD p)⟩⟩
theorem seq_hide {K : PySem.W.Frag} {H : Hp} {p : Addr} {C dx : Addr} {fs : List (Str × V)} {v : V} {xs : List V} (h : Seq K H v xs) (e : H p = some (.ins C dx fs)) : Seq K (hide p H) v xs := by
  obtain ⟨a, rfl, h | h⟩ := h
  · refine ⟨a, rfl, .inl ?_⟩
    rcases h with (h | ⟨o, h⟩) | h
    · exact .inl (.inl (by rw [hide_ne (fun z => by rw [z, e] at h; cases h)]; exact h))
    · exact .inl (.inr ⟨o, by rw [hide_ne (fun z => by rw [z, e] at h; cases h)]; exact h⟩)
    · exact .inr h
  · exact ⟨a, rfl, .inr (sqt_hide h e (fun ys z => nomatch z) fun q ys z => nomatch z)⟩
end WL
end L2
set_option Elab.async false
set_option linter.all false
set_option maxRecDepth 100000
set_option maxHeartbeats 4000000
namespace L2
namespace WL
open PySem PySem.Spec PyProof.Rows K1 LamX
/-! ### races: acts and their run -/
abbrev Ar : Type := Str × Str
inductive RAct where
  | junk
  | rd (x : Option Str) (c : Str)
  | wr (x : Option Str)
/-- the arrows read, each with whether its mark is new; the cells done -/
abbrev RSt : Type := List (Ar × Bool) × List Str
/-- the arrows not yet read, the cells not yet done -/
def unrd (A : List Ar) (s : RSt) : List Ar := A.filter fun a => decide (a ∉ s.1.map Prod.fst)
def unwr (C : List Str) (s : RSt) : List Str := C.filter fun c => decide (c ∉ s.2)
def rstep (A : List Ar) (C : List Str) (s : RSt) : RAct → Option RSt
  | .junk => none
  | .rd none _ => none
  | .rd (some x) c => if (x, c) ∈ A ∧ (x, c) ∉ s.1.map Prod.fst ∧ c ∉ s.2 then some (s.1 ++ [((x, c), decide (x ∈ s.2))], s.2) else none
  | .wr none => none
  | .wr (some c) => if c ∈ C ∧ c ∉ s.2 ∧ c ∉ (unrd A s).map Prod.snd then some (s.1, s.2 ++ [c]) else none
def rgo (A : List Ar) (C : List Str) : List RAct → RSt → Nat → Nat ⊕ RSt
  | [], s, _ => .inr s
  | a :: l, s, i => match rstep A C s a with
    | none => .inl i
    | some s' => rgo A C l s' (i + 1)
def mkOf (f : List (Ar × Bool)) (a : Ar) : Bool := match f.find? fun p => decide (p.1 = a) with
  | some p => p.2
  | none => false
inductive ROut where
  | bad (i : Nat)
  | marks (l : List (Ar × Bool))
def rdue (A : List Ar) (C : List Str) (l : List RAct) : ROut := match rgo A C l ([], []) 0 with
  | .inl i => .bad i
  | .inr s => if s.2.length < C.length then .bad l.length else .marks (A.map fun a => (a, mkOf s.1 a))
structure RInv (A : List Ar) (C : List Str) (s : RSt) : Prop where
  fA : ∀ a ∈ s.1.map Prod.fst, a ∈ A
  fN : (s.1.map Prod.fst).Nodup
  dC : ∀ c ∈ s.2, c ∈ C
  dN : s.2.Nodup
  cl : ∀ a ∈ A, a.2 ∈ s.2 → a ∈ s.1.map Prod.fst
theorem RInv.zero {A : List Ar} {C : List Str} : RInv A C ([], []) := ⟨(fun a h => nomatch h), List.nodup_nil, (fun a h => nomatch h), List.nodup_nil, (fun a _ h => nomatch h)⟩
theorem mem_unrd {A : List Ar} {s : RSt} {a : Ar} : a ∈ unrd A s ↔ a ∈ A ∧ a ∉ s.1.map Prod.fst := by
  unfold unrd
  rw [List.mem_filter, decide_eq_true_iff]
theorem mem_unwr {C : List Str} {s : RSt} {c : Str} : c ∈ unwr C s ↔ c ∈ C ∧ c ∉ s.2 := by
  unfold unwr
  rw [List.mem_filter, decide_eq_true_iff]
theorem rstep_rdE (A : List Ar) (C : List Str) (s : RSt) (x c : Str) : rstep A C s (.rd (some x) c) = if (x, c) ∈ A ∧ (x, c) ∉ s.1.map Prod.fst ∧ c ∉ s.2 then some (s.1 ++ [((x, c), decide (x ∈ s.2))], s.2) else none := rfl
theorem rstep_wrE (A : List Ar) (C : List Str) (s : RSt) (c : Str) : rstep A C s (.wr (some c)) = if c ∈ C ∧ c ∉ s.2 ∧ c ∉ (unrd A s).map Prod.snd then some (s.1, s.2 ++ [c]) else none := rfl
theorem rstep_rd {A : List Ar} {C : List Str} {s s' : RSt} {x c : Str} (h : rstep A C s (.rd (some x) c) = some s') : (x, c) ∈ A ∧ (x, c) ∉ s.1.map Prod.fst ∧ c ∉ s.2 ∧ s' = (s.1 ++ [((x, c), decide (x ∈ s.2))], s.2) := by
  rw [rstep_rdE] at h
  by_cases q : (x, c) ∈ A ∧ (x, c) ∉ s.1.map Prod.fst ∧ c ∉ s.2
  · rw [if_pos q] at h
    exact ⟨q.1, q.2.1, q.2.2, (Option.some.inj h).symm⟩
  · rw [if_neg q] at h
    cases h
theorem rstep_wr {A : List Ar} {C : List Str} {s s' : RSt} {c : Str} (h : rstep A C s (.wr (some c)) = some s') : c ∈ C ∧ c ∉ s.2 ∧ c ∉ (unrd A s).map Prod.snd ∧ s' = (s.1, s.2 ++ [c]) := by
  rw [rstep_wrE] at h
  by_cases q : c ∈ C ∧ c ∉ s.2 ∧ c ∉ (unrd A s).map Prod.snd
  · rw [if_pos q] at h
    exact ⟨q.1, q.2.1, q.2.2, (Option.some.inj h).symm⟩
  · rw [if_neg q] at h
    cases h
theorem map_snoc {α β : Type} (f : α → β) (l : List α) (x : α) : (l ++ [x]).map f = l.map f ++ [f x] := by rw [List.map_append]; rfl
theorem nodup_snoc {α : Type} {l : List α} {x : α} (h : l.Nodup) (n : x ∉ l) : (l ++ [x]).Nodup := by
  refine List.nodup_append.mpr ⟨h, by simp, fun a ha b hb e => ?_⟩
  rw [show b = x by simpa using hb] at e
  exact n (e ▸ ha)
theorem RInv.step {A : List Ar} {C : List Str} {s s' : RSt} {a : RAct} (h : RInv A C s) (e : rstep A C s a = some s') : RInv A C s' := by
  match a, e with
  | .junk, e => cases e
  | .rd none _, e => cases e
  | .wr none, e => cases e
  | .rd (some x) c, e =>
    obtain ⟨h1, h2, h3, rfl⟩ := rstep_rd e
    refine ⟨fun b hb => ?_, ?_, h.dC, h.dN, fun b hb hd => ?_⟩
    · rw [map_snoc] at hb
      rcases List.mem_append.mp hb with q | q
      · exact h.fA b q
      · rw [show b = (x, c) by simpa using q]
        exact h1
    · rw [map_snoc]
      exact nodup_snoc h.fN h2
    · rw [map_snoc]
      exact List.mem_append_left _ (h.cl b hb hd)
  | .wr (some c), e =>
    obtain ⟨h1, h2, h3, rfl⟩ := rstep_wr e
    refine ⟨h.fA, h.fN, fun b hb => ?_, nodup_snoc h.dN h2, fun b hb hd => ?_⟩
    · rcases List.mem_append.mp hb with q | q
      · exact h.dC b q
      · rw [show b = c by simpa using q]
        exact h1
    · rcases List.mem_append.mp hd with q | q
      · exact h.cl b hb q
      · by_cases m : b ∈ s.1.map Prod.fst
        · exact m
        · exact absurd (List.mem_map.mpr ⟨b, mem_unrd.mpr ⟨hb, m⟩, by simpa using q⟩) h3
/-! what the program asks at an act -/
theorem rd_ok {A : List Ar} {C : List Str} {s : RSt} (h : RInv A C s) {x c : Str} : (x, c) ∈ unrd A s ↔ (x, c) ∈ A ∧ (x, c) ∉ s.1.map Prod.fst ∧ c ∉ s.2 := by
  rw [mem_unrd]
  exact ⟨fun q => ⟨q.1, q.2, fun m => q.2 (h.cl _ q.1 m)⟩, fun q => ⟨q.1, q.2.1⟩⟩
theorem step_rd_in {A : List Ar} {C : List Str} {s : RSt} (h : RInv A C s) {x c : Str} (m : (x, c) ∈ unrd A s) : rstep A C s (.rd (some x) c) = some (s.1 ++ [((x, c), decide (x ∈ s.2))], s.2) := by
  rw [rstep_rdE]
  exact if_pos ((rd_ok h).mp m)
theorem step_rd_out {A : List Ar} {C : List Str} {s : RSt} (h : RInv A C s) {x c : Str} (m : (x, c) ∉ unrd A s) : rstep A C s (.rd (some x) c) = none := by
  rw [rstep_rdE]
  exact if_neg fun q => m ((rd_ok h).mpr q)
theorem step_wr_in {A : List Ar} {C : List Str} {s : RSt} {c : Str} (m : c ∈ unwr C s) (n : ∀ a ∈ unrd A s, c ≠ a.2) : rstep A C s (.wr (some c)) = some (s.1, s.2 ++ [c]) := by
  rw [rstep_wrE]
  refine if_pos ⟨(mem_unwr.mp m).1, (mem_unwr.mp m).2, fun q => ?_⟩
  obtain ⟨a, ha, e⟩ := List.mem_map.mp q
  exact n a ha e.symm
theorem step_wr_out {A : List Ar} {C : List Str} {s : RSt} {c : Str} (m : c ∉ unwr C s ∨ ∃ a ∈ unrd A s, c = a.2) : rstep A C s (.wr (some c)) = none := by
  rw [rstep_wrE]
  refine if_neg fun q => ?_
  rcases m with m | ⟨a, ha, rfl⟩
  · exact m (mem_unwr.mpr ⟨q.1, q.2.1⟩)
  · exact q.2.2 (List.mem_map.mpr ⟨a, ha, rfl⟩)
theorem filter_erase {α : Type} [BEq α] [LawfulBEq α] [DecidableEq α] {p q : α → Bool} {x : α} : ∀ {l : List α}, l.Nodup → (∀ y ∈ l, q y = (p y && decide (y ≠ x))) → l.filter q = (l.filter p).erase x
  | [], _, _ => rfl
  | a :: l, nd, h => by
    obtain ⟨n1, n2⟩ := List.nodup_cons.mp nd
    have ih := filter_erase n2 (p := p) (q := q) (x := x) fun y hy => h y (List.mem_cons_of_mem _ hy)
    have ha := h a (List.mem_cons_self ..)
    by_cases e : a = x
    · subst e
      have nx : l.filter q = l.filter p := by
        refine List.filter_congr fun y hy => ?_
        rw [h y (List.mem_cons_of_mem _ hy), decide_eq_true (show y ≠ a from fun e => n1 (e ▸ hy)), Bool.and_true]
      have q0 : q a = false := by rw [ha, decide_eq_false (fun z => z rfl), Bool.and_false]
      rw [List.filter_cons_of_neg (by rw [q0]; decide), nx]
      by_cases pa : p a = true
      · rw [List.filter_cons_of_pos pa, List.erase_cons_head]
      · rw [List.filter_cons_of_neg pa, List.erase_of_not_mem fun m => n1 (List.mem_filter.mp m).1]
    · rw [decide_eq_true e, Bool.and_true] at ha
      by_cases pa : p a = true
      · rw [List.filter_cons_of_pos (by rw [ha]; exact pa), List.filter_cons_of_pos pa, List.erase_cons_tail (by simpa using e), ih]
      · rw [List.filter_cons_of_neg (by rw [ha]; exact pa), List.filter_cons_of_neg pa, ih]
theorem unrd_rd {A : List Ar} {s : RSt} {a : Ar} {b : Bool} (nd : A.Nodup) : unrd A (s.1 ++ [(a, b)], s.2) = (unrd A s).erase a := by
  refine filter_erase nd fun y _ => ?_
  show decide (y ∉ (s.1 ++ [(a, b)]).map Prod.fst) = _
  rw [map_snoc, Bool.eq_iff_iff]
  simp only [decide_eq_true_iff, Bool.and_eq_true, List.mem_append, List.mem_singleton, not_or, ne_eq]
theorem unwr_wr {C : List Str} {s : RSt} {c : Str} (nd : C.Nodup) : unwr C (s.1, s.2 ++ [c]) = (unwr C s).erase c := by
  refine filter_erase nd fun y _ => ?_
  show decide (y ∉ s.2 ++ [c]) = _
  rw [Bool.eq_iff_iff]
  simp only [decide_eq_true_iff, Bool.and_eq_true, List.mem_append, List.mem_singleton, not_or, ne_eq]
/-- at the end: either some cell lacks, or all is read and done -/
theorem all_done {A : List Ar} {C : List Str} {s : RSt} (h : RInv A C s) (tC : ∀ a ∈ A, a.2 ∈ C) (l : ¬ s.2.length < C.length) : (∀ c ∈ C, c ∈ s.2) ∧ (∀ a ∈ A, a ∈ s.1.map Prod.fst) ∧ unrd A s = [] ∧ unwr C s = [] := by
  have h1 : ∀ c ∈ C, c ∈ s.2 := fun c hc => by
    by_cases m : c ∈ s.2
    · exact m
    · have := pig (S := c :: s.2) (F := C) (List.nodup_cons.mpr ⟨m, h.dN⟩) fun x hx => by
        rcases List.mem_cons.mp hx with rfl | hx
        · exact hc
        · exact h.dC x hx
      rw [List.length_cons] at this
      omega
  have h2 : ∀ a ∈ A, a ∈ s.1.map Prod.fst := fun a ha => h.cl a ha (h1 _ (tC a ha))
  refine ⟨h1, h2, ?_, ?_⟩
  · exact List.eq_nil_iff_forall_not_mem.mpr fun a m => (mem_unrd.mp m).2 (h2 a (mem_unrd.mp m).1)
  · exact List.eq_nil_iff_forall_not_mem.mpr fun a m => (mem_unwr.mp m).2 (h1 a (mem_unwr.mp m).1)
theorem not_done {A : List Ar} {C : List Str} {s : RSt} (h : RInv A C s) (nC : C.Nodup) (l : s.2.length < C.length) : 0 < (unrd A s).length + (unwr C s).length := by
  have : unwr C s ≠ [] := fun e => by
    have := pig (S := C) (F := s.2) nC fun c hc => by
      by_cases m : c ∈ s.2
      · exact m
      · have := mem_unwr.mpr ⟨hc, m⟩
        rw [e] at this
        cases this
    omega
  have := List.length_pos_iff.mpr this
  omega
/-! ### what is found, as a dict -/
abbrev kA (a : Ar) : List Key := [kS a.1, kS a.2]
def mkS (b : Bool) : Str := if b = true then "new" else "old"
def fD (f : List (Ar × Bool)) : List (List Key × V) := f.map fun p => (kA p.1, .str (mkS p.2))
theorem kA_inj {a b : Ar} (h : kA a = kA b) : a = b := by
  have h1 := (List.cons.inj h).1
  have h2 := (List.cons.inj (List.cons.inj h).2).1
  exact Prod.ext (Sum.inr.inj h1) (Sum.inr.inj h2)
theorem fD_snoc (f : List (Ar × Bool)) (a : Ar) (b : Bool) (n : a ∉ f.map Prod.fst) : putK (fD f) (kA a) (.str (mkS b)) = fD (f ++ [(a, b)]) := by
  have hn : valV (fD f) (kA a) = none := by
    unfold valV
    rw [Option.map_eq_none_iff, List.find?_eq_none]
    intro x hx
    obtain ⟨p, hp, rfl⟩ := List.mem_map.mp hx
    intro z
    have := kA_inj (of_decide_eq_true z)
    exact n (List.mem_map.mpr ⟨p, hp, this⟩)
  rw [putK_new _ hn]
  unfold fD
  rw [map_snoc]
theorem fD_in (f : List (Ar × Bool)) (a : Ar) : (valV (fD f) (kA a)).isSome = decide (a ∈ f.map Prod.fst) := by
  rw [← valV_any, Bool.eq_iff_iff, decide_eq_true_iff, List.any_eq_true]
  constructor
  · rintro ⟨x, hx, z⟩
    obtain ⟨p, hp, rfl⟩ := List.mem_map.mp hx
    exact List.mem_map.mpr ⟨p, hp, kA_inj (of_decide_eq_true z)⟩
  · intro m
    obtain ⟨p, hp, rfl⟩ := List.mem_map.mp m
    exact ⟨_, List.mem_map.mpr ⟨p, hp, rfl⟩, decide_eq_true rfl⟩
theorem fD_at {f : List (Ar × Bool)} {a : Ar} (m : a ∈ f.map Prod.fst) : valV (fD f) (kA a) = some (.str (mkS (mkOf f a))) := by
  unfold valV fD mkOf
  rw [List.find?_map]
  have e : (f.find? ((fun kv : List Key × V => decide (kv.1 = kA a)) ∘ fun p : Ar × Bool => (kA p.1, V.str (mkS p.2)))) = f.find? fun p => decide (p.1 = a) := by
    congr 1
    funext p
    show decide (kA p.1 = kA a) = decide (p.1 = a)
    rw [Bool.eq_iff_iff, decide_eq_true_iff, decide_eq_true_iff]
    exact ⟨kA_inj, fun e => by rw [e]⟩
  rw [e]
  cases h : f.find? fun p => decide (p.1 = a) with
  | none =>
    obtain ⟨p, hp, rfl⟩ := List.mem_map.mp m
    have := List.find?_eq_none.mp h p hp
    exact absurd (decide_eq_true rfl) this
  | some p => rfl
theorem fD_nd_at {f : List (Ar × Bool)} (l : List Ar) : (l.map fun a => ((kA a, V.str (mkS (mkOf f a))) : List Key × V)) = fD (l.map fun a => (a, mkOf f a)) := by
  unfold fD
  rw [List.map_map]
  rfl
/-! ### outcomes as data -/
def d2 (a : Ar) : PyData := .tuple [.str a.1, .str a.2]
def ROut.d : ROut → PyData
  | .bad i => .int (i : Nat)
  | .marks l => .list (l.map fun p => .tuple [d2 p.1, .str (mkS p.2)])
def ROut.ok : ROut → Prop
  | .bad _ => True
  | .marks l => ∀ p ∈ l, sOk [p.1.1, p.1.2]
theorem lay_d2 {a : Ar} (h : sOk [a.1, a.2]) : PyData.canLay0 (d2 a) = true := lay_strs h
theorem lay_mkS (b : Bool) : PyData.canLay0 (.str (mkS b)) = true := by cases b <;> decide +kernel
theorem shape_ro {o : ROut} (h : o.ok) : SeqAt.shaped o.d = true := by
  cases o with
  | bad i => exact rfl
  | marks l =>
    have h1 : ∀ l : List (Ar × Bool), (∀ p ∈ l, sOk [p.1.1, p.1.2]) → PyData.canLayAll0 (l.map fun p => .tuple [d2 p.1, .str (mkS p.2)]) = true ∧ PyData.depthAll (l.map fun p => .tuple [d2 p.1, .str (mkS p.2)]) ≤ 2 := by
      intro l
      induction l with
      | nil => exact fun _ => ⟨rfl, Nat.zero_le _⟩
      | cons p l ih =>
        intro h
        obtain ⟨i1, i2⟩ := ih fun q hq => h q (List.mem_cons_of_mem _ hq)
        have e1 := lay_d2 (h p (List.mem_cons_self ..))
        refine ⟨?_, ?_⟩
        · show ((PyData.canLay0 (d2 p.1) && (PyData.canLay0 (.str (mkS p.2)) && true)) && PyData.canLayAll0 (l.map fun p => .tuple [d2 p.1, .str (mkS p.2)])) = true
          rw [e1, lay_mkS, i1]
          rfl
        · show max (max (PyData.depth (d2 p.1)) (max 0 0) + 1) (PyData.depthAll (l.map fun p => .tuple [d2 p.1, .str (mkS p.2)])) ≤ 2
          have : PyData.depth (d2 p.1) = 1 := rfl
          omega
    obtain ⟨i1, i2⟩ := h1 l h
    unfold SeqAt.shaped
    refine Bool.and_eq_true_iff.mpr ⟨i1, decide_eq_true ?_⟩
    show PyData.depthAll (l.map fun p => .tuple [d2 p.1, .str (mkS p.2)]) + 1 ≤ 64
    omega
theorem rdue_ok {A : List Ar} {C : List Str} {l : List RAct} (h : ∀ a ∈ A, sOk [a.1, a.2]) : (rdue A C l).ok := by
  unfold rdue
  cases rgo A C l ([], []) 0 with
  | inl i => exact trivial
  | inr s =>
    show ROut.ok (if _ then _ else _)
    split
    · exact trivial
    · intro p hp
      obtain ⟨a, ha, rfl⟩ := List.mem_map.mp hp
      exact h a ha
theorem eqv_d2 (a b : Ar) : PyData.eqv (d2 a) (d2 b) = decide (a = b) := by
  show ((a.1 == b.1) && ((a.2 == b.2) && true)) = _
  rw [Bool.and_true, Bool.eq_iff_iff]
  simp only [Bool.and_eq_true, beq_iff_eq, decide_eq_true_iff, Prod.ext_iff]
end WL
end L2
set_option Elab.async false
set_option linter.all false
set_option maxRecDepth 100000
set_option maxHeartbeats 4000000
namespace L2
namespace K59
open PySem PySem.Spec PyProof.Rows K1 WL LamX
section
variable {P : Program} {w : World} {K : PySem.W.Frag} {mg : Str → Option Value} {base : Heap} {f : Addr} {fd : FuncData}
/-! ### is_cell_list, check_race -/
def CellL (K : PySem.W.Frag) (H : Hp) (rs : Rws) (v : V) (c : Bool) : Prop := (∃ t, TyX K H v t ∧ PySem.W.kitAny K t LT = some false ∧ c = false) ∨
  ∃ xs, Seq K H v xs ∧ xs.length ≤ 900 ∧ (∀ x ∈ xs, ∃ b, IsN K H x b) ∧ c = (xs.all (inWeb rs) && decide (strsOf xs).Nodup)
theorem CellL.same {K : PySem.W.Frag} {H H' : Hp} {rs : Rws} {v : V} {c : Bool} (h : CellL K H rs v c) (s : Same H H') : CellL K H' rs v c := by
  rcases h with ⟨t, h1, h2⟩ | ⟨xs, h1, h2, h3, h4⟩
  · exact .inl ⟨t, TyX.same h1 s, h2⟩
  · exact .inr ⟨xs, h1.same s, h2, fun x hx => let ⟨b, h⟩ := h3 x hx; ⟨b, h.same s⟩, h4⟩
def spIsCellList (K : PySem.W.Frag) (C : Addr) : Sp := fun vs H Q _ => ∃ (p : Addr) (v : V) (rs : Rws) (c : Bool), vs = [.ref p, v] ∧ IsWeb K H C p rs ∧ Good rs ∧ CellL K H rs v c ∧ ∀ H', Same H H' → Q (.bl c) H'
theorem sc_icl : FnScope ["web", "thing", "item"] ["web", "thing"] (defScope s_is_cell_list) := ⟨rfl, rfl, rfl, by decide +kernel, rfl, by decide +kernel, by decide +kernel⟩
theorem in_all {rs : Rws} : ∀ {xs : List V}, xs.all (inWeb rs) = true → xs = (strsOf xs).map V.str
  | [], _ => rfl
  | x :: xs, h => by
    rw [List.all_cons, Bool.and_eq_true] at h
    obtain ⟨h1, h2⟩ := h
    cases x with
    | str z =>
      show _ = V.str z :: (strsOf xs).map V.str
      rw [← in_all h2]
    | _ => cases h1
theorem ok_icl {C fc : Addr} {fdc : FuncData} (T : Bl mg) (W : Wt K mg C) (Mc : Spc K C "__contains__" fc) (Gc : FnOk P w K mg base CX0 2 fc fdc ["self", "x"] (spCon K C)) (bc : Binds K fdc ["self", "x"] []) (Cl : Cal P w K mg base "is_list" ["thing"] 1 (spIsList K))
    (F : FnP K "is_cell_list" "is_cell_list" s_is_cell_list f fd) : FnOk P w K mg base CX0 3 f fd ["web", "thing"] (spIsCellList K C) := by
  obtain ⟨fl, fdl, Gl, gl, kl, bl⟩ := Cl.ex
  refine F.ok sc_icl (fun vs H Q E h => ?_) (fun cdv A outer s H vs Q E hr h => ?_)
  · obtain ⟨p, v, rs, c, rfl, _⟩ := h
    rfl
  · have nd := sc_icl.nd
    have h1 := hr.mono (show 1 ≤ 2 by decide)
    refine ⟨_, PSs.nox (pss_one (ps_ret (pe_and (pe_call Gl h1 rfl gl kl bl .nil pass0 (pa_cons (pv 1) pa_nil))
      (pe_and (pe_callB (cr_all rfl) rfl T.f_all PyProof.Rows.boot_all (pa_cons (pe_lc (own := [("item", 2)]) (g := gName 2) (tt := tYes) (te := tOp (rInO C (spCon K C) E0 id) (tVar 2) (tVar 0)) rfl nd (pi_seq (pv 1)) (blkOk_by (N := ["web", "thing", "item"]) (sc := defScope s_is_cell_list) (by decide +kernel))
          (fun _ _ _ _ _ => pg_name (i := 2) nd rfl (Or.inl rfl)) (fun _ _ _ _ _ => pts_nil) (fun _ _ _ _ _ => pe_cmpR (op_inO Mc Gc hr bc pass0) (pv 2) (pv 0) rfl)) pa_nil))
        (pe_one (pe_cmpR op_eq (pe_lenTxt rfl rfl T.f_len rfl T.f_set (pv 1)) (pe_callB call_len rfl T.f_len boot_len (pa_cons (pv 1) pa_nil)) (nomark _))))))), ?_⟩
    obtain ⟨p, v, rs, c, rfl, hw, g, hc, q⟩ := h
    rcases hc with ⟨t, ty, kt, rfl⟩ | ⟨xs, hs, h9, hi, rfl⟩
    · exact ⟨_, rfl, v, t, false, rfl, ty, kt, fun H' s' => ⟨false, rfl, q H' s'⟩⟩
    · obtain ⟨t, ty, kt⟩ := hs.kit
      refine ⟨_, rfl, v, t, true, rfl, ty, kt, fun H1 s1 => ⟨true, rfl, iteP rfl ?_⟩⟩
      refine t_cb1 ?_
      refine lc_seq (hs.same s1) (fun Q q => ⟨_, rfl, q⟩) (by omega) (fun i => .bl (inWeb rs (xs.getD i .non))) (fun i x H' Q' hx s' qq => ?_) (fun D H2 s2 e2 => ?_)
      · have ex : xs.getD i .non = x := by rw [List.getD_eq_getElem?_getD, hx]; rfl
        rw [ex] at qq
        obtain ⟨b, hb⟩ := hi x (List.mem_of_getElem? hx)
        have s01 := s1.trans s'
        have hw1 := hw.same s01
        obtain ⟨dx, _, _, _, _, _, _, _, W1⟩ := id hw1
        exact ⟨rfl, _, rfl, _, rfl, p, dx, _, rfl, W1.ob, p, x, b, rs, rfl, hw1, g, hb.same s01, fun H4 s4 => ⟨_, rfl, qq H4 s4⟩⟩
      · have eb : ((List.range xs.length).map fun i => inWeb rs (xs.getD i .non)) = xs.map (inWeb rs) := by
          refine List.ext_getElem (by simp) fun i h1 h2 => ?_
          rw [List.getElem_map, List.getElem_map, List.getElem_range, List.getD_eq_getElem?_getD, List.getElem?_eq_getElem (by simpa using h2)]
          rfl
        refine ⟨D, xs.map (inWeb rs), rfl, SqL.of (by rw [e2, ← eb, List.map_map]; rfl), _, rfl, ?_⟩
        have ea : (xs.map (inWeb rs)).all id = xs.all (inWeb rs) := by rw [List.all_map]; rfl
        rw [ea]
        have s12 := s1.trans s2
        cases hb : xs.all (inWeb rs) with
        | false =>
          rw [hb, Bool.false_and] at q
          exact iteN rfl (q H2 s12)
        | true =>
          rw [hb, Bool.true_and] at q
          have ex := in_all hb
          obtain ⟨a, rfl, hq⟩ := hs.same s12
          have ll : (strsOf xs).length = xs.length := by
            have z := congrArg List.length ex
            rw [List.length_map] at z
            exact z.symm
          refine iteP rfl ⟨_, rfl, a, strsOf xs, rfl, by rw [← ex]; exact hq, by omega, _, rfl, .ref a, xs.length, rfl, Seq.len ⟨a, rfl, hq⟩, rfl, ?_⟩
          have e4 : decide (V.int ((SSx.ddN (strsOf xs) (strsOf xs).length).length : Nat) = V.int (xs.length : Nat)) = decide (strsOf xs).Nodup := by
            have z := SSx.ddN_nodup (xs := strsOf xs)
            by_cases n : (strsOf xs).Nodup
            · rw [decide_eq_true n, z.mpr n, ll]
              exact decide_eq_true rfl
            · rw [decide_eq_false n]
              refine decide_eq_false fun y => n (z.mp ?_)
              have y2 := V.int.inj y
              omega
          rw [e4]
          exact q H2 s12
def spCheckRace (K : PySem.W.Frag) (C : Addr) : Sp := fun vs H Q E => ∃ (p : Addr) (v : V) (rs : Rws) (c : Bool), vs = [.ref p, v] ∧ IsWeb K H C p rs ∧ Good rs ∧ CellL K H rs v c ∧ (c = true → ∀ H', Same H H' → Q .non H') ∧ (c = false → ∀ H', Same H H' → E (.ref (He.ga K "BadCells")) none H')
theorem sc_cra : FnScope ["web", "cells"] ["web", "cells"] (defScope s_check_race) := ⟨rfl, rfl, rfl, by decide +kernel, rfl, by decide +kernel, by decide +kernel⟩
theorem ok_cra {C : Addr} (Ci : Cal P w K mg base "is_cell_list" ["web", "thing"] 3 (spIsCellList K C)) (EP : E0c K mg "BadCells") (F : FnP K "check_race" "check_race" s_check_race f fd) : FnOk P w K mg base (L2.CX P w) 4 f fd ["web", "cells"] (spCheckRace K C) := by
  obtain ⟨fi, fdi, Gi, gi, ki, bi⟩ := Ci.ex
  refine F.ok sc_cra (fun vs H Q E h => ?_) (fun cdv A outer s H vs Q E hr h => ?_)
  · obtain ⟨p, v, rs, c, rfl, _⟩ := h
    rfl
  · refine ⟨_, pss_one (ps_if (pt_not (pt_val (pe_call Gi hr rfl gi ki bi .nil pass0 (pa_cons (pv 0) (pa_cons (pv 1) pa_nil))))) (pss_one (ps_raise rfl (takes_of rfl rfl rfl rfl) (pmk_own0 PySem.F.excBase_ValueError EP.xi EP.g EP.k (raises_own EP.s EP.t) rfl))) pss_nil), ?_⟩
    obtain ⟨p, v, rs, c, rfl, hw, g, hc, q, e⟩ := h
    refine ⟨_, rfl, _, rfl, p, v, rs, c, rfl, hw, g, hc, fun H' s' => ⟨c, rfl, ?_⟩⟩
    cases c with
    | true => exact iteN rfl (q rfl H' s')
    | false => exact iteP rfl (e rfl H' s')
end
end K59
end L2
set_option Elab.async false
set_option linter.all false
set_option maxRecDepth 100000
set_option maxHeartbeats 4000000
namespace L2
namespace WL
open PySem PySem.Spec PyProof.Rows K1 LamX
/-! ### sums -/
def sI : List Int → Int
  | [] => 0
  | x :: l => x + sI l
theorem sI_app : ∀ a b : List Int, sI (a ++ b) = sI a + sI b
  | [], b => by show sI b = 0 + sI b; omega
  | x :: a, b => by
    show x + sI (a ++ b) = x + sI a + sI b
    rw [sI_app a b]; omega
theorem sI_add {α : Type} (f g : α → Int) : ∀ l : List α, sI (l.map fun x => f x + g x) = sI (l.map f) + sI (l.map g)
  | [] => rfl
  | x :: l => by
    show f x + g x + sI (l.map fun x => f x + g x) = (f x + sI (l.map f)) + (g x + sI (l.map g))
    rw [sI_add f g l]; omega
theorem sI_mul {α : Type} (c : Int) (f : α → Int) : ∀ l : List α, sI (l.map fun x => c * f x) = c * sI (l.map f)
  | [] => by show (0 : Int) = c * 0; omega
  | x :: l => by
    show c * f x + sI (l.map fun x => c * f x) = c * (f x + sI (l.map f))
    rw [sI_mul c f l, Int.mul_add]
theorem sI_mulr {α : Type} (c : Int) (f : α → Int) (l : List α) : sI (l.map fun x => f x * c) = sI (l.map f) * c := by
  rw [show (fun x => f x * c) = fun x => c * f x from funext fun x => Int.mul_comm _ _, sI_mul, Int.mul_comm]
theorem sI_zero {α : Type} (f : α → Int) (l : List α) (h : ∀ x ∈ l, f x = 0) : sI (l.map f) = 0 := by
  induction l with
  | nil => rfl
  | cons x l ih =>
    show f x + sI (l.map f) = 0
    rw [h x (List.mem_cons_self ..), ih fun y hy => h y (List.mem_cons_of_mem _ hy)]
    rfl
theorem sI_congr {α : Type} {f g : α → Int} {l : List α} (h : ∀ x ∈ l, f x = g x) : sI (l.map f) = sI (l.map g) := by
  rw [List.map_congr_left h]
theorem sI_swap {α β : Type} (f : α → β → Int) (m : List β) : ∀ l : List α, sI (l.map fun x => sI (m.map fun y => f x y)) = sI (m.map fun y => sI (l.map fun x => f x y))
  | [] => by
    show 0 = sI (m.map fun y => 0)
    exact (sI_zero _ _ fun _ _ => rfl).symm
  | x :: l => by
    show sI (m.map fun y => f x y) + sI (l.map fun x => sI (m.map fun y => f x y)) = sI (m.map fun y => f x y + sI (l.map fun x => f x y))
    rw [sI_swap f m l, ← sI_add]
/-! ### all sub-lists, as the law makes them -/
theorem snocI {α : Type} {P : List α → Prop} (h0 : P []) (hs : ∀ l x, P l → P (l ++ [x])) (l : List α) : P l := by
  have h : ∀ m : List α, P m.reverse := fun m => by
    induction m with
    | nil => exact h0
    | cons x m ih => rw [List.reverse_cons]; exact hs _ _ ih
  have := h l.reverse
  rwa [List.reverse_reverse] at this
def setsL {α : Type} (l : List α) : List (List α) := l.foldl (fun f x => f ++ f.map (· ++ [x])) [[]]
theorem setsL_snoc {α : Type} (l : List α) (x : α) : setsL (l ++ [x]) = setsL l ++ (setsL l).map (· ++ [x]) := by
  unfold setsL
  rw [List.foldl_append]
  rfl
theorem setsL_len {α : Type} (l : List α) : (setsL l).length = 2 ^ l.length := by
  refine snocI (P := fun l => (setsL l).length = 2 ^ l.length) rfl (fun l x ih => ?_) l
  rw [setsL_snoc, List.length_append, List.length_map, ih, List.length_append, List.length_singleton, Nat.pow_succ]
  omega
theorem setsL_sub {α : Type} (l : List α) : ∀ D ∈ setsL l, ∀ x ∈ D, x ∈ l := by
  refine snocI (P := fun l => ∀ D ∈ setsL l, ∀ x ∈ D, x ∈ l) (fun D hD x hx => ?_) (fun l y ih D hD x hx => ?_) l
  · rw [show D = [] by simpa [setsL] using hD] at hx
    cases hx
  · rw [setsL_snoc] at hD
    rcases List.mem_append.mp hD with q | q
    · exact List.mem_append_left _ (ih D q x hx)
    · obtain ⟨D', h', rfl⟩ := List.mem_map.mp q
      rcases List.mem_append.mp hx with z | z
      · exact List.mem_append_left _ (ih D' h' x z)
      · exact List.mem_append_right _ z
theorem setsL_filter {α : Type} (p : α → Bool) (l : List α) : l.filter p ∈ setsL l := by
  refine snocI (P := fun l => l.filter p ∈ setsL l) (by simp [setsL]) (fun l x ih => ?_) l
  rw [setsL_snoc, List.filter_append]
  by_cases h : p x = true
  · rw [List.filter_cons_of_pos h]
    exact List.mem_append_right _ (List.mem_map.mpr ⟨_, ih, rfl⟩)
  · rw [List.filter_cons_of_neg h, List.filter_nil, List.append_nil]
    exact List.mem_append_left _ ih
def smS {α : Type} (l : List α) (f : List α → Int) : Int := sI ((setsL l).map f)
theorem smS_snoc {α : Type} (l : List α) (x : α) (f : List α → Int) : smS (l ++ [x]) f = smS l f + smS l fun D => f (D ++ [x]) := by
  unfold smS
  rw [setsL_snoc, List.map_append, sI_app, List.map_map]
  rfl
theorem smS_congr {α : Type} {l : List α} {f g : List α → Int} (h : ∀ D ∈ setsL l, f D = g D) : smS l f = smS l g := sI_congr h
/-- three kinds of things: those that may not come, those that may come at will, those that count -/
theorem smS_split {α : Type} (into out : α → Bool) (l : List α) : ∀ h : List α → Int,
    smS l (fun D => (if D.any into = true then 0 else 1) * h (D.filter fun x => !into x && !out x)) = 2 ^ (l.filter fun x => !into x && out x).length * smS (l.filter fun x => !into x && !out x) h := by
  refine snocI (P := fun l => ∀ h : List α → Int, smS l (fun D => (if D.any into = true then 0 else 1) * h (D.filter fun x => !into x && !out x)) = 2 ^ (l.filter fun x => !into x && out x).length * smS (l.filter fun x => !into x && !out x) h) (fun h => ?_) (fun l x ih h => ?_) l
  · show (if false = true then (0 : Int) else 1) * h [] + 0 = 2 ^ 0 * (h [] + 0)
    simp
  · rw [smS_snoc, ih h, List.filter_append, List.filter_append]
    by_cases hi : into x = true
    · rw [List.filter_cons_of_neg (by simp [hi]), List.filter_cons_of_neg (by simp [hi]), List.filter_nil, List.append_nil, List.filter_nil, List.append_nil]
      have z : smS l (fun D => (if (D ++ [x]).any into = true then (0 : Int) else 1) * h ((D ++ [x]).filter fun x => !into x && !out x)) = 0 := sI_zero _ _ fun D _ => by
        rw [List.any_append, show [x].any into = true by simp [hi], Bool.or_true, if_pos rfl, Int.zero_mul]
      rw [z, Int.add_zero]
    · have hi' : into x = false := by simpa using hi
      have hany : ∀ D : List α, (D ++ [x]).any into = D.any into := fun D => by rw [List.any_append, show [x].any into = false by simp [hi'], Bool.or_false]
      by_cases ho : out x = true
      · rw [List.filter_cons_of_pos (by simp [hi', ho]), List.filter_cons_of_neg (by simp [ho]), List.filter_nil, List.filter_nil, List.append_nil, List.length_append, List.length_singleton, Int.pow_succ]
        have z : smS l (fun D => (if (D ++ [x]).any into = true then (0 : Int) else 1) * h ((D ++ [x]).filter fun x => !into x && !out x)) = smS l (fun D => (if D.any into = true then 0 else 1) * h (D.filter fun x => !into x && !out x)) := smS_congr fun D _ => by
          rw [hany, List.filter_append, List.filter_cons_of_neg (by simp [ho]), List.filter_nil, List.append_nil]
        rw [z, ih h, Int.mul_assoc, Int.mul_comm 2, ← Int.mul_assoc, Int.mul_comm _ 2, Int.two_mul]
      · have ho' : out x = false := by simpa using ho
        rw [List.filter_cons_of_neg (by simp [ho']), List.filter_cons_of_pos (by simp [hi', ho']), List.filter_nil, List.filter_nil, List.append_nil, smS_snoc, Int.mul_add, ← ih fun D => h (D ++ [x])]
        congr 1
        refine smS_congr fun D _ => ?_
        rw [hany, List.filter_append, List.filter_cons_of_pos (by simp [hi', ho']), List.filter_nil]
theorem smS_swap {α β : Type} (l : List α) (m : List β) (f : List α → β → Int) : smS l (fun D => sI (m.map fun y => f D y)) = sI (m.map fun y => smS l fun D => f D y) := sI_swap _ _ _
theorem smS_mul {α : Type} (c : Int) (l : List α) (f : List α → Int) : smS l (fun D => c * f D) = c * smS l f := sI_mul _ _ _
/-- what holds of so many of them -/
theorem smS_count {α : Type} (l : List α) (p : List α → Bool) : smS l (fun D => if p D = true then 1 else 0) = (((setsL l).filter p).length : Nat) := by
  unfold smS
  generalize setsL l = m
  induction m with
  | nil => rfl
  | cons x m ih =>
    show (if p x = true then (1 : Int) else 0) + sI (m.map fun D => if p D = true then 1 else 0) = _
    rw [ih]
    by_cases h : p x = true
    · rw [if_pos h, List.filter_cons_of_pos h, List.length_cons]
      omega
    · rw [if_neg h, List.filter_cons_of_neg h]
      omega
/-! ### masks -/
theorem two_ind {P : Nat → Prop} (h0 : P 0) (he : ∀ q, 0 < q → P q → P (2 * q)) (ho : ∀ q, P q → P (2 * q + 1)) (n : Nat) : P n := by
  induction n using Nat.strongRecOn with
  | ind n ih =>
    by_cases z : n = 0
    · rw [z]; exact h0
    · by_cases o : n % 2 = 1
      · have := ho (n / 2) (ih _ (by omega))
        rwa [show 2 * (n / 2) + 1 = n by omega] at this
      · have := he (n / 2) (by omega) (ih _ (by omega))
        rwa [show 2 * (n / 2) = n by omega] at this
theorem and_half (x y : Nat) : x &&& y = 2 * ((x / 2) &&& (y / 2)) + (if x % 2 = 1 ∧ y % 2 = 1 then 1 else 0) := by
  apply Nat.eq_of_testBit_eq
  intro i
  cases i with
  | zero =>
    rw [Nat.testBit_and, Nat.testBit_zero, Nat.testBit_zero, Nat.testBit_zero]
    by_cases a : x % 2 = 1 <;> by_cases b : y % 2 = 1 <;> simp [a, b] <;> omega
  | succ i =>
    rw [Nat.testBit_and, Nat.testBit_succ, Nat.testBit_succ, Nat.testBit_succ]
    have : (2 * ((x / 2) &&& (y / 2)) + (if x % 2 = 1 ∧ y % 2 = 1 then 1 else 0)) / 2 = (x / 2) &&& (y / 2) := by split <;> omega
    rw [this, Nat.testBit_and]
theorem and_ee (a b : Nat) : (2 * a) &&& (2 * b) = 2 * (a &&& b) := by
  rw [and_half, Nat.mul_div_cancel_left _ (by decide), Nat.mul_div_cancel_left _ (by decide), if_neg (by omega), Nat.add_zero]
theorem and_oe (a b : Nat) : (2 * a + 1) &&& (2 * b) = 2 * (a &&& b) := by
  rw [and_half, show (2 * a + 1) / 2 = a by omega, Nat.mul_div_cancel_left _ (by decide), if_neg (by omega), Nat.add_zero]
theorem and_eo (a b : Nat) : (2 * a) &&& (2 * b + 1) = 2 * (a &&& b) := by
  rw [and_half, show (2 * b + 1) / 2 = b by omega, Nat.mul_div_cancel_left _ (by decide), if_neg (by omega), Nat.add_zero]
theorem and_oo (a b : Nat) : (2 * a + 1) &&& (2 * b + 1) = 2 * (a &&& b) + 1 := by
  rw [and_half, show (2 * b + 1) / 2 = b by omega, show (2 * a + 1) / 2 = a by omega, if_pos (by omega)]
/-- the walk down the parts of S from x -/
inductive Dn2 (S : Nat) : Nat → List Nat → Prop where
  | zero : Dn2 S 0 []
  | next {x : Nat} {l : List Nat} : 0 < x → Dn2 S ((x - 1) &&& S) l → Dn2 S x (x :: l)
theorem Dn2.even {S x : Nat} {l : List Nat} (h : Dn2 S x l) : Dn2 (2 * S) (2 * x) (l.map (2 * ·)) := by
  induction h with
  | zero => exact .zero
  | @next x l hx h ih =>
    refine .next (by omega) ?_
    rw [show 2 * x - 1 = 2 * (x - 1) + 1 by omega, and_oe]
    exact ih
theorem and_again (a b : Nat) : (a &&& b) &&& b = a &&& b := by rw [Nat.and_assoc, Nat.and_self]
theorem Dn2.odd {S x : Nat} {l : List Nat} (h : Dn2 S x l) : x &&& S = x → Dn2 (2 * S + 1) (2 * x + 1) (l.flatMap (fun y => [2 * y + 1, 2 * y]) ++ [1]) := by
  induction h with
  | zero => exact fun _ => .next (by omega) (by rw [show 2 * 0 + 1 - 1 = 0 by omega, Nat.zero_and]; exact .zero)
  | @next x l hx h ih =>
    intro e
    refine .next (by omega) ?_
    rw [show 2 * x + 1 - 1 = 2 * x by omega, and_eo, e]
    refine .next (by omega) ?_
    rw [show 2 * x - 1 = 2 * (x - 1) + 1 by omega, and_oo]
    exact ih (and_again _ _)
/-- all parts of S but the empty one, as the walk meets them -/
def nzM (S : Nat) : List Nat := if S = 0 then [] else if S % 2 = 1 then (nzM (S / 2)).flatMap (fun y => [2 * y + 1, 2 * y]) ++ [1] else (nzM (S / 2)).map (2 * ·)
termination_by S
decreasing_by all_goals omega
theorem nzM_zero : nzM 0 = [] := by rw [nzM]; rfl
theorem nzM_even {q : Nat} (h : 0 < q) : nzM (2 * q) = (nzM q).map (2 * ·) := by
  rw [nzM, if_neg (by omega), if_neg (by omega), Nat.mul_div_cancel_left _ (by decide)]
theorem nzM_odd (q : Nat) : nzM (2 * q + 1) = (nzM q).flatMap (fun y => [2 * y + 1, 2 * y]) ++ [1] := by
  rw [nzM, if_neg (by omega), if_pos (by omega), show (2 * q + 1) / 2 = q by omega]
theorem dn_nzM (S : Nat) : Dn2 S S (nzM S) := by
  refine two_ind (P := fun S => Dn2 S S (nzM S)) ?_ (fun q hq ih => ?_) (fun q ih => ?_) S
  · rw [nzM_zero]; exact .zero
  · rw [nzM_even hq]; exact ih.even
  · rw [nzM_odd]; exact ih.odd (Nat.and_self _)
theorem nzM_part (S : Nat) : ∀ F ∈ nzM S, 0 < F ∧ F &&& S = F := by
  refine two_ind (P := fun S => ∀ F ∈ nzM S, 0 < F ∧ F &&& S = F) ?_ (fun q hq ih F hF => ?_) (fun q ih F hF => ?_) S
  · rw [nzM_zero]; exact fun F h => nomatch h
  · rw [nzM_even hq] at hF
    obtain ⟨y, hy, rfl⟩ := List.mem_map.mp hF
    obtain ⟨a, b⟩ := ih y hy
    exact ⟨by omega, by rw [and_ee, b]⟩
  · rw [nzM_odd] at hF
    rcases List.mem_append.mp hF with z | z
    · obtain ⟨y, hy, z⟩ := List.mem_flatMap.mp z
      obtain ⟨a, b⟩ := ih y hy
      rcases List.mem_cons.mp z with rfl | z
      · exact ⟨by omega, by rw [and_oo, b]⟩
      · rw [show F = 2 * y by simpa using z]
        exact ⟨by omega, by rw [and_eo, b]⟩
    · rw [show F = 1 by simpa using z]
      refine ⟨by decide, ?_⟩
      have := and_oo 0 q
      rwa [Nat.mul_zero, Nat.zero_and, Nat.mul_zero] at this
/-! ### the places of a mask -/
def memsR (F : Nat) : List Nat := if F = 0 then [] else (if F % 2 = 1 then [0] else []) ++ (memsR (F / 2)).map (· + 1)
termination_by F
decreasing_by omega
theorem memsR_zero : memsR 0 = [] := by rw [memsR]; rfl
theorem memsR_even (q : Nat) : memsR (2 * q) = (memsR q).map (· + 1) := by
  by_cases z : q = 0
  · rw [z, Nat.mul_zero, memsR_zero]; rfl
  · rw [memsR, if_neg (by omega), if_neg (by omega), Nat.mul_div_cancel_left _ (by decide)]; rfl
theorem memsR_odd (q : Nat) : memsR (2 * q + 1) = 0 :: (memsR q).map (· + 1) := by
  rw [memsR, if_neg (by omega), if_pos (by omega), show (2 * q + 1) / 2 = q by omega]; rfl
theorem tb_even (q i : Nat) : (2 * q).testBit (i + 1) = q.testBit i := by rw [Nat.testBit_succ, Nat.mul_div_cancel_left _ (by decide)]
theorem tb_odd (q i : Nat) : (2 * q + 1).testBit (i + 1) = q.testBit i := by rw [Nat.testBit_succ, show (2 * q + 1) / 2 = q by omega]
theorem tb_even0 (q : Nat) : (2 * q).testBit 0 = false := by rw [Nat.testBit_zero, decide_eq_false]; omega
theorem tb_odd0 (q : Nat) : (2 * q + 1).testBit 0 = true := by rw [Nat.testBit_zero, decide_eq_true]; omega
theorem mem_memsR (F : Nat) : ∀ i, i ∈ memsR F ↔ F.testBit i = true := by
  refine two_ind (P := fun F => ∀ i, i ∈ memsR F ↔ F.testBit i = true) ?_ (fun q _ ih i => ?_) (fun q ih i => ?_) F
  · intro i
    rw [memsR_zero, Nat.zero_testBit]
    simp
  · rw [memsR_even, List.mem_map]
    cases i with
    | zero => rw [tb_even0]; simp
    | succ i => rw [tb_even, ← ih i]; simp
  · rw [memsR_odd, List.mem_cons, List.mem_map]
    cases i with
    | zero => rw [tb_odd0]; simp
    | succ i => rw [tb_odd, ← ih i]; simp
theorem memsR_nodup (F : Nat) : (memsR F).Nodup := by
  have inc : ∀ l : List Nat, l.Nodup → (l.map (· + 1)).Nodup := fun l h => by
    rw [List.nodup_iff_pairwise_ne, List.pairwise_map]
    exact (List.nodup_iff_pairwise_ne.mp h).imp fun z e => z (by omega)
  refine two_ind (P := fun F => (memsR F).Nodup) ?_ (fun q _ ih => ?_) (fun q ih => ?_) F
  · rw [memsR_zero]; exact List.nodup_nil
  · rw [memsR_even]; exact inc _ ih
  · rw [memsR_odd]
    refine List.nodup_cons.mpr ⟨fun h => ?_, inc _ ih⟩
    obtain ⟨y, _, e⟩ := List.mem_map.mp h
    omega
/-- a product over the places -/
def pI : List Int → Int
  | [] => 1
  | x :: l => x * pI l
def pr (g : Nat → Int) (F : Nat) : Int := pI ((memsR F).map g)
theorem pr_zero (g : Nat → Int) : pr g 0 = 1 := by unfold pr; rw [memsR_zero]; rfl
theorem pr_even (g : Nat → Int) (q : Nat) : pr g (2 * q) = pr (fun i => g (i + 1)) q := by unfold pr; rw [memsR_even, List.map_map]; rfl
theorem pr_odd (g : Nat → Int) (q : Nat) : pr g (2 * q + 1) = g 0 * pr (fun i => g (i + 1)) q := by unfold pr; rw [memsR_odd, List.map_cons, List.map_map]; rfl
theorem flat_sum (f : Nat → Int) : ∀ l : List Nat, sI ((l.flatMap fun y => [2 * y + 1, 2 * y]).map f) = sI (l.map fun y => f (2 * y + 1) + f (2 * y))
  | [] => rfl
  | y :: l => by
    show f (2 * y + 1) + (f (2 * y) + sI ((l.flatMap fun y => [2 * y + 1, 2 * y]).map f)) = f (2 * y + 1) + f (2 * y) + sI (l.map fun y => f (2 * y + 1) + f (2 * y))
    rw [flat_sum f l]; omega
theorem pr_sum (S : Nat) : ∀ g : Nat → Int, sI ((nzM S).map (pr g)) + 1 = pr (fun i => 1 + g i) S := by
  refine two_ind (P := fun S => ∀ g : Nat → Int, sI ((nzM S).map (pr g)) + 1 = pr (fun i => 1 + g i) S) ?_ (fun q hq ih g => ?_) (fun q ih g => ?_) S
  · intro g; rw [nzM_zero, pr_zero]; rfl
  · rw [nzM_even hq, List.map_map, pr_even]
    have : (pr g ∘ fun x => 2 * x) = pr fun i => g (i + 1) := funext fun x => pr_even g x
    rw [this]
    exact ih _
  · rw [nzM_odd, List.map_append, sI_app, flat_sum, pr_odd, ← ih fun i => g (i + 1)]
    have e1 : (fun y => pr g (2 * y + 1) + pr g (2 * y)) = fun y => (1 + g 0) * pr (fun i => g (i + 1)) y := funext fun y => by
      rw [pr_odd, pr_even, Int.add_mul, Int.one_mul, Int.add_comm]
    have e2 : sI ([1].map (pr g)) = g 0 := by
      show pr g 1 + 0 = g 0
      have := pr_odd g 0
      rw [show 2 * 0 + 1 = 1 from rfl] at this
      rw [this, pr_zero, Int.mul_one, Int.add_zero]
    rw [e1, e2, sI_mul, Int.mul_add, Int.mul_one]
    omega
theorem pI_zero {l : List Int} (h : (0 : Int) ∈ l) : pI l = 0 := by
  induction l with
  | nil => cases h
  | cons x l ih =>
    show x * pI l = 0
    rcases List.mem_cons.mp h with rfl | h
    · exact Int.zero_mul _
    · rw [ih h, Int.mul_zero]
theorem pr_dead {g : Nat → Int} {F i : Nat} (hi : i ∈ memsR F) (h : g i = 0) : pr g F = 0 := pI_zero (List.mem_map.mpr ⟨i, hi, h⟩)
def sgn (n : Nat) : Int := if n % 2 = 1 then -1 else 1
theorem sgn_succ (n : Nat) : sgn (n + 1) = -1 * sgn n := by
  unfold sgn
  by_cases h : n % 2 = 1
  · rw [if_pos h, if_neg (by omega)]; rfl
  · rw [if_neg h, if_pos (by omega)]; rfl
theorem pI_ones : ∀ (l : List Nat) (g : Nat → Int), (∀ i ∈ l, g i = -1) → pI (l.map g) = sgn l.length
  | [], _, _ => rfl
  | x :: l, g, h => by
    show g x * pI (l.map g) = _
    rw [h x (List.mem_cons_self ..), pI_ones l g fun i hi => h i (List.mem_cons_of_mem _ hi), List.length_cons, sgn_succ]
theorem pr_live {g : Nat → Int} {F : Nat} (h : ∀ i ∈ memsR F, g i = -1) : pr g F = sgn (memsR F).length := pI_ones _ _ h
/-- S without its part F -/
theorem sub_bit (S : Nat) : ∀ F, F &&& S = F → ∀ i, (S - F).testBit i = (S.testBit i && !F.testBit i) := by
  refine two_ind (P := fun S => ∀ F, F &&& S = F → ∀ i, (S - F).testBit i = (S.testBit i && !F.testBit i)) ?_ (fun q _ ih F h i => ?_) (fun q ih F h i => ?_) S
  · intro F h i
    rw [Nat.and_zero] at h
    rw [← h]
    simp
  · rcases Nat.mod_two_eq_zero_or_one F with o | o
    · obtain ⟨f, rfl⟩ : ∃ f, F = 2 * f := ⟨F / 2, by omega⟩
      rw [and_ee] at h
      rw [show 2 * q - 2 * f = 2 * (q - f) by omega]
      cases i with
      | zero => rw [tb_even0, tb_even0]; rfl
      | succ i => rw [tb_even, tb_even, tb_even]; exact ih f (by omega) i
    · obtain ⟨f, rfl⟩ : ∃ f, F = 2 * f + 1 := ⟨F / 2, by omega⟩
      rw [and_oe] at h
      omega
  · rcases Nat.mod_two_eq_zero_or_one F with o | o
    · obtain ⟨f, rfl⟩ : ∃ f, F = 2 * f := ⟨F / 2, by omega⟩
      rw [and_eo] at h
      have hle : f ≤ q := by
        have : f &&& q = f := by omega
        rw [← this]; exact Nat.and_le_right
      rw [show 2 * q + 1 - 2 * f = 2 * (q - f) + 1 by omega]
      cases i with
      | zero => rw [tb_odd0, tb_odd0, tb_even0]; rfl
      | succ i => rw [tb_odd, tb_odd, tb_even]; exact ih f (by omega) i
    · obtain ⟨f, rfl⟩ : ∃ f, F = 2 * f + 1 := ⟨F / 2, by omega⟩
      rw [and_oo] at h
      rw [show 2 * q + 1 - (2 * f + 1) = 2 * (q - f) by omega]
      cases i with
      | zero => rw [tb_even0, tb_odd0, tb_odd0]; rfl
      | succ i => rw [tb_even, tb_odd, tb_odd]; exact ih f (by omega) i
theorem part_le {S F : Nat} (h : F &&& S = F) : F ≤ S := by rw [← h]; exact Nat.and_le_right
theorem part_bit {S F i : Nat} (h : F &&& S = F) (b : F.testBit i = true) : S.testBit i = true := by
  rw [← h, Nat.testBit_and] at b
  exact (Bool.and_eq_true_iff.mp b).2
end WL
end L2
set_option Elab.async false
set_option linter.all false
set_option maxRecDepth 100000
set_option maxHeartbeats 4000000
namespace L2
namespace WL
open PySem PySem.Spec PyProof.Rows K1 LamX
/-! ### sets of arrows without a ring -/
def Acy (D : List Ar) : Prop := ∃ r : Str → Nat, ∀ a ∈ D, r a.1 < r a.2
theorem Acy.sub {D D' : List Ar} (h : Acy D) (s : ∀ a ∈ D', a ∈ D) : Acy D' := let ⟨r, hr⟩ := h; ⟨r, fun a ha => hr a (s a ha)⟩
noncomputable def acyB (D : List Ar) : Bool := @decide (Acy D) (Classical.propDecidable _)
theorem acyB_iff {D : List Ar} : acyB D = true ↔ Acy D := @decide_eq_true_iff _ (Classical.propDecidable _)
noncomputable def indA (D : List Ar) : Int := if acyB D = true then 1 else 0
theorem indA_eq {D D' : List Ar} (h : Acy D ↔ Acy D') : indA D = indA D' := by
  unfold indA
  by_cases q : Acy D
  · rw [if_pos (acyB_iff.mpr q), if_pos (acyB_iff.mpr (h.mp q))]
  · rw [if_neg (fun z => q (acyB_iff.mp z)), if_neg (fun z => q (h.mpr (acyB_iff.mp z)))]
/-- is the name one of the mask's -/
def inM (C : List Str) (F : Nat) (x : Str) : Bool := (memsR F).any fun i => decide (C[i]? = some x)
theorem inM_iff {C : List Str} {F : Nat} {x : Str} : inM C F x = true ↔ ∃ i, C[i]? = some x ∧ F.testBit i = true := by
  unfold inM
  rw [List.any_eq_true]
  constructor
  · rintro ⟨i, hi, e⟩
    exact ⟨i, of_decide_eq_true e, (mem_memsR F i).mp hi⟩
  · rintro ⟨i, e, hi⟩
    exact ⟨i, (mem_memsR F i).mpr hi, decide_eq_true e⟩
theorem at_uniq {α : Type} {C : List α} (nd : C.Nodup) {i j : Nat} {x : α} (h1 : C[i]? = some x) (h2 : C[j]? = some x) : i = j := by
  obtain ⟨a, e1⟩ := List.getElem?_eq_some_iff.mp h1
  exact (List.getElem?_inj a nd).mp (h1.trans h2.symm)
theorem inM_at {C : List Str} (nd : C.Nodup) {F i : Nat} {x : Str} (h : C[i]? = some x) : inM C F x = F.testBit i := by
  rw [Bool.eq_iff_iff, inM_iff]
  constructor
  · rintro ⟨j, a, b⟩
    rw [at_uniq nd h a]
    exact b
  · exact fun b => ⟨i, h, b⟩
theorem inM_sub {C : List Str} (nd : C.Nodup) {S F : Nat} (h : F &&& S = F) (x : Str) : inM C (S - F) x = (inM C S x && !inM C F x) := by
  by_cases q : ∃ i : Nat, C[i]? = some x
  · obtain ⟨i, hi⟩ := q
    rw [inM_at nd hi, inM_at nd hi, inM_at nd hi, sub_bit S F h]
  · have z : ∀ F, inM C F x = false := fun F => by
      rw [Bool.eq_false_iff]
      intro z
      obtain ⟨i, a, _⟩ := inM_iff.mp z
      exact q ⟨i, a⟩
    rw [z, z, z]
    rfl
theorem inM_part {C : List Str} {S F : Nat} (h : F &&& S = F) {x : Str} (b : inM C F x = true) : inM C S x = true := by
  obtain ⟨i, a, b⟩ := inM_iff.mp b
  exact inM_iff.mpr ⟨i, a, part_bit h b⟩
def arrM (C : List Str) (E : List Ar) (S : Nat) : List Ar := E.filter fun a => inM C S a.1 && inM C S a.2
noncomputable def nAcy (C : List Str) (E : List Ar) (S : Nat) : Int := smS (arrM C E S) indA
def eFR (C : List Str) (E : List Ar) (F R : Nat) : Nat := (E.filter fun a => inM C F a.1 && inM C R a.2).length
theorem nAcy_first {C : List Str} (nd : C.Nodup) (E : List Ar) {S F : Nat} (h : F &&& S = F) :
    smS (arrM C E S) (fun D => (if (D.any fun a => inM C F a.2) = true then 0 else 1) * indA D) = 2 ^ eFR C E F (S - F) * nAcy C E (S - F) := by
  have k := smS_split (fun a : Ar => inM C F a.2) (fun a : Ar => inM C F a.1) (arrM C E S) indA
  have e1 : ((arrM C E S).filter fun x => !inM C F x.2 && inM C F x.1) = E.filter fun a => inM C F a.1 && inM C (S - F) a.2 := by
    unfold arrM
    rw [List.filter_filter]
    refine List.filter_congr fun a _ => ?_
    rw [inM_sub nd h]
    rcases hb : inM C F a.1 with _ | _
    · rw [Bool.and_false, Bool.false_and, Bool.false_and]
    · rw [inM_part h hb]
      cases inM C F a.2 <;> cases inM C S a.2 <;> rfl
  have e2 : ((arrM C E S).filter fun x => !inM C F x.2 && !inM C F x.1) = arrM C E (S - F) := by
    unfold arrM
    rw [List.filter_filter]
    refine List.filter_congr fun a _ => ?_
    rw [inM_sub nd h, inM_sub nd h]
    cases inM C F a.1 <;> cases inM C F a.2 <;> cases inM C S a.1 <;> cases inM C S a.2 <;> rfl
  rw [e1, e2] at k
  rw [show eFR C E F (S - F) = (E.filter fun a => inM C F a.1 && inM C (S - F) a.2).length from rfl, nAcy, ← k]
  refine smS_congr fun D hD => ?_
  by_cases q : (D.any fun a => inM C F a.2) = true
  · rw [if_pos q, Int.zero_mul, Int.zero_mul]
  · rw [if_neg q]
    have nq : ∀ a ∈ D, inM C F a.2 = false := fun a ha => by
      rw [Bool.eq_false_iff]
      exact fun z => q (List.any_eq_true.mpr ⟨a, ha, z⟩)
    congr 1
    refine indA_eq ⟨fun z => z.sub fun a ha => (List.mem_filter.mp ha).1, fun ⟨r, hr⟩ => ⟨fun x => if inM C F x = true then 0 else r x + 1, fun a ha => ?_⟩⟩
    show (if inM C F a.1 = true then 0 else r a.1 + 1) < if inM C F a.2 = true then 0 else r a.2 + 1
    rw [nq a ha, if_neg (show ¬ (false = true) by decide)]
    split
    · omega
    · rename_i z
      have := hr a (List.mem_filter.mpr ⟨ha, by rw [nq a ha, Bool.eq_false_iff.mpr z]; rfl⟩)
      omega
theorem arrM_mem {C : List Str} {E : List Ar} {S : Nat} {D : List Ar} (hD : D ∈ setsL (arrM C E S)) {a : Ar} (ha : a ∈ D) : inM C S a.1 = true ∧ inM C S a.2 = true := by
  have := setsL_sub _ D hD a ha
  exact Bool.and_eq_true_iff.mp (List.mem_filter.mp this).2
/-- one of the least rank -/
theorem least_rank (f : Nat → Nat) : ∀ l : List Nat, l ≠ [] → ∃ i ∈ l, ∀ j ∈ l, f i ≤ f j
  | [], h => absurd rfl h
  | [x], _ => ⟨x, List.mem_cons_self .., fun j hj => by rw [show j = x by simpa using hj]; omega⟩
  | x :: y :: l, _ => by
    obtain ⟨i, hi, h⟩ := least_rank f (y :: l) (by simp)
    by_cases q : f x ≤ f i
    · refine ⟨x, List.mem_cons_self .., fun j hj => ?_⟩
      rcases List.mem_cons.mp hj with rfl | hj
      · omega
      · have := h j hj; omega
    · refine ⟨i, List.mem_cons_of_mem _ hi, fun j hj => ?_⟩
      rcases List.mem_cons.mp hj with rfl | hj
      · omega
      · exact h j hj
def gD (C : List Str) (D : List Ar) (i : Nat) : Int := if (D.any fun a => decide (C[i]? = some a.2)) = true then 0 else -1
theorem pr_gD {C : List Str} (D : List Ar) (F : Nat) : pr (gD C D) F = sgn (memsR F).length * if (D.any fun a => inM C F a.2) = true then 0 else 1 := by
  by_cases q : (D.any fun a => inM C F a.2) = true
  · rw [if_pos q, Int.mul_zero]
    obtain ⟨a, ha, hm⟩ := List.any_eq_true.mp q
    obtain ⟨i, hi, hb⟩ := inM_iff.mp hm
    refine pr_dead ((mem_memsR F i).mpr hb) ?_
    unfold gD
    exact if_pos (List.any_eq_true.mpr ⟨a, ha, decide_eq_true hi⟩)
  · rw [if_neg q, Int.mul_one]
    refine pr_live fun i hi => ?_
    unfold gD
    refine if_neg fun z => q ?_
    obtain ⟨a, ha, hm⟩ := List.any_eq_true.mp z
    exact List.any_eq_true.mpr ⟨a, ha, inM_iff.mpr ⟨i, of_decide_eq_true hm, (mem_memsR F i).mp hi⟩⟩
theorem pr_gD_sum {C : List Str} (nd : C.Nodup) (E : List Ar) {S : Nat} (hS : S ≠ 0) (hn : ∀ i, S.testBit i = true → i < C.length) {D : List Ar} (hD : D ∈ setsL (arrM C E S)) (hA : Acy D) : sI ((nzM S).map (pr (gD C D))) = -1 := by
  have k := pr_sum S (gD C D)
  have z : pr (fun i => 1 + gD C D i) S = 0 := by
    obtain ⟨r, hr⟩ := hA
    have ne : memsR S ≠ [] := fun e => by
      obtain ⟨i, hi⟩ := Nat.exists_testBit_of_ne_zero hS
      have := (mem_memsR S i).mpr hi
      rw [e] at this
      cases this
    obtain ⟨i, hi, hmin⟩ := least_rank (fun i => r (C.getD i Str.empty)) _ ne
    refine pr_dead hi ?_
    have : gD C D i = -1 := by
      unfold gD
      refine if_neg fun z => ?_
      obtain ⟨a, ha, e⟩ := List.any_eq_true.mp z
      have e := of_decide_eq_true e
      obtain ⟨k, hk, hb⟩ := inM_iff.mp (arrM_mem hD ha).1
      have h1 := hmin k ((mem_memsR S k).mpr hb)
      have h2 := hr a ha
      rw [List.getD_eq_getElem?_getD, e, List.getD_eq_getElem?_getD, hk] at h1
      have h1 : r a.2 ≤ r a.1 := h1
      omega
    rw [this]
    rfl
  omega
/-- the recurrence -/
theorem nAcy_rec {C : List Str} (nd : C.Nodup) (E : List Ar) {S : Nat} (hS : S ≠ 0) (hn : ∀ i, S.testBit i = true → i < C.length) :
    sI ((nzM S).map fun F => (if (memsR F).length % 2 = 1 then 2 ^ eFR C E F (S - F) * nAcy C E (S - F) else -(2 ^ eFR C E F (S - F) * nAcy C E (S - F)))) = nAcy C E S := by
  have e1 : sI ((nzM S).map fun F => (if (memsR F).length % 2 = 1 then 2 ^ eFR C E F (S - F) * nAcy C E (S - F) else -(2 ^ eFR C E F (S - F) * nAcy C E (S - F)))) = sI ((nzM S).map fun F => -1 * smS (arrM C E S) fun D => indA D * pr (gD C D) F) := by
    refine sI_congr fun F hF => ?_
    rw [← nAcy_first nd E (nzM_part S F hF).2]
    have e2 : smS (arrM C E S) (fun D => indA D * pr (gD C D) F) = sgn (memsR F).length * smS (arrM C E S) fun D => (if (D.any fun a => inM C F a.2) = true then 0 else 1) * indA D := by
      rw [← smS_mul]
      refine smS_congr fun D _ => ?_
      rw [pr_gD, Int.mul_comm, Int.mul_assoc]
    rw [e2]
    unfold sgn
    split <;> omega
  rw [e1, sI_mul, ← smS_swap]
  have e3 : smS (arrM C E S) (fun D => sI ((nzM S).map fun F => indA D * pr (gD C D) F)) = smS (arrM C E S) fun D => -1 * indA D := by
    refine smS_congr fun D hD => ?_
    rw [sI_mul]
    by_cases q : Acy D
    · rw [pr_gD_sum nd E hS hn hD q]
      omega
    · have : indA D = 0 := if_neg fun z => q (acyB_iff.mp z)
      rw [this]
      omega
  rw [e3, smS_mul]
  show -1 * (-1 * nAcy C E S) = nAcy C E S
  omega
theorem memsR_bit (F : Nat) (n : Nat) (h : F < 2 ^ n) (i : Nat) (b : F.testBit i = true) : i < n := by
  by_cases q : i < n
  · exact q
  · have : F.testBit i = false := Nat.testBit_lt_two_pow (Nat.lt_of_lt_of_le h (Nat.pow_le_pow_right (by decide) (by omega)))
    rw [this] at b
    cases b
/-- at no cells: one -/
theorem nAcy_zero (C : List Str) (E : List Ar) : nAcy C E 0 = 1 := by
  have : arrM C E 0 = [] := by
    unfold arrM
    refine List.filter_eq_nil_iff.mpr fun a _ z => ?_
    obtain ⟨i, _, b⟩ := inM_iff.mp (Bool.and_eq_true_iff.mp z).1
    rw [Nat.zero_testBit] at b
    cases b
  unfold nAcy
  rw [this]
  show indA [] + 0 = 1
  have z : Acy [] := ⟨fun _ => 0, fun a h => by cases h⟩
  have : indA [] = 1 := if_pos (acyB_iff.mpr z)
  omega
theorem nAcy_count (C : List Str) (E : List Ar) (S : Nat) : nAcy C E S = (((setsL (arrM C E S)).filter acyB).length : Nat) := smS_count _ _
theorem nAcy_bound (C : List Str) (E : List Ar) (S : Nat) : ∃ n : Nat, nAcy C E S = (n : Int) ∧ n ≤ 2 ^ E.length := by
  refine ⟨_, nAcy_count C E S, Nat.le_trans (List.length_filter_le _ _) ?_⟩
  rw [setsL_len]
  exact Nat.pow_le_pow_right (by decide) (List.length_filter_le _ _)
/-! ### arrows from here to there, counted by masks -/
def tgM (C : List Str) (W : List Ar) (i : Nat) : Nat → Bool := fun j => match C[i]?, C[j]? with
  | some a, some b => decide ((a, b) ∈ W)
  | _, _ => false
theorem len_flat {α β : Type} (f : α → List β) : ∀ l : List α, (l.flatMap f).length = (l.map fun x => (f x).length).sum
  | [] => rfl
  | x :: l => by
    show (f x ++ l.flatMap f).length = (f x).length + (l.map fun x => (f x).length).sum
    rw [List.length_append, len_flat f l]
theorem free_eq {C : List Str} (nd : C.Nodup) {E W : List Ar} (nE : E.Nodup) (hE : ∀ a, a ∈ E ↔ a ∈ W ∧ a.1 ∈ C ∧ a.2 ∈ C ∧ a.1 ≠ a.2) {T : Nat → Nat} (hT : ∀ i j, i < C.length → ((T i).testBit j = tgM C W i j)) {F R : Nat}
    (hF : ∀ i, F.testBit i = true → i < C.length) (dis : ∀ i, F.testBit i = true → R.testBit i = true → False) :
    ((memsR F).map fun i => (memsR (T i &&& R)).length).sum = eFR C E F R := by
  have e : ((memsR F).flatMap fun i => (memsR (T i &&& R)).map fun j => ((C.getD i Str.empty, C.getD j Str.empty) : Ar)).length = ((memsR F).map fun i => (memsR (T i &&& R)).length).sum := by
    rw [len_flat]
    simp only [List.length_map]
  have mm : ∀ i j, i ∈ memsR F → j ∈ memsR (T i &&& R) → ∃ a b, C[i]? = some a ∧ C[j]? = some b ∧ (a, b) ∈ W ∧ R.testBit j = true ∧ F.testBit i = true := fun i j hi hj => by
    have hi := (mem_memsR F i).mp hi
    have hj := (mem_memsR _ j).mp hj
    rw [Nat.testBit_and] at hj
    obtain ⟨h1, h2⟩ := Bool.and_eq_true_iff.mp hj
    rw [hT i j (hF i hi)] at h1
    unfold tgM at h1
    split at h1
    · rename_i a b ea eb
      exact ⟨a, b, ea, eb, of_decide_eq_true h1, h2, hi⟩
    · cases h1
  have gd : ∀ {i : Nat} {a : Str}, C[i]? = some a → C.getD i Str.empty = a := fun h => by rw [List.getD_eq_getElem?_getD, h]; rfl
  rw [← e]
  unfold eFR
  refine List.Perm.length_eq ((List.perm_ext_iff_of_nodup ?_ (nE.sublist List.filter_sublist)).mpr fun x => ?_)
  · rw [List.nodup_iff_pairwise_ne, List.pairwise_flatMap]
    refine ⟨fun i hi => ?_, ?_⟩
    · rw [List.pairwise_map]
      refine (List.Pairwise.and_mem.mp (List.nodup_iff_pairwise_ne.mp (memsR_nodup _))).imp fun {j k} ⟨hj, hk, ne⟩ z => ?_
      obtain ⟨a, b, ea, eb, _⟩ := mm i j hi hj
      obtain ⟨a', b', ea', eb', _⟩ := mm i k hi hk
      have z2 := (Prod.mk.inj z).2
      rw [gd eb, gd eb'] at z2
      exact ne (at_uniq nd eb (z2 ▸ eb'))
    · refine (List.Pairwise.and_mem.mp (List.nodup_iff_pairwise_ne.mp (memsR_nodup _))).imp fun {i k} ⟨hi, hk, ne⟩ x hx y hy z => ?_
      obtain ⟨j, hj, rfl⟩ := List.mem_map.mp hx
      obtain ⟨j', hj', rfl⟩ := List.mem_map.mp hy
      obtain ⟨a, b, ea, eb, _⟩ := mm i j hi hj
      obtain ⟨a', b', ea', eb', _⟩ := mm k j' hk hj'
      have z1 := (Prod.mk.inj z).1
      rw [gd ea, gd ea'] at z1
      exact ne (at_uniq nd ea (z1 ▸ ea'))
  · rw [List.mem_flatMap, List.mem_filter]
    constructor
    · rintro ⟨i, hi, hx⟩
      obtain ⟨j, hj, rfl⟩ := List.mem_map.mp hx
      obtain ⟨a, b, ea, eb, hw, hr, hf⟩ := mm i j hi hj
      rw [gd ea, gd eb]
      refine ⟨(hE _).mpr ⟨hw, List.mem_of_getElem? ea, List.mem_of_getElem? eb, fun z => ?_⟩, by rw [Bool.and_eq_true_iff, inM_at nd ea, inM_at nd eb]; exact ⟨hf, hr⟩⟩
      have z : a = b := z
      exact dis i hf (at_uniq nd eb (z ▸ ea) ▸ hr)
    · rintro ⟨hx, hb⟩
      obtain ⟨b1, b2⟩ := Bool.and_eq_true_iff.mp hb
      obtain ⟨i, ea, hf⟩ := inM_iff.mp b1
      obtain ⟨j, eb, hr⟩ := inM_iff.mp b2
      refine ⟨i, (mem_memsR F i).mpr hf, List.mem_map.mpr ⟨j, (mem_memsR _ j).mpr ?_, by rw [gd ea, gd eb]⟩⟩
      rw [Nat.testBit_and, hr, Bool.and_true, hT i j (hF i hf)]
      unfold tgM
      rw [ea, eb]
      exact decide_eq_true ((hE x).mp hx).1
/-! ### the law's own numbers: rounds until nothing moves -/
def setN (num : Str → Nat) (x : Str) (v : Nat) : Str → Nat := fun y => if y = x then v else num y
def bfT (num : Str → Nat) (moved : Bool) : List Ar → (Str → Nat) × Bool
  | [] => (num, moved)
  | a :: l => if num a.1 + 1 > num a.2 then bfT (setN num a.2 (num a.1 + 1)) true l else bfT num moved l
def bfR (ties : List Ar) : Nat → (Str → Nat) → Option (Str → Nat)
  | 0, _ => none
  | k + 1, num => if (bfT num false ties).2 = true then bfR ties k (bfT num false ties).1 else some (bfT num false ties).1
theorem bfT_moved : ∀ (l : List Ar) (num : Str → Nat), (bfT num true l).2 = true
  | [], _ => rfl
  | a :: l, num => by
    unfold bfT
    split
    · exact bfT_moved l _
    · exact bfT_moved l _
theorem bfT_still : ∀ (l : List Ar) (num : Str → Nat), (bfT num false l).2 = false → ∀ a ∈ l, num a.1 < num a.2
  | [], _, _ => fun a h => nomatch h
  | a :: l, num, h => by
    unfold bfT at h
    split at h
    · rw [bfT_moved] at h; cases h
    · rename_i z
      intro b hb
      rcases List.mem_cons.mp hb with rfl | hb
      · omega
      · exact bfT_still l num h b hb
theorem bfR_acy (ties : List Ar) : ∀ (m : Nat) (num : Str → Nat), (bfR ties m num).isSome = true → Acy ties
  | 0, _, h => nomatch h
  | m + 1, num, h => by
    unfold bfR at h
    split at h
    · exact bfR_acy ties m _ h
    · rename_i z
      exact ⟨num, bfT_still ties num (by simpa using z)⟩
theorem bfT_inv (k : Nat) (d : Str → Nat) : ∀ (rest done : List Ar) (num : Str → Nat) (moved : Bool), (∀ t ∈ done ++ rest, t.1 ≠ t.2 ∧ d t.1 < d t.2) → (∀ x, num x ≤ d x) →
    (∀ t ∈ done, num t.1 + 1 ≤ num t.2 ∨ k ≤ num t.1) → (∀ t ∈ rest, num t.1 + 1 ≤ num t.2 ∨ k ≤ num t.1 + 1) →
    (∀ t ∈ done ++ rest, (bfT num moved rest).1 t.1 + 1 ≤ (bfT num moved rest).1 t.2 ∨ k ≤ (bfT num moved rest).1 t.1) ∧ ((bfT num moved rest).2 = true → moved = true ∨ ∃ x, k ≤ (bfT num moved rest).1 x ∧ ∃ t ∈ rest, x = t.2) ∧ (∀ x, num x ≤ (bfT num moved rest).1 x) ∧ (∀ x, (bfT num moved rest).1 x ≤ d x)
  | [], done, num, moved, _, hd, h1, h2 => ⟨by rw [List.append_nil]; exact h1, fun h => .inl h, fun _ => Nat.le_refl _, hd⟩
  | a :: l, done, num, moved, hk, hd, h1, h2 => by
    have ha := hk a (List.mem_append_right _ (List.mem_cons_self ..))
    have hk' : ∀ t ∈ (done ++ [a]) ++ l, t.1 ≠ t.2 ∧ d t.1 < d t.2 := fun t ht => hk t (by rw [List.append_assoc] at ht; exact ht)
    unfold bfT
    split
    · rename_i z
      have up : ∀ x, num x ≤ setN num a.2 (num a.1 + 1) x := fun x => by
        unfold setN
        split
        · rename_i e; rw [e]; omega
        · omega
      have self : setN num a.2 (num a.1 + 1) a.2 = num a.1 + 1 := if_pos rfl
      have oth : ∀ x, x ≠ a.2 → setN num a.2 (num a.1 + 1) x = num x := fun x e => if_neg e
      have hi : k ≤ num a.1 + 1 := (h2 a (List.mem_cons_self ..)).elim (fun q => by omega) id
      have hda := hd a.1
      obtain ⟨r1, r2, r3, r4⟩ := bfT_inv k d l (done ++ [a]) (setN num a.2 (num a.1 + 1)) true hk' (fun x => by
          by_cases e : x = a.2
          · rw [e, self]; omega
          · rw [oth x e]; exact hd x) (fun t ht => by
          by_cases e : t.1 = a.2
          · right; rw [e, self]; exact hi
          · rw [oth _ e]
            rcases List.mem_append.mp ht with q | q
            · rcases h1 t q with q | q
              · left; have := up t.2; omega
              · exact .inr q
            · rw [show t = a by simpa using q, self]
              left; omega) (fun t ht => by
          by_cases e : t.1 = a.2
          · right; rw [e, self]; omega
          · rw [oth _ e]
            rcases h2 t (List.mem_cons_of_mem _ ht) with q | q
            · left; have := up t.2; omega
            · exact .inr q)
      rw [List.append_assoc] at r1
      refine ⟨r1, fun _ => .inr ⟨a.2, ?_, a, List.mem_cons_self .., rfl⟩, fun x => Nat.le_trans (up x) (r3 x), r4⟩
      have := r3 a.2
      rw [self] at this
      omega
    · rename_i z
      obtain ⟨r1, r2, r3, r4⟩ := bfT_inv k d l (done ++ [a]) num moved hk' hd (fun t ht => by
          rcases List.mem_append.mp ht with q | q
          · exact h1 t q
          · rw [show t = a by simpa using q]
            left; omega) (fun t ht => h2 t (List.mem_cons_of_mem _ ht))
      rw [List.append_assoc] at r1
      exact ⟨r1, fun h => (r2 h).imp id fun ⟨x, q, t, ht, e⟩ => ⟨x, q, t, List.mem_cons_of_mem _ ht, e⟩, r3, r4⟩
theorem bfR_some {ties : List Ar} {d : Str → Nat} {n : Nat} (hk : ∀ t ∈ ties, t.1 ≠ t.2 ∧ d t.1 < d t.2) (hn : ∀ t ∈ ties, d t.2 < n) : ∀ (m k : Nat) (num : Str → Nat), (∀ x, num x ≤ d x) →
    (∀ t ∈ ties, num t.1 + 1 ≤ num t.2 ∨ k ≤ num t.1 + 1) → n < m + k → (k ≤ n ∨ 0 < m) → (bfR ties m num).isSome = true
  | 0, k, num, _, _, h3, h4 => by omega
  | m + 1, k, num, h1, h2, h3, h4 => by
    unfold bfR
    split
    · rename_i z
      obtain ⟨r1, r2, r3, r4⟩ := bfT_inv k d ties [] num false (by rw [List.nil_append]; exact hk) h1 (fun t h => nomatch h) h2
      rcases r2 z with q | ⟨x, q, t, ht, e⟩
      · cases q
      · rw [e] at q
        have h5 := hn t ht
        have h6 := r4 t.2
        refine bfR_some hk hn m (k + 1) _ r4 (fun t ht => ?_) (by omega) (.inl (by omega))
        rcases r1 t (by rw [List.nil_append]; exact ht) with q | q
        · exact .inl q
        · exact .inr (by omega)
    · rfl
theorem filter_lt {α : Type} {p q : α → Bool} {x : α} : ∀ {l : List α}, (∀ y ∈ l, p y = true → q y = true) → x ∈ l → q x = true → p x = false → (l.filter p).length < (l.filter q).length
  | [], _, h, _, _ => nomatch h
  | a :: l, hpq, h, hq, hp => by
    have le : (l.filter p).length ≤ (l.filter q).length := by
      have : ∀ m : List α, (∀ y ∈ m, p y = true → q y = true) → (m.filter p).length ≤ (m.filter q).length := by
        intro m
        induction m with
        | nil => exact fun _ => Nat.le_refl _
        | cons b m ih =>
          intro h
          have ih := ih fun y hy => h y (List.mem_cons_of_mem _ hy)
          by_cases pb : p b = true
          · rw [List.filter_cons_of_pos pb, List.filter_cons_of_pos (h b (List.mem_cons_self ..) pb), List.length_cons, List.length_cons]; omega
          · rw [List.filter_cons_of_neg pb]
            by_cases qb : q b = true
            · rw [List.filter_cons_of_pos qb, List.length_cons]; omega
            · rw [List.filter_cons_of_neg qb]; exact ih
      exact this l fun y hy => hpq y (List.mem_cons_of_mem _ hy)
    rcases List.mem_cons.mp h with rfl | h
    · rw [List.filter_cons_of_pos hq, List.filter_cons_of_neg (by rw [hp]; decide), List.length_cons]; omega
    · have ih := filter_lt (fun y hy => hpq y (List.mem_cons_of_mem _ hy)) h hq hp
      by_cases pb : p a = true
      · rw [List.filter_cons_of_pos pb, List.filter_cons_of_pos (hpq a (List.mem_cons_self ..) pb), List.length_cons, List.length_cons]; omega
      · rw [List.filter_cons_of_neg pb]
        by_cases qb : q a = true
        · rw [List.filter_cons_of_pos qb, List.length_cons]; omega
        · rw [List.filter_cons_of_neg qb]; exact ih
def bfG (C : List Str) (ties : List Ar) : Option (Str → Nat) := bfR ties (C.length + 1) fun _ => 0
theorem bfG_iff {C : List Str} {ties : List Ar} (h : ∀ a ∈ ties, a.1 ∈ C ∧ a.2 ∈ C) : (bfG C ties).isSome = true ↔ Acy ties := by
  refine ⟨bfR_acy ties _ _, fun ⟨r, hr⟩ => ?_⟩
  have k : ∀ t ∈ ties, t.1 ≠ t.2 ∧ (C.filter fun y => decide (r y < r t.1)).length < (C.filter fun y => decide (r y < r t.2)).length := fun t ht => by
    have := hr t ht
    refine ⟨fun e => by rw [e] at this; omega, filter_lt (x := t.1) (fun y _ hy => decide_eq_true (Nat.lt_trans (of_decide_eq_true hy) this)) (h t ht).1 (decide_eq_true this) (decide_eq_false (by omega))⟩
  refine bfR_some (d := fun x => (C.filter fun y => decide (r y < r x)).length) (n := C.length) k (fun t ht => ?_) (C.length + 1) 1 _ (fun _ => Nat.zero_le _) (fun t _ => .inr (by omega)) (by omega) (by omega)
  have := filter_lt (p := fun y => decide (r y < r t.2)) (q := fun _ => true) (x := t.2) (l := C) (fun _ _ _ => rfl) (h t ht).2 rfl (decide_eq_false (by omega))
  rwa [List.filter_eq_self.mpr (fun _ _ => rfl)] at this
/-! ### the marks that a race brings hold no ring of new ones -/
structure NewInv (s : RSt) : Prop where
  src : ∀ a, (a, true) ∈ s.1 → a.1 ∈ s.2
  ord : ∀ a, (a, true) ∈ s.1 → a.2 ∈ s.2 → s.2.idxOf a.1 < s.2.idxOf a.2
theorem NewInv.step {A : List Ar} {C : List Str} {s s' : RSt} {a : RAct} (h : NewInv s) (e : rstep A C s a = some s') : NewInv s' := by
  match a, e with
  | .junk, e => cases e
  | .rd none _, e => cases e
  | .wr none, e => cases e
  | .rd (some x) c, e =>
    obtain ⟨h1, h2, h3, rfl⟩ := rstep_rd e
    refine ⟨fun b hb => ?_, fun b hb hd => ?_⟩
    · rcases List.mem_append.mp hb with q | q
      · exact h.src b q
      · have q : (b, true) = ((x, c), decide (x ∈ s.2)) := List.mem_singleton.mp q
        obtain ⟨q1, q2⟩ := Prod.mk.inj q
        rw [q1]
        exact of_decide_eq_true q2.symm
    · rcases List.mem_append.mp hb with q | q
      · exact h.ord b q hd
      · have q : (b, true) = ((x, c), decide (x ∈ s.2)) := List.mem_singleton.mp q
        obtain ⟨q1, q2⟩ := Prod.mk.inj q
        rw [q1] at hd
        exact absurd hd h3
  | .wr (some c), e =>
    obtain ⟨h1, h2, h3, rfl⟩ := rstep_wr e
    refine ⟨fun b hb => List.mem_append_left _ (h.src b hb), fun b hb hd => ?_⟩
    have hs := h.src b hb
    show (s.2 ++ [c]).idxOf b.1 < (s.2 ++ [c]).idxOf b.2
    rw [List.idxOf_append, if_pos hs, List.idxOf_append]
    by_cases q : b.2 ∈ s.2
    · rw [if_pos q]
      exact h.ord b hb q
    · rw [if_neg q]
      have := List.idxOf_lt_length_of_mem hs
      omega
theorem NewInv.go {A : List Ar} {C : List Str} : ∀ (l : List RAct) {s s' : RSt} {i : Nat}, NewInv s → RInv A C s → rgo A C l s i = .inr s' → NewInv s' ∧ RInv A C s'
  | [], s, s', i, h, r, e => by
    have e : s = s' := Sum.inr.inj e
    exact e ▸ ⟨h, r⟩
  | a :: l, s, s', i, h, r, e => by
    unfold rgo at e
    split at e
    · cases e
    · rename_i s1 hs
      exact NewInv.go l (h.step hs) (r.step hs) e
theorem mkOf_mem {f : List (Ar × Bool)} {a : Ar} (h : mkOf f a = true) : (a, true) ∈ f := by
  unfold mkOf at h
  split at h
  · rename_i p hp
    have h1 := List.mem_of_find?_eq_some hp
    have h2 : p.1 = a := by simpa using List.find?_some hp
    rw [show p = (a, true) from Prod.ext h2 h] at h1
    exact h1
  · cases h
/-- the new ones of a race that has come to its end -/
theorem race_new {A : List Ar} {C : List Str} {l : List RAct} {s : RSt} (tC : ∀ a ∈ A, a.2 ∈ C) (e : rgo A C l ([], []) 0 = .inr s) (hl : ¬ s.2.length < C.length) :
    Acy (A.filter fun a => mkOf s.1 a) ∧ ∀ a ∈ A, mkOf s.1 a = true → a.1 ∈ C ∧ a.1 ≠ a.2 := by
  obtain ⟨h, r⟩ := NewInv.go l (s := ([], [])) ⟨(fun a h => by cases h), (fun a h => by cases h)⟩ RInv.zero e
  obtain ⟨d1, d2, _, _⟩ := all_done r tC hl
  have k : ∀ a ∈ A, mkOf s.1 a = true → s.2.idxOf a.1 < s.2.idxOf a.2 := fun a ha hm => h.ord a (mkOf_mem hm) (d1 _ (tC a ha))
  refine ⟨⟨fun x => s.2.idxOf x, fun a ha => ?_⟩, fun a ha hm => ⟨r.dC _ (h.src a (mkOf_mem hm)), fun z => ?_⟩⟩
  · obtain ⟨h1, h2⟩ := List.mem_filter.mp ha
    exact k a h1 h2
  · have := k a ha hm
    rw [z] at this
    omega
end WL
end L2
set_option Elab.async false
set_option linter.all false
set_option maxRecDepth 100000
set_option maxHeartbeats 4000000
namespace L2
namespace WL
open PySem PySem.Spec PyProof.Rows K1 LamX
/-! ### masks as the program makes them -/
theorem range_mems (F : Nat) : ∀ n, F < 2 ^ n → (List.range n).filter (fun i => F.testBit i) = memsR F := by
  refine two_ind (P := fun F => ∀ n, F < 2 ^ n → (List.range n).filter (fun i => F.testBit i) = memsR F) (fun n _ => ?_) (fun q hq ih n hn => ?_) (fun q ih n hn => ?_) F
  · rw [memsR_zero]
    exact List.filter_eq_nil_iff.mpr fun i _ => by rw [Nat.zero_testBit]; decide
  · cases n with
    | zero => simp at hn; omega
    | succ n =>
      rw [List.range_succ_eq_map, List.filter_cons_of_neg (by rw [tb_even0]; decide), memsR_even, ← ih n (by rw [Nat.pow_succ] at hn; omega), List.filter_map]
      congr 1
      exact List.filter_congr fun i _ => tb_even q i
  · cases n with
    | zero => simp at hn
    | succ n =>
      rw [List.range_succ_eq_map, List.filter_cons_of_pos (by rw [tb_odd0]), memsR_odd, ← ih n (by rw [Nat.pow_succ] at hn; omega), List.filter_map]
      congr 2
      exact List.filter_congr fun i _ => tb_odd q i
theorem bits_nat (F : Nat) : F < 2 ^ Builtin.Int.intBits (F : Int) := by
  unfold Builtin.Int.intBits
  by_cases h : F = 0
  · rw [h]; decide
  · rw [if_neg (by simpa using h), Int.natAbs_natCast]
    exact Nat.lt_log2_self
theorem bits_small {F n : Nat} (h : F < 2 ^ n) : Builtin.Int.intBits (F : Int) ≤ n := PyProof.Rows.intBits_le (by rw [Int.natAbs_natCast]; exact h)
theorem tb_iff (F i : Nat) : F.testBit i = decide (F / 2 ^ i % 2 = 1) := Nat.testBit_eq_decide_div_mod_eq
/-- x & y of two that are not below nought -/
theorem bitAnd_nn (x y : Nat) : Builtin.bitAnd (x : Int) (y : Int) = ((x &&& y : Nat) : Int) := by
  unfold Builtin.bitAnd
  rfl
def rAndN : R2 := fun x y H Q => ∃ n m : Nat, x = .int (n : Int) ∧ y = .int (m : Int) ∧ Q (.int ((n &&& m : Nat) : Int)) H
theorem op_andN {X : Cx} : OpR X (binaryOp .BitAnd) rAndN := by
  intro pins s σ H x y v u Q I rx ry h
  obtain ⟨n, m, rfl, rfl, q⟩ := h
  rw [← bitAnd_nn n m] at q
  exact op_and pins s σ H _ _ v u Q I rx ry ⟨_, _, rfl, rfl, q⟩
/-- the mask of those of 0 .. n - 1 that are so -/
def mkM (p : Nat → Bool) : Nat → Nat
  | 0 => 0
  | n + 1 => mkM p n + if p n = true then 2 ^ n else 0
theorem mkM_lt (p : Nat → Bool) : ∀ n, mkM p n < 2 ^ n
  | 0 => by show 0 < 1; omega
  | n + 1 => by
    have := mkM_lt p n
    show mkM p n + (if p n = true then 2 ^ n else 0) < 2 ^ (n + 1)
    rw [Nat.pow_succ]
    split <;> omega
theorem mkM_bit (p : Nat → Bool) (j : Nat) : ∀ n, (mkM p n).testBit j = (decide (j < n) && p j)
  | 0 => by show Nat.testBit 0 j = _; rw [Nat.zero_testBit, decide_eq_false (by omega)]; rfl
  | n + 1 => by
    have ih := mkM_bit p j n
    have lt := mkM_lt p n
    show (mkM p n + (if p n = true then 2 ^ n else 0)).testBit j = _
    by_cases h : p n = true
    · rw [if_pos h, Nat.add_comm]
      rcases Nat.lt_trichotomy j n with z | z | z
      · rw [Nat.testBit_two_pow_add_gt z, ih, decide_eq_true z, decide_eq_true (by omega)]
      · rw [z, Nat.testBit_two_pow_add_eq, Nat.testBit_lt_two_pow lt, decide_eq_true (by omega), h]
        rfl
      · rw [decide_eq_false (by omega), Bool.false_and]
        refine Nat.testBit_lt_two_pow (Nat.lt_of_lt_of_le ?_ (Nat.pow_le_pow_right (by decide) (show n + 1 ≤ j by omega)))
        rw [Nat.pow_succ]
        omega
    · rw [if_neg h, Nat.add_zero, ih]
      by_cases z : j < n
      · rw [decide_eq_true z, decide_eq_true (by omega)]
      · by_cases e : j = n
        · rw [e, Bool.eq_false_iff.mpr h, Bool.and_false, Bool.and_false]
        · rw [decide_eq_false z, decide_eq_false (by omega)]
theorem mkM_sum (p : Nat → Bool) : ∀ n, (((List.range n).filter p).map fun k => (2 : Int) ^ k).sum = ((mkM p n : Nat) : Int)
  | 0 => rfl
  | n + 1 => by
    rw [List.range_succ, List.filter_append, List.map_append, List.sum_append, mkM_sum p n]
    show _ = ((mkM p n + (if p n = true then 2 ^ n else 0) : Nat) : Int)
    by_cases h : p n = true
    · rw [List.filter_cons_of_pos h, if_pos h]
      simp
    · rw [List.filter_cons_of_neg h, if_neg h]
      simp
def inC (cs ts : List Str) (j : Nat) : Bool := match cs[j]? with
  | some c => decide (c ∈ ts)
  | none => false
theorem inC_at {cs ts : List Str} {j : Nat} {c : Str} (h : cs[j]? = some c) : inC cs ts j = decide (c ∈ ts) := by unfold inC; rw [h]
theorem filt_range (p : Nat → Bool) (i : Nat) : (List.range (i + 1)).filter p = (List.range i).filter p ++ if p i = true then [i] else [] := by
  rw [List.range_succ, List.filter_append]
  congr 1
  rw [List.filter_cons, List.filter_nil]
theorem filt_range_len (p : Nat → Bool) (i : Nat) : ((List.range i).filter p).length ≤ i := by
  have := List.length_filter_le p (List.range i)
  rwa [List.length_range] at this
theorem sum_nat : ∀ l : List Nat, (l.map fun n => ((n : Nat) : Int)).sum = ((l.sum : Nat) : Int)
  | [] => rfl
  | x :: l => by
    rw [List.map_cons, List.sum_cons, sum_nat l, List.sum_cons]
    omega
theorem sI_take {α : Type} (f : α → Int) {l : List α} {i : Nat} {x : α} (h : l[i]? = some x) : sI ((l.take (i + 1)).map f) = sI ((l.take i).map f) + f x := by
  rw [List.take_succ, h, List.map_append, sI_app]
  show _ + (f x + 0) = _
  omega
theorem nzM_lt {S F : Nat} (h : F ∈ nzM S) : 0 < F ∧ F ≤ S ∧ S - F < S := by
  obtain ⟨a, b⟩ := nzM_part S F h
  have := part_le b
  omega
theorem Dn2.uniq {S x : Nat} {l l' : List Nat} (h : Dn2 S x l) (h' : Dn2 S x l') : l = l' := by
  induction h generalizing l' with
  | zero => cases h' with
    | zero => rfl
    | next h _ => omega
  | next hx h ih => cases h' with
    | zero => omega
    | next _ h' => rw [ih h']
theorem memsR_len {F n : Nat} (h : F < 2 ^ n) : (memsR F).length ≤ n := by
  rw [← range_mems F n h]
  have := List.length_filter_le (fun i => F.testBit i) (List.range n)
  rwa [List.length_range] at this
theorem and_ltR {x y n : Nat} (h : y < 2 ^ n) : x &&& y < 2 ^ n := Nat.lt_of_le_of_lt Nat.and_le_right h
end WL
end L2
set_option Elab.async false
set_option linter.all false
set_option maxRecDepth 100000
set_option maxHeartbeats 4000000
namespace L2
namespace K59
open PySem PySem.Spec PyProof.Rows K1 WL LamX
section
variable {P : Program} {w : World} {K : PySem.W.Frag} {mg : Str → Option Value} {base : Heap} {f : Addr} {fd : FuncData}
/-! ### members -/
def nV (l : List Nat) : List V := l.map fun i => .int (i : Nat)
def spMembers : Sp := fun vs H Q _ => ∃ F : Nat, vs = [.int (F : Nat)] ∧ F < 2 ^ 64 ∧ ∀ H' q, Same H H' → H q = none → H' q = some (.lst (nV (memsR F))) → Q (.ref q) H'
theorem sc_mem : FnScope ["subset", "number"] ["subset"] (defScope s_members) := ⟨rfl, rfl, rfl, by decide +kernel, rfl, by decide +kernel, by decide +kernel⟩
theorem ok_mem (T : Bl mg) (fr : mg "range" = none) (F : FnP K "members" "members" s_members f fd) : FnOk P w K mg base CX0 1 f fd ["subset"] spMembers := by
  refine F.ok sc_mem (fun vs H Q E h => ?_) (fun cdv A outer s H vs Q E hr h => ?_)
  · obtain ⟨F, rfl, _⟩ := h
    rfl
  · have nd := sc_mem.nd
    refine ⟨_, PSs.nox (pss_one (ps_ret (pe_lc (own := [("number", 1)]) (g := gName 1) (te := tVar 1) rfl nd (pi_range1 rfl fr (pa_cons (pe_bits (pv 0)) pa_nil)) (blkOk_by (N := ["subset", "number"]) (sc := defScope s_members) (by decide +kernel))
      (fun _ _ _ _ _ => pg_name (i := 1) nd rfl (Or.inl rfl)) (fun _ _ _ _ _ => pts_one (pt_cmpR op_eq (pe_op op_odd (pe_op op_shrN (pv 0) (pv 1)) pe_int) pe_int (nomark _))) (fun _ _ _ _ _ => pv 1)))), ?_⟩
    obtain ⟨F, rfl, h64, q⟩ := h
    have b64 := bits_small h64
    have bF := bits_nat F
    refine ⟨_, rfl, _, rfl, (Builtin.Int.intBits (F : Int) : Nat), rfl, by omega, by omega, fun D nD => ?_⟩
    rw [Int.toNat_natCast]
    generalize Builtin.Int.intBits (F : Int) = n at *
    refine lc_range (fun i H' => Same H H' ∧ H' D = some (.lst (nV ((List.range i).filter fun i => F.testBit i)))) ⟨same_upd nD, upd_same⟩ ?_ ?_
    · rintro i H1 hi ⟨s1, eD⟩
      rw [Int.zero_add]
      refine ⟨rfl, _, rfl, _, rfl, (F : Int), i, rfl, rfl, F / 2 ^ i, by rw [Int.natCast_ediv, Int.natCast_pow]; rfl, rfl, rfl, _, rfl, ?_⟩
      have e2 : (List.range (i + 1)).filter (fun i => F.testBit i) = (List.range i).filter (fun i => F.testBit i) ++ if F.testBit i = true then [i] else [] := by
        rw [List.range_succ, List.filter_append]
        congr 1
        rw [List.filter_cons, List.filter_nil]
      have hl : ((List.range i).filter fun i => F.testBit i).length ≤ i := by
        have := List.length_filter_le (fun i => F.testBit i) (List.range i)
        rwa [List.length_range] at this
      by_cases c : F.testBit i = true
      · have c2 : decide (V.int ((F / 2 ^ i % 2 : Nat) : Int) = V.int 1) = true := by
          have := of_decide_eq_true ((tb_iff F i).symm.trans c)
          rw [this]
          rfl
        refine iteP c2 ⟨_, rfl, _, eD, ?_, same_over nD s1, ?_⟩
        · unfold nV
          rw [List.length_map, sizeLine_eq]
          omega
        · rw [upd_same, e2, if_pos c]
          unfold nV
          rw [List.map_append]
          rfl
      · have c2 : decide (V.int ((F / 2 ^ i % 2 : Nat) : Int) = V.int 1) = false := decide_eq_false fun z => by
          have z := V.int.inj z
          rw [tb_iff] at c
          exact c (decide_eq_true (by omega))
        refine iteN c2 ⟨s1, ?_⟩
        rw [e2, if_neg c, List.append_nil]
        exact eD
    · rintro H1 ⟨s1, eD⟩
      rw [range_mems F n bF] at eD
      exact q H1 D s1 nD eD
/-! ### subset_of -/
def spSubset (K : PySem.W.Frag) : Sp := fun vs H Q _ => ∃ (x y : V) (cs ts : List Str), vs = [x, y] ∧ Seq K H x (cs.map .str) ∧ Seq K H y (ts.map .str) ∧ cs.length ≤ 60 ∧ ∀ H', Same H H' → Q (.int (mkM (inC cs ts) cs.length : Nat)) H'
theorem sc_sub : FnScope ["things", "some", "number", "thing"] ["things", "some"] (defScope s_subset_of) := ⟨rfl, rfl, rfl, by decide +kernel, rfl, by decide +kernel, by decide +kernel⟩
theorem ok_sub (T : Bl mg) (fs : mg "sum" = none) (F : FnP K "subset_of" "subset_of" s_subset_of f fd) : FnOk P w K mg base CX0 1 f fd ["things", "some"] (spSubset K) := by
  refine F.ok sc_sub (fun vs H Q E h => ?_) (fun cdv A outer s H vs Q E hr h => ?_)
  · obtain ⟨x, y, cs, ts, rfl, _⟩ := h
    rfl
  · have nd := sc_sub.nd
    refine ⟨_, PSs.nox (pss_one (ps_ret (pe_callB (cr_sum rfl) rfl fs rfl (pa_cons (pe_lc (own := [("number", 2), ("thing", 3)]) (g := gTup K 2 (gCons (gName 2) (gCons (gName 3) gNil))) (tt := tTest (tOp (rIn K false) (tVar 3) (tVar 1))) (te := tOp (fun x y H Q => ∃ k : Nat, x = .int 1 ∧ y = .int (k : Int) ∧ k ≤ 134217727 ∧ Q (.int (2 ^ k)) H) (tC (.int 1)) (tVar 2)) rfl nd (pi_enumS rfl T.f_enumerate (pa_cons (pv 0) pa_nil)) (blkOk_by (N := ["things", "some", "number", "thing"]) (sc := defScope s_subset_of) (by decide +kernel))
      (fun _ _ _ _ _ => pg_tup rfl (pgs_cons (pg_name (i := 2) nd rfl (Or.inl rfl)) (pgs_cons (pg_name (i := 3) nd rfl (Or.inl rfl)) pgs_nil))) (fun _ _ _ _ _ => pts_one (pt_cmpR op_in_seq (pv 3) (pv 1) rfl)) (fun _ _ _ _ _ => pe_op op_oneShl pe_int (pv 2))) pa_nil)))), ?_⟩
    obtain ⟨x, y, cs, ts, rfl, ⟨a, rfl, hcs⟩, ⟨b, rfl, hts⟩, l60, q⟩ := h
    have fin : ∀ D H', Same H H' → H' D = some (.lst ((((List.range cs.length).filter (inC cs ts)).map fun k => (2 : Int) ^ k).map V.int)) → rSum K [.ref D] H' Q := fun D H' s' e => ⟨D, _, rfl, SqL.of e, by rw [mkM_sum]; exact q H' s'⟩
    rcases hcs with hcs | hcs
    · refine ⟨_, rfl, a, cs.map .str, rfl, .inl ⟨hcs, fun D nD => ?_⟩⟩
      refine lc_it (walk_enum (xs := cs.map .str)) (fun i H' => Same H H' ∧ H' D = some (.lst ((((List.range i).filter (inC cs ts)).map fun k => (2 : Int) ^ k).map V.int))) ⟨same_upd nD, upd_same⟩ (fun i H' _ p => p.1.seq hcs) ?_ ?_
      · rintro i x H1o H1 hi ⟨s1, eD⟩ ⟨T, x0, y0, rfl, nT, rfl, e1, e2⟩
        have e1 : V.int (i : Nat) = x0 := Option.some.inj e1
        subst e1
        have e2 : (cs.map V.str)[i]? = some y0 := e2
        rw [List.getElem?_map] at e2
        obtain ⟨c, hc, rfl⟩ := Option.map_eq_some_iff.mp e2
        have sT := same_upd (o := .tup [.int (i : Nat), .str c]) nT
        have s2 := s1.trans sT
        have eD2 := sT _ _ eD
        have eT : (upd H1o T (.tup [.int (i : Nat), .str c])) T = some (.tup [.int (i : Nat), .str c]) := upd_same
        generalize upd H1o T (.tup [.int (i : Nat), .str c]) = H2 at *
        have hts2 : SqL K H2 b (ts.map .str) ∨ SqT K H2 b (ts.map .str) := by
          rcases hts with h | h
          · exact .inl (s2.seq h)
          · exact .inr (SqT.same h s2)
        have hi60 : i < cs.length := (List.getElem?_eq_some_iff.mp hc).1
        refine ⟨T, [.int (i : Nat), .str c], rfl, SqT.of eT, rfl, _, _, rfl, _, _, rfl, rfl, rfl, _, rfl, _, rfl, b, _, rfl, hts2, rfl, flat_strs' _, _, rfl, ?_⟩
        have ef := filt_range (inC cs ts) i
        have hl := filt_range_len (inC cs ts) i
        rw [inC_at hc] at ef
        by_cases m : c ∈ ts
        · have eb : inV (.str c) (ts.map V.str) = true := by rw [in_strs, decide_eq_true m]
          refine iteP eb ?_
          refine ⟨_, rfl, i, rfl, rfl, by omega, _, eD2, ?_, same_over nD s2, ?_⟩
          · rw [List.length_map, List.length_map, sizeLine_eq]
            omega
          · rw [upd_same, ef, if_pos (decide_eq_true m), List.map_append, List.map_append]
            rfl
        · have eb : inV (.str c) (ts.map V.str) = false := by rw [in_strs, decide_eq_false m]
          refine iteN eb ⟨s2, ?_⟩
          rw [ef, if_neg (by rw [decide_eq_false m]; decide), List.append_nil]
          exact eD2
      · rintro H1 ⟨s1, eD⟩
        rw [List.length_map] at eD
        exact fin D H1 s1 eD
    · refine ⟨_, rfl, a, cs.map .str, rfl, .inr ⟨hcs, fun D nD => ?_⟩⟩
      refine lc_it (walk_enumT (xs := cs.map .str)) (fun i H' => Same H H' ∧ H' D = some (.lst ((((List.range i).filter (inC cs ts)).map fun k => (2 : Int) ^ k).map V.int))) ⟨same_upd nD, upd_same⟩ (fun i H' _ p => SqT.same hcs p.1) ?_ ?_
      · rintro i x H1o H1 hi ⟨s1, eD⟩ ⟨T, x0, y0, rfl, nT, rfl, e1, e2⟩
        have e1 : V.int (i : Nat) = x0 := Option.some.inj e1
        subst e1
        have e2 : (cs.map V.str)[i]? = some y0 := e2
        rw [List.getElem?_map] at e2
        obtain ⟨c, hc, rfl⟩ := Option.map_eq_some_iff.mp e2
        have sT := same_upd (o := .tup [.int (i : Nat), .str c]) nT
        have s2 := s1.trans sT
        have eD2 := sT _ _ eD
        have eT : (upd H1o T (.tup [.int (i : Nat), .str c])) T = some (.tup [.int (i : Nat), .str c]) := upd_same
        generalize upd H1o T (.tup [.int (i : Nat), .str c]) = H2 at *
        have hts2 : SqL K H2 b (ts.map .str) ∨ SqT K H2 b (ts.map .str) := by
          rcases hts with h | h
          · exact .inl (s2.seq h)
          · exact .inr (SqT.same h s2)
        have hi60 : i < cs.length := (List.getElem?_eq_some_iff.mp hc).1
        refine ⟨T, [.int (i : Nat), .str c], rfl, SqT.of eT, rfl, _, _, rfl, _, _, rfl, rfl, rfl, _, rfl, _, rfl, b, _, rfl, hts2, rfl, flat_strs' _, _, rfl, ?_⟩
        have ef := filt_range (inC cs ts) i
        have hl := filt_range_len (inC cs ts) i
        rw [inC_at hc] at ef
        by_cases m : c ∈ ts
        · have eb : inV (.str c) (ts.map V.str) = true := by rw [in_strs, decide_eq_true m]
          refine iteP eb ?_
          refine ⟨_, rfl, i, rfl, rfl, by omega, _, eD2, ?_, same_over nD s2, ?_⟩
          · rw [List.length_map, List.length_map, sizeLine_eq]
            omega
          · rw [upd_same, ef, if_pos (decide_eq_true m), List.map_append, List.map_append]
            rfl
        · have eb : inV (.str c) (ts.map V.str) = false := by rw [in_strs, decide_eq_false m]
          refine iteN eb ⟨s2, ?_⟩
          rw [ef, if_neg (by rw [decide_eq_false m]; decide), List.append_nil]
          exact eD2
      · rintro H1 ⟨s1, eD⟩
        rw [List.length_map] at eD
        exact fin D H1 s1 eD
end
end K59
end L2
set_option Elab.async false
set_option linter.all false
set_option maxRecDepth 100000
set_option maxHeartbeats 4000000
namespace L2
namespace K59
open PySem PySem.Spec PyProof.Rows K1 WL LamX
section
variable {P : Program} {w : World} {K : PySem.W.Frag} {mg : Str → Option Value} {base : Heap} {f : Addr} {fd : FuncData}
/-! ### ringless -/
def freeN (Ts : List Nat) (F R : Nat) : Nat := ((memsR F).map fun i => (memsR (Ts.getD i 0 &&& R)).length).sum
def wayN (Ts vals : List Nat) (S F : Nat) : Int := ((vals.getD (S - F) 0 : Nat) : Int) * 2 ^ freeN Ts F (S - F)
def trmN (Ts vals : List Nat) (S F : Nat) : Int := if (memsR F).length % 2 = 1 then wayN Ts vals S F else -(wayN Ts vals S F)
def spRingless (K : PySem.W.Frag) : Sp := fun vs H Q _ => ∃ (ta fa : Addr) (S n : Nat) (Ts vals : List Nat), vs = [.ref ta, .int (S : Nat), .ref fa] ∧ SqL K H ta (nV Ts) ∧ Ts.length = n ∧ n ≤ 8 ∧ (∀ T ∈ Ts, T < 2 ^ n) ∧ 0 < S ∧ S < 2 ^ n ∧ SqL K H fa (nV vals) ∧ vals.length = S ∧ (∀ v ∈ vals, v < 2 ^ 100) ∧
  ∀ H', Same H H' → Q (.int (sI ((nzM S).map (trmN Ts vals S)))) H'
abbrev nmRG : List Str := ["targets", "subset", "found", "total", "first", "rest", "free", "ways", "cell"]
theorem sc_rl : FnScope nmRG ["targets", "subset", "found"] (defScope s_ringless) := ⟨rfl, rfl, rfl, by decide +kernel, rfl, by decide +kernel, by decide +kernel⟩
theorem sum_le {l : List Nat} {c : Nat} (h : ∀ x ∈ l, x ≤ c) : l.sum ≤ l.length * c := by
  induction l with
  | nil => simp
  | cons x l ih =>
    have h1 := h x (List.mem_cons_self ..)
    have h2 := ih fun y hy => h y (List.mem_cons_of_mem _ hy)
    rw [List.sum_cons, List.length_cons, Nat.succ_mul]
    omega
theorem ok_rl (T : Bl mg) (fs : mg "sum" = none) (Cm : Cal P w K mg base "members" ["subset"] 1 spMembers) (F : FnP K "ringless" "ringless" s_ringless f fd) : FnOk P w K mg base CX0 2 f fd ["targets", "subset", "found"] (spRingless K) := by
  obtain ⟨fm, fdm, Gm, gm, km, bm⟩ := Cm.ex
  refine F.ok sc_rl (fun vs H Q E h => ?_) (fun cdv A outer s H vs Q E hr h => ?_)
  · obtain ⟨ta, fa, S, n, Ts, vals, rfl, _⟩ := h
    rfl
  · have nd := sc_rl.nd
    refine ⟨_, PSs.nox (pss_cons (ps_set (i := 3) nd rfl (Or.inl rfl) pe_int) (pss_cons (ps_set (i := 4) nd rfl (Or.inl rfl) (pv 1))
      (pss_cons (ps_while PassesOwn.never (pt_cmpR op_gt (pv 4) pe_int (nomark _))
        (pss_cons (ps_set (i := 5) nd rfl (Or.inr rfl) (pe_op op_subN (pv 1) (pv 4)))
        (pss_cons (ps_set (i := 6) nd rfl (Or.inl rfl) (pe_callB (cr_sum rfl) rfl fs rfl (pa_cons (pe_lc (own := [("cell", 8)]) (g := gName 8) (tt := tYes) (te := tCB (rLen K) (tCons (tCall spMembers [] E0 (tCons (tOp rAndN (tOp (rIxL K) (tVar 0) (tVar 8)) (tVar 5)) tNil)) tNil)) rfl nd (pi_list (pe_call Gm hr rfl gm km bm .nil pass0 (pa_cons (pv 4) pa_nil))) (blkOk_by (N := nmRG) (sc := defScope s_ringless) (by decide +kernel))
          (fun _ _ _ _ _ => pg_name (i := 8) nd rfl (Or.inl rfl)) (fun _ _ _ _ _ => pts_nil) (fun _ _ _ _ _ => pe_callB call_len rfl T.f_len boot_len (pa_cons (pe_call Gm hr rfl gm km bm .nil pass0 (pa_cons (pe_op op_andN (pe_ix ix_list (pv 0) (pv 8) fun _ _ => rfl) (pv 5)) pa_nil)) pa_nil))) pa_nil)))
        (pss_cons (ps_set (i := 7) nd rfl (Or.inl rfl) (pe_op op_shlN (pe_ix ix_list (pv 2) (pv 5) fun _ _ => rfl) (pv 6)))
        (pss_cons (ps_aug (i := 3) nd rfl (Or.inl rfl) (pe_ifExp (pt_cmpR op_eq (pe_op op_odd (pe_callB call_len rfl T.f_len boot_len (pa_cons (pe_call Gm hr rfl gm km bm .nil pass0 (pa_cons (pv 4) pa_nil)) pa_nil)) pe_int) pe_int (nomark _)) (pv 7) (pe_un un_neg (pv 7))) ip_add)
        (pss_one (ps_set (i := 4) nd rfl (Or.inl rfl) (pe_op op_andN (pe_op op_subN (pv 4) pe_int) (pv 1)))))))))
      (pss_one (ps_ret (pv 3)))))), ?_⟩
    obtain ⟨ta, fa, S, n, Ts, vals, rfl, hT, hTn, hn8, hTb, hS0, hSn, hv, hvl, hvb, q⟩ := h
    refine ⟨_, rfl, ?_⟩
    refine g_nm ?_
    try dsimp only
    refine ⟨fun m σ H' => ∃ (x : Nat) (pre l : List Nat) (o5 o6 o7 o8 : Option V), m = x ∧ σ = [some (.ref ta), some (.int (S : Nat)), some (.ref fa), some (.int (sI (pre.map (trmN Ts vals S)))), some (.int (x : Nat)), o5, o6, o7, o8] ∧ Same H H' ∧ Dn2 S x l ∧ nzM S = pre ++ l ∧ x ≤ S ∧ x &&& S = x, ⟨S, S, [], nzM S, _, _, _, _, rfl, rfl, Same.refl _, dn_nzM S, rfl, Nat.le_refl _, Nat.and_self _⟩, ?_⟩
    rintro x σ H1 ⟨_, pre, l, o5, o6, o7, o8, rfl, rfl, s1, dn, hpl, hxS, hxx⟩
    refine ⟨_, rfl, (x : Nat), 0, rfl, rfl, _, rfl, ?_⟩
    cases dn with
    | zero =>
      refine iteN rfl ⟨_, rfl, ?_⟩
      rw [List.append_nil] at hpl
      rw [← hpl]
      exact q H1 s1
    | @next _ l hx dn =>
    refine iteP (decide_eq_true (show (0 : Int) < (x : Nat) by omega)) ?_
    refine ⟨fun σ' H' => ∃ m', m' < x ∧ ∃ (x' : Nat) (pre l : List Nat) (o5 o6 o7 o8 : Option V), m' = x' ∧ σ' = [some (.ref ta), some (.int (S : Nat)), some (.ref fa), some (.int (sI (pre.map (trmN Ts vals S)))), some (.int (x' : Nat)), o5, o6, o7, o8] ∧ Same H H' ∧ Dn2 S x' l ∧ nzM S = pre ++ l ∧ x' ≤ S ∧ x' &&& S = x', fun σ' H' z => z, ?_⟩
    have hx64 : x < 2 ^ 64 := Nat.lt_of_le_of_lt hxS (Nat.lt_of_lt_of_le hSn (Nat.pow_le_pow_right (by decide) (by omega)))
    have hxn : x < 2 ^ n := by omega
    have hS64 : S < 2 ^ 64 := Nat.lt_of_lt_of_le hSn (Nat.pow_le_pow_right (by decide) (by omega))
    refine t_seqAsg ?_
    refine ⟨_, rfl, _, rfl, S, x, rfl, rfl, hxS, ?_⟩
    refine g_nm ?_
    try dsimp only
    refine t_seqAsg ?_
    refine ⟨_, rfl, x, rfl, hx64, fun H2 c2 s2 n2 e2 => ?_⟩
    refine ⟨c2, rfl, ⟨_, SqL.of e2⟩, fun D nD => ?_⟩
    refine lc_it (walk_list (xs := nV (memsR x))) (fun i H' => Same H2 H' ∧ H' D = some (.lst (((memsR x).take i).map fun i => .int ((memsR (Ts.getD i 0 &&& (S - x))).length : Nat)))) ⟨same_upd nD, upd_same⟩ (fun i H' _ p => p.1.seq (SqL.of e2)) ?_ ?_
    · rintro i y H3o H3 hi ⟨s3, eD⟩ ⟨rfl, hy⟩
      unfold nV at hy
      rw [List.getElem?_map] at hy
      obtain ⟨k, hk, rfl⟩ := Option.map_eq_some_iff.mp hy
      have hkx : k < n := memsR_bit x n hxn k ((mem_memsR x k).mp (List.mem_of_getElem? hk))
      obtain ⟨Tk, hTk⟩ : ∃ Tk, Ts[k]? = some Tk := ⟨_, List.getElem?_eq_getElem (by omega)⟩
      have gTk : Ts.getD k 0 = Tk := by rw [List.getD_eq_getElem?_getD, hTk]; rfl
      have lTk : Tk &&& (S - x) < 2 ^ 64 := Nat.lt_of_le_of_lt Nat.and_le_right (by omega)
      have hil : i < (memsR x).length := (List.getElem?_eq_some_iff.mp hk).1
      refine ⟨rfl, _, rfl, _, rfl, ta, _, (k : Nat), .int (Tk : Nat), rfl, rfl, (s1.trans (s2.trans s3)).seq hT, atI_nat (by unfold nV; rw [List.getElem?_map, hTk]; rfl), _, rfl, Tk, S - x, rfl, rfl, _, rfl, lTk, fun H4 c4 s4 n4 e4 => ?_⟩
      refine ⟨.ref c4, (memsR (Tk &&& (S - x))).length, rfl, .inl ⟨_, SqL.of e4, by unfold nV; rw [List.length_map]⟩, _, s4 _ _ eD, ?_, same_over nD (s3.trans s4), ?_⟩
      · rw [List.length_map, List.length_take, sizeLine_eq]
        have := memsR_len hxn
        omega
      · rw [upd_same, List.take_succ, hk, List.map_append]
        show some (HO.lst (_ ++ _)) = some (HO.lst (_ ++ [V.int ((memsR (Ts.getD k 0 &&& (S - x))).length : Nat)]))
        rw [gTk]
    · rintro H3 ⟨s3, eD⟩
      unfold nV at eD
      rw [List.length_map, List.take_length] at eD
      have eL : ((memsR x).map fun i => V.int ((memsR (Ts.getD i 0 &&& (S - x))).length : Nat)) = ((((memsR x).map fun i => (memsR (Ts.getD i 0 &&& (S - x))).length).map fun n => ((n : Nat) : Int))).map V.int := by
        rw [List.map_map, List.map_map]
        rfl
      rw [eL] at eD
      refine ⟨D, _, rfl, SqL.of eD, ?_⟩
      rw [sum_nat]
      have s13 := s1.trans (s2.trans s3)
      have hfr : freeN Ts x (S - x) ≤ 64 := by
        unfold freeN
        have h1 := sum_le (l := (memsR x).map fun i => (memsR (Ts.getD i 0 &&& (S - x))).length) (c := n) fun y hy => by
          obtain ⟨i, _, rfl⟩ := List.mem_map.mp hy
          exact memsR_len (and_ltR (by omega))
        rw [List.length_map] at h1
        have h2 := memsR_len hxn
        have h3 := Nat.mul_le_mul (Nat.le_trans h2 hn8) hn8
        have h4 := Nat.mul_le_mul_left (memsR x).length hn8
        have h5 := Nat.mul_le_mul_right 8 (Nat.le_trans h2 hn8)
        omega
      refine g_nm ?_
      try dsimp only
      refine t_seqAsg ?_
      obtain ⟨v, hvx⟩ : ∃ v, vals[S - x]? = some v := ⟨_, List.getElem?_eq_getElem (by omega)⟩
      have gv : vals.getD (S - x) 0 = v := by rw [List.getD_eq_getElem?_getD, hvx]; rfl
      have hvb' := hvb v (List.mem_of_getElem? hvx)
      refine ⟨_, rfl, _, rfl, fa, _, ((S - x : Nat) : Int), .int (v : Nat), rfl, rfl, s13.seq hv, atI_nat (by unfold nV; rw [List.getElem?_map, hvx]; rfl), _, rfl, (v : Nat), freeN Ts x (S - x), rfl, rfl, shl_ok (n := 100) (by rw [Int.natAbs_natCast]; exact hvb') (by omega), ?_⟩
      refine g_nm ?_
      try dsimp only
      have ew : ((v : Nat) : Int) * 2 ^ freeN Ts x (S - x) = wayN Ts vals S x := by unfold wayN; rw [gv]
      rw [ew]
      have etake : sI ((pre ++ [x]).map (trmN Ts vals S)) = sI (pre.map (trmN Ts vals S)) + trmN Ts vals S x := by
        rw [List.map_append, sI_app]
        show _ + (trmN Ts vals S x + 0) = _
        omega
      have hlt : (x - 1) &&& S < x := by
        have : (x - 1) &&& S ≤ x - 1 := Nat.and_le_left
        omega
      have hle : (x - 1) &&& S ≤ S := Nat.and_le_right
      have hpl2 : nzM S = (pre ++ [x]) ++ l := by rw [List.append_assoc]; exact hpl
      refine ⟨_, rfl, _, rfl, x, rfl, hx64, fun H5 c5 s5 n5 e5 => ?_⟩
      refine ⟨.ref c5, (memsR x).length, rfl, .inl ⟨_, SqL.of e5, by unfold nV; rw [List.length_map]⟩, (memsR x).length, rfl, rfl, rfl, _, rfl, ?_⟩
      have s15 := s13.trans s5
      by_cases odd : (memsR x).length % 2 = 1
      · refine iteP (decide_eq_true (by rw [odd]; rfl)) ⟨_, rfl, _, _, rfl, rfl, ?_⟩
        refine ⟨_, rfl, x, 1, rfl, rfl, hx, _, rfl, x - 1, S, rfl, rfl, ?_⟩
        refine ⟨(x - 1) &&& S, hlt, _, pre ++ [x], l, some (.int ((S - x : Nat) : Int)), some (.int (freeN Ts x (S - x) : Nat)), some (.int (wayN Ts vals S x)), o8, rfl, ?_, s15, dn, hpl2, hle, and_again _ _⟩
        rw [etake, show trmN Ts vals S x = wayN Ts vals S x from if_pos odd]
        rfl
      · refine iteN (decide_eq_false fun z => odd (by have z := V.int.inj z; omega)) ⟨_, rfl, _, rfl, _, _, rfl, rfl, ?_⟩
        refine ⟨_, rfl, x, 1, rfl, rfl, hx, _, rfl, x - 1, S, rfl, rfl, ?_⟩
        refine ⟨(x - 1) &&& S, hlt, _, pre ++ [x], l, some (.int ((S - x : Nat) : Int)), some (.int (freeN Ts x (S - x) : Nat)), some (.int (wayN Ts vals S x)), o8, rfl, ?_, s15, dn, hpl2, hle, and_again _ _⟩
        rw [etake, show trmN Ts vals S x = -(wayN Ts vals S x) from if_neg odd]
        rfl
end
end K59
end L2
set_option Elab.async false
set_option linter.all false
set_option maxRecDepth 100000
set_option maxHeartbeats 4000000
/-! ### a text beside a dict -/
namespace RKx
open PySem PySem.SeqAt
theorem str_eq_no_dict (b : Str) (u : Tok) (l : Addr) (es : Array DictEntry) (n : Nat) :
    Meets (Builtin.«str.__eq__» ⟨[.str b u, .ref l], []⟩) (fun _ R s => s.heap.get? l = some { cls := .type "dict", dict := none, data := .dict es n, slots := #[] } ∧ R (.ok (.ret .notImplemented)) s) :=
  .of_wp fun prog w A R s h => by
    obtain ⟨hp, g, d, tk, os⟩ := s
    obtain ⟨hl, h⟩ := h
    wp_walk using wpAny_loadPart' hl, wpAny_load hl
    exact ⟨_, rfl, h⟩
theorem dict_eq_no_str (b : Str) (u : Tok) (l : Addr) (es : Array DictEntry) (n : Nat) :
    Meets (Builtin.«dict.__eq__» ⟨[.ref l, .str b u], []⟩) (fun _ R s => s.heap.get? l = some { cls := .type "dict", dict := none, data := .dict es n, slots := #[] } ∧ R (.ok (.ret .notImplemented)) s) :=
  .of_wp fun prog w A R s h => by
    obtain ⟨hl, h⟩ := h
    have ty : s.TypeIs (.ref l) "dict" := ⟨_, hl, rfl⟩
    show wpAny _ _ (Builtin.Dict.dictSlotArgs "__eq__" ⟨[.ref l, .str b u], []⟩ >>= _) _ _ s
    refine wpAny_bind ?_
    unfold Builtin.Dict.dictSlotArgs
    refine wpAny_bind (wpAny_notOrdered_dict ty ?_)
    refine wpAny_pure ?_
    refine wpAny_bind (wpAny_isInstance (T := "str") (typeIs_str s b u) PySem.F.sub_str_dict ?_)
    wp_walk
    exact ⟨_, rfl, h⟩
section
variable {A : Around} {s : Shared}
theorem rcAt_str_dict {z : Str} {t : Tok} {d : Addr} {es : Array DictEntry} {n : Nat} (ho : s.heap.get? d = some { cls := .type "dict", dict := none, data := .dict es n, slots := #[] }) (hu : A.units < cLine) : RcAt A s (.str z t) (.ref d) false := fun prog w E Q h =>
  rc_eq_decline_or (k := false) (typeIs_str s z t) ⟨_, ho, rfl⟩ (by decide) F.sub_dict_str F.slot_str_eq F.slot_dict_eq_refl
    (fun _ hq => call_meets F.slot_str_eq (typeIs_str s z t) F.entry_str_eq (F.args_str_eq_2 _ _) (str_eq_no_dict z t d es n) ⟨ho, hq⟩)
    (fun _ hq => call_meets F.slot_dict_eq_refl ⟨_, ho, rfl⟩ F.entry_dict_eq (F.args_dict_eq_2 _ _) (dict_eq_no_str z t d es n) ⟨ho, hq⟩)
    (fun _ hq => wpAny_of_eq (rfl : isSame (.str z t) (.ref d) = pure false) hq) (.inr hu) h
theorem eqAt_str_dict {z : Str} {t : Tok} {d : Addr} {es : Array DictEntry} {n : Nat} (ho : s.heap.get? d = some { cls := .type "dict", dict := none, data := .dict es n, slots := #[] }) (hu : A.units < cLine) : EqAt A s (.str z t) (.ref d) false := fun prog w E Q h => by
  unfold eqBool
  refine wpAny_holding ?_
  refine wpAny_ite_split (fun e => absurd (eq_of_beq e) nofun) fun _ => ?_
  exact wpAny_bind (rcAt_str_dict ho hu prog w E _ (wpAny_truthy_bool h))
end
end RKx
namespace L2
namespace WL
open PySem PySem.Spec PyProof.Rows K1 LamX
/-! ### arguments of acts -/
/-- a text, or a thing that no text equals -/
def Arg (K : PySem.W.Frag) (H : Hp) (v : V) : Option Str → Prop
  | some z => v = .str z
  | none => (∃ a xs, v = .ref a ∧ SqL K H a xs) ∨ ∃ a kvs, v = .ref a ∧ H a = some (.dK kvs)
theorem Arg.same {K : PySem.W.Frag} {H H' : Hp} {v : V} {o : Option Str} (h : Arg K H v o) (s : Same H H') : Arg K H' v o := by
  cases o with
  | some z => exact h
  | none =>
    rcases h with ⟨a, xs, e, h⟩ | ⟨a, kvs, e, h⟩
    · exact .inl ⟨a, xs, e, s.seq h⟩
    · exact .inr ⟨a, kvs, e, s _ _ h⟩
section
variable {X : Cx} {pins : List (Addr × Obj)} {σ : St} {H : Hp} {s : Shared}
/-- == of a text and an argument -/
theorem eqAt_arg (I : Inv X pins σ H s) {A : Around} (hu : A.units < cLine) {z : Str} {t : Tok} {v : V} {u : Value} {o : Option Str} (h : Arg X.K H v o) (r : RelV v u) : SeqAt.EqAt A s (.str z t) u (decide (o = some z)) := by
  cases o with
  | some y =>
    obtain rfl : v = .str y := h
    obtain ⟨t2, rfl⟩ := r
    have e : decide (some y = some z) = (z == y) := by
      rw [Bool.eq_iff_iff, decide_eq_true_iff, beq_iff_eq, Option.some.injEq]
      exact ⟨fun e => e.symm, fun e => e.symm⟩
    rw [e]
    exact SeqAt.EqAt.str_str z t y t2
  | none =>
    rw [decide_eq_false (fun e => nomatch e)]
    rcases h with ⟨a, xs, rfl, h⟩ | ⟨a, kvs, rfl, h⟩
    · obtain rfl : u = Value.ref a := r
      obtain ⟨us, r1, p1, _⟩ := I.list h
      exact SeqAt.EqAt.str_list z t p1.isList hu
    · obtain rfl : u = Value.ref a := r
      obtain ⟨_, _, vs, _, ⟨⟨c, dd, da, sl⟩, es, ep, ho, ⟨h1, h2, h3⟩, hd, _⟩⟩ := dk_of I.hok h
      simp only at h1 h2 h3 hd
      subst h1 h2 h3 hd
      exact RKx.eqAt_str_dict ho hu
end
/-! ### an argument among texts; a pair among pairs -/
/-- v in ys, ys a list or tuple of texts -/
def rInArg (K : PySem.W.Frag) (n : Bool) : R2 := fun x y H Q => ∃ (a : Addr) (zs : List Str) (o : Option Str), Arg K H x o ∧ y = .ref a ∧ (SqL K H a (zs.map .str) ∨ SqT K H a (zs.map .str)) ∧ Q (.bl (n != (zs.any fun z => decide (o = some z)))) H
theorem any_rel {X : Cx} {pins : List (Addr × Obj)} {σ : St} {H : Hp} {s : Shared} {α : Type} (f : α → V) (e : Value → Bool) (b : α → Bool) : ∀ {zs : List α} {us : List Value}, Vals (zs.map f) us → (∀ z u, z ∈ zs → RelV (f z) u → e u = b z) → us.any e = zs.any b
  | [], _, .nil, _ => rfl
  | z :: zs, _, .cons (b := u) h t, k => by
    rw [List.any_cons, List.any_cons, k z u (List.mem_cons_self ..) h, any_rel (X := X) (pins := pins) (σ := σ) (H := H) (s := s) f e b t fun z u m => k z u (List.mem_cons_of_mem _ m)]
def txtOf : Value → Str
  | .str z _ => z
  | _ => Str.empty
section
variable {X : Cx}
theorem vals_mem {α : Type} {f : α → V} : ∀ {zs : List α} {us : List Value}, Vals (zs.map f) us → ∀ u ∈ us, ∃ z ∈ zs, RelV (f z) u
  | [], _, .nil, u, h => nomatch h
  | z :: zs, _, .cons r t, u, h => by
    rcases List.mem_cons.mp h with rfl | h
    · exact ⟨z, List.mem_cons_self .., r⟩
    · obtain ⟨y, hy, ry⟩ := vals_mem t u h
      exact ⟨y, List.mem_cons_of_mem _ hy, ry⟩
theorem op_inArg (hu : X.A.units + 64 < cLine) : OpR X (compareOp .In) (rInArg X.K false) := by
  intro pins s σ H x y v u Q I rx ry h
  obtain ⟨a, zs, o, hx, rfl, hs, q⟩ := h
  cases (show u = Value.ref a from ry)
  have he : ∀ {us : List Value}, Vals (zs.map V.str) us → ∀ y, y ∈ us.toArray → SeqAt.EqAt X.A.in1 s y v (decide (o = some (txtOf y))) := fun r y hy => by
    obtain ⟨z, _, t, rfl⟩ := vals_mem r y (by simpa using hy)
    exact eqAt_arg I (by show X.A.units + 1 < cLine; omega) hx rx
  have ha : ∀ {us : List Value}, Vals (zs.map V.str) us → us.toArray.any (fun y => decide (o = some (txtOf y))) = zs.any fun z => decide (o = some z) := fun r => by
    rw [List.any_toArray]
    refine any_rel (X := X) (pins := pins) (σ := σ) (H := H) (s := s) V.str _ _ r fun z u _ ru => ?_
    obtain ⟨t, rfl⟩ := ru
    rfl
  rcases hs with hs | hs
  · obtain ⟨us, r, p, _⟩ := I.list hs
    refine SeqAt.in_listAt (fun y => decide (o = some (txtOf y))) p.isList (he r) ?_
    rw [ha r]
    exact ⟨.bl _, H, I, rfl, by rw [Bool.false_bne] at q; exact q⟩
  · obtain ⟨us, r, p, _⟩ := I.tuple hs
    refine SeqAt.in_tupleAt (fun y => decide (o = some (txtOf y))) p (he r) ?_
    rw [ha r]
    exact ⟨.bl _, H, I, rfl, by rw [Bool.false_bne] at q; exact q⟩
theorem op_notInArg (hu : X.A.units + 64 < cLine) : OpR X (compareOp .NotIn) (rInArg X.K true) := by
  intro pins s σ H x y v u Q I rx ry h
  obtain ⟨a, zs, o, hx, rfl, hs, q⟩ := h
  cases (show u = Value.ref a from ry)
  have he : ∀ {us : List Value}, Vals (zs.map V.str) us → ∀ y, y ∈ us.toArray → SeqAt.EqAt X.A.in1 s y v (decide (o = some (txtOf y))) := fun r y hy => by
    obtain ⟨z, _, t, rfl⟩ := vals_mem r y (by simpa using hy)
    exact eqAt_arg I (by show X.A.units + 1 < cLine; omega) hx rx
  have ha : ∀ {us : List Value}, Vals (zs.map V.str) us → us.toArray.any (fun y => decide (o = some (txtOf y))) = zs.any fun z => decide (o = some z) := fun r => by
    rw [List.any_toArray]
    refine any_rel (X := X) (pins := pins) (σ := σ) (H := H) (s := s) V.str _ _ r fun z u _ ru => ?_
    obtain ⟨t, rfl⟩ := ru
    rfl
  rcases hs with hs | hs
  · obtain ⟨us, r, p, _⟩ := I.list hs
    refine SeqAt.notIn_listAt (fun y => decide (o = some (txtOf y))) p.isList (he r) ?_
    rw [ha r]
    exact ⟨.bl _, H, I, rfl, by rw [Bool.true_bne] at q; exact q⟩
  · obtain ⟨us, r, p, _⟩ := I.tuple hs
    refine SeqAt.notIn_tupleAt (fun y => decide (o = some (txtOf y))) p (he r) ?_
    rw [ha r]
    exact ⟨.bl _, H, I, rfl, by rw [Bool.true_bne] at q; exact q⟩
end
/-! a pair among pairs -/
def prObj : Data → Ar
  | .seq xs _ => (txtOf (xs.getD 0 .none), txtOf (xs.getD 1 .none))
  | _ => (Str.empty, Str.empty)
def prOf (h : Heap) : Value → Ar
  | .ref a => ((h.get? a).map fun o => prObj o.data).getD (Str.empty, Str.empty)
  | _ => (Str.empty, Str.empty)
def pairB (o : Option Str) (c : Str) (p : Ar) : Bool := decide (o = some p.1) && decide (c = p.2)
def rInPair (K : PySem.W.Frag) (n : Bool) : R2 := fun x y H Q => ∃ q v o c a al as, x = .ref q ∧ SqT K H q [v, .str c] ∧ Arg K H v o ∧ y = .ref a ∧ (SqL K H a al ∨ SqT K H a al) ∧ Paired (PairT H) al as ∧ Q (.bl (n != as.any (pairB o c))) H
section
variable {X : Cx}
theorem two_vals {x y : V} {us : List Value} (r : Vals [x, y] us) : ∃ u w, us = [u, w] ∧ RelV x u ∧ RelV y w := by
  match us, r with
  | [u, w], .cons r1 (.cons r2 .nil) => exact ⟨u, w, rfl, r1, r2⟩
theorem pair_at {pins : List (Addr × Obj)} {σ : St} {H : Hp} {s : Shared} (I : Inv X pins σ H s) {b : Addr} {p : Ar} (h : H b = some (.tup [.str p.1, .str p.2])) : ∃ t1 t2, s.heap.IsTuple b #[.str p.1 t1, .str p.2 t2] ∧ prOf s.heap (.ref b) = p := by
  obtain ⟨us, r, pl, _⟩ := I.tuple (SqT.of h : SqT X.K H b [.str p.1, .str p.2])
  obtain ⟨u, w, rfl, ⟨t1, rfl⟩, ⟨t2, rfl⟩⟩ := two_vals r
  refine ⟨t1, t2, pl, ?_⟩
  obtain ⟨o, ho, hc, n, hd⟩ := id pl
  show ((s.heap.get? b).map fun o => prObj o.data).getD (Str.empty, Str.empty) = p
  rw [ho]
  show prObj o.data = p
  rw [hd]
  rfl
theorem eqAt_pair {pins : List (Addr × Obj)} {σ : St} {H : Hp} {s : Shared} (I : Inv X pins σ H s) {A : Around} (hu : A.units + 1 < cLine) {b q : Addr} {p : Ar} {v : V} {o : Option Str} {c : Str} (hb : H b = some (.tup [.str p.1, .str p.2])) (hq : SqT X.K H q [v, .str c]) (ha : Arg X.K H v o) :
    SeqAt.EqAt A s (.ref b) (.ref q) (pairB o c p) := by
  obtain ⟨t1, t2, pb, _⟩ := pair_at I hb
  obtain ⟨us, r, pl, _⟩ := I.tuple hq
  obtain ⟨u, w, rfl, ru, ⟨t, rfl⟩⟩ := two_vals r
  by_cases e : b = q
  · subst e
    obtain ⟨o1, ho1, hc1, n1, hd1⟩ := id pb
    obtain ⟨o2, ho2, hc2, n2, hd2⟩ := id pl
    rw [ho1] at ho2
    obtain rfl := Option.some.inj ho2
    rw [hd1] at hd2
    have ei := (Data.seq.inj hd2).1
    have e1 : Value.str p.1 t1 = u := (List.cons.inj (congrArg Array.toList ei)).1
    have e2 : Value.str p.2 t2 = Value.str c t := (List.cons.inj (List.cons.inj (congrArg Array.toList ei)).2).1
    have e3 : p.2 = c := (Value.str.inj e2).1
    have e4 : o = some p.1 := by
      cases o with
      | some z =>
        obtain rfl : v = .str z := ha
        obtain ⟨t3, rfl⟩ := ru
        rw [(Value.str.inj e1).1]
      | none =>
        rcases ha with ⟨a, _, rfl, _⟩ | ⟨a, _, rfl, _⟩
        · rw [show u = Value.ref a from ru] at e1
          cases e1
        · rw [show u = Value.ref a from ru] at e1
          cases e1
    have : pairB o c p = true := by
      unfold pairB
      rw [decide_eq_true e4, decide_eq_true e3.symm]
      rfl
    rw [this]
    exact SeqAt.EqAt.same _
  · refine SeqAt.EqAt.of_refs e ?_
    have hr := SeqAt.RcAt.tuples (e := fun j => if j = 0 then decide (o = some p.1) else decide (c = p.2)) pb pl (show A.units < cLine by omega) fun j h1 h2 => by
      have h3 : j < 2 := h1
      match j, h3 with
      | 0, _ => exact eqAt_arg I hu ha ru
      | 1, _ =>
        have e : decide (c = p.2) = (p.2 == c) := by
          rw [Bool.eq_iff_iff, decide_eq_true_iff, beq_iff_eq]
          exact ⟨fun e => e.symm, fun e => e.symm⟩
        show SeqAt.EqAt A.in1 s (.str p.2 t2) (.str c t) (decide (c = p.2))
        rw [e]
        exact SeqAt.EqAt.str_str p.2 t2 c t
    have e : ((List.range (min 2 2)).all fun j => if j = 0 then decide (o = some p.1) else decide (c = p.2)) = pairB o c p := by
      unfold pairB
      show (_ && (_ && true)) = _
      rw [Bool.and_true]
      rfl
    rw [show ((List.range (min (#[Value.str p.1 t1, Value.str p.2 t2] : Array Value).size ([u, Value.str c t] : List Value).toArray.size)).all (fun j => if j = 0 then decide (o = some p.1) else decide (c = p.2)) && (#[Value.str p.1 t1, Value.str p.2 t2] : Array Value).size == ([u, Value.str c t] : List Value).toArray.size) = pairB o c p by
      rw [← e]
      show (_ && true) = _
      rw [Bool.and_true]
      rfl] at hr
    exact hr
theorem pairs_any {pins : List (Addr × Obj)} {σ : St} {H : Hp} {s : Shared} (I : Inv X pins σ H s) (b : Ar → Bool) : ∀ {al : List V} {as : List Ar} {us : List Value}, Paired (PairT H) al as → Vals al us → us.any (fun u => b (prOf s.heap u)) = as.any b ∧ ∀ u ∈ us, ∃ d p, u = Value.ref d ∧ p ∈ as ∧ H d = some (.tup [.str p.1, .str p.2])
  | _, _, _, .nil, .nil => ⟨rfl, fun u h => nomatch h⟩
  | _, _, _, .cons (b := p) h t, .cons (b := u) r rs => by
    obtain ⟨i1, i2⟩ := pairs_any I b t rs
    obtain ⟨d, rfl, hd⟩ := h
    obtain rfl : u = Value.ref d := r
    obtain ⟨_, _, _, e⟩ := pair_at I hd
    refine ⟨?_, fun w hw => ?_⟩
    · rw [List.any_cons, List.any_cons, e, i1]
    · rcases List.mem_cons.mp hw with rfl | hw
      · exact ⟨d, p, rfl, List.mem_cons_self .., hd⟩
      · obtain ⟨d', p', e1, e2, e3⟩ := i2 w hw
        exact ⟨d', p', e1, List.mem_cons_of_mem _ e2, e3⟩
theorem op_inPair (hu : X.A.units + 64 < cLine) : OpR X (compareOp .In) (rInPair X.K false) := by
  intro pins s σ H x y v u Q I rx ry h
  obtain ⟨q, z, o, c, a, al, as, rfl, hq, ha, rfl, hs, hp, k⟩ := h
  cases (show v = Value.ref q from rx)
  cases (show u = Value.ref a from ry)
  have he : ∀ {us : List Value}, Vals al us → ∀ y, y ∈ us.toArray → SeqAt.EqAt X.A.in1 s y (.ref q) (pairB o c (prOf s.heap y)) := fun r y hy => by
    obtain ⟨d, p, rfl, _, hd⟩ := (pairs_any I (pairB o c) hp r).2 y (by simpa using hy)
    obtain ⟨_, _, _, e⟩ := pair_at I hd
    rw [e]
    exact eqAt_pair I (by show X.A.units + 1 + 1 < cLine; omega) hd hq ha
  rw [Bool.false_bne] at k
  rcases hs with hs | hs
  · obtain ⟨us, r, p, _⟩ := I.list hs
    refine SeqAt.in_listAt (fun y => pairB o c (prOf s.heap y)) p.isList (he r) ?_
    rw [List.any_toArray, (pairs_any I (pairB o c) hp r).1]
    exact ⟨.bl _, H, I, rfl, k⟩
  · obtain ⟨us, r, p, _⟩ := I.tuple hs
    refine SeqAt.in_tupleAt (fun y => pairB o c (prOf s.heap y)) p (he r) ?_
    rw [List.any_toArray, (pairs_any I (pairB o c) hp r).1]
    exact ⟨.bl _, H, I, rfl, k⟩
theorem op_notInPair (hu : X.A.units + 64 < cLine) : OpR X (compareOp .NotIn) (rInPair X.K true) := by
  intro pins s σ H x y v u Q I rx ry h
  obtain ⟨q, z, o, c, a, al, as, rfl, hq, ha, rfl, hs, hp, k⟩ := h
  cases (show v = Value.ref q from rx)
  cases (show u = Value.ref a from ry)
  have he : ∀ {us : List Value}, Vals al us → ∀ y, y ∈ us.toArray → SeqAt.EqAt X.A.in1 s y (.ref q) (pairB o c (prOf s.heap y)) := fun r y hy => by
    obtain ⟨d, p, rfl, _, hd⟩ := (pairs_any I (pairB o c) hp r).2 y (by simpa using hy)
    obtain ⟨_, _, _, e⟩ := pair_at I hd
    rw [e]
    exact eqAt_pair I (by show X.A.units + 1 + 1 < cLine; omega) hd hq ha
  rw [Bool.true_bne] at k
  rcases hs with hs | hs
  · obtain ⟨us, r, p, _⟩ := I.list hs
    refine SeqAt.notIn_listAt (fun y => pairB o c (prOf s.heap y)) p.isList (he r) ?_
    rw [List.any_toArray, (pairs_any I (pairB o c) hp r).1]
    exact ⟨.bl _, H, I, rfl, k⟩
  · obtain ⟨us, r, p, _⟩ := I.tuple hs
    refine SeqAt.notIn_tupleAt (fun y => pairB o c (prOf s.heap y)) p (he r) ?_
    rw [List.any_toArray, (pairs_any I (pairB o c) hp r).1]
    exact ⟨.bl _, H, I, rfl, k⟩
/-! ### l.remove(x), the first one equal to x -/
def rRemD (K : PySem.W.Frag) : V → List V → Hp → VK → Prop := fun x xs H Q => ∃ (a : Addr) (y : V) (d : PyData) (vl : List V) (ds : List PyData) (j : Nat), x = .ref a ∧ xs = [y] ∧ H a = some (.lst vl) ∧ DpAll K H vl ds ∧ Dp K H y d ∧ SeqAt.shaped (.list ds) = true ∧ SeqAt.shaped d = true ∧
  SeqAt.dataPlace ds d = some j ∧ Q .non (upd H a (.lst (vl.eraseIdx j)))
theorem mt_remD (hu : X.A.units + 65 < cLine) : MtM X "list.remove" (rRemD X.K) := by
  intro pins s σ H x xs v us Q I rx rxs h
  obtain ⟨a, y, d, vl, ds, j, rfl, rfl, ha, hl, hy, sl, sd, hj, q⟩ := h
  cases rx
  obtain ⟨u, rfl, ru⟩ := rxs.one
  obtain ⟨z, its, n, r, hlen, e0⟩ := I.lstM ha
  obtain ⟨as, h1⟩ := Dp.readsAll I ds _ its hl r
  obtain ⟨bs, h2⟩ := Dp.reads I d y u hy ru
  have hxs : PyData.canLayAll0 ds = true := SeqAt.canLay_of_shaped sl
  have hroom : X.A.units + 1 + min (PyData.depthAll ds) d.depth < cLine := room_in_shaped sd hu
  refine SeqAt.remove_list_data (j := j) (vs := its.toArray) (l := a) ⟨_, e0, rfl, n, rfl⟩ (by simpa using h1) h2 (PyData.plainAll_of_canLay0 ds hxs) (PyData.plain_of_canLay0 d (SeqAt.canLay_of_shaped sd)) hroom hj (by rw [List.size_toArray, ← hlen]; exact z) ?_
  refine ⟨.non, _, I.lset (its' := its.eraseIdx j) (t' := s.toks) ha e0 ?_ (r.eraseIdx j) ?_, rfl, q⟩
  · show its.toArray.eraseIdxIfInBounds j = (its.eraseIdx j).toArray
    rw [List.eraseIdxIfInBounds_toArray]
  · exact Nat.le_trans (List.length_eraseIdx_le ..) z
end
end WL
end L2
set_option Elab.async false
set_option linter.all false
set_option maxRecDepth 100000
set_option maxHeartbeats 4000000
namespace L2
namespace WL
open PySem PySem.Spec PyProof.Rows K1
/-! ### dict comprehensions whose keys are tuples of texts and ints -/
/-- the dict at D takes z at the tuple y -/
def PutT (D : Addr) (y z : V) (H : Hp) (N : Hp → Prop) : Prop := ∃ kvs k b, H D = some (.dT kvs) ∧ y = .ref b ∧ H b = some (.tup (k.map kV)) ∧ kvs.length < sizeLine ∧ N (upd H D (.dT (putK kvs k z)))
theorem putT_run {X : Cx} {pins : List (Addr × Obj)} {σ : St} {H : Hp} {s : Shared} {F : Value → Shared → Prop} {D : Addr} {y z : V} {u r : Value} {N : Hp → Prop} {Q : Unit → Shared → Prop} (hu : X.A.units + 1 < cLine) (I : Inv X pins σ H s) (p : PutT D y z H N) (ry : RelV y u) (rz : RelV z r)
    (go : ∀ H' s', N H' → Inv X pins σ H' s' → Q () s') : wpAny (model X.prog X.w) X.A (dictSet D u r) Q F s := by
  obtain ⟨kvs, k, b, hD, rfl, hb, hl, hN⟩ := p
  obtain rfl : u = Value.ref b := ry
  obtain ⟨z1, z2, xs, rel, dd⟩ := dt_of I.hok hD
  have l1 : xs.length ≤ sizeLine := (Paired.length rel) ▸ z1
  have l2 := length_putK kvs k z
  refine wpAny_dictSet_heap (hsz := l1) (knd := tupleKind (mixKind X.prog X.w)) (show X.A.units < cLine by omega) (key_of I.hok hb) dd fun h' d2 same => go _ _ hN ?_
  obtain ⟨o, es, ep, ho, c1, c2, c3, _, c4⟩ := d2
  refine d_write I (by rw [hD]; exact True.intro) same ⟨o, ho⟩ ⟨by omega, z2, _, ?_, o, es, ep, ho, c1, c2, c3, c4⟩
  exact (rel.put k hb rz).keeps fun c ys ec => by
    rw [upd_ne (ne_of ec hD nofun)]
    exact ec
section
variable {X : Cx}
/-- a turn of the comprehension, behind the item x -/
def turnT (g : TG) (tt : TT) (tk tv : TE) (vs : List Nat) (σ : St) (D : Addr) (N : Hp → Prop) (x : V) (H : Hp) : Prop :=
  g x (wipe σ vs) H fun τ H2 => wipe τ vs = wipe σ vs ∧ tt τ H2 fun b H3 => if b = true then tk τ H3 fun y H4 => tv τ H4 fun z H5 => PutT D y z H5 N else N H3
def tDcT (wi : TI) (g : TG) (tt : TT) (tk tv : TE) (vs : List Nat) : TE := fun σ H Q => wi σ H fun J H1 => ∀ D, H1 D = none → ∃ W : Nat → Nat → Hp → Prop, (∃ m, W 0 m (upd H1 D (.dT []))) ∧
  ∀ i m G, W i m G → (J.stop i G ∧ Q (.ref D) G) ∨ (J.go i G ∧ ∃ N : Hp → Prop, (∀ G', N G' → ∃ n, n < m ∧ W (i + 1) n G') ∧ ∀ x G', J.yld i G x G' → turnT g tt tk tv vs σ D N x G')
/-- {k: v for target in iter if ..} -/
theorem pe_dcT {kx vx tg iter : Expr} {ifs : List Expr} {scope : Scope} {own : List (Str × Nat)} {pos : Pos} {wi : TI} {g : TG} {tt : TT} {tk tv : TE} (hu : X.A.units + 1 < cLine) (calm : X.calm = true) (nd : X.N.Nodup) (hi : PI X tg iter wi) (ok : BlkOk X.N X.env.scope scope own)
    (pg : ∀ (s : Shared) (H : Hp) (C : Addr) (cl : List (Str × Addr)) (fp : List Addr), PG (X.blk s H scope (compEnvC scope cl C X.env) fp) tg g)
    (pt : ∀ (s : Shared) (H : Hp) (C : Addr) (cl : List (Str × Addr)) (fp : List Addr), PTs (X.blk s H scope (compEnvC scope cl C X.env) fp) ifs tt)
    (pk : ∀ (s : Shared) (H : Hp) (C : Addr) (cl : List (Str × Addr)) (fp : List Addr), PE (X.blk s H scope (compEnvC scope cl C X.env) fp) kx tk)
    (pw : ∀ (s : Shared) (H : Hp) (C : Addr) (cl : List (Str × Addr)) (fp : List Addr), PE (X.blk s H scope (compEnvC scope cl C X.env) fp) vx tv) (plain : ∀ x, foldedSetIterable iter X.env x = pure x := by intro _; rfl) :
    PE X (.DictComp kx vx [⟨tg, iter, ifs, 0⟩] scope pos) (tDcT wi g tt tk tv (own.map (·.2))) := by
  refine ⟨fun pins s σ H Q I ask => ?_⟩
  have clo : closureFor scope X.env = pure (cloFrom X.env.cells scope.names []) := closure_ok fun y hy fr => (ok.free y hy fr).elim (fun k => I.ok.has _ (.inl k)) fun k => I.ok.has _ (.inr k)
  rw [arm_eval_DictComp]
  refine wpAny_comprehension_free (use := none) rfl plain clo ok.kind (fun y hy el => (ok.uniq y hy).trans (congrArg some el)) ?_
  refine thn (hi.run pins s σ H _ I ask) fun itv0 sa ha => thn ha fun itv sb hb => ?_
  obtain ⟨it, fp, tn, J, H1, rfl, I1, T, t1, f1, rest⟩ := hb
  refine wpAny_newObj_type (newEnv_comp ?_)
  -- the new dict
  obtain ⟨D, hD⟩ : ∃ D, sb.heap.objs.size = D := ⟨_, rfl⟩
  rw [hD]
  have D0 : H1 D = none := I1.hok.fresh (Nat.le_of_eq hD)
  obtain ⟨W, ⟨m0, W0⟩, steps⟩ := rest D D0
  have fpLt : ∀ b ∈ fp, b < D := fun b hb => by
    obtain ⟨o, e, _⟩ := T.obj _ _ t1 b hb
    rw [← hD]
    exact Heap.lt_size e
  obtain ⟨sc, hsc⟩ : ∃ sc : Shared, sc = { sb with heap := sb.heap.push { cls := .type "dict", data := .dict #[] } } := ⟨_, rfl⟩
  have up : ∀ b o, sb.heap.get? b = some o → sc.heap.get? b = some o := fun b o e => by
    rw [hsc]
    exact Heap.get?_push_of_some _ e
  have size : sc.heap.objs.size = D + 1 := by rw [hsc, ← hD]; exact Heap.size_push ..
  have I2 : Inv X pins σ (upd H1 D (.dT [])) sc := by
    rw [hsc]
    refine I1.laid (t' := sb.toks) (fun b o e => Heap.get?_push_of_some _ e) (Nat.le_of_eq hD) ?_
    rw [← hD]
    exact dt_empty sb.heap I1.big
  obtain ⟨G0, hG0⟩ : ∃ G0, G0 = upd H1 D (.dT []) := ⟨_, rfl⟩
  rw [← hG0] at I2 W0
  have f2 : ∀ b ∈ fp, FpOk X pins G0 b ∧ b < sc.heap.objs.size := fun b hb => by
    have lt := fpLt b hb
    refine ⟨⟨?_, (f1 b hb).2⟩, by rw [size]; exact Nat.lt_succ_of_lt lt⟩
    rw [hG0, upd_ne (Nat.ne_of_lt lt)]
    exact (f1 b hb).1
  have t2 : tn 0 sc.heap := T.keep _ _ _ t1 fun b _ => up b
  have I3 := block_start I2 ok nd f2
  rw [← hsc]
  obtain ⟨C, hC⟩ : ∃ C, sc.heap.objs.size = C := ⟨_, rfl⟩
  rw [hC] at I3
  rw [hC]
  obtain ⟨cl, hcl⟩ : ∃ cl, cellsFrom (C + 1) scope.names (cloFrom X.env.cells scope.names []) = cl := ⟨_, rfl⟩
  rw [hcl] at I3
  rw [hcl]
  have pg := pg sc G0 C cl fp
  have pt := pt sc G0 C cl fp
  have pk := pk sc G0 C cl fp
  have pw := pw sc G0 C cl fp
  show codeAny _ _ (.compStart (.DictComp kx vx [⟨tg, iter, ifs, 0⟩] scope pos) 0 (.ref it) (.ref D) (compEnvC scope cl C X.env)) _ _
  obtain ⟨ce, hce⟩ : ∃ ce, compEnvC scope cl C X.env = ce := ⟨_, rfl⟩
  rw [hce] at I3 pg pt pk pw
  rw [hce]
  have loc : ce.locals = C := by rw [← hce]; rfl
  obtain ⟨sd, hsd⟩ : ∃ sd : Shared, sd = { sc with heap := pushCells (sc.heap.push { cls := .type "dict", data := .dict #[] }) scope.names } := ⟨_, rfl⟩
  rw [← hsd] at I3
  rw [← hsd]
  have t3 : tn 0 sd.heap := T.keep _ _ _ t2 fun b _ o e => by
    rw [hsd]
    exact pushCells_keeps _ _ _ _ (Heap.get?_push_of_some _ e)
  have fps : ∀ {τ : St} {G : Hp} {s' : Shared}, Inv (X.blk sc G0 scope ce fp) [] τ G s' → (∀ b ∈ fp, G b = none) → ∀ b ∈ fp, FpOk (X.blk sc G0 scope ce fp) [] G b := fun J' off b hb =>
    ⟨off b hb, (J'.ok.exf b hb).1, J'.ok.exfs b hb, .inl hb, fun x c e => (J'.ok.exf b hb).2 x c e, fun p hp => absurd (show p ∈ ([] : List (Addr × Obj)) ++ [] from hp) nofun⟩
  suffices loop : codeAny (model X.prog X.w) X.A (.compLoop (.DictComp kx vx [⟨tg, iter, ifs, 0⟩] scope pos) 0 (.ref it) (.ref D) ce) (compPost (model X.prog X.w) X.A X.xe none (EP X pins σ Q) (.ref D) C) sd from
    codeAny_compStart_dict loop (T.self X.A 0 _ _ _ t3 loop)
  refine compLoop_anyD (fun n s' => ∃ i G, W i n G ∧ (∀ b ∈ fp, G b = none) ∧ tn i s'.heap ∧ Inv (X.blk sc G0 scope ce fp) [] (wipe σ (own.map (·.2))) G s') ?_ m0 ⟨0, G0, W0, fun b hb => (f2 b hb).1.1, t3, I3⟩
  rintro n s1 ⟨i, G, w1, off, t4, I4⟩
  rcases steps i n G w1 with ⟨stop, fin⟩ | ⟨more, N, hN, body⟩
  · refine thnF (T.done (X.blk sc G0 scope ce fp) rfl rfl rfl calm i [] s1 _ G (fun _ _ => False) I4 (fps I4 off) t4 stop) fun r s2 ⟨er, I5⟩ => ?_
    subst er
    have nC : G C = none := by
      have z : G ce.locals = none := I5.free
      rwa [loc] at z
    have I6 : Inv X pins σ G s2 := I2.call' (ch := fp) I5.os I5.base I5.hok I5.bare fun b hb => let q := (f2 b hb).1; ⟨q.2.2.2.1, q.2.1, q.2.2.2.2.1, q.2.2.2.2.2⟩
    obtain ⟨m, hm, _⟩ := I5.loc
    have hm : s2.heap.Ns ce.locals m := hm
    rw [loc] at hm
    obtain ⟨g0, g1, g2, g3, g4, g5⟩ := I2.fpOk (Nat.le_of_eq hC) nC
    exact ⟨m, hm, fun h2 sb => ⟨.ref D, G, I6.turned (t' := s2.toks) (fun b o hb e => (sb.2 b hb).trans e) g0 g1 g3 g4 g5, rfl, fin⟩⟩
  · refine thnF (T.item (X.blk sc G0 scope ce fp) rfl rfl rfl calm i [] s1 _ G (fun _ _ => False) I4 (fps I4 off) t4 more) fun r s2 ⟨u, er, h2⟩ => ?_
    subst er
    refine thnF h2 fun _ s3 ⟨x, G1, I5, rx, yl, t5, off1⟩ => ?_
    have I6 := I5.pinned (fps I5 off1) (T.obj _ _ t5)
    refine thnF (pg.run _ s3 _ G1 x u _ I6 rx (body x G1 yl)) fun _ s4 ⟨τ, G2, I7, same, q2⟩ => ?_
    refine thnF (pt.run _ s4 τ G2 _ I7 q2) fun b s5 ⟨G3, I8, q3⟩ => ?_
    have over : ∀ {G' : Hp} {s' : Shared}, N G' → Inv (X.blk sc G0 scope ce fp) ([] ++ pinsAt fp s3.heap) τ G' s' → ∃ m, m < n ∧ ∃ i G, W i m G ∧ (∀ b ∈ fp, G b = none) ∧ tn i s'.heap ∧ Inv (X.blk sc G0 scope ce fp) [] (wipe σ (own.map (·.2))) G s' := fun {G' s'} nx J' => by
      obtain ⟨m, lt, w'⟩ := hN G' nx
      have held : ∀ b ∈ fp, ∀ o, s3.heap.get? b = some o → s'.heap.get? b = some o ∧ G' b = none := fun b hb o e => by
        have z := J'.pin (b, o) (List.mem_append_right _ (List.mem_append_right _ (mem_pinsAt hb e)))
        exact ⟨z.1, z.2.1⟩
      refine ⟨m, lt, i + 1, G', w', fun b hb => ?_, T.keep _ _ _ t5 fun b hb o e => (held b hb o e).1, (J'.unpinned (pins := [])).weak ?_ fun j v e => ?_⟩
      · obtain ⟨o, e, _⟩ := T.obj _ _ t5 b hb
        exact (held b hb o e).2
      · rw [← same, wipe_length]
      · rw [← same] at e
        exact (wipe_some e).1
    cases b with
    | false =>
      rw [if_neg Bool.false_ne_true] at q3 ⊢
      exact over q3 I8
    | true =>
      rw [if_pos rfl] at q3 ⊢
      refine thnF (pk.run _ s5 τ G3 _ I8 q3) fun y s6 ⟨yk, G4, I9, r4, q4⟩ => ?_
      refine thnF (pw.run _ s6 τ G4 _ I9 q4) fun z s7 ⟨zv, G5, I10, r5, q5⟩ => ?_
      exact putT_run (X := X.blk sc G0 scope ce fp) hu I10 q5 r4 r5 fun G6 s8 nx I11 => over nx I11
/-- over a list that stays -/
theorem dcT_it {J : It} {n : Nat} {Gd : Hp → Prop} {Y : Nat → Hp → V → Hp → Prop} (w : Walk J n Gd Y) {g : TG} {tt : TT} {tk tv : TE} {vs : List Nat} {σ : St} {H1 : Hp} {D : Addr} {Qd : Hp → Prop} (Pv : Nat → Hp → Prop) (h0 : Pv 0 (upd H1 D (.dT []))) (hG : ∀ i H, i ≤ n → Pv i H → Gd H)
    (hs : ∀ i x H H', i < n → Pv i H → Y i H x H' → turnT g tt tk tv vs σ D (Pv (i + 1)) x H') (hd : ∀ H, Pv n H → Qd H) :
    ∃ W : Nat → Nat → Hp → Prop, (∃ m, W 0 m (upd H1 D (.dT []))) ∧ ∀ i m G, W i m G → (J.stop i G ∧ Qd G) ∨ (J.go i G ∧ ∃ N : Hp → Prop, (∀ G', N G' → ∃ n, n < m ∧ W (i + 1) n G') ∧ ∀ x G', J.yld i G x G' → turnT g tt tk tv vs σ D N x G') := by
  refine ⟨fun i m G => m + i = n ∧ Pv i G, ⟨n, rfl, h0⟩, ?_⟩
  rintro i m G ⟨e, p⟩
  have gd := hG i G (by omega) p
  by_cases lt : i < n
  · exact .inr ⟨w.goes i G lt gd, Pv (i + 1), fun G' p' => ⟨m - 1, by omega, by omega, p'⟩, fun x G' y => hs i x G G' lt p (w.yields i G x G' lt gd y)⟩
  · have ei : i = n := by omega
    subst ei
    exact .inl ⟨w.stops G gd, hd G p⟩
end
end WL
end L2
set_option Elab.async false
set_option linter.all false
set_option maxRecDepth 100000
set_option maxHeartbeats 4000000
namespace L2
namespace WL
open PySem PySem.Spec PyProof.Rows K1 LamX
/-! ### list(d.items()), d's keys tuples -/
section
variable {prog : Program} {w : World} {A : Around} {E : Value → Shared → Prop} {s : Shared} {r d : Addr} {es : Array DictEntry} {ep : Nat}
theorem list_items_run {Q : Value → Shared → Prop} (hh : A.handled = none) (hv : s.heap.IsItemsView r d) (hm : DT.Raw s.heap d es ep) (hn : es.size ≤ sizeLine)
    (go : ∀ h' tk acc c as, (∀ b o, s.heap.get? b = some o → h'.get? b = some o) → h'.get? s.heap.objs.size = some { cls := .type "list", dict := none, data := .seq acc c, slots := #[] } → as.length = es.size → DT.Made es s.heap.objs.size h' as →
      acc.toList = as.map Value.ref → Q (.ref s.heap.objs.size) { s with heap := h', toks := tk }) : wpAny (model prog w) A (call (.type "list") [.ref r]) Q E s := by
  have lr : r < s.heap.objs.size := let ⟨_, e, _⟩ := hv; Heap.lt_size e
  have ld : d < s.heap.objs.size := hm.lt
  refine callType_codes (Q₁ := fun v t => v = .ref s.heap.objs.size ∧ t = { s with heap := s.heap.push { cls := .type "list", data := .seq #[] } }) PySem.F.called_list (PySem.F.typeCall_list_1 _) PySem.F.entry_list_init (code_list_new _ ⟨rfl, rfl⟩) fun v t ⟨ev, et⟩ => ?_
  subst ev et
  obtain ⟨L, hL⟩ : ∃ L, s.heap.objs.size = L := ⟨_, rfl⟩
  rw [hL] at lr ld go
  rw [hL]
  have here : (s.heap.push { cls := .type "list", data := .seq #[] }).get? L = some { cls := .type "list", data := .seq #[] } := by
    rw [← hL]
    exact Heap.get?_push_size _ rfl
  refine ⟨⟨_, here, rfl⟩, PySem.F.args_list_init_2 _ _, ?_⟩
  show wpAny _ _ (Builtin.List.listItems (.ref L) >>= _) _ _ _
  refine wpAny_bind ?_
  unfold Builtin.List.listItems
  refine wpAny_bind (wpAny_seqItems here rfl (wpAny_pure ?_))
  refine wpAny_bind ?_
  show wpAny _ _ (updateSeq L fun _ => #[]) _ _ _
  refine wpAny_updateSeq here rfl ?_
  refine wpAny_bind (wpAny_letGo ?_)
  have now := Heap.get?_update_self (Obj.mapSeq fun _ => (#[] : Array Value)) here rfl
  have side : ∀ b o, s.heap.get? b = some o → ((s.heap.push { cls := .type "list", data := .seq #[] }).update L (Obj.mapSeq fun _ => (#[] : Array Value))).get? b = some o := fun b o e => by
    rw [Heap.get?_update_other _ _ (Nat.ne_of_gt (show b < L from hL ▸ Heap.lt_size e))]
    exact Heap.get?_push_of_some _ e
  have ls : ((s.heap.push { cls := .type "list", data := .seq #[] }).update L (Obj.mapSeq fun _ => (#[] : Array Value))).objs.size = L + 1 := by
    rw [Heap.size_update, Heap.size_push, hL]
  refine DT.extI (es := es) (ep := ep) (A := A.in1) hh ?_ (hm.at' fun o e => side d o e) L (Nat.ne_of_gt lr) (Nat.ne_of_lt ld) .none _ now (fun h' tk acc c as k1 k2 k3 k4 k5 => ?_) hn
  · obtain ⟨o, e, q⟩ := hv
    exact ⟨o, side r o e, q⟩
  · exact ⟨rfl, go h' tk acc c as (fun b o e => k1 b o (Nat.ne_of_lt (show b < L from hL ▸ Heap.lt_size e)) (side b o e)) k2 k3 (k4.low (lo' := L) (by rw [ls]; exact Nat.le_succ L)) k5⟩
end
def rListIt : List V → Hp → VK → Prop := fun xs H Q => ∃ (p a : Addr) (kvs : List (List Key × V)), xs = [.ref p] ∧ H p = some (L2.DX.itemsO p a) ∧ H a = some (.dT kvs) ∧
  ∀ H' l ts, Same H H' → H l = none → H' l = some (.lst (ts.map V.ref)) → Paired (fun (t : Addr) (q : List Key × V) => ∃ b, H' b = some (.tup (q.1.map kV)) ∧ H' t = some (.tup [.ref b, q.2])) ts kvs → Q (.ref l) H'
theorem paired_of {α β : Type} {R : α → β → Prop} : ∀ {l : List α} {m : List β}, l.length = m.length → (∀ (i : Nat) x y, l[i]? = some x → m[i]? = some y → R x y) → Paired R l m
  | [], [], _, _ => .nil
  | [], _ :: _, h, _ => by cases h
  | _ :: _, [], h, _ => by cases h
  | a :: l, b :: m, h, k => .cons (k 0 a b rfl rfl) (paired_of (Nat.succ.inj h) fun i x y e1 e2 => k (i + 1) x y e1 e2)
theorem call_listIt {X : Cx} (calm : X.calm = true) : CallR X (.type "list") rListIt := by
  intro pins s σ H xs us Q I r h
  obtain ⟨p, a, kvs, rfl, hp, ha, q⟩ := h
  obtain rfl := Vals.ref1 r
  have view : s.heap.IsItemsView p a := (show ObjOk X.prog X.w H s.heap p (L2.DX.itemsO p a) from I.hok p _ hp).1
  obtain ⟨z, hd, ys, rel, o, es, ep, ho, hx, hdat, hes, his, hn⟩ := dt_of I.hok ha
  have l1 : kvs.length = ys.length := Paired.length rel
  have l2 : es.size = ys.length := size_of_entries hes
  refine list_items_run (es := es) (ep := ep) (I.ok.hd calm) view ⟨o, ho, hx, hdat⟩ (by omega) fun h' tk acc c as k1 k2 k3 k4 k5 => ?_
  obtain ⟨L, hL⟩ : ∃ L, s.heap.objs.size = L := ⟨_, rfl⟩
  have nd : as.Nodup := List.Pairwise.imp (fun h => Nat.ne_of_lt h) k4.rise
  have HL : H L = none := I.hok.fresh (Nat.le_of_eq hL)
  rw [hL] at k2 k4
  rw [hL]
  have I1 : Inv X pins σ (upd H L (.lst (as.map V.ref))) { s with heap := h', toks := tk } := by
    refine I.laid (t' := tk) k1 (Nat.le_of_eq hL) ⟨by rw [List.length_map]; omega, acc.toList, c, ?_, by rw [Array.toArray_toList]; exact k2⟩
    rw [k5]
    exact L2.vals_refs as
  obtain ⟨H2, I2, g, t⟩ := L2.DX.takeT (P := fun b vs => ∃ (j : Nat) (kv : List Key × V) (kq : Addr), as[j]? = some b ∧ kvs[j]? = some kv ∧ H kq = some (.tup (kv.1.map kV)) ∧ vs = [V.ref kq, kv.2]) I as _ I1 nd fun b hb => by
    have lt := k4.above b hb
    have lb : s.heap.objs.size ≤ b := by rw [hL]; exact Nat.le_of_lt lt
    obtain ⟨j, hj⟩ := List.mem_iff_getElem?.mp hb
    obtain ⟨en, he, hg⟩ := k4.pairs j b hj
    rw [entry_at hes j] at he
    obtain ⟨y, hy, rfl⟩ := Option.map_eq_some_iff.mp he
    obtain ⟨kv, hk, r1, r2, r3⟩ := L2.DX.pget rel hy
    refine ⟨lb, ?_, [V.ref y.2.1, kv.2], ⟨j, kv, y.2.1, hj, hk, r2, rfl⟩, fun G => ?_⟩
    · rw [upd_ne (Nat.ne_of_gt lt)]
      exact I.hok.fresh lb
    · exact ⟨by show 2 ≤ sizeLine; decide, [Value.ref y.2.1, y.2.2], .cons rfl (.cons r3 .nil), ⟨_, hg, rfl, _, rfl⟩⟩
  refine ⟨.ref L, H2, I2, rfl, q H2 L as (fun b o e => g b o ?_) HL (g _ _ upd_same) (paired_of (by omega) fun i x y e1 e2 => ?_)⟩
  · rw [upd_ne (ne_of_none e HL)]
    exact e
  · obtain ⟨vs, ⟨j, kv, kq, h1, h2, h3, rfl⟩, h4⟩ := t x (List.mem_of_getElem? e1)
    have lj := (List.getElem?_eq_some_iff.mp h1).1
    have ei : i = j := (List.getElem?_inj (show i < as.length from (List.getElem?_eq_some_iff.mp e1).1) nd).mp (e1.trans h1.symm)
    subst ei
    rw [h2] at e2
    cases e2
    refine ⟨kq, g _ _ ?_, h4⟩
    rw [upd_ne (ne_of_none h3 HL)]
    exact h3
/-! ### xs != ys of the very same items -/
def rNeSame (K : PySem.W.Frag) : R2 := fun x y H Q => ∃ a b xs, x = .ref a ∧ y = .ref b ∧ SqL K H a xs ∧ SqL K H b xs ∧ (∀ v ∈ xs, flatB v = true ∨ ∃ c, v = .ref c) ∧ Q (.bl false) H
theorem vals_get : ∀ {xs : List V} {us : List Value} {j : Nat} {u : Value}, Vals xs us → us[j]? = some u → ∃ x, xs[j]? = some x ∧ RelV x u
  | _, _, j, u, .nil, h => by cases h
  | _, _, 0, u, .cons r t, h => by
    cases h
    exact ⟨_, rfl, r⟩
  | _, _, j + 1, u, .cons r t, h => vals_get (j := j) t h
theorem op_neSame {X : Cx} (hu : X.A.units + 64 < cLine) : OpR X (compareOp .NotEq) (rNeSame X.K) := by
  intro pins s σ H x y v u Q I rx ry h
  obtain ⟨a, b, xs, rfl, rfl, ha, hb, hf, q⟩ := h
  cases (show v = Value.ref a from rx)
  cases (show u = Value.ref b from ry)
  obtain ⟨us, r1, p1, _⟩ := I.list ha
  obtain ⟨ws, r2, p2, _⟩ := I.list hb
  have el : us.length = ws.length := by rw [← r1.length, ← r2.length]
  refine SeqAt.RcNeAt.lists (e := fun _ => true) p1.isList p2.isList (by simpa using el) (by omega) (fun j h1 h2 => ?_) X.prog X.w _ _ ⟨.bl _, H, I, rfl, ?_⟩
  · have g1 : us[j]? = some us.toArray[j] := by rw [← List.getElem?_toArray]; exact Array.getElem?_eq_getElem h1
    have g2 : ws[j]? = some ws.toArray[j] := by rw [← List.getElem?_toArray]; exact Array.getElem?_eq_getElem h2
    obtain ⟨x1, e1, k1⟩ := vals_get r1 g1
    obtain ⟨x2, e2, k2⟩ := vals_get r2 g2
    rw [e1] at e2
    obtain rfl := Option.some.inj e2
    rcases hf x1 (List.mem_of_getElem? e1) with f | ⟨c, rfl⟩
    · exact eqAt_same k1 k2 f
    · rw [show us.toArray[j] = Value.ref c from k1, show ws.toArray[j] = Value.ref c from k2]
      exact SeqAt.EqAt.same _
  · rw [show (!(List.range us.toArray.size).all fun _ => true) = false by simp]
    exact q
/-! ### xs == [] -/
def rEqNil (K : PySem.W.Frag) : R2 := fun x y H Q => ∃ a b xs, x = .ref a ∧ y = .ref b ∧ SqL K H a xs ∧ SqL K H b [] ∧ Q (.bl xs.isEmpty) H
theorem op_eqNil {X : Cx} (hu : X.A.units + 64 < cLine) : OpR X (compareOp .Eq) (rEqNil X.K) := by
  intro pins s σ H x y v u Q I rx ry h
  obtain ⟨a, b, xs, rfl, rfl, ha, hb, q⟩ := h
  cases (show v = Value.ref a from rx)
  cases (show u = Value.ref b from ry)
  obtain ⟨us, r1, p1, _⟩ := I.list ha
  obtain ⟨ws, r2, p2, _⟩ := I.list hb
  cases r2
  cases r1 with
  | nil => exact SeqAt.RcAt.lists (e := fun _ => true) p1.isList p2.isList rfl (by omega) (fun j h1 h2 => absurd h1 (Nat.not_lt_zero j)) X.prog X.w _ _ ⟨.bl true, H, I, rfl, q⟩
  | cons h t => exact SeqAt.RcAt.lists_lengths p1.isList p2.isList (by simp) (by omega) X.prog X.w _ _ ⟨.bl false, H, I, rfl, q⟩
end WL
end L2
set_option Elab.async false
set_option linter.all false
set_option maxRecDepth 100000
set_option maxHeartbeats 4000000
namespace L2
namespace WL
open PySem PySem.Spec PyProof.Rows K1 LamX
theorem mem_arr {rs : Rws} {a : Ar} : a ∈ arr rs ↔ ∃ r ∈ rs, a.2 = r.1 ∧ a.1 ∈ r.2 := by
  unfold arr
  rw [List.mem_flatMap]
  constructor
  · rintro ⟨r, hr, h⟩
    obtain ⟨s, hs, rfl⟩ := List.mem_map.mp h
    exact ⟨r, hr, rfl, hs⟩
  · rintro ⟨r, hr, e, h⟩
    exact ⟨r, hr, List.mem_map.mpr ⟨a.1, h, by rw [← e]⟩⟩
theorem arr_nodup : ∀ {rs : Rws}, (rs.map Prod.fst).Nodup → (∀ r ∈ rs, r.2.Nodup) → (arr rs).Nodup
  | [], _, _ => List.nodup_nil
  | r :: rs, h, k => by
    rw [List.map_cons] at h
    obtain ⟨h1, h2⟩ := List.nodup_cons.mp h
    show (r.2.map (fun s => (s, r.1)) ++ arr rs).Nodup
    refine List.nodup_append.mpr ⟨?_, arr_nodup h2 fun q hq => k q (List.mem_cons_of_mem _ hq), fun a ha b hb e => ?_⟩
    · exact List.Pairwise.map _ (fun a b n e => n (Prod.mk.inj e).1) (k r (List.mem_cons_self ..))
    · subst e
      obtain ⟨s, _, rfl⟩ := List.mem_map.mp ha
      obtain ⟨q, hq, e, _⟩ := mem_arr.mp hb
      exact h1 (List.mem_map.mpr ⟨q, hq, e.symm⟩)
theorem name_ok {rs : Rws} (g : Good rs) {z : Str} (h : z ∈ rs.map Prod.fst) : ∀ c ∈ z.cps.toList, c < 1114112 := by
  obtain ⟨r, hr, rfl⟩ := List.mem_map.mp h
  exact isNm_ok (g.nm r hr)
theorem arr_names {rs : Rws} (g : Good rs) {a : Ar} (h : a ∈ arr rs) : a.1 ∈ rs.map Prod.fst ∧ a.2 ∈ rs.map Prod.fst := by
  obtain ⟨r, hr, e, m⟩ := mem_arr.mp h
  exact ⟨(g.sr r hr).2.2 _ m, List.mem_map.mpr ⟨r, hr, e.symm⟩⟩
theorem arr_ok {rs : Rws} (g : Good rs) {a : Ar} (h : a ∈ arr rs) : sOk [a.1, a.2] := by
  obtain ⟨h1, h2⟩ := arr_names g h
  intro z hz
  rcases List.mem_cons.mp hz with rfl | hz
  · exact name_ok g h1
  · rw [show z = a.2 by simpa using hz]
    exact name_ok g h2
/-! ### removals -/
theorem place_erase {α : Type} [BEq α] [LawfulBEq α] [DecidableEq α] {f : α → PyData} (hf : ∀ x y, PyData.eqv (f x) (f y) = decide (x = y)) {a : α} : ∀ {as : List α}, a ∈ as → ∃ j, SeqAt.dataPlace (as.map f) (f a) = some j ∧ as.eraseIdx j = as.erase a
  | [], h => nomatch h
  | b :: as, h => by
    by_cases e : b = a
    · subst e
      refine ⟨0, ?_, ?_⟩
      · unfold SeqAt.dataPlace
        rw [List.map_cons, List.findIdx?_cons, hf, decide_eq_true rfl]
        rfl
      · rw [List.erase_cons_head]
        rfl
    · obtain ⟨j, h1, h2⟩ := place_erase hf (show a ∈ as from (List.mem_cons.mp h).resolve_left fun z => e z.symm)
      refine ⟨j + 1, ?_, ?_⟩
      · unfold SeqAt.dataPlace at h1 ⊢
        rw [List.map_cons, List.findIdx?_cons, hf, decide_eq_false e, h1]
        rfl
      · rw [List.erase_cons_tail (by simpa using e), ← h2]
        rfl
theorem paired_erase {α β : Type} {R : α → β → Prop} : ∀ {l : List α} {m : List β} (j : Nat), Paired R l m → Paired R (l.eraseIdx j) (m.eraseIdx j)
  | _, _, _, .nil => .nil
  | _, _, 0, .cons h t => t
  | _, _, j + 1, .cons h t => .cons h (paired_erase j t)
theorem eqv_str1 (a b : Str) : PyData.eqv (.str a) (.str b) = decide (a = b) := by
  show (a == b) = _
  rw [Bool.eq_iff_iff, beq_iff_eq, decide_eq_true_iff]
theorem lay_ds2 : ∀ {as : List Ar}, (∀ a ∈ as, sOk [a.1, a.2]) → PyData.canLayAll0 (as.map d2) = true ∧ PyData.depthAll (as.map d2) ≤ 1
  | [], _ => ⟨rfl, Nat.zero_le _⟩
  | a :: as, h => by
    obtain ⟨h1, h2⟩ := lay_ds2 (as := as) fun x hx => h x (List.mem_cons_of_mem _ hx)
    refine ⟨?_, ?_⟩
    · show (PyData.canLay0 (d2 a) && PyData.canLayAll0 (as.map d2)) = true
      rw [lay_d2 (h a (List.mem_cons_self ..)), h1]
      rfl
    · show max (PyData.depth (d2 a)) (PyData.depthAll (as.map d2)) ≤ 1
      have : PyData.depth (d2 a) = 1 := rfl
      omega
theorem shaped_ds2 {as : List Ar} (h : ∀ a ∈ as, sOk [a.1, a.2]) : SeqAt.shaped (.list (as.map d2)) = true := by
  obtain ⟨h1, h2⟩ := lay_ds2 h
  unfold SeqAt.shaped
  refine Bool.and_eq_true_iff.mpr ⟨h1, decide_eq_true ?_⟩
  show PyData.depthAll (as.map d2) + 1 ≤ 64
  omega
theorem shaped_d2 {a : Ar} (h : sOk [a.1, a.2]) : SeqAt.shaped (d2 a) = true := by
  unfold SeqAt.shaped
  exact Bool.and_eq_true_iff.mpr ⟨lay_d2 h, rfl⟩
theorem shaped_ss {xs : List Str} (h : sOk xs) : SeqAt.shaped (.list (dS xs)) = true := by
  unfold SeqAt.shaped
  refine Bool.and_eq_true_iff.mpr ⟨lay_strs h, decide_eq_true ?_⟩
  show PyData.depthAll (dS xs) + 1 ≤ 64
  rw [dep_strs]
  omega
theorem shaped_s {z : Str} (h : ∀ c ∈ z.cps.toList, c < 1114112) : SeqAt.shaped (.str z) = true := by
  have := lay_strs (xs := [z]) fun x hx => by
    rw [show x = z by simpa using hx]
    exact h
  have l1 : (PyData.canLay0 (.str z) && true) = true := this
  rw [Bool.and_true] at l1
  unfold SeqAt.shaped
  exact Bool.and_eq_true_iff.mpr ⟨l1, rfl⟩
theorem dp_pair {K : PySem.W.Frag} {H : Hp} {v : V} {a : Ar} (h : PairT H v a) : Dp K H v (d2 a) := by
  obtain ⟨q, rfl, e⟩ := h
  exact .tup (SqT.of e) (.cons (.str _) (.cons (.str _) .nil))
theorem dp_pairs {K : PySem.W.Frag} {H : Hp} : ∀ {vs : List V} {as : List Ar}, Paired (PairT H) vs as → DpAll K H vs (as.map d2)
  | _, _, .nil => .nil
  | _, _, .cons h t => .cons (dp_pair h) (dp_pairs t)
theorem any_pair_some (x c : Str) (as : List Ar) : as.any (pairB (some x) c) = decide ((x, c) ∈ as) := by
  rw [Bool.eq_iff_iff, decide_eq_true_iff, List.any_eq_true]
  constructor
  · rintro ⟨p, hp, h⟩
    unfold pairB at h
    rw [Bool.and_eq_true, decide_eq_true_iff, decide_eq_true_iff] at h
    rw [show (x, c) = p from Prod.ext (Option.some.inj h.1) h.2]
    exact hp
  · intro m
    exact ⟨_, m, by unfold pairB; rw [decide_eq_true rfl, decide_eq_true rfl]; rfl⟩
theorem any_pair_none (c : Str) (as : List Ar) : as.any (pairB none c) = false := by
  rw [List.any_eq_false]
  intro p _ h
  unfold pairB at h
  rw [decide_eq_false (fun e => nomatch e)] at h
  cases h
theorem any_arg_some (z : Str) (xs : List Str) : (xs.any fun x => decide (some z = some x)) = decide (z ∈ xs) := by
  rw [Bool.eq_iff_iff, decide_eq_true_iff, List.any_eq_true]
  constructor
  · rintro ⟨p, hp, h⟩
    rw [Option.some.inj (of_decide_eq_true h)]
    exact hp
  · intro m
    exact ⟨_, m, decide_eq_true rfl⟩
theorem any_arg_none (xs : List Str) : (xs.any fun x => decide ((none : Option Str) = some x)) = false := by
  rw [List.any_eq_false]
  intro p _ h
  exact nomatch of_decide_eq_true h
/-- what the program says of acts: where one may not stand -/
def wrongIx (A : List Ar) (C : List Str) (l : List RAct) : Option Nat := match rgo A C l ([], []) 0 with
  | .inl i => some i
  | .inr s => if s.2.length < C.length then some l.length else none
theorem rgo_cons {A : List Ar} {C : List Str} {a : RAct} {l : List RAct} {s s' : RSt} {i : Nat} (h : rstep A C s a = some s') : rgo A C (a :: l) s i = rgo A C l s' (i + 1) := by
  show (match rstep A C s a with
    | none => (Sum.inl i : Nat ⊕ RSt)
    | some s' => rgo A C l s' (i + 1)) = _
  rw [h]
theorem rgo_stop {A : List Ar} {C : List Str} {a : RAct} {l : List RAct} {s : RSt} {i : Nat} (h : rstep A C s a = none) : rgo A C (a :: l) s i = .inl i := by
  show (match rstep A C s a with
    | none => (Sum.inl i : Nat ⊕ RSt)
    | some s' => rgo A C l s' (i + 1)) = _
  rw [h]
end WL
end L2
set_option Elab.async false
set_option linter.all false
set_option maxRecDepth 100000
set_option maxHeartbeats 4000000
namespace L2
namespace K59
open PySem PySem.Spec PyProof.Rows K1 WL LamX
section
variable {P : Program} {w : World} {K : PySem.W.Frag} {mg : Str → Option Value} {base : Heap} {f : Addr} {fd : FuncData}
/-! ### acts as values -/
def JunkV (K : PySem.W.Frag) (H : Hp) (v : V) : Prop := (∃ t, TyX K H v t ∧ PySem.W.kitAny K t LT = some false) ∨
  ∃ xs, Seq K H v xs ∧ ((xs.length ≠ 2 ∧ xs.length ≠ 3) ∨ (xs.length = 2 ∧ ∃ x d, xs[0]? = some x ∧ Dp K H x d ∧ SeqAt.shaped d = true ∧ PyData.eqv d (.str "write") = false) ∨ (xs.length = 3 ∧ ∃ x d, xs[0]? = some x ∧ Dp K H x d ∧ SeqAt.shaped d = true ∧ PyData.eqv d (.str "read") = false))
def ActV (K : PySem.W.Frag) (H : Hp) (v : V) : RAct → Prop
  | .junk => JunkV K H v
  | .rd o c => ∃ y, Seq K H v [.str "read", y, .str c] ∧ Arg K H y o
  | .wr o => ∃ y, Seq K H v [.str "write", y] ∧ Arg K H y o
theorem ActV.same {H H' : Hp} {v : V} {a : RAct} (h : ActV K H v a) (s : Same H H') : ActV K H' v a := by
  cases a with
  | junk =>
    rcases h with ⟨t, h1, h2⟩ | ⟨xs, h1, h2⟩
    · exact .inl ⟨t, TyX.same h1 s, h2⟩
    · refine .inr ⟨xs, h1.same s, ?_⟩
      rcases h2 with h2 | ⟨l, x, d, e, g, q⟩ | ⟨l, x, d, e, g, q⟩
      · exact .inl h2
      · exact .inr (.inl ⟨l, x, d, e, dp_same s g, q⟩)
      · exact .inr (.inr ⟨l, x, d, e, dp_same s g, q⟩)
  | rd o c => exact let ⟨y, h1, h2⟩ := h; ⟨y, h1.same s, h2.same s⟩
  | wr o => exact let ⟨y, h1, h2⟩ := h; ⟨y, h1.same s, h2.same s⟩
theorem shaped_rd : SeqAt.shaped (.str ("read" : Str)) = true := by decide +kernel
theorem shaped_wr : SeqAt.shaped (.str ("write" : Str)) = true := by decide +kernel
theorem act_rd {H : Hp} {v : V} {a : RAct} (h : ActV K H v a) : ∃ b, ActIs K H v "read" 3 b ∧ (b = true → ∃ o c y, a = .rd o c ∧ Seq K H v [.str "read", y, .str c] ∧ Arg K H y o) ∧ (b = false → ∀ o c, a ≠ .rd o c) := by
  cases a with
  | junk =>
    refine ⟨false, ?_, (fun e => nomatch e), fun _ o c e => nomatch e⟩
    rcases h with ⟨t, h1, h2⟩ | ⟨xs, h1, h2⟩
    · exact .inl ⟨t, h1, h2, rfl⟩
    · refine .inr ⟨xs, h1, ?_⟩
      rcases h2 with ⟨_, h2⟩ | ⟨l, _⟩ | ⟨l, x, d, e, g, q, z⟩
      · exact .inl ⟨h2, rfl⟩
      · exact .inl ⟨by omega, rfl⟩
      · exact .inr ⟨l, x, d, e, g, q, z.symm⟩
  | rd o c =>
    obtain ⟨y, h1, h2⟩ := h
    exact ⟨true, .inr ⟨_, h1, .inr ⟨rfl, _, _, rfl, .str _, shaped_rd, by decide +kernel⟩⟩, fun _ => ⟨o, c, y, rfl, h1, h2⟩, fun e => nomatch e⟩
  | wr o =>
    obtain ⟨y, h1, h2⟩ := h
    exact ⟨false, .inr ⟨_, h1, .inl ⟨(show (2 : Nat) ≠ 3 by decide), rfl⟩⟩, (fun e => nomatch e), fun _ o c e => nomatch e⟩
theorem act_wr {H : Hp} {v : V} {a : RAct} (h : ActV K H v a) : ∃ b, ActIs K H v "write" 2 b ∧ (b = true → ∃ o y, a = .wr o ∧ Seq K H v [.str "write", y] ∧ Arg K H y o) ∧ (b = false → ∀ o, a ≠ .wr o) := by
  cases a with
  | junk =>
    refine ⟨false, ?_, (fun e => nomatch e), fun _ o e => nomatch e⟩
    rcases h with ⟨t, h1, h2⟩ | ⟨xs, h1, h2⟩
    · exact .inl ⟨t, h1, h2, rfl⟩
    · refine .inr ⟨xs, h1, ?_⟩
      rcases h2 with ⟨h2, _⟩ | ⟨l, x, d, e, g, q, z⟩ | ⟨l, _⟩
      · exact .inl ⟨h2, rfl⟩
      · exact .inr ⟨l, x, d, e, g, q, z.symm⟩
      · exact .inl ⟨by omega, rfl⟩
  | rd o c =>
    obtain ⟨y, h1, h2⟩ := h
    exact ⟨false, .inr ⟨_, h1, .inl ⟨(show (3 : Nat) ≠ 2 by decide), rfl⟩⟩, (fun e => nomatch e), fun _ o e => nomatch e⟩
  | wr o =>
    obtain ⟨y, h1, h2⟩ := h
    exact ⟨true, .inr ⟨_, h1, .inr ⟨rfl, _, _, rfl, .str _, shaped_wr, by decide +kernel⟩⟩, fun _ => ⟨o, y, rfl, h1, h2⟩, fun e => nomatch e⟩
theorem raceA_nd {rs : Rws} {cs : List Str} (g : Good rs) : (raceA rs cs).Nodup := List.Pairwise.filter _ (arr_nodup g.nd fun r hr => (g.sr r hr).2.1)
theorem raceA_in {rs : Rws} {cs : List Str} {a : Ar} (h : a ∈ raceA rs cs) : a ∈ arr rs ∧ a.2 ∈ cs := by
  obtain ⟨h1, h2⟩ := List.mem_filter.mp h
  exact ⟨h1, of_decide_eq_true h2⟩
theorem raceA_len {rs : Rws} {cs : List Str} (g : Good rs) : (raceA rs cs).length ≤ 900 * 900 := by
  have l0 : (raceA rs cs).length ≤ (arr rs).length := List.length_filter_le ..
  have l2 := arr_len (l := rs) fun r hr => (g.sr r hr).1
  have l3 : rs.length * 900 ≤ 900 * 900 := Nat.mul_le_mul_right _ g.ln
  omega
def spFWA (K : PySem.W.Frag) (C : Addr) : Sp := fun vs H Q _ => ∃ (p : Addr) (cv av : V) (rs : Rws) (cs : List Str), vs = [.ref p, cv, av] ∧ IsWeb K H C p rs ∧ Good rs ∧ Seq K H cv (cs.map .str) ∧ cs.Nodup ∧ (∀ c ∈ cs, c ∈ rs.map Prod.fst) ∧ (raceA rs cs).length ≤ 900 ∧
  ((∃ t, TyX K H av t ∧ PySem.W.kitAny K t LT = some false ∧ ∀ H', Same H H' → Q (.int 0) H') ∨ ∃ vl al, Seq K H av vl ∧ vl.length ≤ 900 ∧ Paired (ActV K H) vl al ∧ ∀ H', Same H H' → Q (optV (wrongIx (raceA rs cs) cs al)) H')
/-! ### first_wrong_act -/
abbrev nmFW : List Str := ["web", "cells", "acts", "unread", "unwritten", "index", "act", "arrow"]
theorem sc_fwa : FnScope nmFW ["web", "cells", "acts"] (defScope s_first_wrong_act) := ⟨rfl, rfl, rfl, by decide +kernel, rfl, by decide +kernel, by decide +kernel⟩
theorem ok_fwa {C : Addr} (T : Bl mg) (Cl : Cal P w K mg base "is_list" ["thing"] 1 (spIsList K)) (Cr : Cal P w K mg base "race_arrows" ["web", "cells"] 1 (spRA K C)) (Ca : Cal P w K mg base "is_act" ["thing", "word", "many"] 2 (spIsAct K))
    (F : FnP K "first_wrong_act" "first_wrong_act" s_first_wrong_act f fd) : FnOk P w K mg base CX0 3 f fd ["web", "cells", "acts"] (spFWA K C) := by
  obtain ⟨fl, fdl, Gl, gl, kl, bl⟩ := Cl.ex
  obtain ⟨fr, fdr, Gr, gr, kr, br⟩ := Cr.ex
  obtain ⟨fa', fda, Ga, ga, ka, ba⟩ := Ca.ex
  refine F.ok sc_fwa (fun vs H Q E h => ?_) (fun cdv A outer s H vs Q E hr h => ?_)
  · obtain ⟨p, cv, av, rs, cs, rfl, _⟩ := h
    rfl
  · have nd := sc_fwa.nd
    have hu := hr.units
    have hu65 : (A.deeper (envOfC "first_wrong_act" (defScope s_first_wrong_act) s.heap.objs.size f cdv)).units + 65 < cLine := by
      have := hr.un
      omega
    have h1 := hr.mono (show 1 ≤ 2 by decide)
    refine ⟨_, PSs.nox (pss_cons (ps_if (pt_not (pt_val (pe_call Gl h1 rfl gl kl bl .nil pass0 (pa_cons (pv 2) pa_nil)))) (pss_one (ps_ret pe_int)) pss_nil)
      (pss_cons (ps_par (i := 3) (j := 4) rfl nd rfl rfl (by decide) rfl rfl (pa_cons (pe_call Gr h1 rfl gr kr br .nil pass0 (pa_cons (pv 0) (pa_cons (pv 1) pa_nil))) (pa_cons (pe_callTy call_list_of rfl T.f_list PyProof.Rows.boot_list (pa_cons (pv 1) pa_nil)) pa_nil)) rfl)
      (pss_cons (ps_for PassesOwn.never rfl (pi_enumS rfl T.f_enumerate (pa_cons (pv 2) pa_nil)) (pg_tup rfl (pgs_cons (pg_name (i := 5) nd rfl (Or.inl rfl)) (pgs_cons (pg_name (i := 6) nd rfl (Or.inr rfl)) pgs_nil)))
        (pss_one (ps_if (PW.pt (pw_and (pt_val (pe_call Ga hr rfl ga ka ba .nil pass0 (pa_cons (pv 6) (pa_cons pe_str (pa_cons pe_int pa_nil)))))
            (pw_and1 (pt_cmpR (op_inPair hu) (pe_tup (pa_cons (pe_ix ix_seq (pv 6) pe_int fun _ _ => rfl) (pa_cons (pe_ix ix_seq (pv 6) pe_int fun _ _ => rfl) pa_nil))) (pv 3) rfl))))
          (pss_one (ps_expr (pe_bm PySem.F.plainAttrs_list PySem.F.slot_list_remove PySem.F.type_list_remove (mt_remD hu65) (pv 3) (pa_cons (pe_tup (pa_cons (pe_ix ix_seq (pv 6) pe_int fun _ _ => rfl) (pa_cons (pe_ix ix_seq (pv 6) pe_int fun _ _ => rfl) pa_nil))) pa_nil))))
          (pss_one (ps_if (PW.pt (pw_and (pt_val (pe_call Ga hr rfl ga ka ba .nil pass0 (pa_cons (pv 6) (pa_cons pe_str (pa_cons pe_int pa_nil)))))
              (pw_and (pt_cmpR (op_inArg hu) (pe_ix ix_seq (pv 6) pe_int fun _ _ => rfl) (pv 4) rfl)
              (pw_and1 (pt_val (pe_callB (cr_all rfl) rfl T.f_all PyProof.Rows.boot_all (pa_cons (pe_lc (own := [("arrow", 7)]) (g := gName 7) (tt := tYes) (te := tOp rNe (tOp (rIx K) (tVar 6) (tC (.int 1))) (tOp (rIx K) (tVar 7) (tC (.int 1)))) rfl nd (pi_seq (pv 3)) (blkOk_by (N := nmFW) (sc := defScope s_first_wrong_act) (by decide +kernel))
                (fun _ _ _ _ _ => pg_name (i := 7) nd rfl (Or.inl rfl)) (fun _ _ _ _ _ => pts_nil) (fun _ _ _ _ _ => pe_cmpR op_ne (pe_ix ix_seq (pv 6) pe_int fun _ _ => rfl) (pe_ix ix_seq (pv 7) pe_int fun _ _ => rfl) (nomark _))) pa_nil)))))))
            (pss_one (ps_expr (pe_bm PySem.F.plainAttrs_list PySem.F.slot_list_remove PySem.F.type_list_remove (mt_remD hu65) (pv 4) (pa_cons (pe_ix ix_seq (pv 6) pe_int fun _ _ => rfl) pa_nil))))
            (pss_one (ps_ret (pv 5))))))))
      (pss_one (ps_ret (pe_ifExp (pt_cmpR op_gt (pe_op op_add (pe_callB call_len rfl T.f_len boot_len (pa_cons (pv 3) pa_nil)) (pe_callB call_len rfl T.f_len boot_len (pa_cons (pv 4) pa_nil))) pe_int (nomark _)) (pe_callB call_len rfl T.f_len boot_len (pa_cons (pv 2) pa_nil)) pe_non)))))), ?_⟩
    obtain ⟨p, cv, av, rs, cs, rfl, hw, g, hcs, hnd, hcr, hA9, hv⟩ := h
    rcases hv with ⟨t, ty, kt, q⟩ | ⟨vl, al, hsv, h9, hva, q⟩
    · exact ⟨_, rfl, av, t, false, rfl, ty, kt, fun H' s' => ⟨false, rfl, iteP rfl (q H' s')⟩⟩
    obtain ⟨t, ty, kt⟩ := hsv.kit
    refine ⟨_, rfl, av, t, true, rfl, ty, kt, fun H1 s1 => ⟨true, rfl, iteN rfl ?_⟩⟩
    refine ⟨_, rfl, _, rfl, p, cv, rs, cs, rfl, hw.same s1, g, hcs.same s1, fun u ul H2 s2 nu eu hul => ?_⟩
    obtain ⟨ca, rfl, hca⟩ := (hcs.same s1).same s2
    refine ⟨_, rfl, ca, cs.map .str, rfl, hca, fun n nn => ⟨_, _, rfl, ?_⟩⟩
    have un : u ≠ n := ne_of_none eu nn
    have sN : Same H2 (upd H2 n (.lst (cs.map .str))) := same_upd nn
    have hul3 : Paired (PairT (hide n (hide u (upd H2 n (.lst (cs.map .str)))))) ul (raceA rs cs) := Paired.imp (fun _ _ h => ((PairT_same h sN).hide (sN _ _ eu) fun _ z => nomatch z).hide (b := n) (o := .lst (cs.map .str)) (by rw [hide_ne (Ne.symm un)]; exact upd_same) fun _ z => nomatch z) hul
    have sG : Same H (hide n (hide u (upd H2 n (.lst (cs.map .str))))) := fun b o e => by
      have e1 := s1 _ _ e
      have e2 := s2 _ _ e1
      rw [hide_ne (ne_of_none e2 nn), hide_ne (ne_of_none e1 nu)]
      exact sN _ _ e2
    have eu3 := sN _ _ eu
    have en3 : (upd H2 n (.lst (cs.map .str))) n = some (.lst (cs.map .str)) := upd_same
    have sG3 : Same (hide n (hide u (upd H2 n (.lst (cs.map .str))))) (upd H2 n (.lst (cs.map .str))) := Same.trans hide_le hide_le
    have Gn : hide n (hide u (upd H2 n (.lst (cs.map .str)))) n = none := hide_self
    have Gu : hide n (hide u (upd H2 n (.lst (cs.map .str)))) u = none := by rw [hide_ne un]; exact hide_self
    generalize hide n (hide u (upd H2 n (.lst (cs.map .str)))) = G at *
    generalize upd H2 n (.lst (cs.map .str)) = H3 at *
    have aN := raceA_nd (cs := cs) g
    have aO : ∀ a ∈ raceA rs cs, sOk [a.1, a.2] := fun a h => arr_ok g (raceA_in h).1
    have aC : ∀ a ∈ raceA rs cs, a.2 ∈ cs := fun a h => (raceA_in h).2
    have cO : ∀ c ∈ cs, ∀ x ∈ c.cps.toList, x < 1114112 := fun c h => name_ok g (hcr c h)
    clear s1 s2 nu eu hul nn sN hw hca ty kt
    have hsG := hsv.same sG
    generalize raceA rs cs = A at *
    dsimp only
    refine t_seqF ?_
    refine for_enumS hsG (fun Q q => ⟨_, rfl, q⟩) (fun i σ H' => ∃ (s : RSt) (ul : List V) (o5 o6 o7 : Option V), σ = [some (.ref p), some (.ref ca), some av, some (.ref u), some (.ref n), o5, o6, o7] ∧ Same G H' ∧ RInv A cs s ∧ H' u = some (.lst ul) ∧ Paired (PairT G) ul (unrd A s) ∧ H' n = some (.lst ((unwr cs s).map .str)) ∧
        rgo A cs al ([], []) 0 = rgo A cs (al.drop i) s i) ⟨([], []), ul, _, _, _, rfl, sG3, RInv.zero, eu3, ?_, ?_, rfl⟩ (fun i σ H' z => by obtain ⟨_, _, _, _, _, _, z, _⟩ := z; exact z) ?_ ?_
    · have : unrd A ([], []) = A := List.filter_eq_self.mpr fun a _ => by simp
      rw [this]
      exact hul3
    · have : unwr cs ([], []) = cs := List.filter_eq_self.mpr fun a _ => by simp
      rw [this]
      exact en3
    · rintro i y σ H4 T ey ⟨s, ul, o5, o6, o7, rfl, s4, iv, eu4, hul4, en4, ego⟩ nT
      have sT := same_upd (o := .tup [.int (i : Nat), y]) nT
      have eT : (upd H4 T (.tup [.int (i : Nat), y])) T = some (.tup [.int (i : Nat), y]) := upd_same
      have s5 := s4.trans sT
      have eu5 := sT _ _ eu4
      have en5 := sT _ _ en4
      generalize upd H4 T (.tup [.int (i : Nat), y]) = H5 at *
      obtain ⟨a, ha, hav⟩ := Paired.getL hva ey
      have hi : i < al.length := (List.getElem?_eq_some_iff.mp ha).1
      have drop : al.drop i = a :: al.drop (i + 1) := by
        rw [List.drop_eq_getElem_cons hi]
        rw [(List.getElem?_eq_some_iff.mp ha).2]
      have fin : rstep A cs s a = none → ∀ H', Same G H' → Q (.int (i : Nat)) H' := fun e H' s' => by
        have := q H' (sG.trans s')
        unfold wrongIx at this
        rw [ego, drop, rgo_stop e] at this
        exact this
      have unl : (unrd A s).length ≤ 900 := Nat.le_trans (List.length_filter_le ..) hA9
      refine ⟨T, [.int (i : Nat), y], rfl, SqT.of eT, rfl, _, _, rfl, _, _, rfl, rfl, ?_⟩
      obtain ⟨b1, hb1, hb1t, hb1f⟩ := act_rd (hav.same (sG.trans s5))
      refine ⟨_, rfl, y, "read", 3, b1, rfl, hb1, shaped_rd, fun H6 s6 => ⟨b1, rfl, ?_⟩⟩
      have s06 := s5.trans s6
      have eu6 := s6 _ _ eu5
      have en6 := s6 _ _ en5
      have hul6 := Paired.imp (fun _ _ h => PairT_same h s06) hul4
      cases b1 with
      | true =>
        obtain ⟨o, c, z, rfl, hsq, hz⟩ := hb1t rfl
        have hsq6 := hsq.same s6
        have hz6 := hz.same s6
        refine iteP rfl ⟨_, rfl, hsq6.ix (x := z) rfl ⟨_, rfl, hsq6.ix (x := .str c) rfl ⟨(show 2 ≤ sizeLine by decide), fun w1 nw1 => ?_⟩⟩⟩
        have sw1 := same_upd (o := .tup [z, .str c]) nw1
        have ew1 : (upd H6 w1 (.tup [z, .str c])) w1 = some (.tup [z, .str c]) := upd_same
        have eu7 := sw1 _ _ eu6
        have en7 := sw1 _ _ en6
        have hsq7 := hsq6.same sw1
        have hz7 := hz6.same sw1
        have s07 := s06.trans sw1
        have hul7 := Paired.imp (fun _ _ h => PairT_same h sw1) hul6
        generalize upd H6 w1 (.tup [z, .str c]) = H7 at *
        refine ⟨_, rfl, w1, z, o, c, u, ul, unrd A s, rfl, SqT.of ew1, hz7, rfl, .inl (SqL.of eu7), hul7, _, rfl, ?_⟩
        rw [Bool.false_bne]
        cases hbb : (unrd A s).any (pairB o c) with
        | true =>
          obtain ⟨x, rfl, hm⟩ : ∃ x, o = some x ∧ (x, c) ∈ unrd A s := by
            cases o with
            | none => rw [any_pair_none] at hbb; cases hbb
            | some x => exact ⟨x, rfl, by rw [any_pair_some] at hbb; exact of_decide_eq_true hbb⟩
          obtain rfl : z = .str x := hz7
          obtain ⟨j, hj1, hj2⟩ := place_erase eqv_d2 hm
          have hmA := (mem_unrd.mp hm).1
          refine iteP rfl ?_
          refine ⟨_, rfl, .inl ⟨rfl, _, SqL.of eu7⟩, _, rfl, hsq7.ix (x := .str x) rfl ⟨_, rfl, hsq7.ix (x := .str c) rfl ⟨(show 2 ≤ sizeLine by decide), fun w2 nw2 => ?_⟩⟩⟩
          have sw2 := same_upd (o := .tup [.str x, .str c]) nw2
          have ew2 : (upd H7 w2 (.tup [.str x, .str c])) w2 = some (.tup [.str x, .str c]) := upd_same
          have eu8 := sw2 _ _ eu7
          have en8 := sw2 _ _ en7
          have s08 := s07.trans sw2
          generalize upd H7 w2 (.tup [.str x, .str c]) = H8 at *
          refine t_nil ?_
          refine ⟨u, _, d2 (x, c), ul, (unrd A s).map d2, j, rfl, rfl, eu8, dp_pairs (Paired.imp (fun _ _ h => PairT_same h s08) hul4), dp_pair ⟨w2, rfl, ew2⟩, shaped_ds2 (fun a h => aO a (mem_unrd.mp h).1), shaped_d2 (aO _ hmA), hj1, ?_⟩
          have est := step_rd_in iv hm
          refine ⟨_, ul.eraseIdx j, _, _, _, rfl, same_over Gu s08, iv.step est, upd_same, ?_, ?_, ?_⟩
          · rw [unrd_rd aN, ← hj2]
            exact paired_erase j hul4
          · rw [upd_ne (Ne.symm un)]
            exact en8
          · rw [ego, drop, rgo_cons est]
        | false =>
          have est : rstep A cs s (.rd o c) = none := by
            cases o with
            | none => rfl
            | some x => exact step_rd_out iv (by rw [any_pair_some] at hbb; exact of_decide_eq_false hbb)
          refine iteN rfl ?_
          obtain ⟨b2, hb2, hb2t, hb2f⟩ := act_wr (hav.same (sG.trans s07))
          refine ⟨_, rfl, y, "write", 2, b2, rfl, hb2, shaped_wr, fun H8 s8 => ⟨b2, rfl, ?_⟩⟩
          cases b2 with
          | true =>
            obtain ⟨o', _, e, _⟩ := hb2t rfl
            cases e
          | false => exact iteN rfl (iteN rfl ⟨_, rfl, fin est H8 (s07.trans s8)⟩)
      | false =>
        refine iteN rfl (iteN rfl ?_)
        obtain ⟨b2, hb2, hb2t, hb2f⟩ := act_wr (hav.same (sG.trans s06))
        refine ⟨_, rfl, y, "write", 2, b2, rfl, hb2, shaped_wr, fun H7 s7 => ⟨b2, rfl, ?_⟩⟩
        have s07 := s06.trans s7
        have eu7 := s7 _ _ eu6
        have en7 := s7 _ _ en6
        have hul7 := Paired.imp (fun _ _ h => PairT_same h s7) hul6
        cases b2 with
        | false =>
          have est : rstep A cs s a = none := by
            cases a with
            | junk => rfl
            | rd o c => exact absurd rfl (hb1f rfl o c)
            | wr o => exact absurd rfl (hb2f rfl o)
          exact iteN rfl (iteN rfl ⟨_, rfl, fin est H7 s07⟩)
        | true =>
          obtain ⟨o, z, rfl, hsq, hz⟩ := hb2t rfl
          have hsq7 := hsq.same s7
          have hz7 := hz.same s7
          refine iteP rfl ⟨_, rfl, hsq7.ix (x := z) rfl ⟨_, rfl, n, unwr cs s, o, hz7, rfl, .inl (SqL.of en7), _, rfl, ?_⟩⟩
          rw [Bool.false_bne]
          cases hbb : (unwr cs s).any fun x => decide (o = some x) with
          | false =>
            have est : rstep A cs s (.wr o) = none := by
              cases o with
              | none => rfl
              | some x => exact step_wr_out (.inl (by rw [any_arg_some] at hbb; exact of_decide_eq_false hbb))
            exact iteN rfl (iteN rfl ⟨_, rfl, fin est H7 s07⟩)
          | true =>
            obtain ⟨c, rfl, hm⟩ : ∃ c, o = some c ∧ c ∈ unwr cs s := by
              cases o with
              | none => rw [any_arg_none] at hbb; cases hbb
              | some x => exact ⟨x, rfl, by rw [any_arg_some] at hbb; exact of_decide_eq_true hbb⟩
            obtain rfl : z = .str c := hz7
            have hmC := (mem_unwr.mp hm).1
            refine iteP rfl ?_
            refine t_cb1 ?_
            have lul : ul.length = (unrd A s).length := Paired.length hul7
            refine lc_seq (v := .ref u) (xs := ul) ⟨u, rfl, .inl (SqL.of eu7)⟩ (fun Q q => ⟨_, rfl, q⟩) (by omega) (fun i => .bl (!decide (c = ((unrd A s).getD i (c, c)).2))) (fun i x H' Q' hx s' qq => ?_) (fun D H8 s8 e8 => ?_)
            · obtain ⟨b, hb, d, rfl, hd⟩ := Paired.getL hul7 hx
              have eb : (unrd A s).getD i (c, c) = b := by rw [List.getD_eq_getElem?_getD, hb]; rfl
              rw [eb] at qq
              refine ⟨rfl, _, rfl, (hsq7.same s').ix (x := .str c) rfl ⟨_, rfl, Seq.ix (x := .str b.2) ⟨d, rfl, .inr (SqT.of (s' _ _ hd))⟩ rfl ⟨rfl, ?_⟩⟩⟩
              have e2 : decide (V.str c = V.str b.2) = decide (c = b.2) := by
                rw [decide_eq_decide]
                exact ⟨fun e => V.str.inj e, fun e => by rw [e]⟩
              rw [e2]
              exact qq H' (Same.refl _)
            · have eb : ((List.range ul.length).map fun i => !decide (c = ((unrd A s).getD i (c, c)).2)) = (unrd A s).map fun b => !decide (c = b.2) := by
                refine List.ext_getElem (by simpa using lul) fun i h1 h2 => ?_
                rw [List.getElem_map, List.getElem_map, List.getElem_range, List.getD_eq_getElem?_getD, List.getElem?_eq_getElem (by simpa using h2)]
                rfl
              refine ⟨D, (unrd A s).map fun b => !decide (c = b.2), rfl, SqL.of (by rw [e8, ← eb, List.map_map]; rfl), _, rfl, ?_⟩
              have ea : ((unrd A s).map fun b => !decide (c = b.2)).all id = (unrd A s).all fun b => !decide (c = b.2) := by rw [List.all_map]; rfl
              rw [ea]
              have s08 := s07.trans s8
              cases hall : (unrd A s).all fun b => !decide (c = b.2) with
              | false =>
                obtain ⟨b, hb, e⟩ : ∃ b ∈ unrd A s, c = b.2 := by
                  obtain ⟨b, hb, e⟩ := List.all_eq_false.mp hall
                  exact ⟨b, hb, by simpa using e⟩
                exact iteN rfl ⟨_, rfl, fin (step_wr_out (.inr ⟨b, hb, e⟩)) H8 s08⟩
              | true =>
                have hno : ∀ b ∈ unrd A s, c ≠ b.2 := fun b hb => by
                  have := List.all_eq_true.mp hall b hb
                  simpa using this
                obtain ⟨j, hj1, hj2⟩ := place_erase eqv_str1 hm
                have eu8 := s8 _ _ eu7
                have en8 := s8 _ _ en7
                refine iteP rfl ?_
                refine ⟨_, rfl, .inl ⟨rfl, _, SqL.of en8⟩, _, rfl, (hsq7.same s8).ix (x := .str c) rfl ?_⟩
                refine t_nil ?_
                refine ⟨n, _, .str c, (unwr cs s).map .str, dS (unwr cs s), j, rfl, rfl, en8, dp_strs _, .str c, shaped_ss (fun z h => cO z (mem_unwr.mp h).1), shaped_s (cO c hmC), hj1, ?_⟩
                have est := step_wr_in hm hno
                refine ⟨_, ul, _, _, _, rfl, same_over Gn s08, iv.step est, ?_, ?_, ?_, ?_⟩
                · rw [upd_ne un]
                  exact eu8
                · exact hul4
                · rw [upd_same, unwr_wr hnd, ← hj2, erase_map]
                · rw [ego, drop, rgo_cons est]
    · rintro σ H4 ⟨s, ul, o5, o6, o7, rfl, s4, iv, eu4, hul4, en4, ego⟩
      have lva := Paired.length hva
      have lul : ul.length = (unrd A s).length := Paired.length hul4
      rw [lva, List.drop_length] at ego
      have hq := q H4 (sG.trans s4)
      unfold wrongIx at hq
      rw [ego] at hq
      have hq2 : Q (optV (if s.2.length < cs.length then some al.length else none)) H4 := hq
      refine ⟨_, rfl, .ref u, ul.length, rfl, .inl ⟨_, SqL.of eu4, rfl⟩, _, rfl, .ref n, _, rfl, .inl ⟨_, SqL.of en4, rfl⟩, _, _, rfl, rfl, _, _, rfl, rfl, _, rfl, ?_⟩
      rw [List.length_map]
      by_cases c : s.2.length < cs.length
      · rw [if_pos c] at hq2
        have := not_done iv hnd c
        refine iteP (decide_eq_true (by omega)) ⟨_, rfl, av, vl.length, rfl, (hsG.same s4).len, ?_⟩
        rw [lva]
        exact hq2
      · rw [if_neg c] at hq2
        obtain ⟨_, _, e1, e2⟩ := all_done iv aC c
        exact iteN (decide_eq_false (by rw [lul, e1, e2]; decide)) hq2
end
end K59
end L2
set_option Elab.async false
set_option linter.all false
set_option maxRecDepth 100000
set_option maxHeartbeats 4000000
namespace L2
namespace K59
open PySem PySem.Spec PyProof.Rows K1 WL LamX
section
variable {P : Program} {w : World} {K : PySem.W.Frag} {mg : Str → Option Value} {base : Heap} {f : Addr} {fd : FuncData}
/-! ### race_marks -/
theorem due_wrong {A : List Ar} {C : List Str} {l : List RAct} : (∃ i, wrongIx A C l = some i ∧ rdue A C l = .bad i) ∨ ∃ s, wrongIx A C l = none ∧ rgo A C l ([], []) 0 = .inr s ∧ ¬ s.2.length < C.length ∧ rdue A C l = .marks (A.map fun a => (a, mkOf s.1 a)) := by
  unfold wrongIx rdue
  cases rgo A C l ([], []) 0 with
  | inl i => exact .inl ⟨i, rfl, rfl⟩
  | inr s =>
    by_cases c : s.2.length < C.length
    · refine .inl ⟨l.length, ?_, ?_⟩
      · show (if _ then _ else _) = _
        rw [if_pos c]
      · show (if _ then _ else _) = _
        rw [if_pos c]
    · refine .inr ⟨s, ?_, rfl, c, ?_⟩
      · show (if _ then _ else _) = _
        rw [if_neg c]
      · show (if _ then _ else _) = _
        rw [if_neg c]
def spRM (K : PySem.W.Frag) (C : Addr) : Sp := fun vs H Q E => ∃ (p : Addr) (cv av : V) (rs : Rws), vs = [.ref p, cv, av] ∧ IsWeb K H C p rs ∧ Good rs ∧ ((CellL K H rs cv false ∧ Bz H E (He.ga K "BadCells")) ∨
  ∃ cs : List Str, Seq K H cv (cs.map .str) ∧ cs.length ≤ 900 ∧ cs.Nodup ∧ (∀ c ∈ cs, c ∈ rs.map Prod.fst) ∧ (raceA rs cs).length ≤ 900 ∧
    ((∃ t, TyX K H av t ∧ PySem.W.kitAny K t LT = some false ∧ Rz H E (He.ga K "BadActs") "index" (.int 0)) ∨ ∃ vl al, Seq K H av vl ∧ vl.length ≤ 900 ∧ Paired (ActV K H) vl al ∧ (∀ i, rdue (raceA rs cs) cs al = .bad i → Rz H E (He.ga K "BadActs") "index" (.int (i : Nat))) ∧
      ∀ l, rdue (raceA rs cs) cs al = .marks l → ∀ D H', Same H H' → H' D = some (.dT (fD l)) → Q (.ref D) H'))
theorem cellL_ok {H : Hp} {rs : Rws} {v : V} {cs : List Str} (h : Seq K H v (cs.map .str)) (g : Good rs) (h9 : cs.length ≤ 900) (nd : cs.Nodup) (hc : ∀ c ∈ cs, c ∈ rs.map Prod.fst) : CellL K H rs v true := by
  refine .inr ⟨_, h, by rw [List.length_map]; exact h9, fun x hx => ?_, ?_⟩
  · obtain ⟨c, m, rfl⟩ := List.mem_map.mp hx
    obtain ⟨r, hr, e⟩ := List.mem_map.mp (hc c m)
    exact ⟨true, nm_is (by rw [← e]; exact g.nm r hr)⟩
  · rw [strsOf_strs, decide_eq_true nd, Bool.and_true]
    symm
    refine List.all_eq_true.mpr fun x hx => ?_
    obtain ⟨c, m, rfl⟩ := List.mem_map.mp hx
    exact decide_eq_true (hc c m)
abbrev nmRM : List Str := ["web", "cells", "acts", "wrong", "written", "found", "act", "arrow"]
theorem sc_rm : FnScope nmRM ["web", "cells", "acts"] (defScope s_race_marks) := ⟨rfl, rfl, rfl, by decide +kernel, rfl, by decide +kernel, by decide +kernel⟩
theorem ok_rm {C : Addr} (T : Bl mg) (Cc : ∃ f fd, FnOk P w K mg base (L2.CX P w) 4 f fd ["web", "cells"] (spCheckRace K C) ∧ mg "check_race" = some (.ref f) ∧ PySem.W.keepIn K (.ref f) = true ∧ Binds K fd ["web", "cells"] []) (Cf : Cal P w K mg base "first_wrong_act" ["web", "cells", "acts"] 3 (spFWA K C))
    (Cr : Cal P w K mg base "race_arrows" ["web", "cells"] 1 (spRA K C)) (EA : Er P w K mg base "BadActs" "index") (F : FnP K "race_marks" "race_marks" s_race_marks f fd) : FnOk P w K mg base (L2.CX P w) 5 f fd ["web", "cells", "acts"] (spRM K C) := by
  obtain ⟨fc, fdc, Gc, gc, kc, bc⟩ := Cc
  obtain ⟨ff, fdf, Gf, gf, kf, bf⟩ := Cf.ex
  obtain ⟨fr, fdr, Gr, gr, kr, br⟩ := Cr.ex
  obtain ⟨fdA, GA, bA⟩ := EA.ex
  refine F.ok sc_rm (fun vs H Q E h => ?_) (fun cdv A outer s H vs Q E hr h => ?_)
  · obtain ⟨p, cv, av, rs, rfl, _⟩ := h
    rfl
  · have nd := sc_rm.nd
    have h3 := hr.mono (show 3 ≤ 4 by decide)
    have h2 := hr.mono (show 2 ≤ 4 by decide)
    have h1 := hr.mono (show 1 ≤ 4 by decide)
    refine ⟨_, pss_cons (ps_expr (pe_call Gc hr rfl gc kc bc .nil (passes_call (takes_of rfl rfl rfl rfl) fun _ _ _ _ h => h) (pa_cons (pv 0) (pa_cons (pv 1) pa_nil))))
      (pss_cons (ps_set (i := 3) nd rfl (Or.inl rfl) (pe_call Gf h3 rfl gf kf bf .nil pass0 (pa_cons (pv 0) (pa_cons (pv 1) (pa_cons (pv 2) pa_nil)))))
      (pss_cons (ps_if (pt_cmpR op_notN (pv 3) pe_non (nomark _)) (pss_one (ps_raiseV rfl (takes_of rfl rfl rfl rfl) EA.c EA.iC EA.tI GA h2 bA rfl EA.g (pv 3))) pss_nil)
      (pss_cons (ps_asg (pe_tup (pa_cons (pe_lst pa_nil) (pa_cons pe_dnewT pa_nil))) (pg_tup rfl (pgs_cons (pg_name (i := 4) nd rfl (Or.inl rfl)) (pgs_cons (pg_name (i := 5) nd rfl (Or.inr rfl)) pgs_nil))))
      (pss_cons (ps_for (passes_of rfl) rfl (pi_seq (pv 2)) (pg_name (i := 6) nd rfl (Or.inl rfl))
        (pss_one (ps_if (pt_cmpR op_eq (pe_ix ix_seq (pv 6) pe_int fun _ _ => rfl) pe_str (nomark _))
          (pss_one (ps_expr (pe_bm PySem.F.plainAttrs_list PySem.F.slot_list_append PySem.F.type_list_append mt_append (pv 4) (pa_cons (pe_ix ix_seq (pv 6) pe_int fun _ _ => rfl) pa_nil))))
          (pss_one (ps_dput (hu_of hr) (pv 5) (pe_tup (pa_cons (pe_ix ix_seq (pv 6) pe_int fun _ _ => rfl) (pa_cons (pe_ix ix_seq (pv 6) pe_int fun _ _ => rfl) pa_nil)))
            (pe_ifExp (pt_cmpR op_in_seq (pe_ix ix_seq (pv 6) pe_int fun _ _ => rfl) (pv 4) rfl) pe_str pe_str) rfl)))))
      (pss_one (ps_ret (pe_dcT (own := [("arrow", 7)]) (g := gName 7) (tt := tYes) (tk := tVar 7) (tv := tDGet (tVar 5) (tVar 7)) (hu_of hr) rfl nd (pi_list (pe_call Gr h1 rfl gr kr br .nil pass0 (pa_cons (pv 0) (pa_cons (pv 1) pa_nil)))) (blkOk_by (N := nmRM) (sc := defScope s_race_marks) (by decide +kernel))
        (fun _ _ _ _ _ => pg_name (i := 7) nd rfl (Or.inl rfl)) (fun _ _ _ _ _ => pts_nil) (fun _ _ _ _ _ => pv 7) (fun _ _ _ _ _ => pe_dget (hu_of hr) (pv 5) (pv 7) fun _ _ => rfl)))))))), ?_⟩
    obtain ⟨p, cv, av, rs, rfl, hw, g, hv⟩ := h
    rcases hv with ⟨hc, bz⟩ | ⟨cs, hcs, h9, hnd, hcr, hA9, hv⟩
    · exact ⟨_, rfl, _, rfl, p, cv, rs, false, rfl, hw, g, hc, (fun e => nomatch e), fun _ H' s' => bz H' s'⟩
    refine ⟨_, rfl, _, rfl, p, cv, rs, true, rfl, hw, g, cellL_ok hcs g h9 hnd hcr, fun _ H1 s1 => ?_, fun e => nomatch e⟩
    refine ⟨_, rfl, _, rfl, _, rfl, p, cv, av, rs, cs, rfl, hw.same s1, g, hcs.same s1, hnd, hcr, hA9, ?_⟩
    rcases hv with ⟨t, ty, kt, rz⟩ | ⟨vl, al, hsv, hl9, hva, rz, q⟩
    · exact .inl ⟨t, TyX.same ty s1, kt, fun H2 s2 => ⟨_, rfl, rfl, _, rfl, ⟨_, rfl, fun H3 d s3 nd3 e3 => rz H3 d ((s1.trans s2).trans s3) e3⟩⟩⟩
    refine .inr ⟨vl, al, hsv.same s1, hl9, Paired.imp (fun _ _ h => h.same s1) hva, fun H2 s2 => ?_⟩
    have s02 := s1.trans s2
    rcases due_wrong (A := raceA rs cs) (C := cs) (l := al) with ⟨i, e1, e2⟩ | ⟨sE, e1, e2, hE, e3⟩
    · rw [e1]
      exact ⟨_, rfl, rfl, _, rfl, ⟨_, rfl, fun H3 d s3 nd3 e3 => rz i e2 H3 d (s02.trans s3) e3⟩⟩
    rw [e1]
    have q := q _ e3
    refine ⟨_, rfl, rfl, _, rfl, iteN rfl ?_⟩
    refine t_next ?_
    try dsimp only
    refine t_seqAsg ?_
    refine ⟨(show 0 ≤ sizeLine by decide), fun n nn => ?_⟩
    refine fun d nd' => ?_
    refine t_nil ?_
    refine ⟨(show 2 ≤ sizeLine by decide), fun w1 nw1 => ?_⟩
    have sn := same_upd (o := .lst []) nn
    have sd := same_upd (o := .dT []) nd'
    have en1 : (upd H2 n (.lst [])) n = some (.lst []) := upd_same
    have nn0 : H2 n = none := nn
    generalize upd H2 n (.lst []) = H3 at *
    have ed1 : (upd H3 d (.dT [])) d = some (.dT []) := upd_same
    have dn : d ≠ n := fun e => by rw [e, en1] at nd'; cases nd'
    have en2 := sd _ _ en1
    generalize upd H3 d (.dT []) = H4 at *
    have sw1 := same_upd (o := .tup [.ref n, .ref d]) nw1
    have ew1 : (upd H4 w1 (.tup [.ref n, .ref d])) w1 = some (.tup [.ref n, .ref d]) := upd_same
    have en3 := sw1 _ _ en2
    have ed3 := sw1 _ _ ed1
    generalize upd H4 w1 (.tup [.ref n, .ref d]) = H5 at *
    have sG : Same H2 (hide d (hide n H5)) := fun b o e => by
      have e1 := sn _ _ e
      have e2 := sd _ _ e1
      rw [hide_ne (fun z => by rw [z, nd'] at e1; cases e1), hide_ne (ne_of_none e nn0)]
      exact sw1 _ _ e2
    have sG5 : Same (hide d (hide n H5)) H5 := Same.trans hide_le hide_le
    have Gd : hide d (hide n H5) d = none := hide_self
    have Gn : hide d (hide n H5) n = none := by rw [hide_ne (Ne.symm dn)]; exact hide_self
    generalize hide d (hide n H5) = G at *
    have s0G := s02.trans sG
    refine ⟨w1, [.ref n, .ref d], rfl, SqT.of ew1, rfl, _, _, rfl, _, _, rfl, rfl, ?_⟩
    try dsimp only
    refine t_seqF ?_
    clear sn sd en1 en2 ed1 sw1 nw1 nd' nn ew1
    have aN := raceA_nd (cs := cs) g
    have hsG := hsv.same s0G
    obtain ⟨ca, rfl, hca⟩ := hcs.same s0G
    have lal := Paired.length hva
    have f9 : ∀ {s : RSt}, RInv (raceA rs cs) cs s → s.1.length ≤ 900 ∧ s.2.length ≤ 900 := fun {s} iv => by
      have l1 := pig iv.fN iv.fA
      have l2 := pig iv.dN iv.dC
      rw [List.length_map] at l1
      exact ⟨by omega, by omega⟩
    refine for_seq hsG (fun Q q => ⟨_, rfl, q⟩) (fun i σ H' => ∃ (s : RSt) (o3 o6 o7 : Option V), σ = [some (.ref p), some (.ref ca), some av, o3, some (.ref n), some (.ref d), o6, o7] ∧ Same G H' ∧ RInv (raceA rs cs) cs s ∧ H' n = some (.lst (s.2.map .str)) ∧ H' d = some (.dT (fD s.1)) ∧
        rgo (raceA rs cs) cs al ([], []) 0 = rgo (raceA rs cs) cs (al.drop i) s i) ⟨([], []), _, _, _, rfl, sG5, RInv.zero, en3, ed3, rfl⟩ (fun i σ H' z => by obtain ⟨_, _, _, _, _, z, _⟩ := z; exact z) ?_ ?_
    · rintro i y σ H6 ey ⟨s, o3, o6, o7, rfl, s6, iv, en6, ed6, ego⟩
      obtain ⟨a, ha, hav⟩ := Paired.getL hva ey
      have hi : i < al.length := (List.getElem?_eq_some_iff.mp ha).1
      have drop : al.drop i = a :: al.drop (i + 1) := by
        rw [List.drop_eq_getElem_cons hi]
        rw [(List.getElem?_eq_some_iff.mp ha).2]
      have hv6 := hav.same (s0G.trans s6)
      obtain ⟨l1, l2⟩ := f9 iv
      refine g_nm ?_
      cases est : rstep (raceA rs cs) cs s a with
      | none =>
        rw [e2, drop, rgo_stop est] at ego
        cases ego
      | some s' =>
        have ego' : rgo (raceA rs cs) cs al ([], []) 0 = rgo (raceA rs cs) cs (al.drop (i + 1)) s' (i + 1) := by rw [ego, drop, rgo_cons est]
        match a, est, hv6 with
        | .junk, est, _ => cases est
        | .rd none _, est, _ => cases est
        | .wr none, est, _ => cases est
        | .wr (some c), est, hv6 =>
          obtain ⟨z, hsq, hz⟩ := hv6
          obtain rfl : z = .str c := hz
          obtain ⟨h1, h2, h3, rfl⟩ := rstep_wr est
          refine ⟨_, rfl, hsq.ix (x := .str "write") rfl ⟨rfl, _, rfl, iteP (by decide +kernel) ?_⟩⟩
          refine ⟨_, rfl, .inl ⟨rfl, _, SqL.of en6⟩, _, rfl, hsq.ix (x := .str c) rfl ⟨n, _, .str c, rfl, rfl, en6, by rw [List.length_map, sizeLine_eq]; omega, ?_⟩⟩
          refine ⟨_, _, _, _, rfl, same_over Gn s6, iv.step est, ?_, ?_, ego'⟩
          · rw [upd_same, map_snoc]
          · rw [upd_ne dn]
            exact ed6
        | .rd (some x) c, est, hv6 =>
          obtain ⟨z, hsq, hz⟩ := hv6
          obtain rfl : z = .str x := hz
          obtain ⟨h1, h2, h3, rfl⟩ := rstep_rd est
          refine ⟨_, rfl, hsq.ix (x := .str "read") rfl ⟨rfl, _, rfl, iteN (by decide +kernel) ?_⟩⟩
          refine ⟨_, rfl, hsq.ix (x := .str x) rfl ⟨_, rfl, n, _, rfl, .inl (SqL.of en6), rfl, flat_strs' _, _, rfl, ?_⟩⟩
          rw [show inV (.str x) (s.2.map V.str) = decide (x ∈ s.2) from in_strs x s.2]
          have put : ∀ b : Bool, b = decide (x ∈ s.2) → ∀ (D : Ends), (∀ H', Same G H' → H' n = some (.lst (s.2.map .str)) → H' d = some (.dT (fD (s.1 ++ [((x, c), decide (x ∈ s.2))]))) → D.nx [some (.ref p), some (.ref ca), some av, o3, some (.ref n), some (.ref d), some y, o7] H') →
              (tVar 5) [some (.ref p), some (.ref ca), some av, o3, some (.ref n), some (.ref d), some y, o7] H6 fun x1 H2 => (tTup (tCons (tOp (rIx K) (tVar 6) (tC (.int 1))) (tCons (tOp (rIx K) (tVar 6) (tC (.int 2))) tNil))) [some (.ref p), some (.ref ca), some av, o3, some (.ref n), some (.ref d), some y, o7] H2 fun y1 H3 => ∃ a H4, x1 = .ref a ∧ DPut H3 a y1 (.str (mkS b)) H4 ∧ D.nx [some (.ref p), some (.ref ca), some av, o3, some (.ref n), some (.ref d), some y, o7] H4 := by
            intro b hb D k
            refine ⟨_, rfl, _, rfl, hsq.ix (x := .str x) rfl ⟨_, rfl, hsq.ix (x := .str c) rfl ⟨(show 2 ≤ sizeLine by decide), fun w2 nw2 => ?_⟩⟩⟩
            have sw2 := same_upd (o := .tup [.str x, .str c]) nw2
            have ew2 : (upd H6 w2 (.tup [.str x, .str c])) w2 = some (.tup [.str x, .str c]) := upd_same
            have en7 := sw2 _ _ en6
            have ed7 := sw2 _ _ ed6
            have s7 := s6.trans sw2
            generalize upd H6 w2 (.tup [.str x, .str c]) = H7 at *
            refine ⟨d, _, rfl, DPut.t (k := kA (x, c)) ed7 ew2 ?_, k _ (same_over Gd s7) ?_ ?_⟩
            · unfold fD
              rw [List.length_map, sizeLine_eq]
              omega
            · rw [upd_ne (Ne.symm dn)]
              exact en7
            · rw [upd_same, hb, fD_snoc _ _ _ h2]
          cases hb : decide (x ∈ s.2) with
          | true =>
            refine iteP rfl ?_
            refine put true hb.symm _ fun H' k1 k2 k3 => ⟨_, _, _, _, rfl, k1, iv.step est, k2, ?_, ego'⟩
            exact k3
          | false =>
            refine iteN (by decide) ?_
            refine put false hb.symm _ fun H' k1 k2 k3 => ⟨_, _, _, _, rfl, k1, iv.step est, k2, ?_, ego'⟩
            exact k3
    · rintro σ H6 ⟨s, o3, o6, o7, rfl, s6, iv, en6, ed6, ego⟩
      rw [lal, List.drop_length, e2] at ego
      obtain rfl : sE = s := Sum.inr.inj ego
      have aC : ∀ a ∈ raceA rs cs, a.2 ∈ cs := fun a h => (raceA_in h).2
      obtain ⟨_, hall, _, _⟩ := all_done iv aC hE
      have s06 := s0G.trans s6
      refine ⟨_, rfl, _, rfl, p, .ref ca, rs, cs, rfl, hw.same s06, g, ⟨ca, rfl, ?_⟩, fun u ul H7 s7 nu eu hul => ?_⟩
      · rcases hca with h | h
        · exact .inl (s6.seq h)
        · exact .inr (SqT.same h s6)
      have ed7 := s7 _ _ ed6
      have lul := Paired.length hul
      refine ⟨u, rfl, ⟨_, SqL.of eu⟩, fun D nD => ?_⟩
      refine dcT_it (walk_list (xs := ul)) (fun i H' => Same H7 H' ∧ H' D = some (.dT (fD (((raceA rs cs).take i).map fun a => (a, mkOf sE.1 a))))) ⟨same_upd nD, upd_same⟩ (fun i H' _ z => SqL.of (z.1 _ _ eu)) ?_ ?_
      · rintro i x H8 H8' hi ⟨s8, eD⟩ ⟨rfl, hx⟩
        obtain ⟨a, ha, b, rfl, hb⟩ := Paired.getL hul hx
        have hm := List.mem_of_getElem? ha
        have eb := s8 _ _ hb
        refine ⟨rfl, _, rfl, _, rfl, _, rfl, d, _, rfl, (by rw [← fD_at (hall a hm)]; exact DGet.t (s8 _ _ ed7) (k := kA a) eb), _, kA a, b, eD, rfl, eb, ?_, same_over nD s8, ?_⟩
        · unfold fD
          rw [List.length_map, List.length_map, List.length_take, sizeLine_eq]
          omega
        · rw [upd_same, fD_snoc]
          · rw [List.take_succ, ha, List.map_append]
            rfl
          · rw [List.map_map]
            intro m
            obtain ⟨a', ha', e⟩ := List.mem_map.mp m
            obtain rfl : a' = a := e
            obtain ⟨j, hj, ej⟩ := List.mem_take_iff_getElem.mp ha'
            have hj2 : (raceA rs cs)[j]? = some a' := by rw [List.getElem?_eq_getElem (by omega), ej]
            have := (List.getElem?_inj (show j < (raceA rs cs).length by omega) aN).mp (hj2.trans ha.symm)
            omega
      · rintro H8 ⟨s8, eD⟩
        rw [lul, List.take_length] at eD
        exact q D H8 ((s06.trans s7).trans s8) eD
end
end K59
end L2
set_option Elab.async false
set_option linter.all false
set_option maxRecDepth 100000
set_option maxHeartbeats 4000000
namespace L2
namespace WL
open PySem PySem.Spec PyProof.Rows K1 LamX
/-! ### sorted(list of pairs of texts) -/
/-- the pairs in their order -/
noncomputable def sortA (as : List Ar) : List Ar := as.mergeSort (PySem.W.dataLe false d2)
theorem sortA_len (as : List Ar) : (sortA as).length = as.length := (List.mergeSort_perm as _).length_eq
theorem sortA_mem (as : List Ar) (a : Ar) : a ∈ sortA as ↔ a ∈ as := (List.mergeSort_perm as _).mem_iff
theorem each_of {h : Heap} : ∀ {xs : List V} {us : List Value} {as : List Ar}, Vals xs us → xs.length = as.length → (∀ b ∈ xs.zip as, ∀ u, RelV b.1 u → ∃ bs, Reads h u (d2 b.2) bs) →
    PySem.W.EachIs (fun u (b : V × Ar) => RelV b.1 u) us (xs.zip as) ∧ PySem.W.EachIs (fun u (b : V × Ar) => ∃ bs, Reads h u (d2 b.2) bs) us (xs.zip as)
  | [], _, _, .nil, _, _ => ⟨.nil, .nil⟩
  | x :: xs, _, a :: as, .cons r rs, l, hr => by
    obtain ⟨h1, h2⟩ := each_of (h := h) rs (by simpa using l) fun b hb => hr b (List.mem_cons_of_mem _ hb)
    exact ⟨.cons r h1, .cons (hr (x, a) (List.mem_cons_self ..) _ r) h2⟩
theorem vals_each : ∀ {us : List Value} {bs : List (V × Ar)}, PySem.W.EachIs (fun u (b : V × Ar) => RelV b.1 u) us bs → Vals (bs.map Prod.fst) us
  | _, _, .nil => .nil
  | _, _, .cons r h => .cons r (vals_each h)
theorem zip_fst {α β : Type} : ∀ {xs : List α} {ys : List β}, xs.length = ys.length → (xs.zip ys).map Prod.fst = xs
  | [], [], _ => rfl
  | x :: xs, y :: ys, h => by
    show x :: (xs.zip ys).map Prod.fst = x :: xs
    rw [zip_fst (by simpa using h)]
theorem zip_snd {α β : Type} : ∀ {xs : List α} {ys : List β}, xs.length = ys.length → (xs.zip ys).map Prod.snd = ys
  | [], [], _ => rfl
  | x :: xs, y :: ys, h => by
    show y :: (xs.zip ys).map Prod.snd = y :: ys
    rw [zip_snd (by simpa using h)]
theorem paired_zip {α β : Type} {R : α → β → Prop} : ∀ {xs : List α} {ys : List β}, Paired R xs ys → ∀ b ∈ xs.zip ys, R b.1 b.2
  | _, _, .nil, b, h => nomatch h
  | _, _, .cons r h, b, m => by
    rcases List.mem_cons.mp m with rfl | m
    · exact r
    · exact paired_zip h b m
theorem zip_paired {α β : Type} {R : α → β → Prop} : ∀ {bs : List (α × β)}, (∀ b ∈ bs, R b.1 b.2) → Paired R (bs.map Prod.fst) (bs.map Prod.snd)
  | [], _ => .nil
  | b :: bs, h => .cons (h b (List.mem_cons_self ..)) (zip_paired fun x m => h x (List.mem_cons_of_mem _ m))
def rSortedPr (K : PySem.W.Frag) : List V → Hp → VK → Prop := fun vs H Q => ∃ (a : Addr) (xs : List V) (as : List Ar), vs = [V.ref a] ∧ SqL K H a xs ∧ Paired (PairT H) xs as ∧ ∀ ys p, Paired (PairT H) ys (sortA as) → H p = none → Q (.ref p) (upd H p (.lst ys))
section
variable {X : Cx}
theorem cr_sortedPr (hu : X.A.units + 65 < cLine) : CallR X (.builtin "sorted") (rSortedPr X.K) := by
  intro pins s σ H vs us Q I r h
  obtain ⟨a, xs, as, rfl, hs, hx, q⟩ := h
  obtain ⟨its, rv, hl, hz⟩ := I.list hs
  obtain ⟨u, rfl, ru⟩ := vals1 r
  obtain rfl : u = Value.ref a := ru
  have lx := Paired.length hx
  have pz := paired_zip hx
  obtain ⟨e1, e2⟩ := each_of (h := s.heap) rv lx fun b hb u hu' => Dp.reads I (d2 b.2) b.1 u (dp_pair (pz b hb)) hu'
  refine PySem.W.sorted_data (enc := fun b : V × Ar => d2 b.2) hl.isList e1 e2 (PySem.W.AllAlike.of fun _ _ => by simp [d2, PySem.W.alike, PySem.W.alikeAll]) (PySem.W.Sortable.tuples fun _ => ⟨_, _, rfl⟩) ?_ (fun b _ => ?_) fun out lo eo => ?_
  · rw [List.length_zip, ← lx, Nat.min_self]
    exact hz
  · have : (d2 b.2).depth = 1 := rfl
    omega
  · obtain ⟨c, hc⟩ := sortedAll_at s.heap its out.toArray
    have v1 := vals_each eo
    have hN : H (s.heap.objs.size + 1) = none := I.hok.fresh (Nat.le_succ _)
    have pm := List.mergeSort_perm (xs.zip as) (PySem.W.dataLe false fun b : V × Ar => d2 b.2)
    have hp : Paired (PairT H) (((xs.zip as).mergeSort (PySem.W.dataLe false fun b : V × Ar => d2 b.2)).map Prod.fst) (sortA as) := by
      have h1 : ((xs.zip as).mergeSort (PySem.W.dataLe false fun b : V × Ar => d2 b.2)).map Prod.snd = sortA as := by
        have := List.map_mergeSort (r := PySem.W.dataLe false fun b : V × Ar => d2 b.2) (s := PySem.W.dataLe false d2) (f := Prod.snd) (l := xs.zip as) fun _ _ _ _ => rfl
        rw [this, zip_snd lx]
        rfl
      rw [← h1]
      exact zip_paired fun b hb => pz b (pm.mem_iff.mp hb)
    refine ⟨.ref (s.heap.objs.size + 1), upd H (s.heap.objs.size + 1) (.lst _), I.laid (t' := s.toks) (fun b u e => sortedAll_old e) (Nat.le_succ _) ⟨?_, out, c, v1, hc⟩, rfl, q _ _ hp hN⟩
    rw [List.length_map, pm.length_eq, List.length_zip, ← lx, Nat.min_self]
    exact hz
end
end WL
end L2
set_option Elab.async false
set_option linter.all false
set_option maxRecDepth 100000
set_option maxHeartbeats 4000000
namespace L2
namespace K59
open PySem PySem.Spec PyProof.Rows K1 WL LamX
section
variable {P : Program} {w : World} {K : PySem.W.Frag} {mg : Str → Option Value} {base : Heap} {f : Addr} {fd : FuncData}
/-! ### races -/
/-- the arrows between different ones of the cells -/
def inner (rs : Rws) (cs : List Str) : List Ar := (arr rs).filter fun a => decide (a.1 ∈ cs ∧ a.2 ∈ cs ∧ a.1 ≠ a.2)
theorem mem_inner {rs : Rws} {cs : List Str} {a : Ar} : a ∈ inner rs cs ↔ a ∈ arr rs ∧ a.1 ∈ cs ∧ a.2 ∈ cs ∧ a.1 ≠ a.2 := by
  unfold inner
  rw [List.mem_filter, decide_eq_true_iff]
noncomputable def natA (rs : Rws) (cs : List Str) (k : Nat) : Nat := (nAcy cs (inner rs cs) k).toNat
theorem natA_eq (rs : Rws) (cs : List Str) (k : Nat) : ((natA rs cs k : Nat) : Int) = nAcy cs (inner rs cs) k := by
  obtain ⟨n, h, _⟩ := nAcy_bound cs (inner rs cs) k
  unfold natA
  rw [h]
  rfl
theorem natA_lt {rs : Rws} {cs : List Str} (h : (arr rs).length ≤ 99) (k : Nat) : natA rs cs k < 2 ^ 100 := by
  obtain ⟨n, e, h2⟩ := nAcy_bound cs (inner rs cs) k
  have : natA rs cs k = n := by
    have := natA_eq rs cs k
    omega
  rw [this]
  have l : (inner rs cs).length ≤ 99 := Nat.le_trans (List.length_filter_le _ _) h
  exact Nat.lt_of_le_of_lt h2 (Nat.pow_lt_pow_right (by decide) (by omega))
theorem natA_zero (rs : Rws) (cs : List Str) : natA rs cs 0 = 1 := by
  have := natA_eq rs cs 0
  rw [nAcy_zero] at this
  omega
def tgTs (rs : Rws) (cs : List Str) : List Nat := cs.map fun c => mkM (inC cs (tgt rs c)) cs.length
theorem ring_val {rs : Rws} {cs : List Str} (g : Good rs) (nd : cs.Nodup) {S : Nat} (h0 : 0 < S) (hS : S < 2 ^ cs.length) {vals : List Nat} (hv : ∀ k, k < S → vals.getD k 0 = natA rs cs k) : sI ((nzM S).map (trmN (tgTs rs cs) vals S)) = nAcy cs (inner rs cs) S := by
  rw [← nAcy_rec nd (inner rs cs) (show S ≠ 0 by omega) fun i b => memsR_bit S _ hS i b]
  refine sI_congr fun F hF => ?_
  obtain ⟨f1, f2, f3⟩ := nzM_lt hF
  obtain ⟨_, f4⟩ := nzM_part S F hF
  have e1 : freeN (tgTs rs cs) F (S - F) = eFR cs (inner rs cs) F (S - F) := by
    refine free_eq (W := arr rs) (T := fun i => (tgTs rs cs).getD i 0) nd (List.Nodup.sublist List.filter_sublist (arr_nodup g.nd fun r hr => (g.sr r hr).2.1)) (fun a => mem_inner) (fun i j hi => ?_) (fun i b => memsR_bit S _ hS i (part_bit f4 b)) fun i b1 b2 => ?_
    · obtain ⟨c, hc⟩ : ∃ c, cs[i]? = some c := ⟨_, List.getElem?_eq_getElem hi⟩
      have e : (tgTs rs cs).getD i 0 = mkM (inC cs (tgt rs c)) cs.length := by
        unfold tgTs
        rw [List.getD_eq_getElem?_getD, List.getElem?_map, hc]
        rfl
      show ((tgTs rs cs).getD i 0).testBit j = _
      rw [e, mkM_bit]
      unfold tgM inC
      rw [hc]
      cases hj : cs[j]? with
      | none => rw [Bool.and_false]
      | some d =>
        have : j < cs.length := (List.getElem?_eq_some_iff.mp hj).1
        rw [decide_eq_true this, Bool.true_and]
        show decide (d ∈ tgt rs c) = decide ((c, d) ∈ arr rs)
        rw [decide_eq_decide, tgt_iff, mem_arr]
        constructor
        · rintro ⟨r, hr, m, e⟩
          exact ⟨r, hr, e.symm, m⟩
        · rintro ⟨r, hr, e, m⟩
          exact ⟨r, hr, m, e.symm⟩
    · rw [sub_bit S F f4, b1] at b2
      simp at b2
  have e2 : wayN (tgTs rs cs) vals S F = 2 ^ eFR cs (inner rs cs) F (S - F) * nAcy cs (inner rs cs) (S - F) := by
    unfold wayN
    rw [hv _ f3, e1, natA_eq, Int.mul_comm]
  unfold trmN
  rw [e2]
theorem range_getD (l : List Nat) : (List.range l.length).map (fun i => V.int ((l.getD i 0 : Nat) : Int)) = nV l := by
  refine List.ext_getElem? fun i => ?_
  unfold nV
  rw [List.getElem?_map, List.getElem?_map]
  by_cases h : i < l.length
  · rw [List.getElem?_range h, List.getElem?_eq_getElem h]
    show some (V.int ((l.getD i 0 : Nat) : Int)) = some (V.int ((l[i] : Nat) : Int))
    rw [List.getD_eq_getElem?_getD, List.getElem?_eq_getElem h]
    rfl
  · rw [List.getElem?_eq_none (by simpa using h), List.getElem?_eq_none (by omega)]
    rfl
def spRaces (K : PySem.W.Frag) (C : Addr) : Sp := fun vs H Q E => ∃ (p : Addr) (cv : V) (rs : Rws), vs = [.ref p, cv] ∧ IsWeb K H C p rs ∧ Good rs ∧ ((CellL K H rs cv false ∧ Bz H E (He.ga K "BadCells")) ∨
  ∃ cs : List Str, Seq K H cv (cs.map .str) ∧ cs.length ≤ 8 ∧ cs.Nodup ∧ (∀ c ∈ cs, c ∈ rs.map Prod.fst) ∧ (arr rs).length ≤ 99 ∧ ∀ H', Same H H' → Q (.int (nAcy cs (inner rs cs) (2 ^ cs.length - 1))) H')
abbrev nmRSS : List Str := ["web", "cells", "targets", "found", "subset", "cell"]
theorem sc_rs : FnScope nmRSS ["web", "cells"] (defScope s_races) := ⟨rfl, rfl, rfl, by decide +kernel, rfl, by decide +kernel, by decide +kernel⟩
theorem ok_races {C ft : Addr} {fdt : FuncData} (T : Bl mg) (fr : mg "range" = none) (W : Wt K mg C) (Mt : Meth K C "targets" ft) (Gt : FnOk P w K mg base (L2.CX P w) 4 ft fdt ["self", "cell"] (spSrc K C (He.ga K "UnknownCell") tgtR)) (bt : Binds K fdt ["self", "cell"] [])
    (Cc : ∃ f fd, FnOk P w K mg base (L2.CX P w) 4 f fd ["web", "cells"] (spCheckRace K C) ∧ mg "check_race" = some (.ref f) ∧ PySem.W.keepIn K (.ref f) = true ∧ Binds K fd ["web", "cells"] []) (Cs : Cal P w K mg base "subset_of" ["things", "some"] 1 (spSubset K)) (Cr : Cal P w K mg base "ringless" ["targets", "subset", "found"] 2 (spRingless K))
    (F : FnP K "races" "races" s_races f fd) : FnOk P w K mg base (L2.CX P w) 5 f fd ["web", "cells"] (spRaces K C) := by
  obtain ⟨fc, fdc, Gc, gc, kc, bc⟩ := Cc
  obtain ⟨fs, fds, Gs, gs, ks, bs⟩ := Cs.ex
  obtain ⟨fg, fdg, Gg, gg, kg, bg⟩ := Cr.ex
  refine F.ok sc_rs (fun vs H Q E h => ?_) (fun cdv A outer s H vs Q E hr h => ?_)
  · obtain ⟨p, cv, rs, rfl, _⟩ := h
    rfl
  · have nd := sc_rs.nd
    have h2 := hr.mono (show 2 ≤ 4 by decide)
    have h1 := hr.mono (show 1 ≤ 4 by decide)
    refine ⟨_, pss_cons (ps_expr (pe_call Gc hr rfl gc kc bc .nil (passes_call (takes_of rfl rfl rfl rfl) fun _ _ _ _ h => h) (pa_cons (pv 0) (pa_cons (pv 1) pa_nil))))
      (pss_cons (ps_setLc (i := 2) (own := [("cell", 5)]) (g := gName 5) (tt := tYes) (te := tCall (spSubset K) [] E0 (tCons (tVar 1) (tCons (tMeth C "targets" (spSrc K C (He.ga K "UnknownCell") tgtR) [] ENo (tVar 0) (tCons (tVar 5) tNil)) tNil))) rfl nd rfl rfl (sw_true rfl rfl rfl (by decide +kernel)) (pi_seq (pv 1)) (blkOk_by (N := nmRSS) (sc := defScope s_races) (by decide +kernel))
        (fun _ _ _ _ _ => pg_name (i := 5) nd rfl (Or.inl rfl)) (fun _ _ _ _ _ => pts_nil) (fun _ _ _ _ _ => pe_call Gs h1 rfl gs ks bs .nil pass0 (pa_cons (pv 1) (pa_cons (pe_meth (pv 0) W.cl Mt Gt hr bt .nil passN (pa_cons (pv 5) pa_nil)) pa_nil))))
      (pss_cons (ps_set (i := 3) nd rfl (Or.inl rfl) (pe_lst (pa_cons pe_int pa_nil)))
      (pss_cons (ps_for (passes_of rfl) rfl (pi_range2 rfl fr (pa_cons pe_int (pa_cons (pe_op op_oneShl pe_int (pe_callB call_len rfl T.f_len boot_len (pa_cons (pv 1) pa_nil))) pa_nil))) (pg_name (i := 4) nd rfl (Or.inl rfl))
        (pss_one (ps_expr (pe_bm PySem.F.plainAttrs_list PySem.F.slot_list_append PySem.F.type_list_append mt_append (pv 3) (pa_cons (pe_call Gg h2 rfl gg kg bg .nil pass0 (pa_cons (pv 2) (pa_cons (pv 4) (pa_cons (pv 3) pa_nil)))) pa_nil)))))
      (pss_one (ps_ret (pe_ix ix_list (pv 3) (pe_un un_neg pe_int) fun _ _ => rfl)))))), ?_⟩
    obtain ⟨p, cv, rs, rfl, hw, g, hcv⟩ := h
    rcases hcv with ⟨hc, e⟩ | ⟨cs, hcs, l8, hnd, hcr, hA, q⟩
    · exact ⟨_, rfl, _, rfl, p, cv, rs, false, rfl, hw, g, hc, (fun e => nomatch e), fun _ H' s' => e H' s'⟩
    refine ⟨_, rfl, _, rfl, p, cv, rs, true, rfl, hw, g, cellL_ok hcs g (by omega) hnd hcr, fun _ H1 s1 => ?_, fun e => nomatch e⟩
    try dsimp only
    refine t_seqAsg ?_
    refine lc_seq (hcs.same s1) (fun Q q => ⟨_, rfl, q⟩) (by rw [List.length_map]; omega) (fun i => .int (((tgTs rs cs).getD i 0 : Nat) : Int)) (fun i x H' Q' hx s' qq => ?_) (fun D H2 s2 e2 => ?_)
    · rw [List.getElem?_map] at hx
      obtain ⟨c, hc, rfl⟩ := Option.map_eq_some_iff.mp hx
      have hcm := hcr c (List.mem_of_getElem? hc)
      have s01 := s1.trans s'
      obtain ⟨dx, _, _, _, _, _, _, _, W1⟩ := hw.same s01
      refine ⟨rfl, _, rfl, _, rfl, p, dx, _, rfl, W1.ob, rfl, _, rfl, p, .str c, true, rs, rfl, hw.same s01, g, good_isN g hcm, .inl ⟨c, tgt rs c, rfl, srcs_tgt g.nd hcm, hcm, fun H3 t3 s3 st3 => ?_⟩⟩
      refine ⟨cv, .ref t3, cs, tgt rs c, rfl, (hcs.same s01).same s3, ⟨t3, rfl, .inr st3⟩, by omega, fun H4 s4 => ?_⟩
      have et : (tgTs rs cs).getD i 0 = mkM (inC cs (tgt rs c)) cs.length := by
        unfold tgTs
        rw [List.getD_eq_getElem?_getD, List.getElem?_map, hc]
        rfl
      rw [et] at qq
      exact qq H4 (s3.trans s4)
    have eT : ((List.range (cs.map V.str).length).map fun i => V.int (((tgTs rs cs).getD i 0 : Nat) : Int)) = nV (tgTs rs cs) := by
      have l : (cs.map V.str).length = (tgTs rs cs).length := by unfold tgTs; rw [List.length_map, List.length_map]
      rw [l]
      exact range_getD _
    rw [eT] at e2
    refine g_nm ?_
    try dsimp only
    refine t_seqAsg ?_
    refine ⟨(show 1 ≤ sizeLine by decide), fun fb nfb => ?_⟩
    have s02 := s1.trans s2
    have hpow : (2 : Nat) ^ cs.length ≤ 2 ^ 8 := Nat.pow_le_pow_right (by decide) l8
    have hpos : 0 < 2 ^ cs.length := Nat.two_pow_pos _
    have efb : (upd H2 fb (.lst [.int 1])) fb = some (.lst [.int 1]) := upd_same
    have sfb : Same H2 (hide fb (upd H2 fb (.lst [.int 1]))) := by
      rw [hide_updp]
      exact fun b o e => by rw [hide_ne (ne_of_none e nfb)]; exact e
    have scv : Same H (upd H2 fb (.lst [.int 1])) := s02.trans (same_upd nfb)
    generalize upd H2 fb (.lst [.int 1]) = H3 at *
    refine g_nm ?_
    try dsimp only
    refine t_seqF ?_
    refine ⟨_, rfl, cv, cs.length, rfl, by have := (hcs.same scv).len; rwa [List.length_map] at this, cs.length, rfl, rfl, by omega, 1, (2 : Int) ^ cs.length, rfl, ⟨by omega, by omega, ?_, ?_⟩, ?_⟩
    · have : ((2 ^ cs.length : Nat) : Int) = (2 : Int) ^ cs.length := by rw [Int.natCast_pow]; rfl
      omega
    · have : ((2 ^ cs.length : Nat) : Int) = (2 : Int) ^ cs.length := by rw [Int.natCast_pow]; rfl
      omega
    have eN : ((2 : Int) ^ cs.length - 1).toNat = 2 ^ cs.length - 1 := by
      have : ((2 ^ cs.length : Nat) : Int) = (2 : Int) ^ cs.length := by rw [Int.natCast_pow]; rfl
      omega
    rw [eN]
    refine for_range (fun i σ H' => ∃ o4 o5 : Option V, σ = [some (.ref p), some cv, some (.ref D), some (.ref fb), o4, o5] ∧ Same H2 (hide fb H') ∧ H' fb = some (.lst (nV ((List.range (i + 1)).map (natA rs cs))))) ⟨_, _, rfl, sfb, ?_⟩ ?_ ?_
    · rw [efb]
      show some (HO.lst [V.int 1]) = some (HO.lst [V.int ((natA rs cs 0 : Nat) : Int)])
      rw [natA_zero]
      rfl
    · rintro i σ H4 hi ⟨o4, o5, rfl, s4, e4⟩
      refine g_nm ?_
      have s4' : Same H2 H4 := s4.trans hide_le
      have lT : (tgTs rs cs).length = cs.length := by unfold tgTs; rw [List.length_map]
      refine ⟨_, rfl, .inl ⟨rfl, _, SqL.of e4⟩, _, rfl, _, rfl, _, rfl, D, fb, 1 + i, cs.length, tgTs rs cs, (List.range (i + 1)).map (natA rs cs), by rw [Int.natCast_add]; rfl, SqL.of (s4' _ _ e2), lT, l8, fun t ht => ?_, by omega, by omega, SqL.of e4, by rw [List.length_map, List.length_range]; omega, fun v hv => ?_, fun H5 s5 => ?_⟩
      · obtain ⟨c, _, rfl⟩ := List.mem_map.mp ht
        exact mkM_lt _ _
      · obtain ⟨k, _, rfl⟩ := List.mem_map.mp hv
        exact natA_lt hA k
      · have e5 := s5 _ _ e4
        rw [ring_val g hnd (by omega) (by omega) fun k hk => ?_, ← natA_eq]
        · refine ⟨fb, _, _, rfl, rfl, e5, ?_, ?_⟩
          · unfold nV
            rw [List.length_map, List.length_map, List.length_range, sizeLine_eq]
            omega
          refine ⟨_, _, rfl, ?_, ?_⟩
          · rw [hide_updp]
            intro b o e
            rw [hide_ne (ne_of_none e nfb)]
            exact s5 _ _ (hide_le _ _ (s4 _ _ e))
          · rw [upd_same, show List.range (i + 1 + 1) = List.range (i + 1) ++ [i + 1] from List.range_succ]
            unfold nV
            rw [List.map_append, List.map_append, Nat.add_comm 1 i]
            rfl
        · rw [List.getD_eq_getElem?_getD, List.getElem?_map, List.getElem?_range (by omega)]
          rfl
    · rintro σ H4 ⟨o4, o5, rfl, s4, e4⟩
      rw [List.range_succ, List.map_append] at e4
      unfold nV at e4
      rw [List.map_append] at e4
      refine ⟨_, rfl, 1, rfl, fb, _, -1, _, rfl, rfl, SqL.of e4, atI_last _ _, ?_⟩
      show Q (.int ((natA rs cs (2 ^ cs.length - 1) : Nat) : Int)) H4
      rw [natA_eq]
      exact q H4 (s02.trans (s4.trans hide_le))
end
end K59
end L2
set_option Elab.async false
set_option linter.all false
set_option maxRecDepth 100000
set_option maxHeartbeats 4000000
namespace L2
namespace K59
open PySem PySem.Spec PyProof.Rows K1 WL LamX
section
variable {P : Program} {w : World} {K : PySem.W.Frag} {mg : Str → Option Value} {base : Heap} {f : Addr} {fd : FuncData}
/-! ### _law_least -/
def numD (cs : List Str) (num : Str → Nat) : List (Key × V) := cs.map fun c => (kS c, .int (num c : Nat))
theorem numD_at {num : Str → Nat} {x : Str} : ∀ {cs : List Str}, x ∈ cs → valV (numD cs num) (kS x) = some (.int (num x : Nat))
  | c :: cs, h => by
    by_cases e : c = x
    · rw [e]
      exact valV_pos rfl
    · have ne : ¬ kS c = kS x := fun z => e (Sum.inr.inj z)
      rcases List.mem_cons.mp h with z | z
      · exact absurd z.symm e
      · exact (valV_neg (p := (kS c, V.int (num c : Nat))) ne).trans (numD_at z)
theorem numD_put {num : Str → Nat} {x : Str} {v : Nat} {cs : List Str} (h : x ∈ cs) : putK (numD cs num) (kS x) (.int (v : Nat)) = numD cs (setN num x v) := by
  have a : ((numD cs num).any fun kv => decide (kv.1 = kS x)) = true := by rw [valV_any, numD_at h]; rfl
  unfold putK
  rw [if_pos a]
  unfold numD
  rw [List.map_map]
  refine List.map_congr_left fun c _ => ?_
  show (if kS c = kS x then (kS c, V.int (v : Nat)) else (kS c, V.int (num c : Nat))) = (kS c, V.int (setN num x v c : Nat))
  unfold setN
  by_cases e : c = x
  · rw [if_pos (by rw [e]), if_pos e]
  · have ne : ¬ kS c = kS x := fun z => e (Sum.inr.inj z)
    rw [if_neg ne, if_neg e]
def T3 (H : Hp) (v : V) (a : Ar) : Prop := ∃ t, v = .ref t ∧ H t = some (.tup [.str a.1, .str a.2, .int 1])
theorem T3.same {H H' : Hp} {v : V} {a : Ar} (h : T3 H v a) (s : Same H H') : T3 H' v a := let ⟨t, e, h⟩ := h; ⟨t, e, s _ _ h⟩
def spLeast (K : PySem.W.Frag) : Sp := fun vs H Q _ => ∃ (cv : V) (tl : Addr) (vl : List V) (cs : List Str) (as : List Ar), vs = [cv, .ref tl] ∧ Seq K H cv (cs.map .str) ∧ SqL K H tl vl ∧ Paired (T3 H) vl as ∧ cs.Nodup ∧ cs.length ≤ 900 ∧ (∀ a ∈ as, a.1 ∈ cs ∧ a.2 ∈ cs) ∧
  ((bfG cs as).isSome = true → ∀ d H', Same H H' → Q (.ref d) H') ∧ ((bfG cs as).isSome = false → ∀ H', Same H H' → Q .non H')
abbrev nmLE : List Str := ["_law_names_here", "_law_ties", "_law_numbers", "_law_name", "_law_turn", "_law_moved", "_law_one", "_law_other", "_law_weight"]
theorem sc_le : FnScope nmLE ["_law_names_here", "_law_ties"] (defScope s_least) := ⟨rfl, rfl, rfl, by decide +kernel, rfl, by decide +kernel, by decide +kernel⟩
theorem ok_least (T : Bl mg) (fr : mg "range" = none) (F : FnP K "_law_least" "_law_least" s_least f fd) : FnOk P w K mg base CX0 2 f fd ["_law_names_here", "_law_ties"] (spLeast K) := by
  refine F.ok sc_le (fun vs H Q E h => ?_) (fun cdv A outer s H vs Q E hr h => ?_)
  · obtain ⟨cv, tl, vl, cs, as, rfl, _⟩ := h
    rfl
  · have nd := sc_le.nd
    refine ⟨_, PSs.nox (pss_cons (ps_set (i := 2) nd rfl (Or.inl rfl) pe_dnewK)
      (pss_cons (ps_for PassesOwn.never rfl (pi_seq (pv 0)) (pg_name (i := 3) nd rfl (Or.inl rfl)) (pss_one (ps_dput (hu_of hr) (pv 2) (pv 3) pe_int rfl)))
      (pss_cons (ps_for PassesOwn.never rfl (pi_range1 rfl fr (pa_cons (pe_op op_add (pe_callB call_len rfl T.f_len boot_len (pa_cons (pv 0) pa_nil)) pe_int) pa_nil)) (pg_name (i := 4) nd rfl (Or.inl rfl))
        (pss_cons (ps_set (i := 5) nd rfl (Or.inl rfl) pe_bl)
        (pss_cons (ps_for PassesOwn.never rfl (pi_list (pv 1)) (pg_tup rfl (pgs_cons (pg_name (i := 6) nd rfl (Or.inl rfl)) (pgs_cons (pg_name (i := 7) nd rfl (Or.inl rfl)) (pgs_cons (pg_name (i := 8) nd rfl (Or.inl rfl)) pgs_nil))))
          (pss_one (ps_if (pt_cmpR op_gt (pe_op op_add (pe_dget (hu_of hr) (pv 2) (pv 6) fun _ _ => rfl) (pv 8)) (pe_dget (hu_of hr) (pv 2) (pv 7) fun _ _ => rfl) (nomark _))
            (pss_cons (ps_dput (hu_of hr) (pv 2) (pv 7) (pe_op op_add (pe_dget (hu_of hr) (pv 2) (pv 6) fun _ _ => rfl) (pv 8)) rfl) (pss_one (ps_set (i := 5) nd rfl (Or.inl rfl) pe_bl))) pss_nil)))
        (pss_one (ps_if (pt_not (pt_val (pv 5))) (pss_one (ps_ret (pv 2))) pss_nil)))))
      (pss_one (ps_ret pe_non))))), ?_⟩
    obtain ⟨cv, tl, vl, cs, as, rfl, hcs, htl, hvl, hnd, l9, hin, q1, q2⟩ := h
    obtain ⟨ca, rfl, hca⟩ := hcs
    have hcs : Seq K H (.ref ca) (cs.map .str) := ⟨ca, rfl, hca⟩
    have lvl := Paired.length hvl
    refine fun d nd' => ?_
    have ed : (upd H d (.dK [])) d = some (.dK []) := upd_same
    have sd : Same H (hide d (upd H d (.dK []))) := by
      rw [hide_updp]
      exact fun b o e => by rw [hide_ne (ne_of_none e nd')]; exact e
    generalize upd H d (.dK []) = H1 at *
    refine g_nm ?_
    try dsimp only
    refine t_seqF ?_
    refine for_seq hcs (fun Q q => ⟨_, rfl, q⟩) (fun i σ H' => (∃ o3 o4 o5 o6 o7 o8 : Option V, σ = [some (.ref ca), some (.ref tl), some (.ref d), o3, o4, o5, o6, o7, o8]) ∧ Same H (hide d H') ∧ H' d = some (.dK (numD (cs.take i) fun _ => 0)))
      ⟨⟨_, _, _, _, _, _, rfl⟩, sd, ed⟩ (fun i σ H' p => p.2.1.trans hide_le) ?_ ?_
    · rintro i x σ H2 hx ⟨⟨o3, o4, o5, o6, o7, o8, rfl⟩, s2, e2⟩
      rw [List.getElem?_map] at hx
      obtain ⟨c, hc, rfl⟩ := Option.map_eq_some_iff.mp hx
      have hi : i < cs.length := (List.getElem?_eq_some_iff.mp hc).1
      refine g_nm ?_
      try dsimp only
      refine ⟨_, rfl, _, rfl, d, _, rfl, DPut.k (k := kS c) e2 (by unfold numD; rw [List.length_map, List.length_take, sizeLine_eq]; omega), ?_⟩
      refine ⟨⟨_, _, _, _, _, _, rfl⟩, by rw [hide_updp]; exact s2, ?_⟩
      rw [upd_same, putK_fresh fun q hq z => ?_, List.take_succ, hc]
      · unfold numD
        rw [List.map_append]
        rfl
      · obtain ⟨b, hb, rfl⟩ := List.mem_map.mp hq
        have z : b = c := Sum.inr.inj z
        obtain ⟨j, hj, ej⟩ := List.mem_take_iff_getElem.mp hb
        have hj2 : cs[j]? = some c := by rw [List.getElem?_eq_getElem (by omega), ej, z]
        have := at_uniq hnd hj2 hc
        omega
    rintro σ H2 ⟨⟨o3, o4, o5, o6, o7, o8, rfl⟩, s2, e2⟩
    rw [List.length_map, List.take_length] at e2
    try dsimp only
    refine t_seqF ?_
    refine ⟨_, rfl, .ref ca, cs.length, rfl, by have := (hcs.same (s2.trans hide_le)).len; rwa [List.length_map] at this, _, _, rfl, rfl, (cs.length : Int) + 1, rfl, by omega, by omega, ?_⟩
    rw [show ((cs.length : Int) + 1).toNat = cs.length + 1 by omega]
    refine for_range (fun i σ H' => ∃ (num : Str → Nat) (o3 o4 o5 o6 o7 o8 : Option V), σ = [some (.ref ca), some (.ref tl), some (.ref d), o3, o4, o5, o6, o7, o8] ∧ Same H (hide d H') ∧ H' d = some (.dK (numD cs num)) ∧ bfR as (cs.length + 1 - i) num = bfG cs as)
      ⟨_, _, _, _, _, _, _, rfl, s2, e2, rfl⟩ ?_ ?_
    · rintro i σ H3 hi ⟨num, o3, o4, o5, o6, o7, o8, rfl, s3, e3, hb⟩
      refine g_nm ?_
      try dsimp only
      refine t_seqAsg ?_
      refine g_nm ?_
      try dsimp only
      refine t_seqF ?_
      refine ⟨_, rfl, tl, rfl, ⟨_, (s3.trans hide_le).seq htl⟩, ?_⟩
      refine for_list (xs := vl) (fun j σ H' => ∃ (nu : Str → Nat) (m : Bool) (o3 o4 o6 o7 o8 : Option V), σ = [some (.ref ca), some (.ref tl), some (.ref d), o3, o4, some (.bl m), o6, o7, o8] ∧ Same H (hide d H') ∧ H' d = some (.dK (numD cs nu)) ∧ bfT nu m (as.drop j) = bfT num false as)
        ⟨_, _, _, _, _, _, _, rfl, s3, e3, rfl⟩ (fun j σ H' _ p => by obtain ⟨_, _, _, _, _, _, _, _, z, _⟩ := p; exact (z.trans hide_le).seq htl) ?_ ?_
      · rintro j y σ H4 hy ⟨nu, m, o3, o4, o6, o7, o8, rfl, s4, e4, hj⟩
        obtain ⟨a, ha, t, rfl, et⟩ := Paired.getL hvl hy
        obtain ⟨i1, i2⟩ := hin a (List.mem_of_getElem? ha)
        have et4 := hide_le _ _ (s4 _ _ et)
        have g1 : DGet H4 d (.str a.1) (some (.int (nu a.1 : Nat))) := by rw [← numD_at i1]; exact DGet.k (k := kS a.1) e4
        have g2 : DGet H4 d (.str a.2) (some (.int (nu a.2 : Nat))) := by rw [← numD_at i2]; exact DGet.k (k := kS a.2) e4
        have hdr : as.drop j = a :: as.drop (j + 1) := by
          obtain ⟨hlt, e⟩ := List.getElem?_eq_some_iff.mp ha
          rw [← e]
          exact (List.getElem_cons_drop hlt).symm
        rw [hdr] at hj
        refine ⟨t, _, rfl, SqT.of et4, rfl, _, _, rfl, _, _, rfl, _, _, rfl, rfl, ?_⟩
        refine ⟨_, rfl, _, rfl, d, _, rfl, g1, _, rfl, _, _, rfl, rfl, _, rfl, _, rfl, d, _, rfl, g2, _, _, rfl, rfl, _, rfl, ?_⟩
        by_cases c : nu a.1 + 1 > nu a.2
        · refine iteP (decide_eq_true (by omega)) ?_
          refine ⟨_, rfl, _, rfl, d, _, rfl, g1, _, rfl, _, _, rfl, rfl, _, rfl, _, rfl, d, _, rfl, DPut.k (k := kS a.2) e4 (by unfold numD; rw [List.length_map, sizeLine_eq]; omega), ?_⟩
          refine ⟨setN nu a.2 (nu a.1 + 1), true, _, _, _, _, _, rfl, by rw [hide_updp]; exact s4, ?_, ?_⟩
          · rw [upd_same]
            have := numD_put (num := nu) (v := nu a.1 + 1) i2
            rw [Int.natCast_add] at this
            exact congrArg (fun z => some (HO.dK z)) this
          · rw [← hj]
            exact (if_pos c).symm
        · refine iteN (decide_eq_false (by omega)) ⟨nu, m, _, _, _, _, _, rfl, s4, e4, ?_⟩
          rw [← hj]
          exact (if_neg c).symm
      · rintro σ H4 ⟨nu, m, o3, o4, o6, o7, o8, rfl, s4, e4, hj⟩
        rw [lvl, List.drop_length] at hj
        have hj : (nu, m) = bfT num false as := hj
        have hk : cs.length + 1 - i = (cs.length - i) + 1 := by omega
        rw [hk] at hb
        have hb : (if (bfT num false as).2 = true then bfR as (cs.length - i) (bfT num false as).1 else some (bfT num false as).1) = bfG cs as := hb
        rw [← hj] at hb
        refine ⟨_, rfl, m, rfl, ?_⟩
        cases m with
        | false =>
          refine iteP rfl ⟨_, rfl, q1 ?_ d H4 (s4.trans hide_le)⟩
          rw [← hb]
          rfl
        | true =>
          refine iteN rfl ⟨nu, _, _, _, _, _, _, rfl, s4, e4, ?_⟩
          rw [show cs.length + 1 - (i + 1) = cs.length - i by omega, ← hb]
          rfl
    · rintro σ H3 ⟨num, o3, o4, o5, o6, o7, o8, rfl, s3, e3, hb⟩
      rw [Nat.sub_self] at hb
      refine q2 ?_ H3 (s3.trans hide_le)
      rw [← hb]
      rfl
end
end K59
end L2
set_option Elab.async false
set_option linter.all false
set_option maxRecDepth 100000
set_option maxHeartbeats 4000000
namespace L2
namespace K59
open PySem PySem.Spec PyProof.Rows K1 WL LamX
section
variable {P : Program} {w : World} {K : PySem.W.Frag} {mg : Str → Option Value} {base : Heap} {f : Addr} {fd : FuncData}
/-! ### _law_sets -/
def SetV (H : Hp) (v : V) (bs : List Ar) : Prop := ∃ l xs, v = .ref l ∧ H l = some (.lst xs) ∧ Paired (PairT H) xs bs
theorem SetV.same {H H' : Hp} {v : V} {bs : List Ar} (h : SetV H v bs) (s : Same H H') : SetV H' v bs := let ⟨l, xs, e, h1, h2⟩ := h; ⟨l, xs, e, s _ _ h1, Paired.imp (fun _ _ h => PairT_same h s) h2⟩
/-- .. and stands where nothing stood -/
def SetW (H0 H : Hp) (v : V) (bs : List Ar) : Prop := ∃ l xs, v = .ref l ∧ H0 l = none ∧ H l = some (.lst xs) ∧ Paired (PairT H) xs bs
theorem SetW.same {H0 H H' : Hp} {v : V} {bs : List Ar} (h : SetW H0 H v bs) (s : Same H H') : SetW H0 H' v bs := let ⟨l, xs, e, h0, h1, h2⟩ := h; ⟨l, xs, e, h0, s _ _ h1, Paired.imp (fun _ _ h => PairT_same h s) h2⟩
def spSets (K : PySem.W.Frag) : Sp := fun vs H Q _ => ∃ (a : Addr) (tl : List V) (as : List Ar), vs = [.ref a] ∧ SqL K H a tl ∧ Paired (PairT H) tl as ∧ as.length ≤ 20 ∧ ∀ D vl H', Same H H' → H D = none → H' D = some (.lst vl) → Paired (SetW H H') vl (setsL as) → Q (.ref D) H'
abbrev nmSE : List Str := ["_law_things", "_law_found", "_law_thing", "_law_some"]
theorem sc_se : FnScope nmSE ["_law_things"] (defScope s_sets) := ⟨rfl, rfl, rfl, by decide +kernel, rfl, by decide +kernel, by decide +kernel⟩
theorem setsL_le {as : List Ar} {i : Nat} (h : as.length ≤ 20) : (setsL (as.take i)).length ≤ 2 ^ 20 := by
  rw [setsL_len]
  refine Nat.pow_le_pow_right (by decide) ?_
  rw [List.length_take]
  omega
theorem setV_len : ∀ {l : List Ar} , ∀ D ∈ setsL l, D.length ≤ l.length := by
  intro l
  refine snocI (P := fun l => ∀ D ∈ setsL l, D.length ≤ l.length) (fun D hD => ?_) (fun l x ih D hD => ?_) l
  · rw [show D = [] by simpa [setsL] using hD]
    exact Nat.le_refl _
  · rw [setsL_snoc] at hD
    rw [List.length_append, List.length_singleton]
    rcases List.mem_append.mp hD with q | q
    · have := ih D q; omega
    · obtain ⟨D', h', rfl⟩ := List.mem_map.mp q
      have := ih D' h'
      rw [List.length_append, List.length_singleton]
      omega
theorem ok_sets (F : FnP K "_law_sets" "_law_sets" s_sets f fd) : FnOk P w K mg base CX0 1 f fd ["_law_things"] (spSets K) := by
  refine F.ok sc_se (fun vs H Q E h => ?_) (fun cdv A outer s H vs Q E hr h => ?_)
  · obtain ⟨a, tl, as, rfl, _⟩ := h
    rfl
  · have nd := sc_se.nd
    refine ⟨_, PSs.nox (pss_cons (ps_set (i := 1) nd rfl (Or.inl rfl) (pe_lst (pa_cons (pe_lst pa_nil) pa_nil)))
      (pss_cons (ps_for PassesOwn.never rfl (pi_list (pv 0)) (pg_name (i := 2) nd rfl (Or.inr rfl))
        (pss_one (ps_set (i := 1) nd rfl (Or.inl rfl) (pe_op op_cat (pv 1) (pe_lc (own := [("_law_some", 3)]) (g := gName 3) (tt := tYes) (te := tOp rCat (tVar 3) (tLst (tCons (tVar 2) tNil))) rfl nd (pi_list (pv 1)) (blkOk_by (N := nmSE) (sc := defScope s_sets) (by decide +kernel))
          (fun _ _ _ _ _ => pg_name (i := 3) nd rfl (Or.inl rfl)) (fun _ _ _ _ _ => pts_nil) (fun _ _ _ _ _ => pe_op op_cat (pv 3) (pe_lst (pa_cons (pv 2) pa_nil))))))))
      (pss_one (ps_ret (pv 1))))), ?_⟩
    obtain ⟨a, tl, as, rfl, hs, ha, l40, q⟩ := h
    have ltl := Paired.length ha
    refine ⟨(show 0 ≤ sizeLine by decide), fun e0 ne0 => ?_⟩
    have s0 := same_upd (o := .lst []) ne0
    have ee0 : (upd H e0 (.lst [])) e0 = some (.lst []) := upd_same
    generalize upd H e0 (.lst []) = H0 at *
    refine t_nil ?_
    refine ⟨(show 1 ≤ sizeLine by decide), fun f0 nf0 => ?_⟩
    have s1 := same_upd (o := .lst [.ref e0]) nf0
    have ef0 : (upd H0 f0 (.lst [.ref e0])) f0 = some (.lst [.ref e0]) := upd_same
    generalize upd H0 f0 (.lst [.ref e0]) = H1 at *
    refine g_nm ?_
    try dsimp only
    refine t_seqF ?_
    refine ⟨_, rfl, a, rfl, ⟨_, (s0.trans s1).seq hs⟩, ?_⟩
    refine for_list (xs := tl) (fun i σ H' => ∃ (fa : Addr) (vl : List V) (o2 o3 : Option V), σ = [some (.ref a), some (.ref fa), o2, o3] ∧ Same H H' ∧ H fa = none ∧ H' fa = some (.lst vl) ∧ Paired (SetW H H') vl (setsL (as.take i)))
      ⟨f0, [.ref e0], _, _, rfl, s0.trans s1, s0.free nf0, ef0, .cons ⟨e0, [], rfl, ne0, s1 _ _ ee0, .nil⟩ .nil⟩ (fun i σ H' _ p => by obtain ⟨_, _, _, _, _, z, _⟩ := p; exact z.seq hs) ?_ ?_
    · rintro i y σ H2 hy ⟨fa, vl, o2, o3, rfl, s2, nfa, efa, hvl⟩
      obtain ⟨b, hb, hyb⟩ := Paired.getL ha hy
      have lvl := Paired.length hvl
      have l40' := setsL_le (i := i) l40
      have hyb2 := PairT_same hyb s2
      refine g_nm ?_
      try dsimp only
      have e1 : setsL (as.take (i + 1)) = setsL (as.take i) ++ (setsL (as.take i)).map (· ++ [b]) := by
        rw [List.take_succ, hb]
        exact setsL_snoc _ _
      refine ⟨_, rfl, _, rfl, fa, rfl, ⟨_, SqL.of efa⟩, fun D nD => ?_⟩
      refine lc_list (xs := vl) (fun j H' => Same H2 (hide D H') ∧ ∃ acc, H' D = some (.lst acc) ∧ Paired (SetW H (hide D H')) acc (((setsL (as.take i)).take j).map (· ++ [b]))) ⟨by
          rw [hide_updp]
          exact fun b o e => by rw [hide_ne (ne_of_none e nD)]; exact e, [], upd_same, .nil⟩ (fun j H' _ p => (p.1.trans hide_le).seq (SqL.of efa)) ?_ ?_
      · rintro j x H3 hx ⟨s3, acc, eD, hacc⟩
        obtain ⟨bs, hbs, l, xs, rfl, _, el, hxs⟩ := Paired.getL hvl hx
        have hj : j < vl.length := (List.getElem?_eq_some_iff.mp hx).1
        have lxs := Paired.length hxs
        have lbs := setV_len bs (List.mem_of_getElem? hbs)
        rw [List.length_take] at lbs
        refine ⟨rfl, _, rfl, _, rfl, (show 1 ≤ sizeLine by decide), fun c nc => ?_⟩
        have sc := same_upd (o := .lst [y]) nc
        have ec : (upd H3 c (.lst [y])) c = some (.lst [y]) := upd_same
        generalize upd H3 c (.lst [y]) = H4 at *
        refine ⟨l, c, xs, [y], rfl, rfl, sc _ _ (hide_le _ _ (s3 _ _ el)), ec, by rw [sizeLine_eq]; simp only [List.length_singleton]; omega, fun r nr => ?_⟩
        have sr := same_upd (o := .lst (xs ++ [y])) nr
        have er : (upd H4 r (.lst (xs ++ [y]))) r = some (.lst (xs ++ [y])) := upd_same
        generalize upd H4 r (.lst (xs ++ [y])) = H5 at *
        have eD5 := sr _ _ (sc _ _ eD)
        have s5 : Same H2 (hide D H5) := s3.trans (hide_same (sc.trans sr))
        have rD : r ≠ D := fun z => by rw [z, sc _ _ eD] at nr; cases nr
        refine ⟨acc, eD5, ?_, by rw [hide_updp]; exact s5, _, upd_same, ?_⟩
        · have := Paired.length hacc
          rw [List.length_map, List.length_take] at this
          rw [sizeLine_eq]
          omega
        · rw [hide_updp, List.take_succ, hbs, List.map_append]
          refine Paired.snoc (Paired.imp (fun _ _ h => h.same (hide_same (sc.trans sr))) hacc) ⟨r, _, rfl, (s2.trans ((s3.trans hide_le).trans sc)).free nr, by rw [hide_ne rD]; exact er, ?_⟩
          exact Paired.snoc (Paired.imp (fun _ _ h => PairT_same h s5) hxs) (PairT_same hyb2 s5)
      · rintro H3 ⟨s3, acc, eD, hacc⟩
        rw [lvl, List.take_length] at hacc
        have lac := Paired.length hacc
        rw [List.length_map] at lac
        have efa3 := hide_le _ _ (s3 _ _ efa)
        refine ⟨fa, D, vl, acc, rfl, rfl, efa3, eD, by rw [sizeLine_eq]; omega, fun n nn => ?_⟩
        have sn := same_upd (o := .lst (vl ++ acc)) nn
        have en : (upd H3 n (.lst (vl ++ acc))) n = some (.lst (vl ++ acc)) := upd_same
        generalize upd H3 n (.lst (vl ++ acc)) = H4 at *
        refine ⟨n, vl ++ acc, _, _, rfl, (s2.trans (s3.trans hide_le)).trans sn, (s2.trans (s3.trans hide_le)).free nn, en, ?_⟩
        rw [e1]
        exact paired_append (Paired.imp (fun _ _ h => h.same ((s3.trans hide_le).trans sn)) hvl) (Paired.imp (fun _ _ h => h.same (Same.trans hide_le sn)) hacc)
    · rintro σ H2 ⟨fa, vl, o2, o3, rfl, s2, nfa, efa, hvl⟩
      rw [ltl, List.take_length] at hvl
      exact ⟨_, rfl, q fa vl H2 s2 nfa efa hvl⟩
end
end K59
end L2
set_option Elab.async false
set_option linter.all false
set_option maxRecDepth 100000
set_option maxHeartbeats 4000000
namespace L2
namespace K59
open PySem PySem.Spec PyProof.Rows K1 WL LamX
section
variable {P : Program} {w : World} {K : PySem.W.Frag} {mg : Str → Option Value} {base : Heap} {f : Addr} {fd : FuncData}
/-! ### _law_told -/
def spTold (K : PySem.W.Frag) (C : Addr) : Sp := fun vs H Q _ => ∃ (p : Addr) (cv : V) (rs : Rws), vs = [.ref p, cv] ∧ IsWeb K H C p rs ∧ Good rs ∧ ((CellL K H rs cv false ∧ ∀ H', Same H H' → Q (.str "bad") H') ∨
  ∃ cs : List Str, Seq K H cv (cs.map .str) ∧ cs.length ≤ 8 ∧ cs.Nodup ∧ (∀ c ∈ cs, c ∈ rs.map Prod.fst) ∧ (arr rs).length ≤ 99 ∧ ∀ H', Same H H' → Q (.int (nAcy cs (inner rs cs) (2 ^ cs.length - 1))) H')
abbrev nmTO : List Str := ["_law_web_here", "_law_cells_here"]
theorem sc_told : FnScope nmTO ["_law_web_here", "_law_cells_here"] (defScope s_told) := ⟨rfl, rfl, rfl, by decide +kernel, rfl, by decide +kernel, by decide +kernel⟩
theorem ok_told {C : Addr} (Cm : ∃ f fd, FnOk P w K mg base (L2.CX P w) 5 f fd ["web", "cells"] (spRaces K C) ∧ mg "races" = some (.ref f) ∧ PySem.W.keepIn K (.ref f) = true ∧ Binds K fd ["web", "cells"] [])
    (gC : mg "BadCells" = some (.ref (He.ga K "BadCells"))) (x3 : PySem.W.exmOne K (.ref (He.ga K "BadCells")) (.ref (He.ga K "BadCells")) = some true)
    (F : FnP K "_law_told" "_law_told" s_told f fd) : FnOk P w K mg base CX0 6 f fd ["_law_web_here", "_law_cells_here"] (spTold K C) := by
  obtain ⟨fm, fdm, Gm, gm, km, bm⟩ := Cm
  refine F.ok sc_told (fun vs H Q E h => ?_) (fun cdv A outer s H vs Q E hr h => ?_)
  · obtain ⟨p, cv, rs, rfl, _⟩ := h
    rfl
  · have nd := sc_told.nd
    refine ⟨_, PSs.nox (pss_one (ps_try_all (Wo := fun _ _ _ _ => False) (tb := fun W => tRet (tCall (spRaces K C) [] (fun cls d H => ∀ σ : St, σ.length = 2 → W cls d σ H) (tCons (tVar 0) (tCons (tVar 1) tNil))))
      (l := [(.ref (He.ga K "BadCells"), none, fun a cls d => tRet (tC (.str "bad")))])
      rfl rfl L2.takes0
      (fun W' pn xe tk _ => pss_one (ps_ret (pe_call Gm hr rfl gm km bm .nil (passLen tk) (pa_cons (pv 0) (pa_cons (pv 1) pa_nil)))))
      (.plain ⟨rfl, by decide, Or.inl gC⟩ (fun a oe cls d pn hz hf => pss_one (ps_ret pe_str)) .nil))), ?_⟩
    obtain ⟨p, cv, rs, rfl, hw, g, hv⟩ := h
    refine ⟨_, rfl, _, rfl, p, cv, rs, rfl, hw, g, ?_⟩
    rcases hv with ⟨hc, q⟩ | ⟨cs, hcs, h8, hnd, hcr, hA, q⟩
    · exact .inl ⟨hc, fun H' s' σ hl => ⟨true, x3, fun _ a na => q H' s', fun z => nomatch z⟩⟩
    · exact .inr ⟨cs, hcs, h8, hnd, hcr, hA, q⟩
end
end K59
end L2
set_option Elab.async false
set_option linter.all false
set_option maxRecDepth 100000
set_option maxHeartbeats 4000000
namespace L2
namespace K59
open PySem PySem.Spec PyProof.Rows K1 WL LamX
section
variable {P : Program} {w : World} {K : PySem.W.Frag} {mg : Str → Option Value} {base : Heap} {f : Addr} {fd : FuncData}
/-! ### _law_sources -/
theorem ok_lsources (F : FnP K "_law_sources" "_law_sources" s_sources f fd) : FnOk P w K mg base CX0 1 f fd ["_law_rows", "_law_cell_here"] (spSourcesL K) := by
  refine F.ok sc_sources (fun vs H Q E h => ?_) (fun cdv A outer s H vs Q E hr h => ?_)
  · obtain ⟨a, vl, rs, r, rfl, _⟩ := h
    rfl
  · have nd := sc_sources.nd
    refine ⟨_, PSs.nox (pss_one (ps_ret (pe_ix ix_list (pe_lc (own := [("_law_other", 2), ("_law_sources_here", 3)]) (g := gSeq K 2 (gCons (gName 2) (gCons (gName 3) gNil))) (tt := tTest (tOp rEq (tVar 2) (tVar 1))) (te := tVar 3) rfl nd (pi_list (pv 0)) (blkOk_by (N := nmSO) (sc := defScope s_sources) (by decide +kernel))
      (fun _ _ _ _ _ => pg_seq rfl (pgs_cons (pg_name (i := 2) nd rfl (Or.inl rfl)) (pgs_cons (pg_name (i := 3) nd rfl (Or.inl rfl)) pgs_nil))) (fun _ _ _ _ _ => pts_one (pt_cmpR op_eq (pv 2) (pv 1) (nomark _))) (fun _ _ _ _ _ => pv 3)) pe_int fun _ _ => rfl))), ?_⟩
    obtain ⟨a, vl, rs, r, rfl, hs, hrow, hl, hnd, hm, q⟩ := h
    obtain ⟨k, hk⟩ := List.getElem?_of_mem hm
    obtain ⟨v0, hv0, t0, l0, rfl, et0, el0⟩ := Paired.get hrow hk
    have lv := Paired.length hrow
    have kl : k < rs.length := (List.getElem?_eq_some_iff.mp hk).1
    refine ⟨_, rfl, a, rfl, ⟨_, hs⟩, fun D nD => ?_⟩
    refine lc_it (walk_list (xs := vl)) (fun i H' => Same H H' ∧ H' D = some (.lst (if k < i then [V.ref l0] else []))) ⟨same_upd nD, upd_same⟩ (fun i H' _ p => p.1.seq hs) ?_ ?_
    · rintro i x H1 H1' hi ⟨s1, e1⟩ ⟨rfl, hx⟩
      obtain ⟨r', hr', t, l, rfl, et, el⟩ := Paired.getL hrow hx
      refine ⟨_, ⟨t, rfl, .inl (SqL.of (s1 _ _ et))⟩, rfl, _, _, rfl, _, _, rfl, rfl, rfl, _, rfl, _, rfl, rfl, _, rfl, ?_⟩
      by_cases e : i = k
      · subst e
        rw [hk] at hr'
        obtain rfl := Option.some.inj hr'
        rw [hv0] at hx
        have : t0 = t := V.ref.inj (Option.some.inj hx)
        subst this
        rw [et0] at et
        have el0' : l0 = l := by
          have := HO.lst.inj (Option.some.inj et)
          exact V.ref.inj (List.cons.inj (List.cons.inj this).2).1
        subst el0'
        refine iteP (decide_eq_true rfl) ⟨_, rfl, _, e1, ?_, same_over nD s1, ?_⟩
        · rw [if_neg (Nat.lt_irrefl _)]
          decide
        · rw [upd_same, if_neg (Nat.lt_irrefl _), if_pos (Nat.lt_succ_self _)]
          rfl
      · have ne : r'.1 ≠ r.1 := fun z => by
          have h1 : (rs.map Prod.fst)[i]? = some r.1 := by rw [List.getElem?_map, hr', ← z]; rfl
          have h2 : (rs.map Prod.fst)[k]? = some r.1 := by rw [List.getElem?_map, hk]; rfl
          exact e ((List.getElem?_inj (by rw [List.length_map]; omega) hnd).mp (h1.trans h2.symm))
        refine iteN (decide_eq_false fun z => ne (V.str.inj z)) ⟨s1, ?_⟩
        rw [e1]
        by_cases c : k < i
        · rw [if_pos c, if_pos (by omega)]
        · rw [if_neg c, if_neg (by omega)]
    · rintro H1 ⟨s1, e1⟩
      rw [if_pos (by omega)] at e1
      exact ⟨D, [.ref l0], 0, .ref l0, rfl, rfl, SqL.of e1, rfl, q l0 H1 s1 el0⟩
/-! ### _law_race_arrows -/
def spRAL (K : PySem.W.Frag) : Sp := fun vs H Q _ => ∃ (a : Addr) (cv : V) (vl : List V) (rs : Rws) (cs : List Str), vs = [.ref a, cv] ∧ SqL K H a vl ∧ Paired (RowL H) vl rs ∧ rs.length ≤ 8 ∧ (∀ r ∈ rs, r.2.length ≤ 8) ∧ Seq K H cv (cs.map .str) ∧ ∀ D pl H', Same H H' → H D = none → H' D = some (.lst pl) → Paired (PairT H') pl (raceA rs cs) → Q (.ref D) H'
abbrev nmRL : List Str := ["_law_rows", "_law_cells_here", "_law_source", "_law_cell_here"]
theorem sc_ral : FnScope nmRL ["_law_rows", "_law_cells_here"] (defScope s_l_race_arrows) := ⟨rfl, rfl, rfl, by decide +kernel, rfl, by decide +kernel, by decide +kernel⟩
theorem ok_ral (Ca : Cal P w K mg base "_law_arrows" ["_law_rows"] 1 (spArrowsL K)) (F : FnP K "_law_race_arrows" "_law_race_arrows" s_l_race_arrows f fd) : FnOk P w K mg base CX0 2 f fd ["_law_rows", "_law_cells_here"] (spRAL K) := by
  obtain ⟨fa', fda, Ga, ga, ka, ba⟩ := Ca.ex
  refine F.ok sc_ral (fun vs H Q E h => ?_) (fun cdv A outer s H vs Q E hr h => ?_)
  · obtain ⟨a, cv, vl, rs, cs, rfl, _⟩ := h
    rfl
  · have nd := sc_ral.nd
    refine ⟨_, PSs.nox (pss_one (ps_ret (pe_lc (own := [("_law_source", 2), ("_law_cell_here", 3)]) (g := gSeq K 2 (gCons (gName 2) (gCons (gName 3) gNil))) (tt := tTest (tOp (rIn K false) (tVar 3) (tVar 1))) (te := tTup (tCons (tVar 2) (tCons (tVar 3) tNil))) rfl nd (pi_list (pe_call Ga hr rfl ga ka ba .nil pass0 (pa_cons (pv 0) pa_nil))) (blkOk_by (N := nmRL) (sc := defScope s_l_race_arrows) (by decide +kernel))
      (fun _ _ _ _ _ => pg_seq rfl (pgs_cons (pg_name (i := 2) nd rfl (Or.inl rfl)) (pgs_cons (pg_name (i := 3) nd rfl (Or.inl rfl)) pgs_nil))) (fun _ _ _ _ _ => pts_one (pt_cmpR op_in_seq (pv 3) (pv 1) rfl)) (fun _ _ _ _ _ => pe_tup (pa_cons (pv 2) (pa_cons (pv 3) pa_nil)))))), ?_⟩
    obtain ⟨a, cv, vl, rs, cs, rfl, hs, hrow, hl, h8, hcs, q⟩ := h
    refine ⟨_, rfl, a, vl, rs, rfl, hs, hrow, hl, h8, fun u ul H1 s1 nu eu hul => ?_⟩
    have lul := Paired.length hul
    have l64 : (arr rs).length ≤ 8 * 8 := Nat.le_trans (arr_len8 h8) (Nat.mul_le_mul_right _ hl)
    obtain ⟨ca, rfl, hca⟩ := hcs.same s1
    refine ⟨u, rfl, ⟨_, SqL.of eu⟩, fun D nD => ?_⟩
    refine lc_it (walk_list (xs := ul)) (fun i H' => Same H1 H' ∧ ∃ pl, H' D = some (.lst pl) ∧ Paired (PairT (hide D H')) pl (((arr rs).take i).filter fun a => decide (a.2 ∈ cs))) ⟨same_upd nD, [], upd_same, .nil⟩ (fun i H' _ p => SqL.of (p.1 _ _ eu)) ?_ ?_
    · rintro i x H2o H2 hi ⟨s2, pl, eD, hpl⟩ ⟨rfl, hx⟩
      obtain ⟨b, hb, q1, rfl, e1⟩ := Paired.getL hul hx
      have ft := filt_take (p := fun a : Str × Str => decide (a.2 ∈ cs)) hb
      have hca2 : SqL K H2 ca (cs.map .str) ∨ SqT K H2 ca (cs.map .str) := by
        rcases hca with h | h
        · exact .inl (s2.seq h)
        · exact .inr (SqT.same h s2)
      refine ⟨_, ⟨q1, rfl, .inr (SqT.of (s2 _ _ e1))⟩, rfl, _, _, rfl, _, _, rfl, rfl, rfl, _, rfl, _, rfl, ca, _, rfl, hca2, rfl, flat_strs' _, _, rfl, ?_⟩
      by_cases m : b.2 ∈ cs
      · have eb : inV (.str b.2) (cs.map V.str) = true := by rw [in_strs, decide_eq_true m]
        refine iteP eb ⟨_, rfl, _, rfl, (show 2 ≤ sizeLine by decide), fun w1 nw1 => ?_⟩
        have sw := same_upd (o := .tup [.str b.1, .str b.2]) nw1
        have ew : (upd H2 w1 (.tup [.str b.1, .str b.2])) w1 = some (.tup [.str b.1, .str b.2]) := upd_same
        have wD : w1 ≠ D := fun e => by rw [e, eD] at nw1; cases nw1
        have eD2 := sw _ _ eD
        generalize upd H2 w1 (.tup [.str b.1, .str b.2]) = H3 at *
        refine ⟨pl, eD2, ?_, same_over nD (s2.trans sw), _, upd_same, ?_⟩
        · have l2 := List.length_filter_le (fun a : Str × Str => decide (a.2 ∈ cs)) ((arr rs).take i)
          rw [List.length_take] at l2
          rw [Paired.length hpl, sizeLine_eq]
          omega
        · rw [hide_updp, ft, if_pos (decide_eq_true m)]
          refine Paired.snoc (Paired.imp (fun _ _ h => PairT_same h (hide_same sw)) hpl) ⟨w1, rfl, ?_⟩
          rw [hide_ne wD]
          exact ew
      · have eb : inV (.str b.2) (cs.map V.str) = false := by rw [in_strs, decide_eq_false m]
        refine iteN eb ⟨s2, pl, eD, ?_⟩
        rw [ft, if_neg (by rw [decide_eq_false m]; decide), List.append_nil]
        exact hpl
    · rintro H2 ⟨s2, pl, eD, hpl⟩
      rw [lul, List.take_length] at hpl
      refine q D pl H2 (s1.trans s2) (s1.free nD) eD (Paired.imp (fun _ _ h => PairT_same h hide_le) hpl)
end
end K59
end L2
set_option Elab.async false
set_option linter.all false
set_option maxRecDepth 100000
set_option maxHeartbeats 4000000
namespace L2
namespace K59
open PySem PySem.Spec PyProof.Rows K1 WL LamX
section
variable {P : Program} {w : World} {K : PySem.W.Frag} {mg : Str → Option Value} {base : Heap} {f : Addr} {fd : FuncData}
/-! ### _law_race -/
/-- an act as the law draws it -/
def RaceV (H : Hp) (v : V) (a : RAct) : Prop := (∃ t x c, v = .ref t ∧ a = .rd (some x) c ∧ H t = some (.tup [.str "read", .str x, .str c])) ∨ ∃ t c, v = .ref t ∧ a = .wr (some c) ∧ H t = some (.tup [.str "write", .str c])
theorem RaceV.same {H H' : Hp} {v : V} {a : RAct} (h : RaceV H v a) (s : Same H H') : RaceV H' v a := by
  rcases h with ⟨t, x, c, h1, h2, h3⟩ | ⟨t, c, h1, h2, h3⟩
  · exact .inl ⟨t, x, c, h1, h2, s _ _ h3⟩
  · exact .inr ⟨t, c, h1, h2, s _ _ h3⟩
theorem RaceV.upd {H : Hp} {v : V} {a : RAct} {b : Addr} {o o' : HO} (h : RaceV H v a) (e : H b = some o) (no : ∀ ys, o ≠ .tup ys) : RaceV (L2.upd H b o') v a := by
  have k : ∀ t ys, H t = some (.tup ys) → L2.upd H b o' t = some (.tup ys) := fun t ys et => by
    rw [upd_ne (fun z => by rw [z, e] at et; exact no ys (Option.some.inj et))]
    exact et
  rcases h with ⟨t, x, c, h1, h2, h3⟩ | ⟨t, c, h1, h2, h3⟩
  · exact .inl ⟨t, x, c, h1, h2, k _ _ h3⟩
  · exact .inr ⟨t, c, h1, h2, k _ _ h3⟩
theorem RaceV.act {H : Hp} {v : V} {a : RAct} (h : RaceV H v a) : ActV K H v a := by
  rcases h with ⟨t, x, c, rfl, rfl, h3⟩ | ⟨t, c, rfl, rfl, h3⟩
  · exact ⟨.str x, ⟨t, rfl, .inr (SqT.of h3)⟩, rfl⟩
  · exact ⟨.str c, ⟨t, rfl, .inr (SqT.of h3)⟩, rfl⟩
/-- what is left to read: a cell, its list, what stands in it -/
abbrev Lft : Type := List (Str × Addr × List Str)
def lD (es : Lft) : List (Key × V) := es.map fun e => (kS e.1, .ref e.2.1)
def lM (es : Lft) : Nat := (es.map fun e => e.2.2.length + 1).sum
structure LftOk (B : Hp) (d : Addr) (es : Lft) : Prop where
  kN : (es.map fun e => e.1).Nodup
  aN : (es.map fun e => e.2.1).Nodup
  at_ : ∀ e ∈ es, B e.2.1 = some (.lst (e.2.2.map .str))
  nd : B d = some (.dK (lD es))
theorem LftOk.same {B B' : Hp} {d : Addr} {es : Lft} (h : LftOk B d es) (s : Same B B') : LftOk B' d es := ⟨h.kN, h.aN, fun e m => s _ _ (h.at_ e m), s _ _ h.nd⟩
theorem LftOk.ne {B : Hp} {d : Addr} {es : Lft} (h : LftOk B d es) {e : Str × Addr × List Str} (m : e ∈ es) : e.2.1 ≠ d := fun z => by
  have := h.at_ e m
  rw [z, h.nd] at this
  cases this
theorem LftOk.upd {B : Hp} {d b : Addr} {es : Lft} {o : HO} (h : LftOk B d es) (hd : b ≠ d) (he : ∀ e ∈ es, e.2.1 ≠ b) : LftOk (L2.upd B b o) d es := ⟨h.kN, h.aN, fun e m => by rw [upd_ne (he e m)]; exact h.at_ e m, by rw [upd_ne (Ne.symm hd)]; exact h.nd⟩
theorem lD_in {es : Lft} {e : Str × Addr × List Str} (h : (es.map fun e => e.1).Nodup) (m : e ∈ es) : valV (lD es) (kS e.1) = some (.ref e.2.1) := by
  induction es with
  | nil => cases m
  | cons x es ih =>
    rw [List.map_cons] at h
    obtain ⟨h1, h2⟩ := List.nodup_cons.mp h
    rcases List.mem_cons.mp m with rfl | m
    · exact valV_pos rfl
    · have ne : ¬ kS x.1 = kS e.1 := fun z => h1 (List.mem_map.mpr ⟨e, m, (Sum.inr.inj z).symm⟩)
      exact (valV_neg (p := (kS x.1, V.ref x.2.1)) ne).trans (ih h2 m)
theorem lD_new {es : Lft} {c : Str} {v : V} (n : c ∉ es.map fun e => e.1) : putK (lD es) (kS c) v = lD es ++ [(kS c, v)] := putK_fresh fun p hp => by
  obtain ⟨e, he, rfl⟩ := List.mem_map.mp hp
  exact fun z => n (List.mem_map.mpr ⟨e, he, Sum.inr.inj z⟩)
theorem lD_drop {es : Lft} {c : Str} : dropK (lD es) (kS c) = lD (es.filter fun e => decide (e.1 ≠ c)) := by
  unfold dropK lD
  rw [List.filter_map]
  congr 1
  refine List.filter_congr fun e _ => ?_
  show decide (kS e.1 ≠ kS c) = decide (e.1 ≠ c)
  rw [decide_eq_decide]
  exact ⟨fun h z => h (by rw [z]), fun h z => h (Sum.inr.inj z)⟩
theorem lM_drop {es : Lft} {e : Str × Addr × List Str} (h : (es.map fun e => e.1).Nodup) (m : e ∈ es) : lM (es.filter fun x => decide (x.1 ≠ e.1)) + (e.2.2.length + 1) = lM es := by
  induction es with
  | nil => cases m
  | cons x es ih =>
    rw [List.map_cons] at h
    obtain ⟨h1, h2⟩ := List.nodup_cons.mp h
    show _ = (x.2.2.length + 1) + lM es
    rcases List.mem_cons.mp m with rfl | m
    · rw [List.filter_cons_of_neg (by simp)]
      have : es.filter (fun x => decide (x.1 ≠ e.1)) = es := List.filter_eq_self.mpr fun y hy => decide_eq_true fun z => h1 (List.mem_map.mpr ⟨y, hy, z⟩)
      rw [this]
      omega
    · have ne : x.1 ≠ e.1 := fun z => h1 (List.mem_map.mpr ⟨e, m, z.symm⟩)
      rw [List.filter_cons_of_pos (by simpa using ne)]
      have := ih h2 m
      show (x.2.2.length + 1) + lM (es.filter fun x => decide (x.1 ≠ e.1)) + _ = _
      omega
/-- the first of a cell's list taken -/
def lPop (es : Lft) (c : Str) : Lft := es.map fun e => if e.1 = c then (e.1, e.2.1, e.2.2.drop 1) else e
theorem lPop_fst (es : Lft) (c : Str) : (lPop es c).map (fun e => e.1) = es.map fun e => e.1 := by
  unfold lPop
  rw [List.map_map]
  refine List.map_congr_left fun e _ => ?_
  show (if e.1 = c then (e.1, e.2.1, e.2.2.drop 1) else e).1 = e.1
  split <;> rfl
theorem lPop_snd (es : Lft) (c : Str) : (lPop es c).map (fun e => e.2.1) = es.map fun e => e.2.1 := by
  unfold lPop
  rw [List.map_map]
  refine List.map_congr_left fun e _ => ?_
  show (if e.1 = c then (e.1, e.2.1, e.2.2.drop 1) else e).2.1 = e.2.1
  split <;> rfl
theorem lPop_lD (es : Lft) (c : Str) : lD (lPop es c) = lD es := by
  unfold lD lPop
  rw [List.map_map]
  refine List.map_congr_left fun e _ => ?_
  show (kS (if e.1 = c then (e.1, e.2.1, e.2.2.drop 1) else e).1, V.ref (if e.1 = c then (e.1, e.2.1, e.2.2.drop 1) else e).2.1) = _
  split <;> rfl
theorem lPop_none {es : Lft} {c : Str} (n : c ∉ es.map fun e => e.1) : lPop es c = es := by
  unfold lPop
  conv => rhs; rw [← List.map_id es]
  refine List.map_congr_left fun e he => if_neg fun z => n (List.mem_map.mpr ⟨e, he, z⟩)
theorem lM_pop {es : Lft} {e : Str × Addr × List Str} (h : (es.map fun e => e.1).Nodup) (m : e ∈ es) (l : e.2.2 ≠ []) : lM (lPop es e.1) + 1 = lM es := by
  induction es with
  | nil => cases m
  | cons x es ih =>
    rw [List.map_cons] at h
    obtain ⟨h1, h2⟩ := List.nodup_cons.mp h
    show ((if x.1 = e.1 then (x.1, x.2.1, x.2.2.drop 1) else x).2.2.length + 1) + lM (lPop es e.1) + 1 = (x.2.2.length + 1) + lM es
    rcases List.mem_cons.mp m with rfl | m
    · rw [if_pos rfl, lPop_none h1, List.length_drop]
      have := List.length_pos_iff.mpr l
      show (e.2.2.length - 1 + 1) + _ + 1 = _
      omega
    · have ne : x.1 ≠ e.1 := fun z => h1 (List.mem_map.mpr ⟨e, m, z.symm⟩)
      rw [if_neg ne]
      have := ih h2 m
      omega
theorem LftOk.drop {B : Hp} {d : Addr} {es : Lft} (h : LftOk B d es) (c : Str) : LftOk (L2.upd B d (.dK (lD (es.filter fun e => decide (e.1 ≠ c))))) d (es.filter fun e => decide (e.1 ≠ c)) :=
  ⟨List.Nodup.sublist (List.Sublist.map _ List.filter_sublist) h.kN, List.Nodup.sublist (List.Sublist.map _ List.filter_sublist) h.aN, fun e m => by
    have m' := (List.mem_filter.mp m).1
    rw [upd_ne (h.ne m')]
    exact h.at_ e m', upd_same⟩
theorem inj_of {α β : Type} {f : α → β} : ∀ {l : List α}, (l.map f).Nodup → ∀ {a b : α}, a ∈ l → b ∈ l → f a = f b → a = b
  | x :: l, h, a, b, ha, hb, e => by
    rw [List.map_cons] at h
    obtain ⟨h1, h2⟩ := List.nodup_cons.mp h
    rcases List.mem_cons.mp ha with ea | ha2
    · rcases List.mem_cons.mp hb with eb | hb2
      · rw [ea, eb]
      · exact absurd (List.mem_map.mpr ⟨b, hb2, by rw [← ea, e]⟩) h1
    · rcases List.mem_cons.mp hb with eb | hb2
      · exact absurd (List.mem_map.mpr ⟨a, ha2, by rw [← eb, e]⟩) h1
      · exact inj_of h2 ha2 hb2 e
theorem LftOk.pop {B : Hp} {d : Addr} {es : Lft} (h : LftOk B d es) {e : Str × Addr × List Str} (m : e ∈ es) : LftOk (L2.upd B e.2.1 (.lst ((e.2.2.drop 1).map .str))) d (lPop es e.1) := by
  refine ⟨by rw [lPop_fst]; exact h.kN, by rw [lPop_snd]; exact h.aN, fun x hx => ?_, ?_⟩
  · obtain ⟨y, hy, rfl⟩ := List.mem_map.mp hx
    by_cases c : y.1 = e.1
    · obtain rfl := inj_of h.kN hy m c
      rw [if_pos rfl]
      exact upd_same
    · rw [if_neg c, upd_ne (fun z => c (by rw [inj_of h.aN hy m z]))]
      exact h.at_ y hy
  · rw [upd_ne (Ne.symm (h.ne m)), lPop_lD]
    exact h.nd
/-- how far a drawn race has come -/
theorem rgo_snoc {A : List Ar} {C : List Str} : ∀ {l : List RAct} {s s1 s2 : RSt} {i : Nat} {a : RAct}, rgo A C l s i = .inr s1 → rstep A C s1 a = some s2 → rgo A C (l ++ [a]) s i = .inr s2
  | [], s, s1, s2, i, a, e, h => by
    have e : s = s1 := Sum.inr.inj e
    subst e
    show (match rstep A C s a with
      | none => Sum.inl i
      | some s' => rgo A C [] s' (i + 1)) = _
    rw [h]
    rfl
  | b :: l, s, s1, s2, i, a, e, h => by
    rw [List.cons_append]
    unfold rgo at e ⊢
    split at e
    · cases e
    · exact rgo_snoc e h
def RunI (A : List Ar) (cs : List Str) (al : List RAct) (es : Lft) : Prop := ∃ s, rgo A cs al ([], []) 0 = .inr s ∧ (∀ c ∈ cs, c ∈ s.2 ↔ c ∉ es.map fun e => e.1) ∧ ∀ e ∈ es, e.1 ∈ cs ∧ e.2.2.Nodup ∧ ∀ x, x ∈ e.2.2 ↔ (x, e.1) ∈ A ∧ (x, e.1) ∉ s.1.map Prod.fst
theorem RunI.wr {A : List Ar} {cs : List Str} {al : List RAct} {es : Lft} (h : RunI A cs al es) {e : Str × Addr × List Str} (m : e ∈ es) (z : e.2.2 = []) : RunI A cs (al ++ [.wr (some e.1)]) (es.filter fun x => decide (x.1 ≠ e.1)) := by
  obtain ⟨s, h1, h3, h4⟩ := h
  obtain ⟨k1, k2, k3⟩ := h4 e m
  have hns : e.1 ∉ s.2 := fun q => (h3 _ k1).mp q (List.mem_map.mpr ⟨e, m, rfl⟩)
  refine ⟨(s.1, s.2 ++ [e.1]), rgo_snoc h1 ?_, fun c hc => ?_, fun x hx => h4 x (List.mem_filter.mp hx).1⟩
  · rw [rstep_wrE]
    refine if_pos ⟨k1, hns, fun q => ?_⟩
    obtain ⟨a, ha, ea⟩ := List.mem_map.mp q
    obtain ⟨a1, a2⟩ := mem_unrd.mp ha
    have : a.1 ∈ e.2.2 := (k3 a.1).mpr (by rw [← ea]; exact ⟨a1, a2⟩)
    rw [z] at this
    cases this
  · show c ∈ s.2 ++ [e.1] ↔ _
    rw [List.mem_append, List.mem_singleton, h3 c hc]
    constructor
    · rintro (q | rfl) r
      · obtain ⟨x, hx, rfl⟩ := List.mem_map.mp r
        exact q (List.mem_map.mpr ⟨x, (List.mem_filter.mp hx).1, rfl⟩)
      · obtain ⟨x, hx, ex⟩ := List.mem_map.mp r
        exact of_decide_eq_true (List.mem_filter.mp hx).2 ex
    · intro q
      by_cases r : c = e.1
      · exact .inr r
      · refine .inl fun w => q ?_
        obtain ⟨x, hx, rfl⟩ := List.mem_map.mp w
        exact List.mem_map.mpr ⟨x, List.mem_filter.mpr ⟨hx, decide_eq_true r⟩, rfl⟩
theorem RunI.rd {A : List Ar} {cs : List Str} {al : List RAct} {es : Lft} (h : RunI A cs al es) (kN : (es.map fun e => e.1).Nodup) {e : Str × Addr × List Str} (m : e ∈ es) {x : Str} {ys : List Str} (z : e.2.2 = x :: ys) : RunI A cs (al ++ [.rd (some x) e.1]) (lPop es e.1) := by
  obtain ⟨s, h1, h3, h4⟩ := h
  obtain ⟨k1, k2, k3⟩ := h4 e m
  have hns : e.1 ∉ s.2 := fun q => (h3 _ k1).mp q (List.mem_map.mpr ⟨e, m, rfl⟩)
  have hx := (k3 x).mp (by rw [z]; exact List.mem_cons_self ..)
  refine ⟨(s.1 ++ [((x, e.1), decide (x ∈ s.2))], s.2), rgo_snoc h1 ?_, fun c hc => by rw [lPop_fst]; exact h3 c hc, fun y hy => ?_⟩
  · rw [rstep_rdE]
    exact if_pos ⟨hx.1, hx.2, hns⟩
  · obtain ⟨y0, hy0, rfl⟩ := List.mem_map.mp hy
    obtain ⟨j1, j2, j3⟩ := h4 y0 hy0
    by_cases c : y0.1 = e.1
    · obtain rfl := inj_of kN hy0 m c
      rw [if_pos rfl]
      refine ⟨j1, by rw [z] at j2 ⊢; exact (List.nodup_cons.mp j2).2, fun u => ?_⟩
      show u ∈ y0.2.2.drop 1 ↔ (u, y0.1) ∈ A ∧ (u, y0.1) ∉ (s.1 ++ [((x, y0.1), decide (x ∈ s.2))]).map Prod.fst
      rw [map_snoc, List.mem_append, List.mem_singleton, z]
      show u ∈ ys ↔ _
      have k3u := k3 u
      rw [z] at k3u
      rw [z] at j2
      obtain ⟨n1, n2⟩ := List.nodup_cons.mp j2
      constructor
      · intro q
        have := k3u.mp (List.mem_cons_of_mem _ q)
        refine ⟨this.1, fun w => ?_⟩
        rcases w with w | w
        · exact this.2 w
        · exact n1 ((Prod.mk.inj w).1 ▸ q)
      · rintro ⟨q1, q2⟩
        rcases List.mem_cons.mp (k3u.mpr ⟨q1, fun w => q2 (.inl w)⟩) with rfl | w
        · exact absurd (.inr rfl) q2
        · exact w
    · rw [if_neg c]
      refine ⟨j1, j2, fun u => ?_⟩
      show u ∈ y0.2.2 ↔ (u, y0.1) ∈ A ∧ (u, y0.1) ∉ (s.1 ++ [((x, e.1), decide (x ∈ s.2))]).map Prod.fst
      rw [map_snoc, List.mem_append, List.mem_singleton, j3 u]
      constructor
      · rintro ⟨q1, q2⟩
        exact ⟨q1, fun w => w.elim q2 fun w => c (Prod.mk.inj w).2⟩
      · rintro ⟨q1, q2⟩
        exact ⟨q1, fun w => q2 (.inl w)⟩
theorem mem_raceA {rs : Rws} {cs : List Str} {x c : Str} : (x, c) ∈ raceA rs cs ↔ c ∈ cs ∧ ∃ r ∈ rs, r.1 = c ∧ x ∈ r.2 := by
  unfold raceA
  rw [List.mem_filter, decide_eq_true_iff]
  unfold arr
  rw [List.mem_flatMap]
  constructor
  · rintro ⟨⟨r, hr, hx⟩, hc⟩
    obtain ⟨y, hy, ey⟩ := List.mem_map.mp hx
    obtain ⟨rfl, rfl⟩ := Prod.mk.inj ey
    exact ⟨hc, r, hr, rfl, hy⟩
  · rintro ⟨hc, r, hr, rfl, hx⟩
    exact ⟨⟨r, hr, List.mem_map.mpr ⟨x, hx, rfl⟩⟩, hc⟩
theorem RunI.zero {rs : Rws} {cs : List Str} {es : Lft} (nd : (rs.map Prod.fst).Nodup) (hr : ∀ r ∈ rs, r.2.Nodup) (hf : (es.map fun e => e.1) = cs) (he : ∀ e ∈ es, ∃ r ∈ rs, r.1 = e.1 ∧ e.2.2.Perm r.2) : RunI (raceA rs cs) cs [] es := by
  refine ⟨([], []), rfl, fun c hc => ⟨(fun h => nomatch h), fun h => absurd (hf ▸ hc) h⟩, fun e m => ?_⟩
  have hc : e.1 ∈ cs := hf ▸ List.mem_map.mpr ⟨e, m, rfl⟩
  obtain ⟨r, h1, h2, h3⟩ := he e m
  refine ⟨hc, h3.nodup_iff.mpr (hr r h1), fun x => ?_⟩
  rw [mem_raceA, h3.mem_iff]
  constructor
  · exact fun q => ⟨⟨hc, r, h1, h2, q⟩, fun h => nomatch h⟩
  · rintro ⟨⟨_, r', h1', h2', q⟩, _⟩
    obtain rfl := inj_of nd h1' h1 (h2'.trans h2.symm)
    exact q
def spRaceL (K : PySem.W.Frag) : Sp := fun vs H Q _ => ∃ (p a ca : Addr) (vl : List V) (rs : Rws) (cs : List Str) (n : Nat), vs = [.ref p, .ref a, .ref ca] ∧ Pl H p n ∧ n ≤ 600000000 ∧ SqL K (hide p H) a vl ∧ Paired (RowL (hide p H)) vl rs ∧ rs.length ≤ 8 ∧ (rs.map Prod.fst).Nodup ∧ (∀ r ∈ rs, r.2.length ≤ 8) ∧
  SqL K (hide p H) ca (cs.map .str) ∧ cs.Nodup ∧ (∀ c ∈ cs, c ∈ rs.map Prod.fst) ∧ ∀ (xs : List V) (al : List RAct) H' q, Same (hide p H) (hide p H') → Pl H' p (n + 250) → hide p H q = none → hide p H' q = some (.lst xs) → Paired (RaceV (hide p H')) xs al → al.length ≤ 72 → ((∀ r ∈ rs, r.2.Nodup) → ∃ s, rgo (raceA rs cs) cs al ([], []) 0 = .inr s ∧ ∀ c ∈ cs, c ∈ s.2) → Q (.ref q) H'
abbrev nmRC : List Str := ["_law_pool_here", "_law_rows", "_law_cells_here", "_law_left", "_law_cell_here", "_law_found"]
theorem sc_race : FnScope nmRC ["_law_pool_here", "_law_rows", "_law_cells_here"] (defScope s_race) := ⟨rfl, rfl, rfl, by decide +kernel, rfl, by decide +kernel, by decide +kernel⟩
theorem ok_race (T : Bl mg) (Ct : Cal P w K mg base "_law_take" ["_law_pool_here", "_law_many"] 1 spTakeL) (Cp : Cal P w K mg base "_law_picked" ["_law_pool_here", "_law_things", "_law_share"] 2 (spPicked K)) (Cs : Cal P w K mg base "_law_sources" ["_law_rows", "_law_cell_here"] 1 (spSourcesL K))
    (F : FnP K "_law_race" "_law_race" s_race f fd) : FnOk P w K mg base CX0 3 f fd ["_law_pool_here", "_law_rows", "_law_cells_here"] (spRaceL K) := by
  obtain ⟨ft, fdt, Gt, gt, kt, bt⟩ := Ct.ex
  obtain ⟨fp, fdp, Gp, gp, kp, bp⟩ := Cp.ex
  obtain ⟨fs, fds, Gs, gs, ks, bs⟩ := Cs.ex
  refine F.ok sc_race (fun vs H Q E h => ?_) (fun cdv A outer s H vs Q E hr h => ?_)
  · obtain ⟨p, a, ca, vl, rs, cs, n, rfl, _⟩ := h
    rfl
  · have nd := sc_race.nd
    have hu := hr.units
    have h1 := hr.mono (show 1 ≤ 2 by decide)
    refine ⟨_, PSs.nox (pss_cons (ps_set (i := 3) nd rfl (Or.inl rfl) pe_dnewK)
      (pss_cons (ps_for PassesOwn.never rfl (pi_list (pv 2)) (pg_name (i := 4) nd rfl (Or.inl rfl))
        (pss_one (ps_dput (hu_of hr) (pv 3) (pv 4) (pe_call Gp hr rfl gp kp bp .nil pass0 (pa_cons (pv 0) (pa_cons (pe_call Gs h1 rfl gs ks bs .nil pass0 (pa_cons (pv 1) (pa_cons (pv 4) pa_nil))) (pa_cons pe_int pa_nil)))) rfl)))
      (pss_cons (ps_set (i := 5) nd rfl (Or.inl rfl) (pe_lst pa_nil))
      (pss_cons (ps_while PassesOwn.never (pt_cmpR (op_neNil hu) (pe_callTy (call_list_dK rfl) rfl T.f_list PyProof.Rows.boot_list (pa_cons (pv 3) pa_nil)) (pe_lst pa_nil) (nomark _))
        (pss_cons (ps_set (i := 4) nd rfl (Or.inl rfl) (pe_ix ix_list (pe_callTy (call_list_dK rfl) rfl T.f_list PyProof.Rows.boot_list (pa_cons (pv 3) pa_nil)) (pe_call Gt h1 rfl gt kt bt .nil pass0 (pa_cons (pv 0) (pa_cons (pe_callB call_lenD rfl T.f_len boot_len (pa_cons (pv 3) pa_nil)) pa_nil))) fun _ _ => rfl))
        (pss_one (ps_if (pt_cmpR (op_eqNil hu) (pe_dget (hu_of hr) (pv 3) (pv 4) fun _ _ => rfl) (pe_lst pa_nil) (nomark _))
          (pss_cons (ps_expr (pe_bm PySem.F.plainAttrs_list PySem.F.slot_list_append PySem.F.type_list_append mt_append (pv 5) (pa_cons (pe_tup (pa_cons pe_str (pa_cons (pv 4) pa_nil))) pa_nil)))
            (pss_one (ps_expr (pe_dpop1 (pv 3) (pv 4) ⟨rfl, rfl, rfl, rfl⟩))))
          (pss_one (ps_expr (pe_bm PySem.F.plainAttrs_list PySem.F.slot_list_append PySem.F.type_list_append mt_append (pv 5) (pa_cons (pe_tup (pa_cons pe_str (pa_cons (pe_bm PySem.F.plainAttrs_list PySem.F.slot_list_pop PySem.F.type_list_pop mt_popAt (pe_dget (hu_of hr) (pv 3) (pv 4) fun _ _ => rfl) (pa_cons pe_int pa_nil)) (pa_cons (pv 4) pa_nil)))) pa_nil))))))))
      (pss_one (ps_ret (pv 5))))))), ?_⟩
    obtain ⟨p, a, ca, vl, rs, cs, n, rfl, hP, hn, hs, hrow, hl8, hrn, hr8, hca, hcn, hcr, q⟩ := h
    have lcs : cs.length ≤ 8 := by
      have := pig hcn hcr
      rw [List.length_map] at this
      omega
    refine fun d nd' => ?_
    obtain ⟨dp, sd, ed⟩ := hide_new (o := .dK []) hP.ne nd'
    have P1 := hP.new (o := .dK []) nd'
    have nd0 : hide p H d = none := hide_none nd'
    generalize upd H d (.dK []) = H1 at *
    refine g_nm ?_
    dsimp only
    refine t_seqF ?_
    refine ⟨_, rfl, ca, rfl, ⟨_, (sd.trans hide_le).seq hca⟩, ?_⟩
    refine for_it (walk_list (xs := cs.map .str)) (fun i σ H' => ∃ (es : Lft) (o4 o5 : Option V), σ = [some (.ref p), some (.ref a), some (.ref ca), some (.ref d), o4, o5] ∧ Same (hide p H) (hide p H') ∧ Pl H' p (n + 16 * i) ∧ LftOk (hide p H') d es ∧ es.map (fun e => e.1) = cs.take i ∧ ∀ e ∈ es, e.2.2.length ≤ 8 ∧ hide p H e.2.1 = none ∧ ∃ r ∈ rs, r.1 = e.1 ∧ e.2.2.Perm r.2)
      ⟨[], _, _, rfl, sd, P1, ⟨List.nodup_nil, List.nodup_nil, (fun e h => nomatch h), ed⟩, rfl, fun e h => nomatch h⟩ (fun i σ H' _ z => by obtain ⟨_, _, _, _, z, _⟩ := z; exact (z.trans hide_le).seq hca) ?_ ?_
    · rintro i x σ H2o H2 hi ⟨es, o4, o5, rfl, s2, P2, lo, hf, h8⟩ ⟨rfl, hx⟩
      rw [List.getElem?_map] at hx
      obtain ⟨c, hc, rfl⟩ := Option.map_eq_some_iff.mp hx
      obtain ⟨r, hr', rfl⟩ := List.mem_map.mp (hcr c (List.mem_of_getElem? hc))
      have hi8 : i < 8 := by
        have := (List.getElem?_eq_some_iff.mp hc).1
        omega
      refine g_nm ?_
      refine ⟨_, rfl, _, rfl, _, rfl, a, vl, rs, r, rfl, (s2.trans hide_le).seq hs, Paired.imp (fun _ _ h => h.same (s2.trans hide_le)) hrow, by omega, hrn, hr', fun l H3 s3 el => ?_⟩
      have P3 := P2.same s3
      have lp : l ≠ p := fun z => by
        obtain ⟨x1, x2, x3, ep, _⟩ := P2
        rw [z, ep] at el
        have := HO.lst.inj (Option.some.inj el)
        cases hr2 : r.2 with
        | nil => rw [hr2] at this; cases this
        | cons y ys =>
          rw [hr2] at this
          have := (List.cons.inj this).1
          cases this
      have el3 : hide p H3 l = some (.lst (r.2.map .str)) := by rw [hide_ne lp]; exact s3 _ _ el
      refine ⟨p, l, 4, r.2.map .str, n + 16 * i, rfl, SqL.of el3, by rw [List.length_map]; have := hr8 r hr'; omega, P3, by omega, fun ys zs H4 c1 hperm s4 P4 nc1 ec1 hz4 => ?_⟩
      obtain ⟨ss, ess, hss⟩ := perm_strs hperm
      obtain ⟨t1, t2, rfl, e1', e2'⟩ := List.map_eq_append_iff.mp ess.symm
      subst e1'
      have ht0 : t2 = [] := by
        have := hz4 (by decide)
        rw [← e2'] at this
        exact List.map_eq_nil_iff.mp this
      rw [ht0, List.append_nil] at hss
      have ht1 : t1.length ≤ 8 := by
        have := hss.length_eq
        have := hr8 r hr'
        omega
      have s24 := (hide_same (p := p) s3).trans s4
      have lo4 := lo.same s24
      have hnew : r.1 ∉ es.map fun e => e.1 := by
        rw [hf]
        intro m
        obtain ⟨j, hj, ej⟩ := List.mem_take_iff_getElem.mp m
        have hj2 : cs[j]? = some r.1 := by rw [List.getElem?_eq_getElem (by omega), ej]
        have := (List.getElem?_inj (show j < cs.length by omega) hcn).mp (hj2.trans hc.symm)
        omega
      have nc2 : hide p H2 c1 = none := (hide_same (p := p) s3).free nc1
      have lc1 : ∀ e ∈ es, e.2.1 ≠ c1 := fun e m z => by
        have := lo.at_ e m
        rw [z, nc2] at this
        cases this
      have cd : c1 ≠ d := fun z => by rw [z, lo.nd] at nc2; cases nc2
      refine ⟨_, rfl, _, rfl, d, _, rfl, DPut.k (k := kS r.1) (hide_le _ _ lo4.nd) ?_, ?_⟩
      · unfold lD
        have := congrArg List.length hf
        rw [List.length_map, List.length_take] at this
        rw [List.length_map, sizeLine_eq]
        omega
      refine ⟨es ++ [(r.1, c1, t1)], _, _, rfl, ?_, (P4.upd dp).le (by rw [List.length_map]; have := hr8 r hr'; omega), ?_, ?_, fun e m => ?_⟩
      · rw [hide_upd dp]
        exact same_over nd0 (s2.trans s24)
      · rw [hide_upd dp, lD_new hnew]
        refine ⟨?_, ?_, fun e m => ?_, ?_⟩
        · rw [map_snoc]
          exact nodup_snoc lo.kN hnew
        · rw [map_snoc]
          refine nodup_snoc lo.aN fun m => ?_
          obtain ⟨e, he, z⟩ := List.mem_map.mp m
          exact lc1 e he z
        · rcases List.mem_append.mp m with m | m
          · rw [upd_ne (lo.ne m)]
            exact lo4.at_ e m
          · rw [show e = (r.1, c1, t1) by simpa using m, upd_ne cd]
            exact ec1
        · rw [upd_same]
          unfold lD
          rw [map_snoc]
      · rw [map_snoc, hf, List.take_succ, hc]
        rfl
      · rcases List.mem_append.mp m with m | m
        · exact h8 e m
        · rw [show e = (r.1, c1, t1) by simpa using m]
          exact ⟨ht1, s2.free nc2, r, hr', rfl, hss⟩
    · rintro σ H2 ⟨es, o4, o5, rfl, s2, P2, lo, hf, h8⟩
      rw [List.length_map, List.take_length] at hf
      rw [List.length_map] at P2
      have lM72 : lM es ≤ 72 := by
        have h : ∀ es : Lft, (∀ e ∈ es, e.2.2.length ≤ 8) → lM es ≤ es.length * 9 := by
          intro es
          induction es with
          | nil => exact fun _ => Nat.zero_le _
          | cons e es ih =>
            intro h
            have h1 := h e (List.mem_cons_self ..)
            have h2 := ih fun x hx => h x (List.mem_cons_of_mem _ hx)
            show (e.2.2.length + 1) + lM es ≤ (es.length + 1) * 9
            omega
        have := h es fun e m => (h8 e m).1
        have l2 := congrArg List.length hf
        rw [List.length_map] at l2
        omega
      have run0 : (∀ r ∈ rs, r.2.Nodup) → RunI (raceA rs cs) cs [] es := fun hr => RunI.zero hrn hr hf fun e m => (h8 e m).2.2
      try dsimp only
      refine t_seqAsg ?_
      refine ⟨(show 0 ≤ sizeLine by decide), fun q1 nq1 => ?_⟩
      obtain ⟨qp, sq, eq1⟩ := hide_new (o := .lst []) P2.ne nq1
      have P3 := P2.new (o := .lst []) nq1
      have nq0 : hide p H q1 = none := s2.free (hide_none nq1)
      have qd : q1 ≠ d := fun z => by
        have := hide_le _ _ lo.nd
        rw [← z, nq1] at this
        cases this
      have qe : ∀ e ∈ es, e.2.1 ≠ q1 := fun e m z => by
        have := hide_le _ _ (lo.at_ e m)
        rw [z, nq1] at this
        cases this
      have lo3 := lo.same sq
      have s3 := s2.trans sq
      generalize upd H2 q1 (.lst []) = H3 at *
      refine g_nm ?_
      try dsimp only
      refine ⟨fun m σ H' => ∃ (es : Lft) (xs : List V) (al : List RAct) (o4 : Option V), m = lM es ∧ σ = [some (.ref p), some (.ref a), some (.ref ca), some (.ref d), o4, some (.ref q1)] ∧ Same (hide p H) (hide p H') ∧ Pl H' p (n + 210 - m) ∧ LftOk (hide p H') d es ∧ (∀ e ∈ es, e.2.1 ≠ q1 ∧ hide p H e.2.1 = none) ∧ hide p H' q1 = some (.lst xs) ∧
          Paired (RaceV (hide p H')) xs al ∧ al.length + m ≤ 72 ∧ ((∀ r ∈ rs, r.2.Nodup) → RunI (raceA rs cs) cs al es), ⟨lM es, es, [], [], _, rfl, rfl, s3, P3.le (by omega), lo3, fun e m => ⟨qe e m, (h8 e m).2.1⟩, eq1, .nil, by simpa using lM72, run0⟩, ?_⟩
      clear lM72 qe lo3 s3 P3 eq1 sq nq1 lo s2 P2 run0 hf h8 es
      rintro m σ H4 ⟨es, xs, al, o4, rfl, rfl, s4, P4, lo, hes, eq4, hxs, h72, run⟩
      refine ⟨_, rfl, d, lD es, rfl, hide_le _ _ lo.nd, fun l1 nl1 => ⟨(show 0 ≤ sizeLine by decide), fun l2 nl2 => ?_⟩⟩
      obtain ⟨l1p, sl1, el1⟩ := hide_new (o := .lst ((lD es).map fun kv => kV kv.1)) P4.ne nl1
      have P5 := P4.new (o := .lst ((lD es).map fun kv => kV kv.1)) nl1
      generalize upd H4 l1 (.lst ((lD es).map fun kv => kV kv.1)) = H5 at *
      obtain ⟨l2p, sl2, el2⟩ := hide_new (o := .lst []) P5.ne nl2
      have P6 := P5.new (o := .lst []) nl2
      generalize upd H5 l2 (.lst []) = H6 at *
      have s46 := sl1.trans sl2
      refine ⟨l1, l2, _, rfl, rfl, SqL.of (hide_le _ _ (sl2 _ _ el1)), SqL.of (hide_le _ _ el2), _, rfl, ?_⟩
      have s6 := s4.trans s46
      have lo6 := lo.same s46
      have eq6 := s46 _ _ eq4
      have hxs6 := Paired.imp (fun _ _ h => h.same s46) hxs
      clear el1 el2 sl1 sl2 nl1 nl2 P5 P4 lo eq4 hxs s4 s46
      by_cases e0 : es = []
      · subst e0
        refine iteN rfl ⟨_, rfl, q xs al H6 q1 s6 (P6.le (by omega)) nq0 eq6 hxs6 (by omega) fun hr => ?_⟩
        obtain ⟨s, r1, r2, _⟩ := run hr
        exact ⟨s, r1, fun c hc => (r2 c hc).mpr fun h => nomatch h⟩
      have hne : (!((lD es).map fun kv => kV kv.1).isEmpty) = true := by
        cases es with
        | nil => exact absurd rfl e0
        | cons e es => rfl
      refine iteP hne ?_
      refine ⟨fun σ' H' => ∃ m', m' < lM es ∧ ∃ (es : Lft) (xs : List V) (al : List RAct) (o4 : Option V), m' = lM es ∧ σ' = [some (.ref p), some (.ref a), some (.ref ca), some (.ref d), o4, some (.ref q1)] ∧ Same (hide p H) (hide p H') ∧ Pl H' p (n + 210 - m') ∧ LftOk (hide p H') d es ∧ (∀ e ∈ es, e.2.1 ≠ q1 ∧ hide p H e.2.1 = none) ∧ hide p H' q1 = some (.lst xs) ∧
          Paired (RaceV (hide p H')) xs al ∧ al.length + m' ≤ 72 ∧ ((∀ r ∈ rs, r.2.Nodup) → RunI (raceA rs cs) cs al es), fun σ' H' z => z, ?_⟩
      refine t_seqAsg ?_
      have les : 0 < es.length := List.length_pos_iff.mpr e0
      have lM1 : ∀ es : Lft, es.length ≤ lM es := by
        intro es
        induction es with
        | nil => exact Nat.zero_le _
        | cons e es ih =>
          show es.length + 1 ≤ (e.2.2.length + 1) + lM es
          omega
      have lM0 := lM1 es
      refine ⟨_, rfl, d, lD es, rfl, hide_le _ _ lo6.nd, fun l3 nl3 => ?_⟩
      obtain ⟨l3p, sl3, el3⟩ := hide_new (o := .lst ((lD es).map fun kv => kV kv.1)) P6.ne nl3
      have P7 := P6.new (o := .lst ((lD es).map fun kv => kV kv.1)) nl3
      generalize upd H6 l3 (.lst ((lD es).map fun kv => kV kv.1)) = H7 at *
      have lD_len : (lD es).length = es.length := by unfold lD; rw [List.length_map]
      refine ⟨_, rfl, _, rfl, d, lD es, rfl, hide_le _ _ (sl3 _ _ lo6.nd), p, (lD es).length, n + 210 - lM es, rfl, by omega, by omega, P7, by omega, fun r H8 hr8' h8e P8 => ?_⟩
      have hre : r < es.length := by omega
      obtain ⟨e, he⟩ : ∃ e, es[r]? = some e := ⟨_, List.getElem?_eq_getElem hre⟩
      have hem := List.mem_of_getElem? he
      have ekey : ((lD es).map fun kv => kV kv.1)[r]? = some (.str e.1) := by
        unfold lD
        rw [List.map_map, List.getElem?_map, he]
        rfl
      have lo8 : LftOk (hide p H8) d es := by rw [h8e]; exact lo6.same sl3
      have s8 : Same (hide p H) (hide p H8) := by rw [h8e]; exact s6.trans sl3
      have eq8 : hide p H8 q1 = some (.lst xs) := by rw [h8e]; exact sl3 _ _ eq6
      have hxs8 : Paired (RaceV (hide p H8)) xs al := by rw [h8e]; exact Paired.imp (fun _ _ h => h.same sl3) hxs6
      have el8 : hide p H8 l3 = some (.lst ((lD es).map fun kv => kV kv.1)) := by rw [h8e]; exact el3
      refine ⟨l3, _, (r : Nat), .str e.1, rfl, rfl, SqL.of (hide_le _ _ el8), atI_nat ekey, ?_⟩
      clear el8 hxs6 eq6 s6 lo6 h8e el3 sl3 nl3 P7 P6 ekey
      refine g_nm ?_
      try dsimp only
      have dget : ∀ {H' : Hp}, LftOk (hide p H') d es → DGet H' d (.str e.1) (some (.ref e.2.1)) := fun lo => by
        rw [← lD_in lo.kN hem]
        exact DGet.k (k := kS e.1) (hide_le _ _ lo.nd)
      refine ⟨_, rfl, _, rfl, d, _, rfl, dget lo8, (show 0 ≤ sizeLine by decide), fun l4 nl4 => ?_⟩
      obtain ⟨l4p, sl4, el4⟩ := hide_new (o := .lst []) P8.ne nl4
      have P9 := P8.new (o := .lst []) nl4
      generalize upd H8 l4 (.lst []) = H9 at *
      have lo9 := lo8.same sl4
      have eq9 := sl4 _ _ eq8
      have s9 := s8.trans sl4
      have hxs9 := Paired.imp (fun _ _ h => h.same sl4) hxs8
      refine ⟨e.2.1, l4, _, rfl, rfl, SqL.of (hide_le _ _ (lo9.at_ e hem)), SqL.of (hide_le _ _ el4), _, rfl, ?_⟩
      clear el4 nl4 sl4 hxs8 eq8 s8 lo8 P8
      obtain ⟨q1e, eH⟩ := hes e hem
      have lxs := Paired.length hxs9
      by_cases c : e.2.2 = []
      · refine iteP (by rw [c]; rfl) ?_
        refine ⟨_, rfl, .inl ⟨rfl, _, SqL.of (hide_le _ _ eq9)⟩, _, rfl, (show 2 ≤ sizeLine by decide), fun t nt => ?_⟩
        obtain ⟨tp, st, et⟩ := hide_new (o := .tup [.str "write", .str e.1]) P9.ne nt
        have P10 := P9.new (o := .tup [.str "write", .str e.1]) nt
        have tq : t ≠ q1 := fun z => by
          have := hide_le _ _ eq9
          rw [← z, nt] at this
          cases this
        generalize upd H9 t (.tup [.str "write", .str e.1]) = H10 at *
        have eq10 := st _ _ eq9
        refine t_nil ?_
        refine ⟨q1, xs, .ref t, rfl, rfl, hide_le _ _ eq10, by rw [sizeLine_eq]; omega, ?_⟩
        try dsimp only
        have lo11 : LftOk (hide p (upd H10 q1 (.lst (xs ++ [.ref t])))) d es := by
          rw [hide_upd qp]
          exact (lo9.same st).upd qd fun e m => (hes e m).1
        have s11 : Same (hide p H) (hide p (upd H10 q1 (.lst (xs ++ [.ref t])))) := by
          rw [hide_upd qp]
          exact same_over nq0 (s9.trans st)
        have eq11 : hide p (upd H10 q1 (.lst (xs ++ [.ref t]))) q1 = some (.lst (xs ++ [.ref t])) := by
          rw [hide_upd qp]
          exact upd_same
        have hxs11 : Paired (RaceV (hide p (upd H10 q1 (.lst (xs ++ [.ref t]))))) (xs ++ [.ref t]) (al ++ [.wr (some e.1)]) := by
          rw [hide_upd qp]
          refine Paired.snoc (Paired.imp (fun _ _ h => (h.same st).upd eq10 fun _ z => nomatch z) hxs9) (.inr ⟨t, e.1, rfl, rfl, ?_⟩)
          rw [upd_ne tq]
          exact et
        have P11 := P10.upd (o := .lst (xs ++ [.ref t])) qp
        generalize upd H10 q1 (.lst (xs ++ [.ref t])) = H11 at *
        refine ⟨_, rfl, d, rfl, .inl ⟨_, .inl (hide_le _ _ lo11.nd)⟩, _, rfl, lD es, kS e.1, .ref e.2.1, hide_le _ _ lo11.nd, rfl, lD_in lo11.kN hem, ?_⟩
        have ld := lM_drop lo11.kN hem
        rw [lD_drop]
        refine ⟨lM (es.filter fun x => decide (x.1 ≠ e.1)), by omega, es.filter fun x => decide (x.1 ≠ e.1), xs ++ [.ref t], al ++ [.wr (some e.1)], _, rfl, rfl, ?_, (P11.upd dp).le (by omega), ?_, fun x m => hes x (List.mem_filter.mp m).1, ?_, ?_, ?_, fun hr => (run hr).wr hem c⟩
        · rw [hide_upd dp]
          exact same_over nd0 s11
        · rw [hide_upd dp]
          exact lo11.drop e.1
        · rw [hide_upd dp, upd_ne qd]
          exact eq11
        · rw [hide_upd dp]
          exact Paired.imp (fun _ _ h => h.upd lo11.nd fun _ z => nomatch z) hxs11
        · rw [List.length_append]
          show al.length + 1 + _ ≤ 72
          omega
      · obtain ⟨x, ys, exy⟩ : ∃ x ys, e.2.2 = x :: ys := by
          cases h : e.2.2 with
          | nil => exact absurd h c
          | cons x ys => exact ⟨x, ys, rfl⟩
        refine iteN (by rw [exy]; rfl) ?_
        have ep : e.2.1 ≠ p := (hide_some (lo9.at_ e hem)).1
        refine ⟨_, rfl, .inl ⟨rfl, _, SqL.of (hide_le _ _ eq9)⟩, _, rfl, _, rfl, d, _, rfl, dget lo9, .inl ⟨rfl, _, SqL.of (hide_le _ _ (lo9.at_ e hem))⟩, ?_⟩
        refine ⟨e.2.1, e.2.2.map .str, 0, 0, .str x, rfl, rfl, hide_le _ _ (lo9.at_ e hem), by decide, by decide, ?_, by rw [exy]; rfl, ?_⟩
        · rw [exy]
          rw [seqIndex_of (by decide) (by rw [List.length_map]; exact Int.natCast_pos.mpr (Nat.succ_pos _))]
          rfl
        have edrop : (e.2.2.map V.str).eraseIdx 0 = (e.2.2.drop 1).map .str := by rw [exy]; rfl
        rw [edrop]
        have lo10 : LftOk (hide p (upd H9 e.2.1 (.lst ((e.2.2.drop 1).map .str)))) d (lPop es e.1) := by
          rw [hide_upd ep]
          exact lo9.pop hem
        have s10 : Same (hide p H) (hide p (upd H9 e.2.1 (.lst ((e.2.2.drop 1).map .str)))) := by
          rw [hide_upd ep]
          exact same_over eH s9
        have eq10 : hide p (upd H9 e.2.1 (.lst ((e.2.2.drop 1).map .str))) q1 = some (.lst xs) := by
          rw [hide_upd ep, upd_ne (Ne.symm q1e)]
          exact eq9
        have hxs10 : Paired (RaceV (hide p (upd H9 e.2.1 (.lst ((e.2.2.drop 1).map .str))))) xs al := by
          rw [hide_upd ep]
          exact Paired.imp (fun _ _ h => h.upd (lo9.at_ e hem) fun _ z => nomatch z) hxs9
        have P10 := P9.upd (o := .lst ((e.2.2.drop 1).map .str)) ep
        generalize upd H9 e.2.1 (.lst ((e.2.2.drop 1).map .str)) = H10 at *
        refine ⟨_, rfl, (show 3 ≤ sizeLine by decide), fun t nt => ?_⟩
        obtain ⟨tp, st, et⟩ := hide_new (o := .tup [.str "read", .str x, .str e.1]) P10.ne nt
        have P11 := P10.new (o := .tup [.str "read", .str x, .str e.1]) nt
        have tq : t ≠ q1 := fun z => by
          have := hide_le _ _ eq10
          rw [← z, nt] at this
          cases this
        generalize upd H10 t (.tup [.str "read", .str x, .str e.1]) = H11 at *
        have eq11 := st _ _ eq10
        refine t_nil ?_
        refine ⟨q1, xs, .ref t, rfl, rfl, hide_le _ _ eq11, by rw [sizeLine_eq]; omega, ?_⟩
        have lp := lM_pop lo9.kN hem c
        have hes' : ∀ y ∈ lPop es e.1, y.2.1 ≠ q1 ∧ hide p H y.2.1 = none := fun y hy => by
          have : y.2.1 ∈ (lPop es e.1).map fun e => e.2.1 := List.mem_map.mpr ⟨y, hy, rfl⟩
          rw [lPop_snd] at this
          obtain ⟨z, hz, ez⟩ := List.mem_map.mp this
          rw [← ez]
          exact hes z hz
        refine ⟨lM (lPop es e.1), by omega, lPop es e.1, xs ++ [.ref t], al ++ [.rd (some x) e.1], _, rfl, rfl, ?_, (P11.upd qp).le (by omega), ?_, hes', ?_, ?_, ?_, fun hr => (run hr).rd lo9.kN hem exy⟩
        · rw [hide_upd qp]
          exact same_over nq0 (s10.trans st)
        · rw [hide_upd qp]
          exact (lo10.same st).upd qd fun y m => (hes' y m).1
        · rw [hide_upd qp]
          exact upd_same
        · rw [hide_upd qp]
          refine Paired.snoc (Paired.imp (fun _ _ h => (h.same st).upd eq11 fun _ z => nomatch z) hxs10) (.inl ⟨t, x, e.1, rfl, rfl, ?_⟩)
          rw [upd_ne tq]
          exact et
        · rw [List.length_append]
          show al.length + 1 + _ ≤ 72
          omega
end
end K59
end L2
set_option Elab.async false
set_option linter.all false
set_option maxRecDepth 100000
set_option maxHeartbeats 4000000
namespace L2
namespace K59
open PySem PySem.Spec PyProof.Rows K1 WL LamX
section
variable {P : Program} {w : World} {K : PySem.W.Frag} {mg : Str → Option Value} {base : Heap} {f : Addr} {fd : FuncData}
/-! ### things that may be acts -/
def AllG (K : PySem.W.Frag) (B : Hp) (xs : List V) : Prop := ∀ v ∈ xs, (∃ a, ActV K B v a) ∧ (flatB v = true ∨ ∃ c, v = .ref c)
theorem AllG.same {B B' : Hp} {xs : List V} (h : AllG K B xs) (s : Same B B') : AllG K B' xs := fun v m => let ⟨⟨a, h1⟩, h2⟩ := h v m; ⟨⟨a, h1.same s⟩, h2⟩
theorem AllG.app {B : Hp} {xs ys : List V} (h : AllG K B xs) (k : AllG K B ys) : AllG K B (xs ++ ys) := fun v m => (List.mem_append.mp m).elim (h v) (k v)
theorem AllG.sub {B : Hp} {xs ys : List V} (h : AllG K B xs) (k : ∀ v ∈ ys, v ∈ xs) : AllG K B ys := fun v m => h v (k v m)
theorem AllG.one {B : Hp} {xs : List V} {v : V} (h : AllG K B xs) (m : v ∈ xs) : AllG K B [v] := fun u hu => by
  rw [show u = v by simpa using hu]
  exact h v m
theorem AllG.acts {B : Hp} : ∀ {xs : List V}, AllG K B xs → ∃ al, Paired (ActV K B) xs al
  | [], _ => ⟨[], .nil⟩
  | v :: xs, h => by
    obtain ⟨⟨a, h1⟩, _⟩ := h v (List.mem_cons_self ..)
    obtain ⟨al, h2⟩ := AllG.acts (xs := xs) fun u m => h u (List.mem_cons_of_mem _ m)
    exact ⟨a :: al, .cons h1 h2⟩
theorem RaceV.allG {B : Hp} {xs : List V} {al : List RAct} (h : Paired (RaceV B) xs al) : AllG K B xs := fun v m => by
  obtain ⟨i, hi⟩ := List.getElem?_of_mem m
  obtain ⟨a, _, hv⟩ := Paired.getL h hi
  refine ⟨⟨a, hv.act⟩, .inr ?_⟩
  rcases hv with ⟨t, _, _, e, _⟩ | ⟨t, _, e, _⟩
  · exact ⟨t, e⟩
  · exact ⟨t, e⟩
theorem cut_mem {xs : List V} {lo hi : Option Int} {v : V} (h : v ∈ cutV xs lo hi) : v ∈ xs := List.mem_of_mem_drop (List.mem_of_mem_take h)
theorem junk_ty {B : Hp} {v : V} {t : String} (ty : TyX K B v (.type t)) (h1 : PySem.W.kitOne K (.type t) (.type "list") = some false) (h2 : PySem.W.kitOne K (.type t) (.type "tuple") = some false) : ∃ a, ActV K B v a := ⟨.junk, .inl ⟨_, ty, kit_none h1 h2⟩⟩
theorem junk_ln {B : Hp} {t : Addr} {xs : List V} (h : B t = some (.tup xs)) (n : xs.length ≠ 2 ∧ xs.length ≠ 3) : ∃ a, ActV K B (.ref t) a := ⟨.junk, .inr ⟨xs, ⟨t, rfl, .inr (SqT.of h)⟩, .inl n⟩⟩
theorem junk_2 {B : Hp} {t : Addr} {x y : V} {d : PyData} (h : B t = some (.tup [x, y])) (hd : Dp K B x d) (sd : SeqAt.shaped d = true) (e : PyData.eqv d (.str "write") = false) : ∃ a, ActV K B (.ref t) a := ⟨.junk, .inr ⟨_, ⟨t, rfl, .inr (SqT.of h)⟩, .inr (.inl ⟨rfl, x, d, rfl, hd, sd, e⟩)⟩⟩
theorem junk_3 {B : Hp} {t : Addr} {x y z : V} {d : PyData} (h : B t = some (.tup [x, y, z])) (hd : Dp K B x d) (sd : SeqAt.shaped d = true) (e : PyData.eqv d (.str "read") = false) : ∃ a, ActV K B (.ref t) a := ⟨.junk, .inr ⟨_, ⟨t, rfl, .inr (SqT.of h)⟩, .inr (.inr ⟨rfl, x, d, rfl, hd, sd, e⟩)⟩⟩
theorem wr_is {B : Hp} {t : Addr} {y : V} {o : Option Str} (h : B t = some (.tup [.str "write", y])) (a : Arg K B y o) : ∃ a, ActV K B (.ref t) a := ⟨.wr o, y, ⟨t, rfl, .inr (SqT.of h)⟩, a⟩
theorem rd_is {B : Hp} {t : Addr} {y : V} {c : Str} {o : Option Str} (h : B t = some (.tup [.str "read", y, .str c])) (a : Arg K B y o) : ∃ a, ActV K B (.ref t) a := ⟨.rd o c, y, ⟨t, rfl, .inr (SqT.of h)⟩, a⟩
/-! ### _law_odd_cells -/
def spOddC (K : PySem.W.Frag) : Sp := fun vs H Q _ => ∃ (p a : Addr) (vl : List V) (rs : Rws) (most n : Nat), vs = [.ref p, .ref a] ∧ Pl H p n ∧ n ≤ 600000000 ∧ SqL K (hide p H) a vl ∧ Paired (RowL (hide p H)) vl rs ∧ LRows most rs ∧
  ∀ v H', Same (hide p H) (hide p H') → Pl H' p (n + 1) → CellL K (hide p H') rs v false → Q v H'
abbrev nmOC : List Str := ["_law_pool_here", "_law_rows", "_law_cell_here", "_law_odd"]
theorem sc_oddc : FnScope nmOC ["_law_pool_here", "_law_rows"] (defScope s_odd_cells) := ⟨rfl, rfl, rfl, by decide +kernel, rfl, by decide +kernel, by decide +kernel⟩
theorem strange_no : ("strange" : Str) ∉ stems := by decide +kernel
theorem cell_no {B : Hp} {rs : Rws} {v : V} {t : String} (ty : TyX K B v (.type t)) (h1 : PySem.W.kitOne K (.type t) (.type "list") = some false) (h2 : PySem.W.kitOne K (.type t) (.type "tuple") = some false) : CellL K B rs v false := .inl ⟨_, ty, kit_none h1 h2, rfl⟩
theorem cell_ls {B : Hp} {rs : Rws} {a : Addr} {xs : List V} (h : B a = some (.lst xs)) (l : xs.length ≤ 900) (hi : ∀ x ∈ xs, ∃ b, IsN K B x b) (e : (xs.all (inWeb rs) && decide (strsOf xs).Nodup) = false) : CellL K B rs (.ref a) false := .inr ⟨xs, ⟨a, rfl, .inl (SqL.of h)⟩, l, hi, e.symm⟩
theorem ok_oddc (Ct : Cal P w K mg base "_law_take" ["_law_pool_here", "_law_many"] 1 spTakeL) (F : FnP K "_law_odd_cells" "_law_odd_cells" s_odd_cells f fd) : FnOk P w K mg base CX0 2 f fd ["_law_pool_here", "_law_rows"] (spOddC K) := by
  obtain ⟨ft, fdt, Gt, gt, kt, bt⟩ := Ct.ex
  refine F.ok sc_oddc (fun vs H Q E h => ?_) (fun cdv A outer s H vs Q E hr h => ?_)
  · obtain ⟨p, a, vl, rs, most, n, rfl, _⟩ := h
    rfl
  · have nd := sc_oddc.nd
    refine ⟨_, PSs.nox (pss_cons (ps_set (i := 2) nd rfl (Or.inl rfl) (pe_ix ix_list (pe_ix ix_list (pv 1) pe_int fun _ _ => rfl) pe_int fun _ _ => rfl))
      (pss_cons (ps_set (i := 3) nd rfl (Or.inl rfl) (pe_lst (pa_cons pe_non (pa_cons pe_int (pa_cons (pv 2) (pa_cons (pe_lst (pa_cons (pv 2) (pa_cons (pv 2) pa_nil))) (pa_cons (pe_lst (pa_cons pe_str pa_nil)) (pa_cons (pe_lst (pa_cons (pv 2) (pa_cons pe_non pa_nil))) (pa_cons pe_dnewK (pa_cons pe_bl (pa_cons (pe_lst (pa_cons (pe_lst (pa_cons (pv 2) pa_nil)) pa_nil)) pa_nil)))))))))))
      (pss_one (ps_ret (pe_ix ix_list (pv 3) (pe_call Gt hr rfl gt kt bt .nil pass0 (pa_cons (pv 0) (pa_cons pe_int pa_nil))) fun _ _ => rfl))))), ?_⟩
    obtain ⟨p, a, vl, rs, most, n, rfl, hP, hn, hs, hrow, LR, q⟩ := h
    have lv := Paired.length hrow
    have l1 := LR.l1
    obtain ⟨r0, hr0⟩ : ∃ r, rs[0]? = some r := ⟨_, List.getElem?_eq_getElem (by omega)⟩
    obtain ⟨v0, hv0, t0, l0, rfl, et0, _⟩ := Paired.get hrow hr0
    have hm0 := List.mem_of_getElem? hr0
    have nm0 := stems_nm _ (LR.nm r0 hm0)
    have in0 : inWeb rs (.str r0.1) = true := decide_eq_true (List.mem_map.mpr ⟨r0, hm0, rfl⟩)
    have inS : inWeb rs (.str "strange") = false := decide_eq_false fun m => by
      obtain ⟨r, hr, e⟩ := List.mem_map.mp m
      exact strange_no (by rw [← e]; exact LR.nm r hr)
    refine ⟨_, rfl, a, vl, 0, .ref t0, rfl, rfl, hide_le.seq hs, atI_nat (j := 0) hv0, t0, _, 0, .str r0.1, rfl, rfl, SqL.of (hide_le _ _ et0), rfl, ?_⟩
    refine g_nm ?_
    try dsimp only
    refine t_seqAsg ?_
    have S : Same (hide p H) (hide p H) := Same.refl _
    have hL : Has (hide p H) [] := fun x hx => nomatch hx
    refine ⟨_, rfl, _, rfl, _, rfl, (show 2 ≤ sizeLine by decide), fun a1 na1 => ?_⟩
    obtain ⟨hL, hP, S⟩ := alo (o := .lst [.str r0.1, .str r0.1]) hL hP S na1
    generalize upd H a1 (.lst [.str r0.1, .str r0.1]) = G1 at *
    refine ⟨(show 1 ≤ sizeLine by decide), fun a2 na2 => ?_⟩
    obtain ⟨hL, hP, S⟩ := alo (o := .lst [.str "strange"]) hL hP S na2
    generalize upd G1 a2 (.lst [.str "strange"]) = G2 at *
    refine ⟨_, rfl, (show 2 ≤ sizeLine by decide), fun a3 na3 => ?_⟩
    obtain ⟨hL, hP, S⟩ := alo (o := .lst [.str r0.1, .non]) hL hP S na3
    generalize upd G2 a3 (.lst [.str r0.1, .non]) = G3 at *
    refine fun d1 nd1 => ?_
    obtain ⟨hL, hP, S⟩ := alo (o := .dK []) hL hP S nd1
    generalize upd G3 d1 (.dK []) = G4 at *
    refine ⟨_, rfl, (show 1 ≤ sizeLine by decide), fun a5 na5 => ?_⟩
    obtain ⟨hL, hP, S⟩ := alo (o := .lst [.str r0.1]) hL hP S na5
    generalize upd G4 a5 (.lst [.str r0.1]) = G5 at *
    refine t_nil ?_
    try dsimp only
    refine ⟨(show 1 ≤ sizeLine by decide), fun a6 na6 => ?_⟩
    obtain ⟨hL, hP, S⟩ := alo (o := .lst [.ref a5]) hL hP S na6
    generalize upd G5 a6 (.lst [.ref a5]) = G6 at *
    refine t_nil ?_
    try dsimp only
    refine ⟨(show 9 ≤ sizeLine by decide), fun a7 na7 => ?_⟩
    obtain ⟨hL, hP, S⟩ := alo (o := .lst [.non, .int 5, .str r0.1, .ref a1, .ref a2, .ref a3, .ref d1, .bl true, .ref a6]) hL hP S na7
    generalize upd G6 a7 (.lst [.non, .int 5, .str r0.1, .ref a1, .ref a2, .ref a3, .ref d1, .bl true, .ref a6]) = G7 at *
    refine g_nm ?_
    try dsimp only
    refine ⟨_, rfl, _, rfl, p, 9, n, rfl, by decide, by decide, hP, by omega, fun r H2 hr2 h2 P2 => ?_⟩
    rw [← h2] at hL S
    have hr9 : r < 9 := by omega
    obtain ⟨y, hy⟩ : ∃ y, ([.non, .int 5, .str r0.1, .ref a1, .ref a2, .ref a3, .ref d1, .bl true, .ref a6] : List V)[r]? = some y := ⟨_, List.getElem?_eq_getElem hr9⟩
    refine ⟨a7, _, _, y, rfl, rfl, SqL.of (hide_le _ _ (hL.ix 0 rfl)), atI_nat hy, q y H2 S P2 ?_⟩
    match r, hy with
    | 0, hy => cases hy; exact cell_no (.base .non) (kit_ty (by decide +kernel)) (kit_ty (by decide +kernel))
    | 1, hy => cases hy; exact cell_no (.base (.int _)) (kit_ty (by decide +kernel)) (kit_ty (by decide +kernel))
    | 2, hy => cases hy; exact cell_no (.base (.str _)) (kit_ty (by decide +kernel)) (kit_ty (by decide +kernel))
    | 3, hy =>
      cases hy
      refine cell_ls (hL.ix 6 rfl) (show 2 ≤ 900 by decide) (fun x hx => ⟨true, ?_⟩) ?_
      · rw [show x = .str r0.1 by simpa using hx]
        exact nm_is nm0
      · rw [show decide (strsOf [V.str r0.1, .str r0.1]).Nodup = false from decide_eq_false fun h => by
          have := (List.nodup_cons.mp h).1
          exact this (List.mem_cons_self ..), Bool.and_false]
    | 4, hy =>
      cases hy
      refine cell_ls (hL.ix 5 rfl) (show 1 ≤ 900 by decide) (fun x hx => ⟨true, ?_⟩) ?_
      · rw [show x = .str "strange" by simpa using hx]
        exact nm_is (by decide +kernel)
      · show ((inWeb rs (.str "strange") && true) && _) = false
        rw [inS]
        rfl
    | 5, hy =>
      cases hy
      refine cell_ls (hL.ix 4 rfl) (show 2 ≤ 900 by decide) (fun x hx => ?_) ?_
      · rcases List.mem_cons.mp hx with rfl | hx
        · exact ⟨true, nm_is nm0⟩
        · rw [show x = .non by simpa using hx]
          exact ⟨_, .inr ⟨_, .base .non, kit_ty (by decide +kernel), rfl⟩⟩
      · show ((inWeb rs (.str r0.1) && (false && true)) && _) = false
        rw [Bool.false_and, Bool.and_false]
        rfl
    | 6, hy => cases hy; exact cell_no (.base (.dK (hL.ix 3 rfl))) (kit_ty (by decide +kernel)) (kit_ty (by decide +kernel))
    | 7, hy => cases hy; exact cell_no (.base (.bl _)) (kit_ty (by decide +kernel)) (kit_ty (by decide +kernel))
    | 8, hy =>
      cases hy
      refine cell_ls (hL.ix 1 rfl) (show 1 ≤ 900 by decide) (fun x hx => ?_) rfl
      rw [show x = .ref a5 by simpa using hx]
      exact ⟨_, .inr ⟨_, .base (.lst (hL.ix 2 rfl)), kit_ty (by decide +kernel), rfl⟩⟩
    | k + 9, hy => cases hy
end
end K59
end L2
set_option Elab.async false
set_option linter.all false
set_option maxRecDepth 100000
set_option maxHeartbeats 4000000
namespace L2
namespace K59
open PySem PySem.Spec PyProof.Rows K1 WL LamX
/-! ### what the law compares, as mathematics -/
theorem inner_nil {rs : Rws} {cs : List Str} (h : cs.length ≤ 1) : inner rs cs = [] := by
  refine List.filter_eq_nil_iff.mpr fun a _ z => ?_
  obtain ⟨h1, h2, h3⟩ := of_decide_eq_true z
  match cs, h with
  | [], _ => cases h1
  | [c], _ =>
    rw [List.mem_singleton] at h1 h2
    exact h3 (h1.trans h2.symm)
noncomputable def cntA (E : List Ar) : Nat := ((setsL E).filter acyB).length
theorem nAcy_cnt {C : List Str} {E : List Ar} (h : ∀ a ∈ E, a.1 ∈ C ∧ a.2 ∈ C) : nAcy C E (2 ^ C.length - 1) = ((cntA E : Nat) : Int) := by
  have inC' : ∀ x ∈ C, inM C (2 ^ C.length - 1) x = true := fun x hx => by
    obtain ⟨i, hi⟩ := List.getElem?_of_mem hx
    refine inM_iff.mpr ⟨i, hi, ?_⟩
    rw [Nat.testBit_two_pow_sub_one]
    exact decide_eq_true (List.getElem?_eq_some_iff.mp hi).1
  have e : arrM C E (2 ^ C.length - 1) = E := List.filter_eq_self.mpr fun a ha => by
    obtain ⟨h1, h2⟩ := h a ha
    rw [inC' _ h1, inC' _ h2]
    rfl
  rw [nAcy_count, e]
  rfl
theorem nAcy_inner (rs : Rws) (cs : List Str) : nAcy cs (inner rs cs) (2 ^ cs.length - 1) = ((cntA (inner rs cs) : Nat) : Int) := nAcy_cnt fun a h => ⟨(mem_inner.mp h).2.1, (mem_inner.mp h).2.2.1⟩
theorem cnt_nil : cntA [] = 1 := by
  have z : acyB [] = true := acyB_iff.mpr ⟨fun _ => 0, fun a h => by cases h⟩
  show ((setsL ([] : List Ar)).filter acyB).length = 1
  rw [show setsL ([] : List Ar) = [[]] from rfl, List.filter_cons_of_pos z]
  rfl
theorem inner_rev (rs : Rws) (cs : List Str) : inner rs cs.reverse = inner rs cs := List.filter_congr fun a _ => by simp only [List.mem_reverse]
theorem inner_first (rs : Rws) (cs : List Str) : (raceA rs cs).filter (fun a => decide (a.1 ∈ cs) && !decide (a.1 = a.2)) = inner rs cs := by
  unfold raceA inner
  rw [List.filter_filter]
  refine List.filter_congr fun a _ => ?_
  rw [Bool.eq_iff_iff]
  simp only [Bool.and_eq_true, decide_eq_true_iff, Bool.not_eq_true', decide_eq_false_iff_not]
  exact ⟨fun ⟨⟨a, b⟩, c⟩ => ⟨a, c, b⟩, fun ⟨a, c, b⟩ => ⟨⟨a, b⟩, c⟩⟩
theorem inner_step {rs : Rws} {cs ds : List Str} (h : ∀ x ∈ ds, x ∈ cs) : (inner rs cs).filter (fun a => decide (a.1 ∈ ds) && decide (a.2 ∈ ds)) = inner rs ds := by
  unfold inner
  rw [List.filter_filter]
  refine List.filter_congr fun a _ => ?_
  rw [Bool.eq_iff_iff]
  simp only [Bool.and_eq_true, decide_eq_true_iff]
  exact ⟨fun ⟨⟨a, b⟩, _, _, c⟩ => ⟨a, b, c⟩, fun ⟨a, b, c⟩ => ⟨⟨a, b⟩, h _ a, h _ b, c⟩⟩
theorem mkOf_map {f : Ar → Bool} {a : Ar} : ∀ {A : List Ar}, a ∈ A → mkOf (A.map fun a => (a, f a)) a = f a
  | b :: A, h => by
    by_cases e : b = a
    · rw [e]
      unfold mkOf
      rw [List.map_cons, List.find?_cons_of_pos (by exact decide_eq_true rfl)]
    · have h' : a ∈ A := (List.mem_cons.mp h).elim (fun z => absurd z.symm e) id
      have ih := mkOf_map (f := f) h'
      unfold mkOf at ih ⊢
      rw [List.map_cons, List.find?_cons_of_neg (by simpa using e)]
      exact ih
/-- a race that has come to its end, and its new arrows -/
theorem race_told {rs : Rws} {cs : List Str} {al : List RAct} {s : RSt} (hn : cs.Nodup) (e : rgo (raceA rs cs) cs al ([], []) 0 = .inr s) (hs : ∀ c ∈ cs, c ∈ s.2) :
    rdue (raceA rs cs) cs al = .marks ((raceA rs cs).map fun a => (a, mkOf s.1 a)) ∧ (raceA rs cs).filter (fun a => mkOf s.1 a) ∈ (setsL (inner rs cs)).filter acyB := by
  have hl : ¬ s.2.length < cs.length := fun z => by
    have := pig hn hs
    omega
  have tC : ∀ a ∈ raceA rs cs, a.2 ∈ cs := fun a h => of_decide_eq_true (List.mem_filter.mp h).2
  obtain ⟨n1, n2⟩ := race_new tC e hl
  refine ⟨?_, ?_⟩
  · unfold rdue
    rw [e]
    show (if s.2.length < cs.length then ROut.bad al.length else _) = _
    rw [if_neg hl]
  · refine List.mem_filter.mpr ⟨?_, acyB_iff.mpr n1⟩
    have : (raceA rs cs).filter (fun a => mkOf s.1 a) = (inner rs cs).filter fun a => mkOf s.1 a := by
      unfold raceA inner
      rw [List.filter_filter, List.filter_filter]
      refine List.filter_congr fun a ha => ?_
      rw [Bool.eq_iff_iff]
      simp only [Bool.and_eq_true, decide_eq_true_iff]
      constructor
      · rintro ⟨m, c⟩
        obtain ⟨h1, h2⟩ := n2 a (List.mem_filter.mpr ⟨ha, decide_eq_true c⟩) m
        exact ⟨m, h1, c, h2⟩
      · rintro ⟨m, _, c, _⟩
        exact ⟨m, c⟩
    rw [this]
    exact setsL_filter _ _
/-! ### lists of lists of pairs, as data -/
def dL (as : List Ar) : PyData := .list (as.map d2)
theorem lay_dL : ∀ {as : List Ar}, (∀ a ∈ as, sOk [a.1, a.2]) → PyData.canLayAll0 (as.map d2) = true ∧ PyData.depthAll (as.map d2) ≤ 1
  | [], _ => ⟨rfl, Nat.zero_le _⟩
  | a :: as, h => by
    obtain ⟨i1, i2⟩ := lay_dL (as := as) fun b hb => h b (List.mem_cons_of_mem _ hb)
    refine ⟨?_, ?_⟩
    · show (PyData.canLay0 (d2 a) && PyData.canLayAll0 (as.map d2)) = true
      rw [lay_d2 (h a (List.mem_cons_self ..)), i1]
      rfl
    · show max (PyData.depth (d2 a)) (PyData.depthAll (as.map d2)) ≤ 1
      have : PyData.depth (d2 a) = 1 := rfl
      omega
theorem lay_dLs : ∀ {bs : List (List Ar)}, (∀ as ∈ bs, ∀ a ∈ as, sOk [a.1, a.2]) → PyData.canLayAll0 (bs.map dL) = true ∧ PyData.depthAll (bs.map dL) ≤ 2
  | [], _ => ⟨rfl, Nat.zero_le _⟩
  | as :: bs, h => by
    obtain ⟨i1, i2⟩ := lay_dLs (bs := bs) fun b hb => h b (List.mem_cons_of_mem _ hb)
    obtain ⟨j1, j2⟩ := lay_dL (h as (List.mem_cons_self ..))
    refine ⟨?_, ?_⟩
    · show (PyData.canLayAll0 (as.map d2) && PyData.canLayAll0 (bs.map dL)) = true
      rw [j1, i1]
      rfl
    · show max (PyData.depthAll (as.map d2) + 1) (PyData.depthAll (bs.map dL)) ≤ 2
      omega
theorem shape_dL {as : List Ar} (h : ∀ a ∈ as, sOk [a.1, a.2]) : SeqAt.shaped (dL as) = true := by
  obtain ⟨i1, i2⟩ := lay_dL h
  unfold SeqAt.shaped
  refine Bool.and_eq_true_iff.mpr ⟨i1, decide_eq_true ?_⟩
  show PyData.depthAll (as.map d2) + 1 ≤ 64
  omega
theorem shape_dLs {bs : List (List Ar)} (h : ∀ as ∈ bs, ∀ a ∈ as, sOk [a.1, a.2]) : SeqAt.shaped (.list (bs.map dL)) = true := by
  obtain ⟨i1, i2⟩ := lay_dLs h
  unfold SeqAt.shaped
  refine Bool.and_eq_true_iff.mpr ⟨i1, decide_eq_true ?_⟩
  show PyData.depthAll (bs.map dL) + 1 ≤ 64
  omega
theorem dp_dL {K : PySem.W.Frag} {H : Hp} {v : V} {as : List Ar} (h : SetV H v as) : Dp K H v (dL as) := by
  obtain ⟨l, xs, rfl, el, hx⟩ := h
  exact .lst (SqL.of el) (dp_pairs hx)
theorem dp_dLs {K : PySem.W.Frag} {H : Hp} : ∀ {vs : List V} {bs : List (List Ar)}, Paired (SetV H) vs bs → DpAll K H vs (bs.map dL)
  | _, _, .nil => .nil
  | _, _, .cons h t => .cons (dp_dL h) (dp_dLs t)
theorem any_dL {bs : List (List Ar)} {as : List Ar} (h : as ∈ bs) (ok : ∀ a ∈ as, sOk [a.1, a.2]) : ((bs.map dL).any fun z => PyData.eqv z (dL as)) = true := by
  rw [List.any_eq_true]
  exact ⟨dL as, List.mem_map.mpr ⟨as, h, rfl⟩, SeqAt.eqv_refl _ (SeqAt.canLay_of_shaped (shape_dL ok))⟩
end K59
end L2
set_option Elab.async false
set_option linter.all false
set_option maxRecDepth 100000
set_option maxHeartbeats 16000000
namespace L2
namespace K59
open PySem PySem.Spec PyProof.Rows K1 WL LamX
section
variable {P : Program} {w : World} {K : PySem.W.Frag} {mg : Str → Option Value} {base : Heap} {f : Addr} {fd : FuncData}
/-! ### law -/
abbrev nmLW : List Str := ["_law_script", "_law_turn", "_law_pool_here", "_law_rows", "_law_web_here", "_law_cells_here", "_law_arrows_here", "_law_k", "_law_good", "_law_some", "_law_told_here", "_law_arrow", "_law_source", "_law_cell_here"]
theorem sc_law : FnScope nmLW ["_law_script"] (defScope s_law) := ⟨rfl, rfl, rfl, by decide +kernel, rfl, by decide +kernel, by decide +kernel⟩
def spLaw (K : PySem.W.Frag) : Sp := fun vs H Q _ => ∃ (a : Addr) (ns : List Int), vs = [.ref a] ∧ SqL K H a (ns.map V.int) ∧ ∀ H', Q (.bl true) H'
theorem t_seqIf {c : TT} {t e u : TS} {D : Ends} {σ : St} {H : Hp} (h : c σ H fun b H1 => if b = true then t { D with nx := u D } σ H1 else e { D with nx := u D } σ H1) : tSeq (tIfS c t e) u D σ H := h
theorem t_ifS {c : TT} {t e : TS} {D : Ends} {σ : St} {H : Hp} (h : c σ H fun b H1 => if b = true then t D σ H1 else e D σ H1) : tIfS c t e D σ H := h
def ixT (K : PySem.W.Frag) (i : Nat) (j : Int) : TE := tOp (rIx K) (tVar i) (tC (.int j))
theorem pairT_hid {H : Hp} {p : Addr} {n : Nat} {v : V} {a : Ar} (h : PairT H v a) (P : Pl H p n) : PairT (hide p H) v a := let ⟨q, e, h⟩ := h; ⟨q, e, P.hid h (by intro x y z c; cases c)⟩
theorem pairT_hideL {H : Hp} {g : Addr} {v : V} {a : Ar} {xs : List V} (h : PairT H v a) (e : H g = some (.lst xs)) : PairT (hide g H) v a := let ⟨q, e1, h1⟩ := h; ⟨q, e1, by rw [hide_ne (fun z => by rw [z, e] at h1; cases h1)]; exact h1⟩
theorem setV_hid {H : Hp} {p : Addr} {n : Nat} {v : V} {bs : List Ar} (h : SetV H v bs) (P : Pl H p n) : SetV (hide p H) v bs := by
  obtain ⟨l, xs, e, h1, h2⟩ := h
  refine ⟨l, xs, e, P.hid h1 fun a b c z => ?_, Paired.imp (fun _ _ h => pairT_hid h P) h2⟩
  have z := HO.lst.inj z
  rw [z] at h2
  cases h2 with
  | cons r _ =>
    obtain ⟨t, et, _⟩ := r
    cases et
theorem cut_one (xs : List V) : cutV xs (some 1) none = xs.drop 1 := by
  unfold cutV
  have e : HT.sIx xs.length 0 (some 1) = min 1 xs.length := HT.sIx_nat _ _ 1
  rw [e, HT.sIx_none]
  cases xs with
  | nil => rfl
  | cons x xs =>
    rw [List.length_cons, show min 1 (xs.length + 1) = 1 by omega]
    exact List.take_of_length_le (by simp)
/-- what the law holds, in the heap beside the pool -/
structure St59 (K : PySem.W.Frag) (C l q x : Addr) (ns : List Int) (rs : Rws) (rl : List V) (B : Hp) : Prop where
  hl : SqL K B l (ns.map V.int)
  web : IsWeb K B C x rs
  eq : B q = some (.lst rl)
  rows : Paired (RowL B) rl rs
theorem St59.same {C l q x : Addr} {ns : List Int} {rs : Rws} {rl : List V} {B B' : Hp} (h : St59 K C l q x ns rs rl B) (s : Same B B') : St59 K C l q x ns rs rl B' :=
  ⟨SqL.sm h.hl s, h.web.same s, s _ _ h.eq, Paired.imp (fun _ _ r => r.same s) h.rows⟩
theorem ok_law {C : Addr} (T : Bl mg) (fr : mg "range" = none) (fso : mg "sorted" = none) (W : Wt K mg C)
    (Cc : Cal P w K mg base "_law_cell" ["_law_script", "_law_k"] 1 (spCellL K)) (Cp : Cal P w K mg base "_law_pool" ["_law_cell_here"] 1 spPoolL)
    (Cw : Cal P w K mg base "_law_web" ["_law_pool_here", "_law_most"] 3 (spWebL K)) (Cb : Cal P w K mg base "_law_built" ["_law_rows"] 8 (spBuilt K C)) (Cpk : Cal P w K mg base "_law_picked" ["_law_pool_here", "_law_things", "_law_share"] 2 (spPicked K)) (Cce : Cal P w K mg base "_law_cells" ["_law_rows"] 1 (spCellsL K))
    (Cal' : Cal P w K mg base "_law_race_arrows" ["_law_rows", "_law_cells_here"] 2 (spRAL K)) (Cse : Cal P w K mg base "_law_sets" ["_law_things"] 1 (spSets K)) (Cle : Cal P w K mg base "_law_least" ["_law_names_here", "_law_ties"] 2 (spLeast K))
    (Cra : Cal P w K mg base "_law_race" ["_law_pool_here", "_law_rows", "_law_cells_here"] 3 (spRaceL K)) (Cto : Cal P w K mg base "_law_told" ["_law_web_here", "_law_cells_here"] 6 (spTold K C))
    (Crm : ∃ f fd, FnOk P w K mg base (L2.CX P w) 5 f fd ["web", "cells", "acts"] (spRM K C) ∧ mg "race_marks" = some (.ref f) ∧ PySem.W.keepIn K (.ref f) = true ∧ Binds K fd ["web", "cells", "acts"] [])
    (Coc : Cal P w K mg base "_law_odd_cells" ["_law_pool_here", "_law_rows"] 2 (spOddC K)) (F : FnP K "law" "law" s_law f fd) :
    FnOk P w K mg base CX0 9 f fd ["_law_script"] (spLaw K) := by
  obtain ⟨fc, fdc, Gc, gc, kc, bc⟩ := Cc.ex
  obtain ⟨fp, fdp, Gp, gp, kp, bp⟩ := Cp.ex
  obtain ⟨fw, fdw, Gw, gw, kw, bw⟩ := Cw.ex
  obtain ⟨fb, fdb, Gb, gb, kb, bb⟩ := Cb.ex
  obtain ⟨fk, fdk, Gk, gk, kk, bk⟩ := Cpk.ex
  obtain ⟨fe, fde, Ge, ge, ke, be⟩ := Cce.ex
  obtain ⟨fa, fda, Ga, ga, ka, ba⟩ := Cal'.ex
  obtain ⟨fs, fds, Gs, gs, ks, bs⟩ := Cse.ex
  obtain ⟨fle, fdle, Gle, gle, kle, ble⟩ := Cle.ex
  obtain ⟨fra, fdra, Gra, gra, kra, bra⟩ := Cra.ex
  obtain ⟨fto, fdto, Gto, gto, kto, bto⟩ := Cto.ex
  obtain ⟨frm, fdrm, Grm, grm, krm, brm⟩ := Crm
  obtain ⟨foc, fdoc, Goc, goc, koc, boc⟩ := Coc.ex
  refine F.ok sc_law (fun vs H Q E h => ?_) (fun cdv A outer s H vs Q E hr h => ?_)
  · obtain ⟨a, ns, rfl, _⟩ := h
    rfl
  · have nd := sc_law.nd
    have hu := hr.units
    have hu65 : (A.deeper (envOfC "law" (defScope s_law) s.heap.objs.size f cdv)).units + 65 < cLine := by
      have := hr.un
      omega
    have h1 := hr.mono (show 1 ≤ 8 by decide)
    have h2 := hr.mono (show 2 ≤ 8 by decide)
    have h3 := hr.mono (show 3 ≤ 8 by decide)
    have h5 := hr.mono (show 5 ≤ 8 by decide)
    have h6 := hr.mono (show 6 ≤ 8 by decide)
    refine ⟨_, PSs.nox (pss_cons (ps_for PassesOwn.never rfl (pi_range1 rfl fr (pa_cons pe_int pa_nil)) (pg_name (i := 1) nd rfl (Or.inl rfl))
      (pss_cons (ps_set (i := 2) nd rfl (Or.inl rfl) (pe_call Gp h1 rfl gp kp bp .nil pass0 (pa_cons (pe_op op_add (pe_call Gc h1 rfl gc kc bc .nil pass0 (pa_cons (pv 0) (pa_cons (pv 1) pa_nil))) (pv 1)) pa_nil)))
      (pss_cons (ps_set (i := 3) nd rfl (Or.inl rfl) (pe_call Gw h3 rfl gw kw bw .nil pass0 (pa_cons (pv 2) (pa_cons pe_int pa_nil))))
      (pss_cons (ps_set (i := 4) nd rfl (Or.inl rfl) (pe_call Gb hr rfl gb kb bb .nil pass0 (pa_cons (pv 3) pa_nil)))
      (pss_cons (ps_set (i := 5) nd rfl (Or.inr rfl) (pe_call Gk h2 rfl gk kk bk .nil pass0 (pa_cons (pv 2) (pa_cons (pe_call Ge h1 rfl ge ke be .nil pass0 (pa_cons (pv 3) pa_nil)) (pa_cons pe_int pa_nil)))))
      (pss_cons (ps_setLc (i := 6) (own := [("_law_arrow", 11)]) (g := gName 11) (tt := tAnd (tTest (tOp (rIn K false) (ixT K 11 0) (tVar 5))) (tTest (tOp rNe (ixT K 11 0) (ixT K 11 1)))) (te := tVar 11) rfl nd rfl rfl (sw_true rfl rfl rfl (by decide +kernel)) (pi_list (pe_call Ga h2 rfl ga ka ba .nil pass0 (pa_cons (pv 3) (pa_cons (pv 5) pa_nil)))) (blkOk_by (N := nmLW) (sc := defScope s_law) (by decide +kernel))
        (fun _ _ _ _ _ => pg_name (i := 11) nd rfl (Or.inl rfl)) (fun _ _ _ _ _ => pts_one (PW.pt (pw_and (pt_cmpR op_in_seq (pe_ix ix_seq (pv 11) pe_int fun _ _ => rfl) (pv 5) rfl) (pw_and1 (pt_cmpR op_ne (pe_ix ix_seq (pv 11) pe_int fun _ _ => rfl) (pe_ix ix_seq (pv 11) pe_int fun _ _ => rfl) (nomark _)))))) (fun _ _ _ _ _ => pv 11))
      (pss_cons (ps_for PassesOwn.never rfl (pi_range1 rfl fr (pa_cons pe_int pa_nil)) (pg_name (i := 7) nd rfl (Or.inl rfl))
        (pss_one (ps_if (pt_cmpR op_gt (pe_callB call_len rfl T.f_len boot_len (pa_cons (pv 6) pa_nil)) pe_int (nomark _))
          (pss_cons (ps_set (i := 5) nd rfl (Or.inr rfl) (pe_slice sl_list (pv 5) (po_some pe_int) po_none))
          (pss_one (ps_setLc (i := 6) (own := [("_law_arrow", 11)]) (g := gName 11) (tt := tAnd (tTest (tOp (rIn K false) (ixT K 11 0) (tVar 5))) (tTest (tOp (rIn K false) (ixT K 11 1) (tVar 5)))) (te := tVar 11) rfl nd rfl rfl (sw_true rfl rfl rfl (by decide +kernel)) (pi_list (pv 6)) (blkOk_by (N := nmLW) (sc := defScope s_law) (by decide +kernel))
            (fun _ _ _ _ _ => pg_name (i := 11) nd rfl (Or.inl rfl)) (fun _ _ _ _ _ => pts_one (PW.pt (pw_and (pt_cmpR op_in_seq (pe_ix ix_seq (pv 11) pe_int fun _ _ => rfl) (pv 5) rfl) (pw_and1 (pt_cmpR op_in_seq (pe_ix ix_seq (pv 11) pe_int fun _ _ => rfl) (pv 5) rfl))))) (fun _ _ _ _ _ => pv 11))))
          pss_nil)))
      (pss_cons (ps_set (i := 8) nd rfl (Or.inl rfl) (pe_lst pa_nil))
      (pss_cons (ps_for PassesOwn.never rfl (pi_list (pe_call Gs h1 rfl gs ks bs .nil pass0 (pa_cons (pv 6) pa_nil))) (pg_name (i := 9) nd rfl (Or.inl rfl))
        (pss_one (ps_if (pt_cmpR op_notN (pe_call Gle h2 rfl gle kle ble .nil pass0 (pa_cons (pv 5) (pa_cons (pe_lc (own := [("_law_source", 12), ("_law_cell_here", 13)]) (g := gTup K 2 (gCons (gName 12) (gCons (gName 13) gNil))) (tt := tYes) (te := tTup (tCons (tVar 12) (tCons (tVar 13) (tCons (tC (.int 1)) tNil)))) rfl nd (pi_list (pv 9)) (blkOk_by (N := nmLW) (sc := defScope s_law) (by decide +kernel))
            (fun _ _ _ _ _ => pg_tup rfl (pgs_cons (pg_name (i := 12) nd rfl (Or.inl rfl)) (pgs_cons (pg_name (i := 13) nd rfl (Or.inl rfl)) pgs_nil))) (fun _ _ _ _ _ => pts_nil) (fun _ _ _ _ _ => pe_tup (pa_cons (pv 12) (pa_cons (pv 13) (pa_cons pe_int pa_nil))))) pa_nil))) pe_non (nomark _))
          (pss_one (ps_expr (pe_bm PySem.F.plainAttrs_list PySem.F.slot_list_append PySem.F.type_list_append mt_append (pv 8) (pa_cons (pe_callB (cr_sortedPr hu65) rfl fso PyProof.Rows.boot_sorted (pa_cons (pv 9) pa_nil)) pa_nil)))) pss_nil)))
      (pss_cons (ps_if (PW.pt (pw_or (pt_cmpR op_ne (pe_call Gto h6 rfl gto kto bto .nil pass0 (pa_cons (pv 4) (pa_cons (pv 5) pa_nil))) (pe_callB call_len rfl T.f_len boot_len (pa_cons (pv 8) pa_nil)) (nomark _))
          (pw_or1 (pt_cmpR op_ne (pe_call Gto h6 rfl gto kto bto .nil pass0 (pa_cons (pv 4) (pa_cons (pe_callTy call_tuple_of rfl T.f_tuple PyProof.Rows.boot_tuple (pa_cons (pe_revL (pv 5)) pa_nil)) pa_nil))) (pe_callB call_len rfl T.f_len boot_len (pa_cons (pv 8) pa_nil)) (nomark _))))) (pss_one (ps_ret pe_bl)) pss_nil)
      (pss_cons (ps_for PassesOwn.never rfl (pi_range1 rfl fr (pa_cons pe_int pa_nil)) (pg_name (i := 7) nd rfl (Or.inl rfl))
        (pss_cons (ps_set (i := 10) nd rfl (Or.inr rfl) (pe_call Grm h5 rfl grm krm brm .nil passN (pa_cons (pv 4) (pa_cons (pv 5) (pa_cons (pe_call Gra h3 rfl gra kra bra .nil pass0 (pa_cons (pv 2) (pa_cons (pv 3) (pa_cons (pv 5) pa_nil)))) pa_nil)))))
        (pss_one (ps_if (pt_cmpR (op_notInD hu65) (pe_callB (cr_sortedPr hu65) rfl fso PyProof.Rows.boot_sorted (pa_cons (pe_lock (pe_lc (own := [("_law_arrow", 11)]) (g := gName 11) (tt := tTest (tOp rEq (tDGet (tVar 10) (tVar 11)) (tC (.str "new")))) (te := tVar 11) rfl nd (pi_keys (pv 10)) (blkOk_by (N := nmLW) (sc := defScope s_law) (by decide +kernel))
            (fun _ _ _ _ _ => pg_name (i := 11) nd rfl (Or.inl rfl)) (fun _ _ _ _ _ => pts_one (pt_cmpR op_eq (pe_dget (hu_of hr) (pv 10) (pv 11) fun _ _ => rfl) pe_str (nomark _))) (fun _ _ _ _ _ => pv 11))) pa_nil)) (pv 8) rfl) (pss_one (ps_ret pe_bl)) pss_nil))))
      (pss_cons (ps_if (PW.pt (pw_or (pt_cmpR op_ne (pe_call Gto h6 rfl gto kto bto .nil pass0 (pa_cons (pv 4) (pa_cons (pe_lst pa_nil) pa_nil))) pe_int (nomark _))
          (pw_or1 (pt_cmpR op_ne (pe_call Gto h6 rfl gto kto bto .nil pass0 (pa_cons (pv 4) (pa_cons (pe_lst (pa_cons (pe_ix ix_list (pe_ix ix_list (pv 3) pe_int fun _ _ => rfl) pe_int fun _ _ => rfl) pa_nil)) pa_nil))) pe_int (nomark _))))) (pss_one (ps_ret pe_bl)) pss_nil)
      (pss_one (ps_if (pt_cmpR op_ne (pe_call Gto h6 rfl gto kto bto .nil pass0 (pa_cons (pv 4) (pa_cons (pe_call Goc h2 rfl goc koc boc .nil pass0 (pa_cons (pv 2) (pa_cons (pv 3) pa_nil))) pa_nil))) pe_str (nomark _)) (pss_one (ps_ret pe_bl)) pss_nil))))))))))))))
      (pss_one (ps_ret pe_bl))), ?_⟩
    obtain ⟨l, ns, rfl, hl, hQ⟩ := h
    refine t_seqF ?_
    refine ⟨3, rfl, by decide, by decide, for_range (n := 3) (fun _ σ H => SqL K H l (ns.map V.int) ∧ ∃ r, σ = some (.ref l) :: r ∧ r.length = 13) ⟨hl, _, rfl, rfl⟩ ?turn ?last⟩
    case last =>
      rintro σ H1 ⟨_, r, rfl, _⟩
      exact hQ _
    case turn =>
      rintro i σ H1 hi ⟨hl1, r, rfl, hr13⟩
      obtain ⟨o1, o2, o3, o4, o5, o6, o7, o8, o9, o10, o11, o12, o13, rfl⟩ := thirteen hr13
      refine ⟨_, rfl, _, rfl, l, ns, i, (show ([V.ref l, V.int (0 + (i : Int))] : List V) = [V.ref l, V.int ((i : Nat) : Int)] by rw [Int.zero_add]), hl1, fun gr => ?_⟩
      refine ⟨_, rfl, gr, _, rfl, rfl, _, rfl, fun p o np hP => ?_⟩
      have hl2 : SqL K (hide p (upd H1 p o)) l (ns.map V.int) := by
        rw [hide_updp]
        exact SqL.hid hl1 np
      generalize upd H1 p o = H2 at *
      refine g_nm ?_
      try dsimp only
      refine t_seqAsg ?_
      refine ⟨_, rfl, p, 6, 0, rfl, by decide, by decide, hP, by decide, fun rs rl H3 q s3 P3 LR nq eq hrow => ?_⟩
      have hl3 := SqL.sm hl2 s3
      have LG := LR.good (by decide)
      have lrs : rs.length ≤ 6 := LR.lm
      have hr8 : ∀ r ∈ rs, r.2.length ≤ 8 := fun r hr => by
        have := (LR.sr r hr).2.1
        omega
      have hrN : ∀ r ∈ rs, r.2.Nodup := fun r hr => (LR.sr r hr).1
      have lrl := Paired.length hrow
      refine g_nm ?_
      try dsimp only
      refine t_seqAsg ?_
      clear nq s3 hl2 hP
      refine ⟨_, rfl, q, rl, rs, rfl, hide_le _ _ eq, Paired.imp (fun _ _ h => h.same hide_le) hrow, LG, fun x H4 s34 w4 => ?_⟩
      have P4 := P3.same s34
      have w4' := w4.hid P4
      have hs34 := hide_same (p := p) s34
      have hl4 := SqL.sm hl3 hs34
      have hrow4 := Paired.imp (fun _ _ h => RowL.same h hs34) hrow
      have eq4 := hs34 _ _ eq
      clear hrow eq hl3 P3 w4 hs34 s34
      refine g_nm ?_
      try dsimp only
      refine t_seqAsg ?_
      refine ⟨_, rfl, _, rfl, q, rl, rs, rfl, SqL.of (hide_le _ _ eq4), Paired.imp (fun _ _ h => h.same hide_le) hrow4, by omega, fun D H5 s45 nD eD => ?_⟩
      have P5 := P4.same s45
      have Dp : D ≠ p := fun z => P4.ne (by rw [← z]; exact nD)
      have eD' : hide p H5 D = some (.lst ((rs.map Prod.fst).map .str)) := by rw [hide_ne Dp]; exact eD
      refine ⟨p, D, 3, (rs.map Prod.fst).map .str, 0 + 150, rfl, SqL.of eD', by rw [List.length_map, List.length_map]; omega, P5, by decide, fun ys zs H6 lc hperm s56 P6 nlc elc _ => ?_⟩
      obtain ⟨ss, ess, hss⟩ := perm_strs hperm
      obtain ⟨cs, ds, rfl, ecs, _⟩ := List.map_eq_append_iff.mp ess.symm
      subst ecs
      have hcn : cs.Nodup := (List.nodup_append.mp (hss.nodup_iff.mpr LG.nd)).1
      have hcr : ∀ c ∈ cs, c ∈ rs.map Prod.fst := fun c hc => hss.subset (List.mem_append_left _ hc)
      have lcs : cs.length ≤ 6 := by
        have := hss.length_eq
        rw [List.length_append, List.length_map] at this
        omega
      have s46 := (hide_same (p := p) s45).trans s56
      have st6 : St59 K C l q x ns rs rl (hide p H6) := ⟨SqL.sm hl4 s46, w4'.same s46, s46 _ _ eq4, Paired.imp (fun _ _ h => RowL.same h s46) hrow4⟩
      have P6 : Pl H6 p 200 := P6.le (by rw [List.length_map, List.length_map]; omega)
      have hA99 : (arr rs).length ≤ 99 := by
        have h2 := arr_len8 hr8
        have : rs.length * 8 ≤ 6 * 8 := Nat.mul_le_mul_right _ lrs
        omega
      have lin : ∀ cs, (inner rs cs).length ≤ 99 := fun cs => Nat.le_trans (List.length_filter_le _ _) hA99
      clear hperm ess hss eD eD' Dp nD s45 s56 s46 hl4 w4' hrow4 eq4 P4 P5 nlc
      refine g_nm ?_
      try dsimp only
      -- the arrows between the cells
      refine t_seqAsg ?_
      refine ⟨_, rfl, _, rfl, q, .ref lc, rl, rs, cs, rfl, SqL.of (hide_le _ _ st6.eq), Paired.imp (fun _ _ h => h.same hide_le) st6.rows, by omega, hr8, ⟨lc, rfl, .inl (SqL.of (hide_le _ _ elc))⟩, fun u ul H7 s67 nu eu hul => ?_⟩
      have lul := Paired.length hul
      have lra : (raceA rs cs).length ≤ 99 := Nat.le_trans (List.length_filter_le ..) hA99
      have elc7 := s67 _ _ (hide_le _ _ elc)
      refine ⟨u, rfl, ⟨_, SqL.of eu⟩, fun D nD => ?_⟩
      refine lc_it (walk_list (xs := ul)) (fun i H' => Same H7 H' ∧ ∃ pl, H' D = some (.lst pl) ∧ Paired (PairT (hide D H')) pl (((raceA rs cs).take i).filter fun a => decide (a.1 ∈ cs) && !decide (a.1 = a.2))) ⟨same_upd nD, [], upd_same, .nil⟩ (fun i H' _ z => SqL.of (z.1 _ _ eu)) ?_ ?_
      · rintro j v H8o H8 hj ⟨s8, pl, eD, hpl⟩ ⟨rfl, hv⟩
        obtain ⟨b, hb, q1, rfl, e1⟩ := Paired.getL hul hv
        have hlj : j < ul.length := (List.getElem?_eq_some_iff.mp hv).1
        have ft := filt_take (p := fun a : Ar => decide (a.1 ∈ cs) && !decide (a.1 = a.2)) hb
        have e18 := s8 _ _ e1
        have lpl : pl.length ≤ 99 := by
          rw [Paired.length hpl]
          exact Nat.le_trans (List.length_filter_le _ _) (by rw [List.length_take]; omega)
        refine ⟨rfl, _, rfl, Seq.ix (x := .str b.1) ⟨q1, rfl, .inr (SqT.of e18)⟩ rfl ⟨_, rfl, lc, _, rfl, .inl (SqL.of (s8 _ _ elc7)), rfl, flat_strs' _, _, rfl, ?_⟩⟩
        by_cases m : b.1 ∈ cs
        · have eb : inV (.str b.1) (cs.map V.str) = true := by rw [in_strs, decide_eq_true m]
          refine iteP eb ?_
          refine ⟨_, rfl, Seq.ix (x := .str b.1) ⟨q1, rfl, .inr (SqT.of e18)⟩ rfl ⟨_, rfl, Seq.ix (x := .str b.2) ⟨q1, rfl, .inr (SqT.of e18)⟩ rfl ⟨rfl, _, rfl, ?_⟩⟩⟩
          by_cases e : b.1 = b.2
          · refine iteN (by rw [e, decide_eq_true rfl]; rfl) ⟨s8, pl, eD, ?_⟩
            rw [ft, if_neg (by rw [decide_eq_true e]; simp), List.append_nil]
            exact hpl
          · refine iteP (by rw [decide_eq_false fun z => e (V.str.inj z)]; rfl) ⟨_, rfl, pl, eD, by rw [sizeLine_eq]; omega, same_over nD s8, _, upd_same, ?_⟩
            rw [hide_updp, ft, if_pos (by rw [decide_eq_true m, decide_eq_false e]; rfl)]
            exact Paired.snoc hpl ⟨q1, rfl, by rw [hide_ne (fun z => by rw [z, eD] at e18; cases e18)]; exact e18⟩
        · have eb : inV (.str b.1) (cs.map V.str) = false := by rw [in_strs, decide_eq_false m]
          refine iteN eb (iteN rfl ⟨s8, pl, eD, ?_⟩)
          rw [ft, if_neg (by rw [decide_eq_false m]; simp), List.append_nil]
          exact hpl
      rintro H8 ⟨s78, pl, eD, hpl⟩
      rw [lul, List.take_length, inner_first] at hpl
      have s68 := s67.trans s78
      have Dp : D ≠ p := fun z => (P6.same s67).ne (by rw [← z]; exact nD)
      have st8 := st6.same (hide_same s68)
      have P8 := P6.same s68
      have elc8 := hide_same s68 _ _ elc
      have eD8 : hide p H8 D = some (.lst pl) := by rw [hide_ne Dp]; exact eD
      have hpl8 : Paired (PairT (hide p H8)) pl (inner rs cs) := Paired.imp (fun _ _ h => pairT_hid (PairT_same h hide_le) P8) hpl
      clear hpl eD elc elc7 nD nu eu hul s67 s78 st6 P6 s68
      refine g_nm ?_
      try dsimp only
      -- fewer cells, while the arrows are too many
      refine t_seqF ?_
      refine ⟨6, rfl, by decide, by decide, for_range (n := 6) (fun k σ H' => ∃ (cs : List Str) (lc la : Addr) (pl : List V), St59 K C l q x ns rs rl (hide p H') ∧ Pl H' p 200 ∧ hide p H' lc = some (.lst (cs.map .str)) ∧ hide p H' la = some (.lst pl) ∧ Paired (PairT (hide p H')) pl (inner rs cs) ∧ cs.Nodup ∧ (∀ c ∈ cs, c ∈ rs.map Prod.fst) ∧ cs.length ≤ 6 ∧ ((inner rs cs).length ≤ 9 ∨ cs.length + k ≤ 6) ∧
        ∃ w1 w7 w8 w9 w10 w11 w12 w13 : Option V, σ = [some (.ref l), w1, some (.ref p), some (.ref q), some (.ref x), some (.ref lc), some (.ref la), w7, w8, w9, w10, w11, w12, w13])
        ⟨cs, lc, D, pl, st8, P8, elc8, eD8, hpl8, hcn, hcr, lcs, .inr (by omega), _, _, _, _, _, _, _, _, rfl⟩ ?_ ?_⟩
      · clear hpl8 eD8 elc8 st8 P8 hcn hcr lcs lra lul
        rintro k σ HA hk ⟨cs, lc, la, pl, stA, PA, elc, ela, hpl, hcn, hcr, lcs, hor, w1, w7, w8, w9, w10, w11, w12, w13, rfl⟩
        have lpl := Paired.length hpl
        refine g_nm ?_
        try dsimp only
        refine t_ifS ?_
        refine ⟨_, rfl, .ref la, pl.length, rfl, .inl ⟨_, SqL.of (hide_le _ _ ela), rfl⟩, _, _, rfl, rfl, _, rfl, ?_⟩
        by_cases c9 : 9 < pl.length
        · refine iteP (decide_eq_true (by omega)) ?_
          have hne : cs ≠ [] := fun z => by
            rw [z, inner_nil (Nat.zero_le _)] at lpl
            rw [lpl] at c9
            simp at c9
          have lc0 := List.length_pos_iff.mpr hne
          refine ⟨_, rfl, 1, rfl, lc, _, rfl, SqL.of (hide_le _ _ elc), fun d nd' => ?_⟩
          rw [cut_one, ← List.map_drop]
          obtain ⟨dp, sd, ed⟩ := hide_new (o := .lst ((cs.drop 1).map .str)) PA.ne nd'
          have PB := PA.new (o := .lst ((cs.drop 1).map .str)) nd'
          have sdd := same_upd (o := .lst ((cs.drop 1).map V.str)) nd'
          generalize upd HA d (.lst ((cs.drop 1).map .str)) = HB at *
          have ela2 := sdd _ _ (hide_le _ _ ela)
          have ed2 := hide_le _ _ ed
          refine g_nm ?_
          try dsimp only
          refine ⟨_, rfl, la, rfl, ⟨_, SqL.of ela2⟩, fun D nD => ?_⟩
          refine lc_it (walk_list (xs := pl)) (fun i H' => Same HB H' ∧ ∃ ql, H' D = some (.lst ql) ∧ Paired (PairT (hide D H')) ql (((inner rs cs).take i).filter fun a => decide (a.1 ∈ cs.drop 1) && decide (a.2 ∈ cs.drop 1))) ⟨same_upd nD, [], upd_same, .nil⟩ (fun i H' _ z => SqL.of (z.1 _ _ ela2)) ?_ ?_
          · rintro j v H8o H8 hj ⟨s8, ql, eD, hql⟩ ⟨rfl, hv⟩
            obtain ⟨b, hb, q1, rfl, e1⟩ := Paired.getL hpl hv
            have ft := filt_take (p := fun a : Ar => decide (a.1 ∈ cs.drop 1) && decide (a.2 ∈ cs.drop 1)) hb
            have e18 := s8 _ _ (sdd _ _ (hide_le _ _ e1))
            have ed8 := s8 _ _ ed2
            have lin9 := lin cs
            have lql : ql.length ≤ 99 := by
              rw [Paired.length hql]
              exact Nat.le_trans (List.length_filter_le _ _) (by rw [List.length_take]; omega)
            refine ⟨rfl, _, rfl, Seq.ix (x := .str b.1) ⟨q1, rfl, .inr (SqT.of e18)⟩ rfl ⟨_, rfl, d, _, rfl, .inl (SqL.of ed8), rfl, flat_strs' _, _, rfl, ?_⟩⟩
            by_cases m : b.1 ∈ cs.drop 1
            · have eb : inV (.str b.1) ((cs.drop 1).map V.str) = true := by rw [in_strs, decide_eq_true m]
              refine iteP eb ?_
              refine ⟨_, rfl, Seq.ix (x := .str b.2) ⟨q1, rfl, .inr (SqT.of e18)⟩ rfl ⟨_, rfl, d, _, rfl, .inl (SqL.of ed8), rfl, flat_strs' _, _, rfl, ?_⟩⟩
              by_cases m2 : b.2 ∈ cs.drop 1
              · have eb2 : inV (.str b.2) ((cs.drop 1).map V.str) = true := by rw [in_strs, decide_eq_true m2]
                refine iteP eb2 ⟨_, rfl, ql, eD, by rw [sizeLine_eq]; omega, same_over nD s8, _, upd_same, ?_⟩
                rw [hide_updp, ft, if_pos (by rw [decide_eq_true m, decide_eq_true m2]; rfl)]
                exact Paired.snoc hql ⟨q1, rfl, by rw [hide_ne (fun z => by rw [z, eD] at e18; cases e18)]; exact e18⟩
              · have eb2 : inV (.str b.2) ((cs.drop 1).map V.str) = false := by rw [in_strs, decide_eq_false m2]
                refine iteN eb2 ⟨s8, ql, eD, ?_⟩
                rw [ft, if_neg (by rw [decide_eq_false m2]; simp), List.append_nil]
                exact hql
            · have eb : inV (.str b.1) ((cs.drop 1).map V.str) = false := by rw [in_strs, decide_eq_false m]
              refine iteN eb (iteN rfl ⟨s8, ql, eD, ?_⟩)
              rw [ft, if_neg (by rw [decide_eq_false m]; simp), List.append_nil]
              exact hql
          · rintro H8 ⟨s8, ql, eD, hql⟩
            have hsub : ∀ x ∈ cs.drop 1, x ∈ cs := fun x hx => List.mem_of_mem_drop hx
            rw [lpl, List.take_length, inner_step hsub] at hql
            have Dp : D ≠ p := fun z => PB.ne (by rw [← z]; exact nD)
            have PC := PB.same s8
            have ldr : (cs.drop 1).length = cs.length - 1 := List.length_drop
            exact ⟨cs.drop 1, d, D, ql, stA.same (sd.trans (hide_same s8)), PC, hide_same s8 _ _ ed, by rw [hide_ne Dp]; exact eD, Paired.imp (fun _ _ h => pairT_hid (PairT_same h hide_le) PC) hql,
              hcn.sublist (List.drop_sublist 1 cs), fun c hc => hcr c (hsub c hc), by omega, .inr (hor.elim (fun z => by omega) fun z => by omega), _, _, _, _, _, _, _, _, rfl⟩
        · refine iteN (decide_eq_false (by omega)) ⟨cs, lc, la, pl, stA, PA, elc, ela, hpl, hcn, hcr, lcs, .inl (by omega), _, _, _, _, _, _, _, _, rfl⟩
      clear hpl8 eD8 elc8 st8 P8 hcn hcr lcs lra lul
      rintro σ H9 ⟨cs, lc, la, pl, st9, P9, elc, ela, hpl, hcn, hcr, lcs, hor, w1, w7, w8, w9, w10, w11, w12, w13, rfl⟩
      have l9 : (inner rs cs).length ≤ 9 := hor.elim id fun z => by
        rw [inner_nil (by omega)]
        exact Nat.zero_le _
      have lpl := Paired.length hpl
      have hcs : ∀ {B : Hp}, Same (hide p H9) B → Seq K B (.ref lc) (cs.map .str) := fun s => ⟨lc, rfl, .inl (SqL.of (s _ _ elc))⟩
      try dsimp only
      -- the sets without a ring
      refine t_seqAsg ?_
      refine ⟨(show 0 ≤ sizeLine by decide), fun gl ngl => ?_⟩
      have sg := same_upd (o := .lst []) ngl
      have eg : (upd H9 gl (.lst [])) gl = some (.lst []) := upd_same
      generalize upd H9 gl (.lst []) = H10 at *
      refine g_nm ?_
      try dsimp only
      refine t_seqF ?_
      refine ⟨_, rfl, la, pl, inner rs cs, rfl, SqL.of (sg _ _ (hide_le _ _ ela)), Paired.imp (fun _ _ h => PairT_same h (Same.trans hide_le sg)) hpl, by omega, fun D vl H11 s11 nD eD hvl => ?_⟩
      have lvl := Paired.length hvl
      have lsets : (setsL (inner rs cs)).length ≤ 2 ^ 9 := by
        rw [setsL_len]
        exact Nat.pow_le_pow_right (by decide) l9
      have eg11 := s11 _ _ eg
      have Dg : D ≠ gl := (ne_of_none eg nD).symm
      have sB : Same H9 (hide gl H11) := fun b o e => by
        rw [hide_ne (ne_of_none e ngl)]
        exact s11 _ _ (sg _ _ e)
      refine ⟨D, rfl, ⟨_, SqL.of eD⟩, ?_⟩
      refine for_list (xs := vl) (fun j σ H' => Same (hide gl H11) (hide gl H') ∧ (∃ gv, H' gl = some (.lst gv) ∧ Paired (SetV (hide gl H')) gv ((((setsL (inner rs cs)).take j).filter acyB).map sortA)) ∧ ∃ w1 w7 w9 w10 w11 w12 w13 : Option V, σ = [some (.ref l), w1, some (.ref p), some (.ref q), some (.ref x), some (.ref lc), some (.ref la), w7, some (.ref gl), w9, w10, w11, w12, w13])
        ⟨Same.refl _, ⟨[], eg11, .nil⟩, _, _, _, _, _, _, _, rfl⟩ (fun j σ H' _ z => SqL.of (hide_le _ _ (z.1 _ _ (by rw [hide_ne Dg]; exact eD)))) ?_ ?_
      · rintro j v σ HA hv ⟨sA, ⟨gv, egA, hgv⟩, w1, w7, w9, w10, w11, w12, w13, rfl⟩
        obtain ⟨bs, hbs, so, xs, rfl, nso, eso, hxs⟩ := Paired.getL hvl hv
        have hjv : j < vl.length := (List.getElem?_eq_some_iff.mp hv).1
        have sog : so ≠ gl := (ne_of_none eg nso).symm
        have hbm := List.mem_of_getElem? hbs
        have lbs : bs.length ≤ 9 := Nat.le_trans (setV_len bs hbm) l9
        have hin : ∀ a ∈ bs, a.1 ∈ cs ∧ a.2 ∈ cs := fun a ha => by
          have := mem_inner.mp (setsL_sub _ bs hbm a ha)
          exact ⟨this.2.1, this.2.2.1⟩
        have esoA : HA so = some (.lst xs) := hide_le _ _ (sA _ _ (by rw [hide_ne sog]; exact eso))
        have hxsA : Paired (PairT (hide gl HA)) xs bs := Paired.imp (fun _ _ h => PairT_same (pairT_hideL h eg11) sA) hxs
        have lxs := Paired.length hxs
        have lgv : gv.length ≤ 2 ^ 9 := by
          rw [Paired.length hgv, List.length_map]
          exact Nat.le_trans (List.length_filter_le _ _) (by rw [List.length_take]; omega)
        have s9A : Same H9 HA := sB.trans (sA.trans hide_le)
        refine g_nm ?_
        try dsimp only
        refine t_ifS ?_
        refine ⟨_, rfl, _, rfl, so, rfl, ⟨_, SqL.of esoA⟩, fun D2 nD2 => ?_⟩
        refine lc_it (walk_list (xs := xs)) (fun i H' => Same HA H' ∧ ∃ tl, H' D2 = some (.lst tl) ∧ Paired (T3 (hide D2 H')) tl (bs.take i)) ⟨same_upd nD2, [], upd_same, .nil⟩ (fun i H' _ z => SqL.of (z.1 _ _ esoA)) ?_ ?_
        · rintro k y HBo HB hk ⟨sAB, tl, eD2, htl⟩ ⟨rfl, hy⟩
          obtain ⟨b, hb, q1, rfl, e1⟩ := Paired.getL hxsA hy
          have e1B := sAB _ _ (hide_le _ _ e1)
          have ltl : tl.length ≤ 9 := by
            rw [Paired.length htl, List.length_take]
            omega
          refine ⟨q1, _, rfl, SqT.of e1B, rfl, _, _, rfl, _, _, rfl, rfl, rfl, _, rfl, _, rfl, (show 3 ≤ sizeLine by decide), fun t nt => ?_⟩
          have st := same_upd (o := .tup [.str b.1, .str b.2, .int 1]) nt
          have et : (upd HB t (.tup [.str b.1, .str b.2, .int 1])) t = some (.tup [.str b.1, .str b.2, .int 1]) := upd_same
          have tD : t ≠ D2 := fun z => by rw [z, eD2] at nt; cases nt
          have eD3 := st _ _ eD2
          generalize upd HB t (.tup [.str b.1, .str b.2, .int 1]) = HC at *
          refine ⟨tl, eD3, by rw [sizeLine_eq]; omega, same_over nD2 (sAB.trans st), _, upd_same, ?_⟩
          rw [hide_updp, List.take_succ, hb]
          exact Paired.snoc (Paired.imp (fun _ _ h => h.same (hide_same st)) htl) ⟨t, rfl, by rw [hide_ne tD]; exact et⟩
        rintro HB ⟨sAB, tl, eD2, htl⟩
        rw [lxs, List.take_length] at htl
        have hacy : (bfG cs bs).isSome = acyB bs := by
          rw [Bool.eq_iff_iff, bfG_iff hin, acyB_iff]
        have ft := filt_take (p := acyB) hbs
        refine ⟨.ref lc, D2, tl, cs, bs, rfl, ⟨lc, rfl, .inl (SqL.of (sAB _ _ (s9A _ _ (hide_le _ _ elc))))⟩, SqL.of eD2, Paired.imp (fun _ _ h => h.same hide_le) htl, hcn, by omega, hin, fun hs d HC sBC => ?_, fun hs HC sBC => ?_⟩
        · rw [hacy] at hs
          refine ⟨rfl, _, rfl, iteP rfl ?_⟩
          have sAC := sAB.trans sBC
          have egC := sAC _ _ egA
          refine ⟨_, rfl, .inl ⟨rfl, _, SqL.of egC⟩, _, rfl, so, xs, bs, rfl, SqL.of (sAC _ _ esoA), Paired.imp (fun _ _ h => PairT_same h (Same.trans hide_le sAC)) hxsA, fun ys sp hys nsp => ?_⟩
          have ss := same_upd (o := .lst ys) nsp
          have es : (upd HC sp (.lst ys)) sp = some (.lst ys) := upd_same
          have spg : sp ≠ gl := (ne_of_none egC nsp).symm
          have egD := ss _ _ egC
          generalize upd HC sp (.lst ys) = HD at *
          refine ⟨gl, gv, .ref sp, rfl, rfl, egD, by rw [sizeLine_eq]; omega, ?_⟩
          refine ⟨by rw [hide_updp]; exact sA.trans (hide_same (sAC.trans ss)), ⟨_, upd_same, ?_⟩, _, _, _, _, _, _, _, rfl⟩
          rw [hide_updp, ft, if_pos hs, List.map_append]
          exact Paired.snoc (Paired.imp (fun _ _ h => h.same (hide_same (sAC.trans ss))) hgv) ⟨sp, ys, rfl, by rw [hide_ne spg]; exact es, Paired.imp (fun _ _ h => PairT_same (pairT_hideL h egC) (hide_same ss)) hys⟩
        · rw [hacy] at hs
          refine ⟨rfl, _, rfl, iteN rfl ?_⟩
          have sAC := sAB.trans sBC
          refine ⟨sA.trans (hide_same sAC), ⟨gv, sAC _ _ egA, ?_⟩, _, _, _, _, _, _, _, rfl⟩
          rw [ft, if_neg (by rw [hs]; decide), List.append_nil]
          exact Paired.imp (fun _ _ h => h.same (hide_same sAC)) hgv
      rintro σ H12 ⟨s12, ⟨gv, eg12, hgv⟩, w1, w7, w9, w10, w11, w12, w13, rfl⟩
      rw [lvl, List.take_length] at hgv
      have s9_12 : Same H9 H12 := sB.trans (s12.trans hide_le)
      have P12 := P9.same s9_12
      have st12 := st9.same (hide_same s9_12)
      have elc12 := hide_same s9_12 _ _ elc
      have hgv12 : Paired (SetV (hide p H12)) gv (((setsL (inner rs cs)).filter acyB).map sortA) := Paired.imp (fun _ _ h => setV_hid (h.same hide_le) P12) hgv
      have glp : gl ≠ p := fun z => by
        have := P9.ne
        rw [← z] at this
        exact this ngl
      have eg12' : hide p H12 gl = some (.lst gv) := by rw [hide_ne glp]; exact eg12
      have lgv : gv.length = cntA (inner rs cs) := by
        rw [Paired.length hgv, List.length_map]
        rfl
      clear hgv eg12 s12 sB eg11 eD hvl nD Dg s11 eg sg lvl s9_12 st9 P9 elc ela hpl hcs
      try dsimp only
      -- as many as the program tells
      refine t_seqIf ?_
      refine ⟨_, rfl, _, rfl, x, .ref lc, rs, rfl, st12.web.same hide_le, LG, .inr ⟨cs, ⟨lc, rfl, .inl (SqL.of (hide_le _ _ elc12))⟩, by omega, hcn, hcr, hA99, fun H13 s13 => ?_⟩⟩
      rw [nAcy_inner]
      refine ⟨_, rfl, .ref gl, gv.length, rfl, .inl ⟨_, SqL.of (s13 _ _ (hide_le _ _ eg12')), rfl⟩, rfl, _, rfl, ?_⟩
      refine iteN (by rw [lgv, decide_eq_true rfl]; rfl) ?_
      refine ⟨_, rfl, _, rfl, lc, _, rfl, SqL.of (s13 _ _ (hide_le _ _ elc12)), fun r nr => ?_⟩
      have sr := same_upd (o := .lst (cs.map V.str).reverse) nr
      have er : (upd H13 r (.lst (cs.map V.str).reverse)) r = some (.lst (cs.map V.str).reverse) := upd_same
      generalize upd H13 r (.lst (cs.map V.str).reverse) = H14 at *
      refine ⟨r, _, rfl, .inl ⟨SqL.of er, fun t nt => ?_⟩⟩
      have st := same_upd (o := .tup (cs.map V.str).reverse) nt
      have et : (upd H14 t (.tup (cs.map V.str).reverse)) t = some (.tup (cs.map V.str).reverse) := upd_same
      generalize upd H14 t (.tup (cs.map V.str).reverse) = H15 at *
      rw [← List.map_reverse] at et
      have s12_15 := (s13.trans sr).trans st
      refine ⟨x, .ref t, rs, rfl, (st12.same (hide_same s12_15)).web.same hide_le, LG, .inr ⟨cs.reverse, ⟨t, rfl, .inr (SqT.of et)⟩, by rw [List.length_reverse]; omega, (List.reverse_perm cs).nodup_iff.mpr hcn, fun c hc => hcr c (List.mem_reverse.mp hc), hA99, fun H16 s16 => ?_⟩⟩
      rw [nAcy_inner, inner_rev]
      have s12_16 := s12_15.trans s16
      refine ⟨_, rfl, .ref gl, gv.length, rfl, .inl ⟨_, SqL.of (s12_16 _ _ (hide_le _ _ eg12')), rfl⟩, rfl, _, rfl, ?_⟩
      refine iteN (by rw [lgv, decide_eq_true rfl]; rfl) ?_
      refine t_next ?_
      have P16 := P12.same s12_16
      have st16 := st12.same (hide_same s12_16)
      have elc16 := hide_same s12_16 _ _ elc12
      have eg16 := hide_same s12_16 _ _ eg12'
      have hgv16 : Paired (SetV (hide p H16)) gv (((setsL (inner rs cs)).filter acyB).map sortA) := Paired.imp (fun _ _ h => h.same (hide_same s12_16)) hgv12
      clear s12_16 s12_15 hgv12 eg12' elc12 st12 P12 s13 nr sr er nt st et s16 ngl
      try dsimp only
      -- the marks of drawn races
      refine t_seqF ?_
      refine ⟨4, rfl, by decide, by decide, for_range (n := 4) (fun k σ H' => St59 K C l q x ns rs rl (hide p H') ∧ Pl H' p (200 + 250 * k) ∧ hide p H' lc = some (.lst (cs.map .str)) ∧ hide p H' gl = some (.lst gv) ∧ Paired (SetV (hide p H')) gv (((setsL (inner rs cs)).filter acyB).map sortA) ∧
        ∃ w1 w7 w9 w10 w11 w12 w13 : Option V, σ = [some (.ref l), w1, some (.ref p), some (.ref q), some (.ref x), some (.ref lc), some (.ref la), w7, some (.ref gl), w9, w10, w11, w12, w13]) ⟨st16, P16, elc16, eg16, hgv16, _, _, _, _, _, _, _, rfl⟩ ?_ ?_⟩
      · rintro k σ HA hk ⟨stA, PA, elcA, egA, hgvA, w1, w7, w9, w10, w11, w12, w13, rfl⟩
        refine g_nm ?_
        try dsimp only
        refine t_seqAsg ?_
        refine ⟨_, rfl, _, rfl, _, rfl, _, rfl, _, rfl, p, q, lc, rl, rs, cs, 200 + 250 * k, rfl, PA, by omega, SqL.of stA.eq, stA.rows, by omega, LG.nd, hr8, SqL.of elcA, hcn, hcr, fun xs al HB a sAB PB na ea hacts lal hrun => ?_⟩
        obtain ⟨sE, hgo, hall⟩ := hrun hrN
        obtain ⟨hdue, hmem⟩ := race_told hcn hgo hall
        have stB := stA.same sAB
        have elcB := sAB _ _ elcA
        have egB := sAB _ _ egA
        have hgvB : Paired (SetV (hide p HB)) gv (((setsL (inner rs cs)).filter acyB).map sortA) := Paired.imp (fun _ _ h => h.same sAB) hgvA
        have lxs := Paired.length hacts
        have hA900 : (raceA rs cs).length ≤ 900 := Nat.le_trans (List.length_filter_le ..) (Nat.le_trans hA99 (by decide))
        refine ⟨x, .ref lc, .ref a, rs, rfl, stB.web.same hide_le, LG, .inr ⟨cs, ⟨lc, rfl, .inl (SqL.of (hide_le _ _ elcB))⟩, by omega, hcn, hcr, hA900, .inr ⟨xs, al, ⟨a, rfl, .inl (SqL.of (hide_le _ _ ea))⟩, by omega, Paired.imp (fun _ _ h => h.act.same hide_le) hacts, fun i e => (by rw [hdue] at e; cases e), fun M hM D HC sBC eD => ?_⟩⟩⟩
        rw [hdue] at hM
        obtain rfl := ROut.marks.inj hM
        have PC := PB.same sBC
        have stC := stB.same (hide_same sBC)
        have elcC := hide_same sBC _ _ elcB
        have egC := hide_same sBC _ _ egB
        have hgvC : Paired (SetV (hide p HC)) gv (((setsL (inner rs cs)).filter acyB).map sortA) := Paired.imp (fun _ _ h => h.same (hide_same sBC)) hgvB
        clear hgvB egB elcB stB PB hgvA egA elcA stA PA sAB na ea hacts hrun hM sBC hall
        refine g_nm ?_
        try dsimp only
        refine t_ifS ?_
        refine ⟨D, _, eD, trivial, fun od => ?_⟩
        have eL : (upd HC D (.frz od (.dT (fD ((raceA rs cs).map fun a => (a, mkOf sE.1 a)))))) D = some (.frz od (.dT (fD ((raceA rs cs).map fun a => (a, mkOf sE.1 a))))) := upd_same
        have neL : ∀ b, b ≠ D → (upd HC D (.frz od (.dT (fD ((raceA rs cs).map fun a => (a, mkOf sE.1 a)))))) b = HC b := fun b h => upd_ne h
        generalize upd HC D (.frz od (.dT (fD ((raceA rs cs).map fun a => (a, mkOf sE.1 a))))) = HL at *
        refine ⟨_, rfl, D, od, rfl, .inr ⟨_, eL, fun D2 nD2 => ?_⟩⟩
        have hfl : (fD ((raceA rs cs).map fun a => (a, mkOf sE.1 a))).length = (raceA rs cs).length := by unfold fD; rw [List.length_map, List.length_map]
        refine lc_it (walk_keysT (kvs := fD ((raceA rs cs).map fun a => (a, mkOf sE.1 a)))) (fun i H' => Same HL H' ∧ ∃ nl, H' D2 = some (.lst nl) ∧ Paired (PairT (hide D2 H')) nl (((raceA rs cs).take i).filter fun a => mkOf sE.1 a)) ⟨same_upd nD2, [], upd_same, .nil⟩ (fun i H' _ z => z.1 _ _ eL) ?_ ?_
        · rintro j y HMx HM hj ⟨sLM, nl, eD2, hnl⟩ ⟨rfl, kk, vv, qd, hkv, rfl, eqd⟩
          unfold fD at hkv
          rw [List.map_map, List.getElem?_map] at hkv
          obtain ⟨b, hb, hkv⟩ := Option.map_eq_some_iff.mp hkv
          obtain ⟨rfl, rfl⟩ := Prod.mk.inj hkv
          have hbm := List.mem_of_getElem? hb
          have ft := filt_take (p := fun a : Ar => mkOf sE.1 a) hb
          have g1 : DGet HM D (.ref qd) (some (.str (mkS (mkOf sE.1 b)))) := by
            have hv : valV (fD ((raceA rs cs).map fun a => (a, mkOf sE.1 a))) (kA b) = some (.str (mkS (mkOf sE.1 b))) := by
              rw [fD_at (by rw [List.map_map]; exact List.mem_map.mpr ⟨b, hbm, rfl⟩), mkOf_map hbm]
            rw [← hv]
            exact .inr ⟨_, kA b, qd, .inr ⟨od, sLM _ _ eL⟩, rfl, eqd, rfl⟩
          have lnl : nl.length ≤ 900 := by
            rw [Paired.length hnl]
            exact Nat.le_trans (List.length_filter_le _ _) (by rw [List.length_take]; omega)
          refine ⟨rfl, _, rfl, _, rfl, D, _, rfl, g1, rfl, _, rfl, ?_⟩
          by_cases m : mkOf sE.1 b = true
          · refine iteP (by rw [m]; decide +kernel) ⟨_, rfl, nl, eD2, by rw [sizeLine_eq]; omega, same_over nD2 sLM, _, upd_same, ?_⟩
            rw [hide_updp, ft, if_pos m]
            exact Paired.snoc hnl ⟨qd, rfl, by rw [hide_ne (fun z => by rw [z, eD2] at eqd; cases eqd)]; exact eqd⟩
          · have m' : mkOf sE.1 b = false := by simpa using m
            refine iteN (by rw [m']; decide +kernel) ⟨sLM, nl, eD2, ?_⟩
            rw [ft, if_neg m, List.append_nil]
            exact hnl
        rintro HM ⟨sLM, nl, eD2, hnl⟩
        rw [hfl, List.take_length] at hnl
        have eDM := sLM _ _ eL
        refine ⟨eDM, ?_⟩
        have D2D : D2 ≠ D := (ne_of_none eL nD2).symm
        have sCM : Same HC (upd HM D (.dT (fD ((raceA rs cs).map fun a => (a, mkOf sE.1 a))))) := fun b o e => by
          by_cases z : b = D
          · rw [z] at e ⊢
            rw [upd_same, ← eD, e]
          · rw [upd_ne z]
            exact sLM _ _ (by rw [neL b z]; exact e)
        have eD2N : (upd HM D (.dT (fD ((raceA rs cs).map fun a => (a, mkOf sE.1 a))))) D2 = some (.lst nl) := by rw [upd_ne D2D]; exact eD2
        have hnlN : Paired (PairT (upd HM D (.dT (fD ((raceA rs cs).map fun a => (a, mkOf sE.1 a)))))) nl ((raceA rs cs).filter fun a => mkOf sE.1 a) := Paired.imp (fun _ _ h => by
          obtain ⟨qq, e1, e2⟩ := PairT_same h hide_le
          exact ⟨qq, e1, by rw [upd_ne (fun z => by rw [z, eDM] at e2; cases e2)]; exact e2⟩) hnl
        generalize upd HM D (.dT (fD ((raceA rs cs).map fun a => (a, mkOf sE.1 a)))) = HN at *
        refine ⟨D2, nl, _, rfl, SqL.of eD2N, hnlN, fun ys sp hys nsp => ?_⟩
        have ss := same_upd (o := .lst ys) nsp
        have es : (upd HN sp (.lst ys)) sp = some (.lst ys) := upd_same
        generalize upd HN sp (.lst ys) = HO' at *
        have sCO := sCM.trans ss
        have stO := stC.same (hide_same sCO)
        have PO' := PC.same sCO
        have elcO := hide_same sCO _ _ elcC
        have egO := hide_same sCO _ _ egC
        have hgvO : Paired (SetV (hide p HO')) gv (((setsL (inner rs cs)).filter acyB).map sortA) := Paired.imp (fun _ _ h => h.same (hide_same sCO)) hgvC
        have okA : ∀ a ∈ raceA rs cs, sOk [a.1, a.2] := fun a h => arr_ok LG (raceA_in h).1
        have ok1 : ∀ a ∈ sortA ((raceA rs cs).filter fun a => mkOf sE.1 a), sOk [a.1, a.2] := fun a h => okA a (List.mem_filter.mp ((sortA_mem _ _).mp h)).1
        have ok2 : ∀ as ∈ ((setsL (inner rs cs)).filter acyB).map sortA, ∀ a ∈ as, sOk [a.1, a.2] := fun as h a ha => by
          obtain ⟨bs, hb, rfl⟩ := List.mem_map.mp h
          exact arr_ok LG (mem_inner.mp (setsL_sub _ bs (List.mem_filter.mp hb).1 a ((sortA_mem _ _).mp ha))).1
        refine ⟨_, rfl, _, _, dp_dL ⟨sp, ys, rfl, es, Paired.imp (fun _ _ h => PairT_same h ss) hys⟩, .lst (SqL.of (hide_le _ _ egO)) (dp_dLs (Paired.imp (fun _ _ h => h.same hide_le) hgvO)), shape_dL ok1, shape_dLs ok2, _, rfl, ?_⟩
        rw [any_dL (List.mem_map.mpr ⟨_, hmem, rfl⟩) ok1]
        exact iteN rfl ⟨stO, PO'.le (by omega), elcO, egO, hgvO, _, _, _, _, _, _, _, rfl⟩
      rintro σ HA ⟨stA, PA, elcA, egA, hgvA, w1, w7, w9, w10, w11, w12, w13, rfl⟩
      clear hgv16 eg16 elc16 st16 P16
      try dsimp only
      -- none and one
      refine t_seqIf ?_
      refine ⟨_, rfl, (show 0 ≤ sizeLine by decide), fun e0 ne0 => ?_⟩
      have s0 := same_upd (o := .lst []) ne0
      have ee0 : (upd HA e0 (.lst [])) e0 = some (.lst []) := upd_same
      generalize upd HA e0 (.lst []) = HB at *
      have stB := stA.same (hide_same s0)
      have PB := PA.same s0
      refine t_nil ?_
      refine ⟨x, .ref e0, rs, rfl, stB.web.same hide_le, LG, .inr ⟨[], ⟨e0, rfl, .inl (SqL.of ee0)⟩, by decide, List.nodup_nil, (fun c h => nomatch h), hA99, fun HC sBC => ?_⟩⟩
      have stC := stB.same (hide_same sBC)
      have PC := PB.same sBC
      rw [nAcy_inner, inner_nil (by decide), cnt_nil]
      refine ⟨rfl, _, rfl, iteN rfl ?_⟩
      obtain ⟨r0, hr0⟩ : ∃ r, rs[0]? = some r := ⟨_, List.getElem?_eq_getElem (by have := LR.l1; omega)⟩
      obtain ⟨v0, hv0, t0, l0, rfl, et0, _⟩ := Paired.get stC.rows hr0
      have hm0 : r0.1 ∈ rs.map Prod.fst := List.mem_map.mpr ⟨r0, List.mem_of_getElem? hr0, rfl⟩
      refine ⟨_, rfl, _, rfl, q, rl, 0, .ref t0, rfl, rfl, SqL.of (hide_le _ _ stC.eq), atI_nat (j := 0) hv0, t0, _, 0, .str r0.1, rfl, rfl, SqL.of (hide_le _ _ et0), rfl, (show 1 ≤ sizeLine by decide), fun e1 ne1 => ?_⟩
      have s1 := same_upd (o := .lst [.str r0.1]) ne1
      have ee1 : (upd HC e1 (.lst [.str r0.1])) e1 = some (.lst [.str r0.1]) := upd_same
      generalize upd HC e1 (.lst [.str r0.1]) = HD at *
      have stD := stC.same (hide_same s1)
      have PD := PC.same s1
      refine t_nil ?_
      refine ⟨x, .ref e1, rs, rfl, stD.web.same hide_le, LG, .inr ⟨[r0.1], ⟨e1, rfl, .inl (SqL.of ee1)⟩, (show 1 ≤ 8 by decide), (by simp), fun c h => by rw [List.mem_singleton.mp h]; exact hm0, hA99, fun HE sDE => ?_⟩⟩
      have stE := stD.same (hide_same sDE)
      have PE := PD.same sDE
      rw [nAcy_inner, inner_nil (cs := [r0.1]) (Nat.le_refl 1), cnt_nil]
      refine ⟨rfl, _, rfl, iteN rfl ?_⟩
      refine t_next ?_
      try dsimp only
      -- odd things
      refine t_ifS ?_
      refine ⟨_, rfl, _, rfl, _, rfl, p, q, rl, rs, 6, _, rfl, PE, by decide, SqL.of stE.eq, stE.rows, LR, fun v HF sF PF hc => ?_⟩
      have stF := stE.same sF
      refine ⟨x, v, rs, rfl, stF.web.same hide_le, LG, .inl ⟨hc.same hide_le, fun HG sG => ?_⟩⟩
      refine ⟨rfl, _, rfl, iteN (by decide +kernel) ?_⟩
      exact ⟨SqL.sm (stF.same (hide_same sG)).hl hide_le, _, rfl, rfl⟩
end
end K59
end L2
set_option Elab.async false
set_option linter.all false
set_option maxRecDepth 100000
set_option maxHeartbeats 0
namespace L2
namespace K59
open PySem PySem.Spec PyProof.Rows K1 WL LamX
section
variable {P : Program} {w : World} {K : PySem.W.Frag} {mg : Str → Option Value} {base : Heap}
theorem sc_badweb : FnScope ["self", "index"] ["self", "index"] (defScope s_BadWeb) := ⟨rfl, rfl, rfl, by decide +kernel, rfl, by decide +kernel, by decide +kernel⟩
theorem ini_badweb {f : Addr} {fd : FuncData} (ox : OexC K (He.ga K "BadWeb")) (fN : PySem.W.findIn K (.ref (He.ga K "BadWeb")) "index" = some none) (F : FnP K "__init__" "BadWeb.__init__" s_BadWeb f fd) : FnOk P w K mg base CX0 1 f fd ["self", "index"] (spI (He.ga K "BadWeb") "index") := by
  refine F.ok sc_badweb (fun vs H Q E h => ?_) (fun cdv A outer s H vs Q E hr h => ⟨_, PSs.nox (pss_one (ps_ost (pv 0) (pv 1))), ?_⟩)
  · obtain ⟨a, v, rfl, _⟩ := h
    rfl
  · obtain ⟨a, v, rfl, e, q⟩ := h
    exact ⟨v, rfl, .ref a, rfl, a, _, rfl, ox, fN, .inl ⟨e, fun dx n ne => q dx n ne⟩⟩
theorem sc_unknowncell : FnScope ["self", "cell"] ["self", "cell"] (defScope s_UnknownCell) := ⟨rfl, rfl, rfl, by decide +kernel, rfl, by decide +kernel, by decide +kernel⟩
theorem ini_unknowncell {f : Addr} {fd : FuncData} (ox : OexC K (He.ga K "UnknownCell")) (fN : PySem.W.findIn K (.ref (He.ga K "UnknownCell")) "cell" = some none) (F : FnP K "__init__" "UnknownCell.__init__" s_UnknownCell f fd) : FnOk P w K mg base CX0 1 f fd ["self", "cell"] (spI (He.ga K "UnknownCell") "cell") := by
  refine F.ok sc_unknowncell (fun vs H Q E h => ?_) (fun cdv A outer s H vs Q E hr h => ⟨_, PSs.nox (pss_one (ps_ost (pv 0) (pv 1))), ?_⟩)
  · obtain ⟨a, v, rfl, _⟩ := h
    rfl
  · obtain ⟨a, v, rfl, e, q⟩ := h
    exact ⟨v, rfl, .ref a, rfl, a, _, rfl, ox, fN, .inl ⟨e, fun dx n ne => q dx n ne⟩⟩
theorem sc_badacts : FnScope ["self", "index"] ["self", "index"] (defScope s_BadActs) := ⟨rfl, rfl, rfl, by decide +kernel, rfl, by decide +kernel, by decide +kernel⟩
theorem ini_badacts {f : Addr} {fd : FuncData} (ox : OexC K (He.ga K "BadActs")) (fN : PySem.W.findIn K (.ref (He.ga K "BadActs")) "index" = some none) (F : FnP K "__init__" "BadActs.__init__" s_BadActs f fd) : FnOk P w K mg base CX0 1 f fd ["self", "index"] (spI (He.ga K "BadActs") "index") := by
  refine F.ok sc_badacts (fun vs H Q E h => ?_) (fun cdv A outer s H vs Q E hr h => ⟨_, PSs.nox (pss_one (ps_ost (pv 0) (pv 1))), ?_⟩)
  · obtain ⟨a, v, rfl, _⟩ := h
    rfl
  · obtain ⟨a, v, rfl, e, q⟩ := h
    exact ⟨v, rfl, .ref a, rfl, a, _, rfl, ox, fN, .inl ⟨e, fun dx n ne => q dx n ne⟩⟩
theorem facts {l : PySem.W.OpenLaw} {h : Heap} {f : Addr} (hP : l.prog = P) (X : K.In h) (G : h.Ns mainGlobals mg) (hfa : mg ("law" : Str) = some (.ref f)) (c : He.SaysD (fa ++ fa2) fn K) (e : ex K = true) : LawAtS l w K CX0 9 63 "_law_script" mg f h := by
  subst hP
  have T : Bl mg := bl_mk X G c
  obtain ⟨x1, e⟩ := He.ba (show (_ && _) = true from e)
  obtain ⟨x2, e⟩ := He.ba e
  obtain ⟨x3, e⟩ := He.ba e
  obtain ⟨x4, e⟩ := He.ba e
  obtain ⟨x5, e⟩ := He.ba e
  obtain ⟨x6, e⟩ := He.ba e
  obtain ⟨x7, x8⟩ := He.ba e
  obtain ⟨x4a, x4z⟩ := He.ba x4
  obtain ⟨x4b, x4c⟩ := He.ba x4z
  obtain ⟨x5a, x5z⟩ := He.ba x5
  obtain ⟨x5b, x5c⟩ := He.ba x5z
  obtain ⟨x6a, x6z⟩ := He.ba x6
  obtain ⟨x6b, x6c⟩ := He.ba x6z
  obtain ⟨y71, y72⟩ := He.ba x7
  obtain ⟨y73, y74⟩ := He.ba y72
  obtain ⟨y75, y76⟩ := He.ba y74
  obtain ⟨d0, F0⟩ := c.def_ 0 (d := dfn "is_list" s_is_list) rfl
  obtain ⟨d1, F1⟩ := c.def_ 1 (d := dfn "is_name" s_is_name) rfl
  obtain ⟨d2, F2⟩ := c.def_ 2 (d := dfn "is_name_list" s_is_name_list) rfl
  obtain ⟨d3, F3⟩ := c.def_ 3 (d := mth "BadWeb" "__init__" "BadWeb.__init__" s_BadWeb) rfl
  obtain ⟨d4, F4⟩ := c.def_ 4 (d := mth "UnknownCell" "__init__" "UnknownCell.__init__" s_UnknownCell) rfl
  obtain ⟨d5, F5⟩ := c.def_ 5 (d := mth "BadActs" "__init__" "BadActs.__init__" s_BadActs) rfl
  obtain ⟨d6, F6⟩ := c.def_ 6 (d := dfn "members" s_members) rfl
  obtain ⟨d7, F7⟩ := c.def_ 7 (d := dfn "subset_of" s_subset_of) rfl
  obtain ⟨d8, F8⟩ := c.def_ 8 (d := dfn "is_cell_list" s_is_cell_list) rfl
  obtain ⟨d9, F9⟩ := c.def_ 9 (d := dfn "check_race" s_check_race) rfl
  obtain ⟨d10, F10⟩ := c.def_ 10 (d := dfn "race_arrows" s_race_arrows) rfl
  obtain ⟨d11, F11⟩ := c.def_ 11 (d := dfn "race_marks" s_race_marks) rfl
  obtain ⟨d12, F12⟩ := c.def_ 12 (d := dfn "first_wrong_act" s_first_wrong_act) rfl
  obtain ⟨d13, F13⟩ := c.def_ 13 (d := dfn "is_act" s_is_act) rfl
  obtain ⟨d14, F14⟩ := c.def_ 14 (d := dfn "races" s_races) rfl
  obtain ⟨d15, F15⟩ := c.def_ 15 (d := dfn "ringless" s_ringless) rfl
  obtain ⟨d16, F16⟩ := c.def_ 16 (d := mth "Web" "__init__" "Web.__init__" s_Web_init) rfl
  obtain ⟨d17, F17⟩ := c.def_ 17 (d := mth "Web" "cells_with_source" "Web.cells_with_source" s_Web_cells_with) rfl
  obtain ⟨d18, F18⟩ := c.def_ 18 (d := mth "Web" "sources" "Web.sources" s_Web_sources) rfl
  obtain ⟨d19, F19⟩ := c.def_ 19 (d := mth "Web" "targets" "Web.targets" s_Web_targets) rfl
  obtain ⟨d20, F20⟩ := c.def_ 20 (d := mth "Web" "__contains__" "Web.__contains__" s_Web_contains) rfl
  obtain ⟨d21, F21⟩ := c.def_ 21 (d := mth "Web" "__len__" "Web.__len__" s_Web_len) rfl
  obtain ⟨d22, F22⟩ := c.def_ 22 (d := mth "Web" "__iter__" "Web.__iter__" s_Web_iter) rfl
  obtain ⟨d23, F23⟩ := c.def_ 23 (d := mth "Web" "__eq__" "Web.__eq__" s_Web_eq) rfl
  obtain ⟨d24, F24⟩ := c.def_ 24 (d := dfn "check_rows" s_check_rows) rfl
  obtain ⟨d25, F25⟩ := c.def_ 25 (d := dfn "first_wrong_row" s_first_wrong_row) rfl
  obtain ⟨d26, F26⟩ := c.def_ 26 (d := dfn "is_row" s_is_row) rfl
  obtain ⟨d27, F27⟩ := c.def_ 27 (d := dfn "check_cells" s_check_cells) rfl
  obtain ⟨d28, F28⟩ := c.def_ 28 (d := dfn "_law_cell" s_cell) rfl
  obtain ⟨d29, F29⟩ := c.def_ 29 (d := dfn "_law_pool" s_pool) rfl
  obtain ⟨d30, F30⟩ := c.def_ 30 (d := dfn "_law_take" s_take) rfl
  obtain ⟨d31, F31⟩ := c.def_ 31 (d := dfn "_law_names" s_names) rfl
  obtain ⟨d32, F32⟩ := c.def_ 32 (d := dfn "_law_picked" s_picked) rfl
  obtain ⟨d33, F33⟩ := c.def_ 33 (d := dfn "_law_web" s_web) rfl
  obtain ⟨d34, F34⟩ := c.def_ 34 (d := dfn "_law_cells" s_cells) rfl
  obtain ⟨d35, F35⟩ := c.def_ 35 (d := dfn "_law_sources" s_sources) rfl
  obtain ⟨d36, F36⟩ := c.def_ 36 (d := dfn "_law_arrows" s_arrows) rfl
  obtain ⟨d37, F37⟩ := c.def_ 37 (d := dfn "_law_built" s_built) rfl
  obtain ⟨d38, F38⟩ := c.def_ 38 (d := dfn "_law_least" s_least) rfl
  obtain ⟨d39, F39⟩ := c.def_ 39 (d := dfn "_law_race_arrows" s_l_race_arrows) rfl
  obtain ⟨d40, F40⟩ := c.def_ 40 (d := dfn "_law_race" s_race) rfl
  obtain ⟨d41, F41⟩ := c.def_ 41 (d := dfn "_law_odd_cells" s_odd_cells) rfl
  obtain ⟨d42, F42⟩ := c.def_ 42 (d := dfn "_law_sets" s_sets) rfl
  obtain ⟨d43, F43⟩ := c.def_ 43 (d := dfn "_law_told" s_told) rfl
  obtain ⟨fd, F⟩ := c.def_ 44 (d := dfn "law" s_law) rfl
  have e0 := hfa.symm.trans (He.glo_ok X G (c.fact 38 (f := .glo "law") rfl))
  cases e0
  have b := FunD.bindsA (ps := ["_law_script"]) F fun _ _ _ _ _ _ us hl => match us, hl with | [_], _ => rfl
  refine ⟨fd, [], spLaw K, (fun p hp => nomatch hp), (fun p hp => nomatch hp), (fun p hp => nomatch hp), fun s v => b s [v] rfl, fun H a ns hl _ hH hS => ⟨a, ns, rfl, hS, fun _ => rfl⟩, fun base _ _ hTB => ?_⟩
  have W : Wt K mg (He.ga K "Web") := ⟨He.cls_ok (c.fact 54 (f := .cls "Web") rfl), He.noat_ok (c.fact 63 (f := .noat "Web" "cells") rfl), He.noat_ok (c.fact 64 (f := .noat "Web" "sources_of") rfl), He.noat_ok (c.fact 65 (f := .noat "Web" "arrows") rfl), He.noat_ok (c.fact 66 (f := .noat "Web" "targets_of") rfl), He.glo_ok X G (c.fact 17 (f := .glo "Web") rfl)⟩
  have EB : Er l.prog w K mg base "BadWeb" "index" := ⟨He.glo_ok X G (c.fact 3 (f := .glo "BadWeb") rfl), xcB_ok x1, He.eqO_ok x4b, of_decide_eq_true x4c, _, ini_badweb (xcB_ok x1).ox (He.eqO_ok x4a) F3, F3.bindsN fun _ _ _ _ _ _ us hl => match us, hl with | [_, _], _ => rfl⟩
  have EU : Er l.prog w K mg base "UnknownCell" "cell" := ⟨He.glo_ok X G (c.fact 4 (f := .glo "UnknownCell") rfl), xcB_ok x2, He.eqO_ok x5b, of_decide_eq_true x5c, _, ini_unknowncell (xcB_ok x2).ox (He.eqO_ok x5a) F4, F4.bindsN fun _ _ _ _ _ _ us hl => match us, hl with | [_, _], _ => rfl⟩
  have EA : Er l.prog w K mg base "BadActs" "index" := ⟨He.glo_ok X G (c.fact 6 (f := .glo "BadActs") rfl), xcB_ok x3, He.eqO_ok x6b, of_decide_eq_true x6c, _, ini_badacts (xcB_ok x3).ox (He.eqO_ok x6a) F5, F5.bindsN fun _ _ _ _ _ _ us hl => match us, hl with | [_, _], _ => rfl⟩
  obtain ⟨pEC1, pEC2, pEC3, pEC4⟩ := He.exc_ok (c.fact 67 (f := .exc "BadCells") rfl)
  have EC : E0c K mg "BadCells" := ⟨He.glo_ok X G (c.fact 5 (f := .glo "BadCells") rfl), pEC1, pEC2, pEC3, pEC4⟩
  have fr : mg "range" = none := T.f_range
  have fsum : mg "sum" = none := He.free_ok X G (c.fact 53 (f := .free "sum") rfl)
  have fso : mg "sorted" = none := He.free_ok X G (c.fact 52 (f := .free "sorted") rfl)
  have C0 : Cal l.prog w K mg base "is_list" ["thing"] 1 (spIsList K) := ⟨_, d0, ok_is_list T F0, He.glo_ok X G (c.fact 0 (f := .glo "is_list") rfl), F0.kp, F0.bindsN fun _ _ _ _ _ _ us hl => match us, hl with | [_], _ => rfl⟩
  have C1 : Cal l.prog w K mg base "is_name" ["thing"] 1 (spIsName K) := ⟨_, d1, ok_is_name T F1, He.glo_ok X G (c.fact 1 (f := .glo "is_name") rfl), F1.kp, F1.bindsN fun _ _ _ _ _ _ us hl => match us, hl with | [_], _ => rfl⟩
  have C2 : Cal l.prog w K mg base "is_name_list" ["thing"] 2 (spNameList K) := ⟨_, d2, ok_is_name_list T C0 C1 F2, He.glo_ok X G (c.fact 2 (f := .glo "is_name_list") rfl), F2.kp, F2.bindsN fun _ _ _ _ _ _ us hl => match us, hl with | [_], _ => rfl⟩
  have C15 : Cal l.prog w K mg base "is_row" ["thing"] 3 (spIsRow K) := ⟨_, d26, ok_is_row T C0 C1 C2 F26, He.glo_ok X G (c.fact 20 (f := .glo "is_row") rfl), F26.kp, F26.bindsN fun _ _ _ _ _ _ us hl => match us, hl with | [_], _ => rfl⟩
  have C14 : Cal l.prog w K mg base "first_wrong_row" ["rows"] 4 (spFirst K) := ⟨_, d25, ok_first T C0 C15 F25, He.glo_ok X G (c.fact 19 (f := .glo "first_wrong_row") rfl), F25.kp, F25.bindsN fun _ _ _ _ _ _ us hl => match us, hl with | [_], _ => rfl⟩
  have mC := He.meth_ok (c.fact 59 (f := .meth "Web" "__contains__") rfl)
  have mT := He.meth_ok (c.fact 58 (f := .meth "Web" "targets") rfl)
  have b5 := F16.bindsN (ps := ["self", "rows"]) fun _ _ _ _ _ _ us hl => match us, hl with | [_, _], _ => rfl
  have b6 := F17.bindsN (ps := ["self", "source"]) fun _ _ _ _ _ _ us hl => match us, hl with | [_, _], _ => rfl
  have b9 := F20.bindsN (ps := ["self", "x"]) fun _ _ _ _ _ _ us hl => match us, hl with | [_, _], _ => rfl
  have b8 := F19.bindsN (ps := ["self", "cell"]) fun _ _ _ _ _ _ us hl => match us, hl with | [_, _], _ => rfl
  have Gc := ok_con (P := l.prog) (w := w) (base := base) T W C1 F20
  have Gi := ok_web_init (P := l.prog) (w := w) (base := base) T W ⟨_, d24, ok_check_rows T C14 EB EU F24, He.glo_ok X G (c.fact 18 (f := .glo "check_rows") rfl), F24.kp, F24.bindsN fun _ _ _ _ _ _ us hl => match us, hl with | [_], _ => rfl⟩ (ok_cells_with T W F17) b6 (He.meth_ok (c.fact 56 (f := .meth "Web" "cells_with_source") rfl)) F16
  have Mw := He.mkr_ok (c.fact 55 (f := .mkr "Web") rfl)
  have Ccc : ∃ f fd, FnOk l.prog w K mg base (L2.CX l.prog w) 3 f fd ["web", "things"] (spCC K (He.ga K "Web") (He.ga K "UnknownCell")) ∧ mg "check_cells" = some (.ref f) ∧ PySem.W.keepIn K (.ref f) = true ∧ Binds K fd ["web", "things"] [] := ⟨_, d27, ok_cc T ⟨mC.at_, mC.fn⟩ Gc b9 EU F27, He.glo_ok X G (c.fact 21 (f := .glo "check_cells") rfl), F27.kp, F27.bindsN fun _ _ _ _ _ _ us hl => match us, hl with | [_, _], _ => rfl⟩
  have Gt := ok_targets (P := l.prog) (w := w) (base := base) T W Ccc F19
  have Ci : Cal l.prog w K mg base "is_cell_list" ["web", "thing"] 3 (spIsCellList K (He.ga K "Web")) := ⟨_, d8, ok_icl T W ⟨mC.at_, mC.fn⟩ Gc b9 C0 F8, He.glo_ok X G (c.fact 9 (f := .glo "is_cell_list") rfl), F8.kp, F8.bindsN fun _ _ _ _ _ _ us hl => match us, hl with | [_, _], _ => rfl⟩
  have Ccr : ∃ f fd, FnOk l.prog w K mg base (L2.CX l.prog w) 4 f fd ["web", "cells"] (spCheckRace K (He.ga K "Web")) ∧ mg "check_race" = some (.ref f) ∧ PySem.W.keepIn K (.ref f) = true ∧ Binds K fd ["web", "cells"] [] := ⟨_, d9, ok_cra Ci EC F9, He.glo_ok X G (c.fact 10 (f := .glo "check_race") rfl), F9.kp, F9.bindsN fun _ _ _ _ _ _ us hl => match us, hl with | [_, _], _ => rfl⟩
  have Crr : Cal l.prog w K mg base "race_arrows" ["web", "cells"] 1 (spRA K (He.ga K "Web")) := ⟨_, d10, ok_ra T W F10, He.glo_ok X G (c.fact 11 (f := .glo "race_arrows") rfl), F10.kp, F10.bindsN fun _ _ _ _ _ _ us hl => match us, hl with | [_, _], _ => rfl⟩
  have Cia : Cal l.prog w K mg base "is_act" ["thing", "word", "many"] 2 (spIsAct K) := ⟨_, d13, ok_isact T C0 F13, He.glo_ok X G (c.fact 14 (f := .glo "is_act") rfl), F13.kp, F13.bindsN fun _ _ _ _ _ _ us hl => match us, hl with | [_, _, _], _ => rfl⟩
  have Cfw : Cal l.prog w K mg base "first_wrong_act" ["web", "cells", "acts"] 3 (spFWA K (He.ga K "Web")) := ⟨_, d12, ok_fwa T C0 Crr Cia F12, He.glo_ok X G (c.fact 13 (f := .glo "first_wrong_act") rfl), F12.kp, F12.bindsN fun _ _ _ _ _ _ us hl => match us, hl with | [_, _, _], _ => rfl⟩
  have Crm : ∃ f fd, FnOk l.prog w K mg base (L2.CX l.prog w) 5 f fd ["web", "cells", "acts"] (spRM K (He.ga K "Web")) ∧ mg "race_marks" = some (.ref f) ∧ PySem.W.keepIn K (.ref f) = true ∧ Binds K fd ["web", "cells", "acts"] [] := ⟨_, d11, ok_rm T Ccr Cfw Crr EA F11, He.glo_ok X G (c.fact 12 (f := .glo "race_marks") rfl), F11.kp, F11.bindsN fun _ _ _ _ _ _ us hl => match us, hl with | [_, _, _], _ => rfl⟩
  have Cme : Cal l.prog w K mg base "members" ["subset"] 1 spMembers := ⟨_, d6, ok_mem T fr F6, He.glo_ok X G (c.fact 7 (f := .glo "members") rfl), F6.kp, F6.bindsN fun _ _ _ _ _ _ us hl => match us, hl with | [_], _ => rfl⟩
  have Csu : Cal l.prog w K mg base "subset_of" ["things", "some"] 1 (spSubset K) := ⟨_, d7, ok_sub T fsum F7, He.glo_ok X G (c.fact 8 (f := .glo "subset_of") rfl), F7.kp, F7.bindsN fun _ _ _ _ _ _ us hl => match us, hl with | [_, _], _ => rfl⟩
  have Crl : Cal l.prog w K mg base "ringless" ["targets", "subset", "found"] 2 (spRingless K) := ⟨_, d15, ok_rl T fsum Cme F15, He.glo_ok X G (c.fact 16 (f := .glo "ringless") rfl), F15.kp, F15.bindsN fun _ _ _ _ _ _ us hl => match us, hl with | [_, _, _], _ => rfl⟩
  have Cra : ∃ f fd, FnOk l.prog w K mg base (L2.CX l.prog w) 5 f fd ["web", "cells"] (spRaces K (He.ga K "Web")) ∧ mg "races" = some (.ref f) ∧ PySem.W.keepIn K (.ref f) = true ∧ Binds K fd ["web", "cells"] [] := ⟨_, d14, ok_races T fr W mT Gt b8 Ccr Csu Crl F14, He.glo_ok X G (c.fact 15 (f := .glo "races") rfl), F14.kp, F14.bindsN fun _ _ _ _ _ _ us hl => match us, hl with | [_, _], _ => rfl⟩
  have Ct : Cal l.prog w K mg base "_law_take" ["_law_pool_here", "_law_many"] 1 spTakeL := ⟨_, d30, ok_take T F30, He.glo_ok X G (c.fact 24 (f := .glo "_law_take") rfl), F30.kp, F30.bindsN fun _ _ _ _ _ _ us hl => match us, hl with | [_, _], _ => rfl⟩
  have Cn : Cal l.prog w K mg base "_law_names" ["_law_pool_here", "_law_many"] 2 (spNames63 K) := ⟨_, d31, ok_names T fr Ct F31, He.glo_ok X G (c.fact 25 (f := .glo "_law_names") rfl), F31.kp, F31.bindsN fun _ _ _ _ _ _ us hl => match us, hl with | [_, _], _ => rfl⟩
  have Cpk : Cal l.prog w K mg base "_law_picked" ["_law_pool_here", "_law_things", "_law_share"] 2 (spPicked K) := ⟨_, d32, ok_picked T fr Ct F32, He.glo_ok X G (c.fact 26 (f := .glo "_law_picked") rfl), F32.kp, F32.bindsN fun _ _ _ _ _ _ us hl => match us, hl with | [_, _, _], _ => rfl⟩
  have Cls : Cal l.prog w K mg base "_law_sources" ["_law_rows", "_law_cell_here"] 1 (spSourcesL K) := ⟨_, d35, ok_lsources F35, He.glo_ok X G (c.fact 29 (f := .glo "_law_sources") rfl), F35.kp, F35.bindsN fun _ _ _ _ _ _ us hl => match us, hl with | [_, _], _ => rfl⟩
  have Cla : Cal l.prog w K mg base "_law_arrows" ["_law_rows"] 1 (spArrowsL K) := ⟨_, d36, ok_arrows F36, He.glo_ok X G (c.fact 30 (f := .glo "_law_arrows") rfl), F36.kp, F36.bindsN fun _ _ _ _ _ _ us hl => match us, hl with | [_], _ => rfl⟩
  have Clr : Cal l.prog w K mg base "_law_race_arrows" ["_law_rows", "_law_cells_here"] 2 (spRAL K) := ⟨_, d39, ok_ral Cla F39, He.glo_ok X G (c.fact 33 (f := .glo "_law_race_arrows") rfl), F39.kp, F39.bindsN fun _ _ _ _ _ _ us hl => match us, hl with | [_, _], _ => rfl⟩
  exact ok_law T fr fso W
    ⟨_, d28, ok_cell T F28, He.glo_ok X G (c.fact 22 (f := .glo "_law_cell") rfl), F28.kp, F28.bindsN fun _ _ _ _ _ _ us hl => match us, hl with | [_, _], _ => rfl⟩
    ⟨_, d29, ok_pool T F29, He.glo_ok X G (c.fact 23 (f := .glo "_law_pool") rfl), F29.kp, F29.bindsN fun _ _ _ _ _ _ us hl => match us, hl with | [_], _ => rfl⟩
    ⟨_, d33, ok_web T Ct Cn Cpk F33, He.glo_ok X G (c.fact 27 (f := .glo "_law_web") rfl), F33.kp, F33.bindsN fun _ _ _ _ _ _ us hl => match us, hl with | [_, _], _ => rfl⟩
    ⟨_, d37, ok_built T W Mw Gi b5 F37, He.glo_ok X G (c.fact 31 (f := .glo "_law_built") rfl), F37.kp, F37.bindsN fun _ _ _ _ _ _ us hl => match us, hl with | [_], _ => rfl⟩
    Cpk
    ⟨_, d34, ok_cells F34, He.glo_ok X G (c.fact 28 (f := .glo "_law_cells") rfl), F34.kp, F34.bindsN fun _ _ _ _ _ _ us hl => match us, hl with | [_], _ => rfl⟩
    Clr
    ⟨_, d42, ok_sets F42, He.glo_ok X G (c.fact 36 (f := .glo "_law_sets") rfl), F42.kp, F42.bindsN fun _ _ _ _ _ _ us hl => match us, hl with | [_], _ => rfl⟩
    ⟨_, d38, ok_least T fr F38, He.glo_ok X G (c.fact 32 (f := .glo "_law_least") rfl), F38.kp, F38.bindsN fun _ _ _ _ _ _ us hl => match us, hl with | [_, _], _ => rfl⟩
    ⟨_, d40, ok_race T Ct Cpk Cls F40, He.glo_ok X G (c.fact 34 (f := .glo "_law_race") rfl), F40.kp, F40.bindsN fun _ _ _ _ _ _ us hl => match us, hl with | [_, _, _], _ => rfl⟩
    ⟨_, d43, ok_told Cra EC.g (He.exm_ok (c.fact 68 (f := .exm "BadCells" "BadCells" true) rfl)) F43, He.glo_ok X G (c.fact 37 (f := .glo "_law_told") rfl), F43.kp, F43.bindsN fun _ _ _ _ _ _ us hl => match us, hl with | [_, _], _ => rfl⟩
    Crm
    ⟨_, d41, ok_oddc Ct F41, He.glo_ok X G (c.fact 35 (f := .glo "_law_odd_cells") rfl), F41.kp, F41.bindsN fun _ _ _ _ _ _ us hl => match us, hl with | [_, _], _ => rfl⟩
    F
end
end K59
end L2
open PySem PySem.W PySem.Calls PyProof.Rows
theorem PySem.Challenge.cw_lotmarks_k59_whole_races_counted_holds : PySem.Challenge.rw_lotmarks_k59_whole_races_counted.Holds := by
  w_on; o_law
  refine HandSHeadRun.head_any (r := OpenLaw.row PySem.Challenge.rw_lotmarks_k59_whole_races_counted) (q := view (OpenLaw.row PySem.Challenge.rw_lotmarks_k59_whole_races_counted).prog [45]) (H := L2.K59.hk) (ob := L2.K59.ob) (M := 60000) (loose := L2.K59.loose)
    (d := HandSHeadRun.topDef (OpenLaw.row PySem.Challenge.rw_lotmarks_k59_whole_races_counted).prog 45) (kwd := []) L2.K59.ob_eq
    (by kernel_rfl) (fun s => by kernel_rfl) L2.K59.run (by kernel_rfl) (by kernel_rfl) (by kernel_rfl) (by rfl) (by first | assumption | decide +kernel) (by decide +kernel) ⟨rfl, rfl, rfl, rfl, rfl, by decide +kernel⟩ ?hw ?hc
  case hw => w_witness2
  case hc =>
    refine LamX.walk_ofTsE (l := PySem.Challenge.rw_lotmarks_k59_whole_races_counted) (n := 63) (k := 9) (x := "_law_script") (CX := fun _ => L2.CX0) rfl (by decide) (by kernel_rfl) ⟨rfl, by decide, by decide⟩ ?F (fun _ _ _ _ _ z => z)
    intro w mg fa h Y G hmg0
    obtain ⟨K, KX, c, e, cc, pt, tf⟩ := Y
    have hmg : mg ("law" : PySem.Str) = some (.ref fa) := by
      have e : (HandSHeadRun.topDef (OpenLaw.row PySem.Challenge.rw_lotmarks_k59_whole_races_counted).prog 45).name = ("law" : PySem.Str) := by kernel_rfl
      rw [← e]
      exact hmg0
    exact ⟨K, KX, L2.K59.facts rfl KX G hmg c e⟩
