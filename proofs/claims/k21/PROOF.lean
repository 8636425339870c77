import PyProof.Rows.All
import Wide.All
import OpenK.AllK
import Wide.FinOn
import HandS.Text
import HandS.SetBool
import HandS.OwnIter
import OpenK.KOps
import OpenK.KMeth
import OpenK.KWalk
import KE.KOwnIter
import HandS.IterNext
import HandS.IterVal
import HandS.Conv
import HandS.OwnEq
import HandS.DictComp
import HandS.NoneIn
import HandS.Exc
import HandS.ExcOwn
import HandS.ExcInit
import HandS.WordsExc
import HandS.TryOnly
import HandS.Base
import HandS.Call
import HandS.List
import HandS.Comp
import HandS.Dict
import HandS.Iter
import HandS.Walk
import HandS.IsInst
import HandS.Words
import HandS.Defaults
import HandS.Strs
import KE.KExcIs
import HandS.Ends
import HandS.HeadHook2
import HandS.DeepEq
import PyProof.EnumMake
import PyProof.Draws
import KE.GoesMore
import KE.SortData
import HandS.Deep
import HandS.Sort
import KE.KNestM
import HandS.HeadWalk
import HandS.Lambda
import HandS.EndTab
import HandS.HeadEnd
import HandS.More
import PyProof.NeKinds
import HandS.TryMany
import KE.KDictList
import HandS.ListItems
import HandS.DictEq
import PyProof.InstEq
import HandS.Style
import HandS.TupSets
import HandS.TupMul
import PyProof.ListMulAny
import HandS.Zip
import KE.KUnpackStar
import KE.GoesEnumKw
import HandS.SortKw
import KE.KeyNested
import HandS.TupLen
import HandS.SortInts
import PyProof.P3In
import HandS.Star
import HandS.StrMore
import KE.KStateDown
import HandS.Head0
import HandS.Head1
import HandS.Head2
import PySem.Challenge.RW_lotmarks_k21_lines_refused
set_option Elab.async false
set_option linter.all false
set_option maxRecDepth 100000
set_option maxHeartbeats 4000000
/-! texts of lines and words, as mathematics -/
namespace L2
namespace TX
open PySem PySem.Spec PyProof.Rows TL
theorem tl_nl : tl ("\n" : Str) = [10] := tl_ofString "\n"
theorem tl_sp : tl (" " : Str) = [32] := tl_ofString " "
theorem tl_emp : tl ("" : Str) = [] := tl_ofString ""
theorem spl_ne (s : Nat) : ∀ (l acc : List Nat), spl [s] 0 acc l ≠ []
  | [], acc => by rw [spl_nil]; simp
  | c :: r, acc => by
    show (if pre [s] (c :: r) = true then acc :: spl [s] ([s].length - 1) [] r else spl [s] 0 (acc ++ [c]) r) ≠ []
    split
    · simp
    · exact spl_ne s r _
theorem joinL_cons {S p : List Nat} {q : List (List Nat)} (h : q ≠ []) : joinL S (p :: q) = p ++ (S ++ joinL S q) := by
  cases q with
  | nil => exact absurd rfl h
  | cons a b => rfl
theorem join_spl (s : Nat) : ∀ (l acc : List Nat), joinL [s] (spl [s] 0 acc l) = acc ++ l
  | [], acc => by rw [spl_nil, List.append_nil]; rfl
  | c :: r, acc => by
    by_cases h : c = s
    · subst h
      have e : pre [c] (c :: r) = true := pre_self [c] r
      rw [spl_hit e]
      show joinL [c] (acc :: spl [c] 0 [] r) = _
      rw [joinL_cons (spl_ne c r []), join_spl c r []]
      rfl
    · rw [spl_miss (pre_of_head [] r h), join_spl s r (acc ++ [c]), List.append_assoc]
      rfl
/-- a text, split and joined again -/
theorem join_split {y : Str} {s : Nat} (ey : tl y = [s]) (hk : y.cps.all (· < 256) = true) (x : Str) : Txt.join y (Txt.split x y) = x := by
  refine ext_tl ?_
  rw [join_eq, tl_join, split_spl x y (by rw [ey]; simp) (kind_ok hk), ey, join_spl]
  rfl
theorem split_ne {y : Str} {s : Nat} (ey : tl y = [s]) (hk : y.cps.all (· < 256) = true) (x : Str) : Txt.split x y ≠ [] := fun e => by
  have := split_spl x y (by rw [ey]; simp) (kind_ok hk)
  rw [e, ey] at this
  exact spl_ne s _ _ this.symm
theorem spl_free (s : Nat) : ∀ (l acc : List Nat), s ∉ acc → ∀ p ∈ spl [s] 0 acc l, s ∉ p
  | [], acc, ha, p, hp => by
    rw [spl_nil] at hp
    rw [List.mem_singleton.mp hp]
    exact ha
  | c :: r, acc, ha, p, hp => by
    by_cases h : c = s
    · subst h
      have e : pre [c] (c :: r) = true := pre_self [c] r
      rw [spl_hit e] at hp
      rcases List.mem_cons.mp hp with rfl | hp
      · exact ha
      · exact spl_free c r [] (by simp) p hp
    · rw [spl_miss (pre_of_head [] r h)] at hp
      refine spl_free s r _ ?_ p hp
      intro m
      rcases List.mem_append.mp m with m | m
      · exact ha m
      · exact h (List.mem_singleton.mp m).symm
theorem spl_sub (s : Nat) : ∀ (l acc : List Nat), ∀ p ∈ spl [s] 0 acc l, ∀ c ∈ p, c ∈ acc ∨ c ∈ l
  | [], acc, p, hp, c, hc => by
    rw [spl_nil] at hp
    rw [List.mem_singleton.mp hp] at hc
    exact .inl hc
  | d :: r, acc, p, hp, c, hc => by
    by_cases h : d = s
    · subst h
      have e : pre [d] (d :: r) = true := pre_self [d] r
      rw [spl_hit e] at hp
      rcases List.mem_cons.mp hp with rfl | hp
      · exact .inl hc
      · rcases spl_sub d r [] p hp c hc with m | m
        · cases m
        · exact .inr (List.mem_cons_of_mem _ m)
    · rw [spl_miss (pre_of_head [] r h)] at hp
      rcases spl_sub s r _ p hp c hc with m | m
      · rcases List.mem_append.mp m with m | m
        · exact .inl m
        · rw [List.mem_singleton.mp m]
          exact .inr (List.mem_cons_self ..)
      · exact .inr (List.mem_cons_of_mem _ m)
theorem kind_nl : ("\n" : Str).cps.all (· < 256) = true := by decide +kernel
theorem kind_sp : (" " : Str).cps.all (· < 256) = true := by decide +kernel
/-- what stands in a part stands in the text -/
theorem split_sub {y : Str} {s : Nat} (ey : tl y = [s]) (hk : y.cps.all (· < 256) = true) {x p : Str} (hp : p ∈ Txt.split x y) : (∀ c ∈ tl p, c ∈ tl x) ∧ s ∉ tl p := by
  have e := split_spl x y (by rw [ey]; simp) (kind_ok hk)
  have m : tl p ∈ spl (tl y) 0 [] (tl x) := e ▸ List.mem_map.mpr ⟨p, hp, rfl⟩
  rw [ey] at m
  refine ⟨fun c hc => ?_, spl_free s _ _ (by simp) _ m⟩
  rcases spl_sub s _ _ _ m c hc with z | z
  · cases z
  · exact z
theorem joinL_mem {S : List Nat} {c : Nat} : ∀ {ps : List (List Nat)}, c ∈ joinL S ps → (∃ p ∈ ps, c ∈ p) ∨ c ∈ S
  | [], h => by cases h
  | [p], h => .inl ⟨p, List.mem_singleton.mpr rfl, h⟩
  | p :: q :: r, h => by
    have h : c ∈ p ++ (S ++ joinL S (q :: r)) := h
    rcases List.mem_append.mp h with h | h
    · exact .inl ⟨p, List.mem_cons_self .., h⟩
    · rcases List.mem_append.mp h with h | h
      · exact .inr h
      · rcases joinL_mem h with ⟨x, m, h⟩ | h
        · exact .inl ⟨x, List.mem_cons_of_mem _ m, h⟩
        · exact .inr h
theorem joinL_len {S : List Nat} : ∀ (ps : List (List Nat)), (joinL S ps).length ≤ (ps.map List.length).sum + ps.length * S.length
  | [] => Nat.zero_le _
  | [p] => by
    show p.length ≤ p.length + 0 + 1 * S.length
    omega
  | p :: q :: r => by
    have ih := joinL_len (S := S) (q :: r)
    show (p ++ (S ++ joinL S (q :: r))).length ≤ _
    rw [List.length_append, List.length_append, List.map_cons, List.sum_cons, List.length_cons, Nat.add_mul]
    omega
theorem sum_le {α : Type} {f : α → Nat} {b : Nat} : ∀ {l : List α}, (∀ x ∈ l, f x ≤ b) → (l.map f).sum ≤ l.length * b
  | [], _ => Nat.zero_le _
  | x :: l, h => by
    have ih := sum_le fun y m => h y (List.mem_cons_of_mem _ m)
    have h0 := h x (List.mem_cons_self ..)
    rw [List.map_cons, List.sum_cons, List.length_cons, Nat.add_mul]
    omega
theorem join_len (y : Str) {ps : List Str} {b : Nat} (h : ∀ p ∈ ps, p.length ≤ b) : (Txt.join y ps).length ≤ ps.length * b + ps.length * y.length := by
  rw [len_tl, join_eq, tl_join]
  refine Nat.le_trans (joinL_len _) ?_
  rw [List.map_map, List.length_map, ← len_tl]
  have e : ps.map (List.length ∘ tl) = ps.map (fun p => p.length) := List.map_congr_left fun p _ => (len_tl p).symm
  rw [e]
  exact Nat.add_le_add_right (sum_le h) _
/-- a line, a text of lines -/
def ln (r : List Str) : Str := Txt.join " " r ++ ("\n" : Str)
def txt (rows : List (List Str)) : Str := Txt.join "" (rows.map ln)
theorem joinL_emp : ∀ ps : List (List Nat), joinL [] ps = ps.flatten
  | [] => rfl
  | [p] => by simp [joinL]
  | p :: q :: r => by
    show p ++ ([] ++ joinL [] (q :: r)) = p ++ (q :: r).flatten
    rw [joinL_emp (q :: r)]
    rfl
theorem flat_nl (s : Nat) : ∀ ps : List (List Nat), (ps.map fun p => p ++ [s]).flatten = joinL [s] (ps ++ [[]])
  | [] => rfl
  | p :: r => by
    rw [List.map_cons, List.flatten_cons, flat_nl s r, List.cons_append, joinL_cons (by simp), List.append_assoc]
/-- lines, each with a line feed -/
theorem lines_eq (ls : List Str) : Txt.join ("" : Str) (ls.map (· ++ ("\n" : Str))) = Txt.join "\n" (ls ++ [("" : Str)]) := by
  refine ext_tl ?_
  rw [join_eq, tl_join, join_eq, tl_join, tl_emp, tl_nl, joinL_emp, List.map_map, List.map_append]
  have e : ls.map (tl ∘ fun x => x ++ ("\n" : Str)) = (ls.map tl).map fun p => p ++ [10] := by
    rw [List.map_map]
    refine List.map_congr_left fun x _ => ?_
    show tl (x ++ ("\n" : Str)) = tl x ++ [10]
    rw [tl_append, tl_nl]
  rw [e, flat_nl]
  rfl
theorem split_lines {ls : List Str} (h : ∀ z ∈ ls, 10 ∉ tl z) : Txt.split (Txt.join ("" : Str) (ls.map (· ++ ("\n" : Str)))) "\n" = ls ++ [("" : Str)] := by
  rw [lines_eq]
  refine split_join tl_nl kind_nl (by simp) fun p hp => ?_
  rcases List.mem_append.mp hp with m | m
  · exact h p m
  · rw [List.mem_singleton.mp m, tl_emp]
    simp
theorem txt_eq (rows : List (List Str)) : txt rows = Txt.join ("" : Str) ((rows.map (Txt.join " ")).map (· ++ ("\n" : Str))) := by
  unfold txt
  rw [List.map_map]
  rfl
theorem row_free {r : List Str} (h : ∀ z ∈ r, 10 ∉ tl z) : 10 ∉ tl (Txt.join " " r) := fun m => by
  rw [join_eq, tl_join, tl_sp] at m
  rcases joinL_mem m with ⟨p, mp, hc⟩ | m
  · obtain ⟨z, mz, rfl⟩ := List.mem_map.mp mp
    exact h z mz hc
  · exact absurd (List.mem_singleton.mp m) (by decide)
theorem split_txt {rows : List (List Str)} (h : ∀ r ∈ rows, ∀ z ∈ r, 10 ∉ tl z) : Txt.split (txt rows) "\n" = rows.map (Txt.join " ") ++ [("" : Str)] := by
  rw [txt_eq]
  refine split_lines fun z m => ?_
  obtain ⟨r, mr, rfl⟩ := List.mem_map.mp m
  exact row_free (h r mr)
theorem split_row {r : List Str} (ne : r ≠ []) (h : ∀ z ∈ r, 32 ∉ tl z) : Txt.split (Txt.join " " r) " " = r := split_join tl_sp kind_sp ne h
theorem split_rows {rows : List (List Str)} (h : ∀ r ∈ rows, r ≠ [] ∧ ∀ z ∈ r, 32 ∉ tl z) : (rows.map (Txt.join " ")).map (fun z => Txt.split z " ") = rows := by
  rw [List.map_map]
  conv => rhs; rw [← List.map_id rows]
  exact List.map_congr_left fun r m => split_row (h r m).1 (h r m).2
/-- and back: a text whose last part is empty is the text of its lines -/
theorem txt_split {z : Str} {ls : List Str} (h : Txt.split z "\n" = ls ++ [("" : Str)]) : txt (ls.map fun l => Txt.split l " ") = z := by
  rw [txt_eq]
  have e : (ls.map fun l => Txt.split l " ").map (Txt.join " ") = ls := by
    rw [List.map_map]
    conv => rhs; rw [← List.map_id ls]
    exact List.map_congr_left fun l _ => join_split tl_sp kind_sp l
  rw [e, lines_eq, ← h]
  exact join_split tl_nl kind_nl z
theorem str_len_app (a b : Str) : (a ++ b).length = a.length + b.length := by
  rw [len_tl, tl_append, List.length_append, ← len_tl, ← len_tl]
theorem ln_len {r : List Str} {b : Nat} (h : ∀ z ∈ r, z.length ≤ b) : (ln r).length ≤ r.length * (b + 1) + 1 := by
  unfold ln
  rw [str_len_app]
  have := join_len " " h
  have e1 : (" " : Str).length = 1 := rfl
  have e2 : ("\n" : Str).length = 1 := rfl
  rw [e1] at this
  rw [e2, Nat.mul_add]
  omega
theorem txt_len {rows : List (List Str)} {b c : Nat} (h : ∀ r ∈ rows, r.length ≤ c ∧ ∀ z ∈ r, z.length ≤ b) : (txt rows).length ≤ rows.length * (c * (b + 1) + 1) := by
  unfold txt
  have := join_len "" (ps := rows.map ln) (b := c * (b + 1) + 1) fun p m => by
    obtain ⟨r, mr, rfl⟩ := List.mem_map.mp m
    refine Nat.le_trans (ln_len (h r mr).2) (Nat.add_le_add_right (Nat.mul_le_mul_right _ (h r mr).1) _)
  have e1 : ("" : Str).length = 0 := rfl
  rw [e1, List.length_map] at this
  omega
theorem txt_inj {a b : List (List Str)} (ha : ∀ r ∈ a, r ≠ [] ∧ ∀ z ∈ r, 32 ∉ tl z ∧ 10 ∉ tl z) (hb : ∀ r ∈ b, r ≠ [] ∧ ∀ z ∈ r, 32 ∉ tl z ∧ 10 ∉ tl z) (h : txt a = txt b) : a = b := by
  have e1 := split_txt fun r m z mz => ((ha r m).2 z mz).2
  have e2 := split_txt fun r m z mz => ((hb r m).2 z mz).2
  rw [h, e2] at e1
  have e3 := List.append_cancel_right e1
  rw [← split_rows (rows := a) fun r m => ⟨(ha r m).1, fun z mz => ((ha r m).2 z mz).1⟩, ← split_rows (rows := b) fun r m => ⟨(hb r m).1, fun z mz => ((hb r m).2 z mz).1⟩, e3]
end TX
end L2
namespace L2
namespace TX
open PySem PySem.Spec PyProof.Rows TL
theorem joinL_part {S p : List Nat} : ∀ {ps : List (List Nat)}, p ∈ ps → p.length ≤ (joinL S ps).length
  | [], h => by cases h
  | [q], h => by
    rw [List.mem_singleton.mp h]
    exact Nat.le_refl _
  | q :: x :: r, h => by
    show p.length ≤ (q ++ (S ++ joinL S (x :: r))).length
    rw [List.length_append, List.length_append]
    rcases List.mem_cons.mp h with rfl | h
    · omega
    · have := joinL_part (S := S) h
      omega
theorem len_join_mem {y z : Str} {ps : List Str} (h : z ∈ ps) : z.length ≤ (Txt.join y ps).length := by
  rw [len_tl, len_tl, join_eq, tl_join]
  exact joinL_part (List.mem_map.mpr ⟨z, h, rfl⟩)
end TX
end L2
set_option Elab.async false
set_option linter.all false
set_option maxRecDepth 100000
set_option maxHeartbeats 4000000
namespace SSx
open PySem PySem.Spec PyProof.Rows SS
/-! the texts of a list, each once -/
def sp (s : List PySem.Str) (v : PySem.Str) : List PySem.Str := if s.any (· == v) = true then s else s ++ [v]
def ddN (xs : List PySem.Str) (i : Nat) : List PySem.Str := (xs.take i).foldl sp []
theorem ddN_succ {xs : List PySem.Str} {i : Nat} (h : i < xs.length) : ddN xs (i + 1) = sp (ddN xs i) (xs.getD i Str.empty) := by
  unfold ddN
  rw [List.take_succ, List.getElem?_eq_getElem h, List.getD_eq_getElem?_getD, List.getElem?_eq_getElem h, List.foldl_append]
  rfl
theorem sp_any (s : List PySem.Str) (v k : PySem.Str) : (sp s v).any (· == k) = (s.any (· == k) || decide (k = v)) := by
  unfold sp
  by_cases h : s.any (· == v) = true
  · rw [if_pos h]
    by_cases e : k = v
    · rw [e, h]
      simp
    · simp [e]
  · rw [if_neg h, List.any_append]
    by_cases e : k = v
    · rw [e]
      simp
    · have hb : (v == k) = false := by simpa [beq_iff_eq] using (fun h' : v = k => e h'.symm)
      simp [hb, e]
theorem sp_len (s : List PySem.Str) (v : PySem.Str) : (sp s v).length = if s.any (· == v) = true then s.length else s.length + 1 := by
  unfold sp
  split <;> simp
theorem ddN_le (xs : List PySem.Str) : ∀ i, (ddN xs i).length ≤ i
  | 0 => by simp [ddN]
  | i + 1 => by
    have ih := ddN_le xs i
    by_cases h : i < xs.length
    · rw [ddN_succ h, sp_len]
      split <;> omega
    · have e : ddN xs (i + 1) = ddN xs i := by
        unfold ddN
        rw [List.take_of_length_le (by omega), List.take_of_length_le (by omega)]
      rw [e]
      omega
section
variable {prog : Program} {w : World} {A : Around} {R : Result → Shared → Prop} {I : Addr} {fp wr : List Addr} {G : Array GenState → Array GenState → Prop} {n : Nat} {P : Nat → Value → Prop} {St : Nat → Shared → Prop}
theorem loopTxt (W : WalksS prog w A.in1 I fp wr G n P St) (S : Addr) (hSf : S ∉ fp) (xs : List Str) (hsz : xs.length = n) (hn1 : n + 1 < scanBound)
    (hval : ∀ i v, P i v → ∃ t, v = .str (xs.getD i Str.empty) t) :
    ∀ (k i : Nat) (s : Shared), n - i = k → i ≤ n → St i s →
      s.heap.SetOf (PySem.strKind prog w) S (fun k' => (ddN xs i).any (· == k')) (ddN xs i).length →
      (∀ s', Moved (S :: wr) G s s' → s'.heap.SetOf (PySem.strKind prog w) S (fun k' => (ddN xs n).any (· == k')) (ddN xs n).length → R (.ok (.ret .none)) s') →
      codeAny (model prog w) A (.builtin "set.update.loop" ⟨[.ref S, .ref I], []⟩) R s := by
  have hSw : S ∉ wr := fun h => hSf (W.sub _ h)
  have hsub : ∀ b ∈ wr, b ∈ S :: wr := fun b hb => List.mem_cons_of_mem _ hb
  intro k
  induction k with
  | zero =>
    intro i s hk hi hst hS hR
    have hin : i = n := by omega
    subst hin
    refine codeAny_builtin PyProof.Rows.F.entry_set_update_loop ?_
    rw [Around.under_plainId PyProof.Rows.F.plain_set_update_loop _]
    show wpAny _ A.in1 (pyNext (.ref I) >>= _) _ _ s
    refine wpAny_bind (W.done s _ _ hst fun s' hm => ?_)
    show wpAny _ A.in1 (ret Value.none) _ _ s'
    exact wpAny_pure (hR s' (hm.mono hsub) (by
      obtain ⟨o, es, ep, t, ho, rest⟩ := hS
      exact ⟨o, es, ep, t, hm.heap S _ hSw ho, rest⟩))
  | succ k ih =>
    intro i s hk hi hst hS hR
    have hlt : i < n := by omega
    refine codeAny_builtin PyProof.Rows.F.entry_set_update_loop ?_
    rw [Around.under_plainId PyProof.Rows.F.plain_set_update_loop _]
    show wpAny _ A.in1 (pyNext (.ref I) >>= _) _ _ s
    refine wpAny_bind (W.item i s _ _ hlt hst fun v s' hP hst' hm => ?_)
    obtain ⟨t, rfl⟩ := hval i v hP
    have hS' : s'.heap.SetOf (PySem.strKind prog w) S (fun k' => (ddN xs i).any (· == k')) (ddN xs i).length := by
      obtain ⟨o, es, ep, tb, ho, rest⟩ := hS
      exact ⟨o, es, ep, tb, hm.heap S _ hSw ho, rest⟩
    show wpAny _ A.in1 (holding [Value.str (xs.getD i Str.empty) t] (setAdd S (.str (xs.getD i Str.empty) t)) >>= _) _ _ s'
    refine wpAny_bind (wpAny_holding ?_)
    unfold setAdd
    refine wpAny_holding ?_
    refine wpAny_bind ((PySem.strKind prog w).pyHash (k := xs.getD i Str.empty) (strKind_is _ _ _ _) ?_)
    refine wpAny_setAddHashed_of (knd := PySem.strKind prog w) (s := { s' with toks := s'.toks + 1 }) (strKind_is _ _ _ _) rfl hS' (by have := ddN_le xs i; omega) fun h' hsb hS2 => ?_
    have hSi : h'.SetOf (PySem.strKind prog w) S (fun k' => (ddN xs (i + 1)).any (· == k')) (ddN xs (i + 1)).length := by
      rw [ddN_succ (show i < xs.length by omega)]
      exact SetOf_congr hS2 (fun k' => (sp_any _ _ _).symm) (sp_len _ _).symm
    refine wpAny_pure ⟨plainId_quiet PyProof.Rows.F.plain_set_update_loop _, ih (i + 1) _ (by omega) hlt (W.frame _ s' _ _ hst' (Nat.le_succ _) fun b hb o e => ?_) hSi fun s'' hm'' hS'' => ?_⟩
    · rw [hsb.2 b (fun h : b = S => hSf (by rw [← h]; exact hb))]; exact e
    · refine hR s'' (Moved.trans W.gtrans ((hm.mono hsub).then_heap (Nat.le_succ _) fun b o hb e => ?_) hm'') hS''
      rw [hsb.2 b (fun h : b = S => hb (by rw [h]; exact List.mem_cons_self))]; exact e
end

section
variable {prog : Program} {w : World} {A : Around} {E : Value → Shared → Prop} {s : Shared}
set_option maxHeartbeats 3200000 in
theorem set_listTxt {l : Addr} {items : Array Value} {xs : List Str} {Q : Value → Shared → Prop}
    (hh : A.handled = none) (hl : s.heap.IsList l items) (hi : PyProof.Rows.StrsAre items.toList xs) (hn1 : xs.length + 1 < scanBound)
    (h : ∀ (h' : Heap) (tk : Nat), h'.SetOf (PySem.strKind prog w) s.heap.objs.size (fun k' => (ddN xs items.size).any (· == k')) (ddN xs items.size).length →
      (∀ b o, b < s.heap.objs.size → s.heap.get? b = some o → h'.get? b = some o) → Q (.ref s.heap.objs.size) { s with heap := h', toks := tk }) :
    wpAny (model prog w) A (call (.type "set") [.ref l]) Q E s := by
  obtain ⟨c, tl, hmro⟩ := PySem.F.called_set.mro
  have hmade := PySem.F.called_set.made
  have hsub := PySem.F.called_set.sub
  refine wpAny_call (codeAny_of_tree ?_)
  show wpAny _ _ (callAny (.type "set") _) _ _ _
  refine wpAny_pure ⟨Code.quiet_builtin _ (by decide +kernel), codeAny_builtin PySem.F.entry_type_call ?_⟩
  rw [Around.under_plain (weight_type_call_type "set" [.ref l] []) rfl]
  have h1 := PySem.F.called_set.notType
  have h2 := PySem.F.called_set.canCreate
  have hct := PySem.F.typeCall_set_1 (.ref l)
  repeat (any_goals (first | assumption | wp_step))

  refine codeAny_mono (code_set_new_1 (.ref l) (E := E) (Q₁ := fun obj s₁ => ∃ led : Bool, obj = .ref s.heap.objs.size ∧ s₁ = { s with heap := s.heap.push { cls := .type "set", dict := none, data := .set #[] 0 (.fresh 0 0 led) } }) fun led => ⟨led, rfl, rfl⟩) fun r s₁ hr => ?_
  cases r with
  | error e => exact hr
  | ok fl =>
    cases fl with
    | ret obj =>
      obtain ⟨led, rfl, rfl⟩ := hr
      have hS : (s.heap.push { cls := .type "set", dict := none, data := .set #[] 0 (.fresh 0 0 led) }).get? s.heap.objs.size = some { cls := .type "set", dict := none, data := .set #[] 0 (.fresh 0 0 led) } := Heap.get?_push_size _ rfl
      have hT : Shared.TypeIs { s with heap := s.heap.push { cls := .type "set", dict := none, data := .set #[] 0 (.fresh 0 0 led) } } (.ref s.heap.objs.size) "set" := ⟨_, hS, rfl⟩
      have hli := PySem.F.called_set.init.lookup
      have hbi := PySem.F.called_set.init.bind (.ref s.heap.objs.size)
      repeat (any_goals (first | assumption | wp_step))

      refine codeAny_mono (codeAny_call_builtin (R := wants (fun r s₂ => r = .none ∧ ∃ h' tk, s₂ = { s with heap := h', toks := tk } ∧
          h'.SetOf (PySem.strKind prog w) s.heap.objs.size (fun k' => (ddN xs items.size).any (· == k')) (ddN xs items.size).length ∧
          (∀ b o, b < s.heap.objs.size → s.heap.get? b = some o → h'.get? b = some o)) E) PySem.F.called_set.init.plain PySem.F.entry_set_init (check_set_init_1 hT ?_)) fun r₂ s₂ hr₂ => ?_
      · obtain ⟨ol, hol, hcl, nl, hdl⟩ := hl
        obtain ⟨ocls, odict, odata, oslots⟩ := ol
        simp only at hcl hdl
        subst hcl; subst hdl
        have hol' : (s.heap.push { cls := .type "set", dict := none, data := .set #[] 0 (.fresh 0 0 led) }).get? l = some { cls := .type "list", dict := odict, data := .seq items nl, slots := oslots } := Heap.get?_push_of_some _ hol
        have hsls := PySem.F.sub_list_set
        have hslf := PySem.F.sub_list_frozenset
        have hne : (Value.type "list" == Value.type "dict") = false := by decide
        have hl1 : (s.heap.push { cls := .type "set", dict := none, data := .set #[] 0 (.fresh 0 0 led) }).IsList l items := ⟨_, hol', rfl, nl, rfl⟩
        unfold Builtin.«set.__init__» noKeywords Builtin.Frozenset.updateFrom
        generalize hPI : pyIter = PI
        wp_walk
        subst hPI

        refine wpAny_pyIter_list hl1 ?_
        refine wpAny_bind (wpAny_runValue ?_)
        have hlS : l < s.heap.objs.size := Heap.lt_size hol
        have hh3 : A.in1.in1.in1.handled = none := by simp [hh]
        have hneI : l ≠ (s.heap.push { cls := .type "set", dict := none, data := .set #[] 0 (.fresh 0 0 led) }).objs.size := by
          rw [Heap.size_push]; exact Nat.ne_of_lt (Nat.lt_succ_of_lt hlS)
        have hSf : s.heap.objs.size ∉ [(s.heap.push { cls := .type "set", dict := none, data := .set #[] 0 (.fresh 0 0 led) }).objs.size, l] := by
          rw [Heap.size_push]; simp only [List.mem_cons, List.mem_singleton, List.not_mem_nil, or_false, not_or]
          exact ⟨Nat.ne_of_lt (Nat.lt_succ_self _), Nat.ne_of_gt hlS⟩
        have hsz : xs.length = items.size := by rw [← StrsAre.len_eq hi, Array.length_toList]
        have hval : ∀ (i : Nat) (v : Value), items[i]? = some v → ∃ t, v = .str (xs.getD i Str.empty) t := fun i v hv => strs_at hi i v (by rw [Array.getElem?_toList]; exact hv)
        refine loopTxt ((Walks.list hh3 _ l hneI items).toS) s.heap.objs.size
          hSf xs hsz (by rw [← hsz]; exact hn1) hval (items.size - 0) 0 _ (by omega) (Nat.zero_le _)
          ⟨⟨_, Heap.get?_push_size _ rfl, rfl, rfl⟩, (hl1.push _)⟩ ?hS0 ?hR
        case hS0 =>
          have hget : ((s.heap.push { cls := .type "set", dict := none, data := .set #[] 0 (.fresh 0 0 led) }).push { cls := .type "list_iterator", data := .fields #[.ref l, .int 0 0] }).get? s.heap.objs.size
              = some { cls := .type "set", dict := none, data := .set #[] 0 (.fresh 0 0 led) } := Heap.get?_push_of_some _ hS
          exact PyProof.Rows.SetOf_congr ((PyProof.Rows.setObjOf_fresh (knd := PySem.strKind prog w) led).setOf hget (by unfold scanBound; omega)) (fun _ => rfl) rfl
        case hR =>
          intro s' hm hS'
          obtain ⟨h', g', d', tk', os'⟩ := s'
          have eg : g' = s.gens := hm.gens
          have ed : d' = s.drawn := hm.drawn
          have eo : os' = s.os := hm.os
          subst eg; subst ed; subst eo
          show wpAny _ _ _ _ _ _
          refine wpAny_pure ?_
          show wpAny _ _ (ret Value.none) _ _ _
          refine wpAny_pure ⟨rfl, h', tk', rfl, hS', fun b o hb e => ?_⟩
          have hb1 : b ≠ s.heap.objs.size := Nat.ne_of_lt hb
          have hb2 : b ≠ (s.heap.push { cls := .type "set", dict := none, data := .set #[] 0 (.fresh 0 0 led) }).objs.size := by
            rw [Heap.size_push]; exact Nat.ne_of_lt (Nat.lt_succ_of_lt hb)
          exact hm.heap b o (by simp only [List.mem_cons, List.mem_singleton, List.not_mem_nil, or_false, not_or]; exact ⟨hb1, hb2⟩) (Heap.get?_push_of_some _ (Heap.get?_push_of_some _ e))

      · cases r₂ with
        | error e => exact hr₂
        | ok fl₂ =>
          cases fl₂ with
          | ret r =>
            obtain ⟨rfl, h', tk, rfl, hS', hk'⟩ := hr₂
            repeat (any_goals (first | assumption | wp_step))
            exact h _ _ hS' hk'
          | _ => exact hr₂.elim
    | _ => exact hr.elim

set_option maxHeartbeats 3200000 in
theorem set_tupleTxt {l : Addr} {items : Array Value} {xs : List Str} {Q : Value → Shared → Prop}
    (hh : A.handled = none) (hl : s.heap.IsTuple l items) (hi : PyProof.Rows.StrsAre items.toList xs) (hn1 : xs.length + 1 < scanBound)
    (h : ∀ (h' : Heap) (tk : Nat), h'.SetOf (PySem.strKind prog w) s.heap.objs.size (fun k' => (ddN xs items.size).any (· == k')) (ddN xs items.size).length →
      (∀ b o, b < s.heap.objs.size → s.heap.get? b = some o → h'.get? b = some o) → Q (.ref s.heap.objs.size) { s with heap := h', toks := tk }) :
    wpAny (model prog w) A (call (.type "set") [.ref l]) Q E s := by
  obtain ⟨c, tl, hmro⟩ := PySem.F.called_set.mro
  have hmade := PySem.F.called_set.made
  have hsub := PySem.F.called_set.sub
  refine wpAny_call (codeAny_of_tree ?_)
  show wpAny _ _ (callAny (.type "set") _) _ _ _
  refine wpAny_pure ⟨Code.quiet_builtin _ (by decide +kernel), codeAny_builtin PySem.F.entry_type_call ?_⟩
  rw [Around.under_plain (weight_type_call_type "set" [.ref l] []) rfl]
  have h1 := PySem.F.called_set.notType
  have h2 := PySem.F.called_set.canCreate
  have hct := PySem.F.typeCall_set_1 (.ref l)
  repeat (any_goals (first | assumption | wp_step))

  refine codeAny_mono (code_set_new_1 (.ref l) (E := E) (Q₁ := fun obj s₁ => ∃ led : Bool, obj = .ref s.heap.objs.size ∧ s₁ = { s with heap := s.heap.push { cls := .type "set", dict := none, data := .set #[] 0 (.fresh 0 0 led) } }) fun led => ⟨led, rfl, rfl⟩) fun r s₁ hr => ?_
  cases r with
  | error e => exact hr
  | ok fl =>
    cases fl with
    | ret obj =>
      obtain ⟨led, rfl, rfl⟩ := hr
      have hS : (s.heap.push { cls := .type "set", dict := none, data := .set #[] 0 (.fresh 0 0 led) }).get? s.heap.objs.size = some { cls := .type "set", dict := none, data := .set #[] 0 (.fresh 0 0 led) } := Heap.get?_push_size _ rfl
      have hT : Shared.TypeIs { s with heap := s.heap.push { cls := .type "set", dict := none, data := .set #[] 0 (.fresh 0 0 led) } } (.ref s.heap.objs.size) "set" := ⟨_, hS, rfl⟩
      have hli := PySem.F.called_set.init.lookup
      have hbi := PySem.F.called_set.init.bind (.ref s.heap.objs.size)
      repeat (any_goals (first | assumption | wp_step))

      refine codeAny_mono (codeAny_call_builtin (R := wants (fun r s₂ => r = .none ∧ ∃ h' tk, s₂ = { s with heap := h', toks := tk } ∧
          h'.SetOf (PySem.strKind prog w) s.heap.objs.size (fun k' => (ddN xs items.size).any (· == k')) (ddN xs items.size).length ∧
          (∀ b o, b < s.heap.objs.size → s.heap.get? b = some o → h'.get? b = some o)) E) PySem.F.called_set.init.plain PySem.F.entry_set_init (check_set_init_1 hT ?_)) fun r₂ s₂ hr₂ => ?_
      · obtain ⟨ol, hol, hcl, nl, hdl⟩ := hl
        obtain ⟨ocls, odict, odata, oslots⟩ := ol
        simp only at hcl hdl
        subst hcl; subst hdl
        have hol' : (s.heap.push { cls := .type "set", dict := none, data := .set #[] 0 (.fresh 0 0 led) }).get? l = some { cls := .type "tuple", dict := odict, data := .seq items nl, slots := oslots } := Heap.get?_push_of_some _ hol
        have hsls := PySem.F.sub_tuple_set
        have hslf := PySem.F.sub_tuple_frozenset
        have hne : (Value.type "tuple" == Value.type "dict") = false := by decide
        have hl1 : (s.heap.push { cls := .type "set", dict := none, data := .set #[] 0 (.fresh 0 0 led) }).IsTuple l items := ⟨_, hol', rfl, nl, rfl⟩
        unfold Builtin.«set.__init__» noKeywords Builtin.Frozenset.updateFrom
        generalize hPI : pyIter = PI
        wp_walk
        subst hPI

        refine wpAny_pyIter_tuple hl1 ?_
        refine wpAny_bind (wpAny_runValue ?_)
        have hlS : l < s.heap.objs.size := Heap.lt_size hol
        have hh3 : A.in1.in1.in1.handled = none := by simp [hh]
        have hneI : l ≠ (s.heap.push { cls := .type "set", dict := none, data := .set #[] 0 (.fresh 0 0 led) }).objs.size := by
          rw [Heap.size_push]; exact Nat.ne_of_lt (Nat.lt_succ_of_lt hlS)
        have hSf : s.heap.objs.size ∉ [(s.heap.push { cls := .type "set", dict := none, data := .set #[] 0 (.fresh 0 0 led) }).objs.size, l] := by
          rw [Heap.size_push]; simp only [List.mem_cons, List.mem_singleton, List.not_mem_nil, or_false, not_or]
          exact ⟨Nat.ne_of_lt (Nat.lt_succ_self _), Nat.ne_of_gt hlS⟩
        have hsz : xs.length = items.size := by rw [← StrsAre.len_eq hi, Array.length_toList]
        have hval : ∀ (i : Nat) (v : Value), items[i]? = some v → ∃ t, v = .str (xs.getD i Str.empty) t := fun i v hv => strs_at hi i v (by rw [Array.getElem?_toList]; exact hv)
        refine loopTxt ((Walks.tuple hh3 _ l hneI items).toS) s.heap.objs.size
          hSf xs hsz (by rw [← hsz]; exact hn1) hval (items.size - 0) 0 _ (by omega) (Nat.zero_le _)
          ⟨⟨_, Heap.get?_push_size _ rfl, rfl, rfl⟩, (hl1.push _)⟩ ?hS0 ?hR
        case hS0 =>
          have hget : ((s.heap.push { cls := .type "set", dict := none, data := .set #[] 0 (.fresh 0 0 led) }).push { cls := .type "tuple_iterator", data := .fields #[.ref l, .int 0 0] }).get? s.heap.objs.size
              = some { cls := .type "set", dict := none, data := .set #[] 0 (.fresh 0 0 led) } := Heap.get?_push_of_some _ hS
          exact PyProof.Rows.SetOf_congr ((PyProof.Rows.setObjOf_fresh (knd := PySem.strKind prog w) led).setOf hget (by unfold scanBound; omega)) (fun _ => rfl) rfl
        case hR =>
          intro s' hm hS'
          obtain ⟨h', g', d', tk', os'⟩ := s'
          have eg : g' = s.gens := hm.gens
          have ed : d' = s.drawn := hm.drawn
          have eo : os' = s.os := hm.os
          subst eg; subst ed; subst eo
          show wpAny _ _ _ _ _ _
          refine wpAny_pure ?_
          show wpAny _ _ (ret Value.none) _ _ _
          refine wpAny_pure ⟨rfl, h', tk', rfl, hS', fun b o hb e => ?_⟩
          have hb1 : b ≠ s.heap.objs.size := Nat.ne_of_lt hb
          have hb2 : b ≠ (s.heap.push { cls := .type "set", dict := none, data := .set #[] 0 (.fresh 0 0 led) }).objs.size := by
            rw [Heap.size_push]; exact Nat.ne_of_lt (Nat.lt_succ_of_lt hb)
          exact hm.heap b o (by simp only [List.mem_cons, List.mem_singleton, List.not_mem_nil, or_false, not_or]; exact ⟨hb1, hb2⟩) (Heap.get?_push_of_some _ (Heap.get?_push_of_some _ e))

      · cases r₂ with
        | error e => exact hr₂
        | ok fl₂ =>
          cases fl₂ with
          | ret r =>
            obtain ⟨rfl, h', tk, rfl, hS', hk'⟩ := hr₂
            repeat (any_goals (first | assumption | wp_step))
            exact h _ _ hS' hk'
          | _ => exact hr₂.elim
    | _ => exact hr.elim

end

theorem ddN_nodup {xs : List PySem.Str} : (ddN xs xs.length).length = xs.length ↔ xs.Nodup := by
  have key : ∀ i, i ≤ xs.length → ((ddN xs i).length = i ↔ (xs.take i).Nodup) ∧ ∀ k, k ∈ ddN xs i ↔ k ∈ xs.take i := by
    intro i
    induction i with
    | zero => intro _; simp [ddN]
    | succ i ih =>
      intro hi
      obtain ⟨ih1, ih2⟩ := ih (by omega)
      have hlt : i < xs.length := by omega
      have e1 : xs.take (i + 1) = xs.take i ++ [xs[i]] := by rw [List.take_succ, List.getElem?_eq_getElem hlt]; rfl
      have e2 : xs.getD i Str.empty = xs[i] := by rw [List.getD_eq_getElem?_getD, List.getElem?_eq_getElem hlt]; rfl
      have le := ddN_le xs i
      have am : ((ddN xs i).any (· == xs[i]) = true) ↔ xs[i] ∈ xs.take i := by
        rw [List.any_eq_true, ← ih2]
        constructor
        · rintro ⟨y, hy, e⟩
          rw [← eq_of_beq e]
          exact hy
        · intro h
          exact ⟨_, h, beq_self_eq_true _⟩
      rw [ddN_succ hlt, e2, sp_len]
      refine ⟨?_, fun k => ?_⟩
      · rw [e1, List.nodup_append]
        by_cases h : (ddN xs i).any (· == xs[i]) = true
        · rw [if_pos h]
          constructor
          · intro z
            omega
          · rintro ⟨_, _, z⟩
            exact absurd rfl (z _ (am.mp h) _ (List.mem_singleton.mpr rfl))
        · rw [if_neg h]
          constructor
          · intro z
            refine ⟨ih1.mp (by omega), by simp, fun y hy u hu e => ?_⟩
            rw [List.mem_singleton.mp hu] at e
            exact h (am.mpr (e ▸ hy))
          · rintro ⟨z, _, _⟩
            have := ih1.mpr z
            omega
      · rw [e1]
        unfold sp
        by_cases h : (ddN xs i).any (· == xs[i]) = true
        · rw [if_pos h, ih2, List.mem_append, List.mem_singleton]
          constructor
          · exact .inl
          · rintro (z | z)
            · exact z
            · rw [z]
              exact am.mp h
        · rw [if_neg h, List.mem_append, List.mem_append, ih2]
  have z := (key xs.length (Nat.le_refl _)).1
  rw [List.take_length] at z
  exact z
end SSx
namespace L2
open PySem PySem.Spec PyProof.Rows
section
variable {X : Cx}
/-- len(set(xs)), xs a list or tuple of texts -/
def tLenTxt (K : PySem.W.Frag) (ta : TE) : TE := fun σ H Q => ta σ H fun x H1 => ∃ (l : Addr) (xs : List Str), x = .ref l ∧ (SqL K H1 l (xs.map V.str) ∨ SqT K H1 l (xs.map V.str)) ∧ xs.length ≤ 1000 ∧ Q (.int ((SSx.ddN xs xs.length).length : Nat)) H1
theorem pe_lenTxt {a : Expr} {ta : TE} {p p2 q pos : Pos} (hc : X.calm = true) (hg : Gl X "len") (hm : X.mg "len" = none) (hg2 : Gl X "set") (hm2 : X.mg "set" = none) (ha : PE X a ta)
    (na : starEach [a] X.env = (false, eval a X.env) :: starEach [] X.env := by rfl) : PE X (.Call (.Name "len" p) [.Call (.Name "set" p2) [a] [] q] [] pos) (tLenTxt X.K ta) := by
  refine ⟨fun pins s σ H Q I h => ?_⟩
  refine Call_ (ld_blt I hg hm boot_len ?_)
  refine PyProof.Rows.callWith_builtin1 (PyProof.Rows.args_cons ?_ rfl) rfl rfl
  refine Call_ (ld_blt I hg2 hm2 boot_set ?_)
  refine PyProof.Rows.callWith_type1 (PyProof.Rows.args_cons (thn (ha.run pins s σ H _ I h) fun v s1 ⟨x, H1, I1, r1, q1⟩ => PyProof.Rows.args_nil ?_) na) na rfl
  obtain ⟨l, xs, rfl, hq, h1, q1⟩ := q1
  cases r1
  have few : xs.length + 1 < scanBound := by unfold scanBound; omega
  have fin : ∀ (its : List Value), Vals (xs.map V.str) its → ∀ (h' : Heap) (tk : Nat), h'.SetOf (PySem.strKind X.prog X.w) s1.heap.objs.size (fun k' => (SSx.ddN xs its.toArray.size).any (· == k')) (SSx.ddN xs its.toArray.size).length →
      (∀ b o, b < s1.heap.objs.size → s1.heap.get? b = some o → h'.get? b = some o) →
      wpAny (model X.prog X.w) X.A (spliced (backTo pos (starEach [] X.env))) (fun vs s₂ => wpAny (model X.prog X.w) X.A (call (.builtin "len") (Value.ref s1.heap.objs.size :: vs)) (EP X pins σ Q) X.xe s₂) X.xe { s1 with heap := h', toks := tk } := fun its r h' tk hS hk => by
    refine PyProof.Rows.args_nil ?_
    have hl : its.toArray.size = xs.length := by rw [List.size_toArray, ← r.length, List.length_map]
    rw [hl] at hS
    have le := SSx.ddN_le xs xs.length
    obtain ⟨o, es, ep, t, ho, hex, hd, _, _, _, hf, hn⟩ := hS
    have I2 : Inv X pins σ H1 { s1 with heap := h', toks := tk } := I1.kept fun b o e => hk b o (Heap.lt_size e) e
    refine call_len_set ho hex hd hf (by rw [hn] <;> omega) ⟨.int (SSx.ddN xs xs.length).length, H1, I2.tok _, ⟨_, by rw [hn]⟩, q1⟩
  rcases hq with hq | hq
  · obtain ⟨its, r, pl, hz⟩ := I1.list hq
    exact SSx.set_listTxt (I1.ok.hd hc) pl.isList (by simpa using strsAre_of r) few fun h' tk hS hk => fin its r h' tk hS hk
  · obtain ⟨its, r, pl, hz⟩ := I1.tuple hq
    exact SSx.set_tupleTxt (I1.ok.hd hc) pl (by simpa using strsAre_of r) few fun h' tk hS hk => fin its r h' tk hS hk
end
end L2
set_option Elab.async false
set_option linter.all false
set_option maxRecDepth 100000
set_option maxHeartbeats 4000000
namespace PySem
namespace KwNew
open HandSPX Builtin Builtin.ObjectAttr
section
variable {M : Model} {A : Around} {E : Value → Shared → Prop} {h : Heap} {g : Array GenState} {d : Drawn} {t : Nat} {os : OsState}
variable {nmC q : Str} {C N : Addr} {bss bm tl : List Value} {dct : Bool} {sns : List Str} {sbs : List Value} {abs0 : Bool} {clc : Option Bool} {dct2 : Option Addr} {k0 k1 k2 k3 k5 : Option Value} {B idN idI : String}
theorem check_new_kw (F : ExcBaseFacts B idN idI tl) (mem : ∀ X : String, bm.contains (.type X) = tl.contains (.type X)) {more : List Value} {kw : List (Str × Value)} {Q : Unit → Shared → Prop}
    (atC : h.get? C = some (excClassObj nmC q C N bss bm dct sns sbs abs0 clc dct2 k0 k1 k2 k3 k5 idN)) (go : Q () ⟨h, g, d, t, os⟩) : wpAny M A (checkBuiltinCall idN ⟨.ref C :: more, kw⟩) Q E ⟨h, g, d, t, os⟩ := by
  have inB : (Value.ref C :: bm).contains (.type B) = true := by rw [List.contains_cons, mem, F.hasB, Bool.or_true]
  have st := F.noStar
  simp only [checkBuiltinCall, F.newKind, F.newSplit, F.newRow]
  repeat (first | refine wpAny_loadPart_at atC ?_ | (refine wpAny_isSubtype_exc atC ?_; rw [inB]) | refine wpAny_staticBase_exc atC ?_ | refine wpAny_madeBy_exc atC ?_ | simp only [bne_self_eq_false, Bool.false_eq_true, if_false] | wp_step)
  exact go
end
section
variable {prog : Program} {w : World} {A : Around} {E : Value → Shared → Prop} {R : Result → Shared → Prop} {h : Heap} {g : Array GenState} {d : Drawn} {t : Nat} {os : OsState}
variable {nmC q : Str} {C N : Addr} {bss bm tl : List Value} {dct : Bool} {sns : List Str} {sbs : List Value} {abs0 : Bool} {clc : Option Bool} {dct2 : Option Addr} {k0 k1 k2 k3 k5 : Option Value} {B idN idI : String}
theorem new_kw (F : ExcBaseFacts B idN idI tl) (mem : ∀ X : String, bm.contains (.type X) = tl.contains (.type X)) {more : List Value} {kw : List (Str × Value)}
    (atC : h.get? C = some (excClassObj nmC q C N bss bm dct sns sbs abs0 clc dct2 k0 k1 k2 k3 k5 idN))
    (go : R (.ok (.ret (.ref (h.objs.size + 1)))) ⟨(h.push { cls := .type "tuple", data := .seq more.toArray }).push
      { cls := .ref C, data := .fields #[.ref h.objs.size, .none, .none, .none, .bool false, .none] }, g, d, t, os⟩) (few : more.length ≤ sizeLine) :
    codeAny (model prog w) A (.builtin idN ⟨.ref C :: more, kw⟩) R ⟨h, g, d, t, os⟩ := by
  have en := F.ends
  have inB : (Value.ref C :: bm).contains (.type B) = true := by rw [List.contains_cons, mem, F.hasB, Bool.or_true]
  have noA : (Value.ref C :: bm).contains (.type "AttributeError") = false := by rw [List.contains_cons, mem, F.noAttr]; rfl
  have noN : (Value.ref C :: bm).contains (.type "NameError") = false := by rw [List.contains_cons, mem, F.noName]; rfl
  refine codeAny_builtinAt F.entry ?_
  unfold Builtin.«BaseException.__new__»
  refine wpAt_bind ?_
  show wpAt _ _ _ (stack >>= _) _ _ _
  refine wpAt_bind (wpAt_stack fun p below => wpAt_of_wpAny ?_)
  wp_walk
  refine wpAt_of_wpAny ?_
  rw [F.owner]
  repeat (first | with_reducible refine wpAny_madeHere_exc F.canon atC ?_ | with_reducible refine wpAny_loadPart_at atC ?_ | (with_reducible refine wpAny_isSubtype_exc atC ?_; first | rw [inB] | rw [noA] | rw [noN]) | wp_step)
  show R _ _
  rw [Heap.size_push]
  exact go
theorem check_call_kw {M : Model} {more : List Value} {kw : List (Str × Value)} {Q : Unit → Shared → Prop} (atC : h.get? C = some (excClassObj nmC q C N bss bm dct sns sbs abs0 clc dct2 k0 k1 k2 k3 k5 idN))
    (go : Q () ⟨h, g, d, t, os⟩) : wpAny M A (checkBuiltinCall "type.__call__" ⟨.ref C :: more, kw⟩) Q E ⟨h, g, d, t, os⟩ := by
  have f3 := tc_sub
  have mem : (⟨h, g, d, t, os⟩ : Shared).TypeIs (.ref C) "type" := ⟨_, atC, rfl⟩
  simp only [checkBuiltinCall, tc_kind, tc_split]
  repeat (any_goals (first | assumption | with_reducible refine wpAny_loadPart_at atC ?_ | with_reducible refine wpAny_onRaise ?_ | with_reducible refine wpAny_map ?_ | wp_step))
theorem type_call_kw (F : ExcBaseFacts B idN idI tl) (mem : ∀ X : String, bm.contains (.type X) = tl.contains (.type X)) {more : List Value} {kw : List (Str × Value)} {fI : Addr} {Q : Fin → Shared → Prop}
    (atC : h.get? C = some (excClassObj nmC q C N bss bm dct sns sbs abs0 clc dct2 k0 k1 k2 k3 k5 idN))
    (iLook : W.Looks (model prog w) h (typeLookup (.ref C) "__init__") (some (.ref fI))) (bLook : ∀ self, W.Looks (model prog w) h (bindSpecial (.ref fI) self) (.ref fI, [self])) (few : more.length ≤ sizeLine)
    (go : codeAny (model prog w) A (.call (.ref fI) ⟨.ref (h.objs.size + 1) :: more, kw⟩)
      (fun r s' => match r with | .ok (.ret v) => v = .none ∧ Q (.done (.ret (.ref (h.objs.size + 1)))) s' | .ok _ => False | .error e => E e s')
      ⟨(h.push (W.kdv_tup more)).push (excO C h.objs.size), g, d, t, os⟩) :
    wpAny (model prog w) A (Builtin.«type.__call__» ⟨.ref C :: more, kw⟩) Q E ⟨h, g, d, t, os⟩ := by
  repeat (first | with_reducible refine wpAny_loadPart_at atC ?_ | with_reducible refine wpAny_madeBy_exc atC ?_ | wp_step)
  refine codeAny_call_builtin_code (Code.quiet_builtin _ F.quiet) (check_new_kw F mem atC ?_)
  refine new_kw F mem atC ?_ few
  show wpAny _ _ _ _ _ _
  have k : ∀ b o, h.get? b = some o → ((h.push (W.kdv_tup more)).push (excO C h.objs.size)).get? b = some o := fun b o e => Heap.get?_push_of_some _ (Heap.get?_push_of_some _ e)
  have atC1 := k _ _ atC
  have eAt : ((h.push (W.kdv_tup more)).push (excO C h.objs.size)).get? (h.objs.size + 1) = some (excO C h.objs.size) := by heap_get
  have inC : (Value.ref C :: bm).contains (.ref C) = true := by simp
  have j1 := iLook.keeps k
  have j2 := (bLook (.ref (h.objs.size + 1))).keeps k
  unfold isInstance
  repeat (first | with_reducible refine wpAny_loadPart_at eAt ?_ | (with_reducible refine wpAny_isSubtype_exc atC1 ?_; rw [inC]) | wp_step)
  show wpAny _ _ (typeLookup (.ref C) _) _ _ _
  refine j1.at ?_
  refine wpAny_holding (wpAny_bind (j2.at ?_))
  refine wpAny_bind (wpAny_call (codeAny_mono go fun r s' z => ?_))
  rcases r with e | (v | _ | _ | _) <;> first | exact z | exact z.elim | skip
  obtain ⟨rfl, z⟩ := z
  first
    | exact wpAny_pure (wpAny_pure z)
    | (wp_walk; exact z)
theorem call_kw (F : ExcBaseFacts B idN idI tl) (mem : ∀ X : String, bm.contains (.type X) = tl.contains (.type X)) {more : List Value} {kw : List (Str × Value)} {fI : Addr}
    (atC : h.get? C = some (excClassObj nmC q C N bss bm dct sns sbs abs0 clc dct2 k0 k1 k2 k3 k5 idN))
    (iLook : W.Looks (model prog w) h (typeLookup (.ref C) "__init__") (some (.ref fI))) (bLook : ∀ self, W.Looks (model prog w) h (bindSpecial (.ref fI) self) (.ref fI, [self])) (few : more.length ≤ sizeLine)
    (go : codeAny (model prog w) (A.under (.builtin "type.__call__" ⟨.ref C :: more, kw⟩)) (.call (.ref fI) ⟨.ref (h.objs.size + 1) :: more, kw⟩) (W.InitBack (h.objs.size + 1) R)
      ⟨(h.push (W.kdv_tup more)).push (excO C h.objs.size), g, d, t, os⟩) :
    codeAny (model prog w) A (.call (.ref C) ⟨more, kw⟩) R ⟨h, g, d, t, os⟩ := by
  have f1 := tc_lookup
  have f2 := tc_bind (.ref C)
  have isT : (⟨h, g, d, t, os⟩ : Shared).TypeIs (.ref C) "type" := ⟨_, atC, rfl⟩
  refine codeAny_of_tree ?_
  show wpAny _ _ (callAny (.ref C) _) _ _ _
  repeat (any_goals (first | assumption | with_reducible refine wpAny_loadPart_at atC ?_ | wp_step))
  refine ⟨rfl, ?_⟩
  refine codeAny_call_builtin_at (Code.quiet_builtin _ (by decide +kernel)) entry_typeCall (check_call_kw atC (type_call_kw F mem atC iLook bLook few ?_))
  refine codeAny_mono go fun r s' z => ?_
  rcases r with e | (v | _ | _ | _) <;> exact z
end
end KwNew
end PySem
set_option Elab.async false
set_option linter.all false
set_option maxRecDepth 100000
set_option maxHeartbeats 4000000
namespace L2
namespace K1
open PySem PySem.Spec PyProof.Rows

/-! ### what is asked of the class of an error -/
structure XC (K : PySem.W.Frag) (C : Addr) : Prop where
  ox : OexC K C
  ga : PySem.W.findIn K (.ref C) "__getattribute__" = some (some (.builtin "BaseException.__getattribute__"))
  gg : PySem.W.findIn K (.ref C) "__getattr__" = some none
  hd : PySem.W.hasDictIn K C = true
  ha : PySem.W.findIn K (.ref C) "__class__" = some (some (.builtin "object.__class__"))
  hn : PySem.W.specialIn K (.builtin "object.__class__") "__get__" = some (some (.builtin "getset_descriptor.__get__"))
  ht : PySem.W.takesIn K (.builtin "object.__class__") = some true
  hm : PySem.W.mroIn K C (.type "object") = some true
def oexB (K : PySem.W.Frag) (C : Addr) : Bool := match K.lookup C with
  | some ⟨.type "type", _, .cls cd, sl⟩ => (match cd.mro, sl.toList with
    | .ref C' :: bm, [_, _, _, _, some (.builtin n), _] => decide (C' = C) && (decide (n = "ValueError.__new__") && (!cd.hasDel && (cd.hasDict && PySem.HandSPX.refsVE bm)))
    | _, _ => false)
  | _ => false
theorem oexB_ok {K : PySem.W.Frag} {C : Addr} (q : oexB K C = true) : ∃ nm q N bs bm sn sub ab col dd k0 k1 k2 k3 k5, K.lookup C = some (excClassObj nm q C N bs bm true sn sub ab col dd k0 k1 k2 k3 k5 "ValueError.__new__") ∧ PySem.HandSPX.refsVE bm = true := by
  unfold oexB at q
  split at q
  · rename_i dd cd sl ho
    split at q
    · rename_i C' bm k0 k1 k2 k3 n k5 hm hs
      simp only [Bool.and_eq_true, decide_eq_true_eq, Bool.not_eq_true'] at q
      obtain ⟨rfl, rfl, hdel, hdict, ht⟩ := q
      obtain ⟨nm, bs, mro, ns, qn, hd, sn, sub, ab, col, del⟩ := cd
      dsimp only at hm hdel hdict
      subst hm hdel hdict
      have hsl : sl = #[k0, k1, k2, k3, some (.builtin "ValueError.__new__"), k5] := by
        obtain ⟨l⟩ := sl
        simp only at hs
        rw [hs]
      subst hsl
      exact ⟨nm, qn, ns, bs, bm, sn, sub, ab, col, dd, k0, k1, k2, k3, k5, ho, ht⟩
    · cases q
  · cases q
def xcB (K : PySem.W.Frag) (C : Addr) : Bool :=
  oexB K C && (He.eqO (PySem.W.findIn K (.ref C) "__setattr__") (some (some (.builtin "object.__setattr__"))) && (decide (PySem.W.subIn K (.ref C) (.type "BaseException") = some true) && (decide (PySem.W.typeIn K (.ref C) = some (.type "type")) && (PySem.W.keepIn K (.ref C) &&
  (He.eqO (PySem.W.findIn K (.ref C) "__getattribute__") (some (some (.builtin "BaseException.__getattribute__"))) && (He.eqO (PySem.W.findIn K (.ref C) "__getattr__") (some none) && (PySem.W.hasDictIn K C && (He.eqO (PySem.W.findIn K (.ref C) "__class__") (some (some (.builtin "object.__class__"))) &&
  (He.eqO (PySem.W.specialIn K (.builtin "object.__class__") "__get__") (some (some (.builtin "getset_descriptor.__get__"))) && (decide (PySem.W.takesIn K (.builtin "object.__class__") = some true) && decide (PySem.W.mroIn K C (.type "object") = some true)))))))))))
theorem xcB_ok {K : PySem.W.Frag} {C : Addr} (h : xcB K C = true) : XC K C := by
  obtain ⟨h1, h⟩ := He.ba h
  obtain ⟨h2, h⟩ := He.ba h
  obtain ⟨h3, h⟩ := He.ba h
  obtain ⟨h4, h⟩ := He.ba h
  obtain ⟨h5, h⟩ := He.ba h
  obtain ⟨h6, h⟩ := He.ba h
  obtain ⟨h7, h⟩ := He.ba h
  obtain ⟨h8, h⟩ := He.ba h
  obtain ⟨h9, h⟩ := He.ba h
  obtain ⟨h10, h⟩ := He.ba h
  obtain ⟨h11, h12⟩ := He.ba h
  exact ⟨⟨oexB_ok h1, He.eqO_ok h2, of_decide_eq_true h3, of_decide_eq_true h4, h5⟩, He.eqO_ok h6, He.eqO_ok h7, h8, He.eqO_ok h9, He.eqO_ok h10, of_decide_eq_true h11, of_decide_eq_true h12⟩
theorem cls_some {K : PySem.W.Frag} {C : Addr} (h : PySem.W.hasDictIn K C = true) : (PySem.W.clsIn K C).isSome = true := by
  obtain ⟨cd, hc, _⟩ := PySem.W.any_some h
  rw [hc] <;> rfl

/-! ### an error in the heap: of the class at C, with the fields fs -/
def ErrAt (H : Hp) (C : Addr) (fs : List (Str × V)) (a : Addr) : Prop :=
  (fs = [] ∧ H a = some (exo a C none)) ∨ ∃ d, H a = some (exo a C (some d)) ∧ H d = some (exd d fs)
theorem ErrAt.same {H H' : Hp} {C : Addr} {fs : List (Str × V)} {a : Addr} (e : ErrAt H C fs a) (s : Same H H') : ErrAt H' C fs a := by
  rcases e with ⟨e1, e2⟩ | ⟨d, e1, e2⟩
  · exact .inl ⟨e1, s _ _ e2⟩
  · exact .inr ⟨d, s _ _ e1, s _ _ e2⟩
theorem same_upd {H : Hp} {a : Addr} {o : HO} (h : H a = none) : Same H (upd H a o) := fun b u e => by
  rw [upd_ne (ne_of_none e h)]
  exact e
section
variable {X : Cx} {pins : List (Addr × Obj)} {σ : St} {H : Hp} {s : Shared} {a C : Addr} {fs : List (Str × V)}
theorem err_inst (I : Inv X pins σ H s) (e : ErrAt H C fs a) : ∃ ox od, PySem.W.InstAt s.heap a ox C od ∧ ∀ f v, fs.lookup f = some v → ∃ oD u, od = some oD ∧ PySem.W.lookIn f oD = some (some u) ∧ RelV v u := by
  rcases e with ⟨rfl, e⟩ | ⟨d, e1, e2⟩
  · obtain ⟨t1, ho⟩ := exo_at I.hok e
    exact ⟨_, none, ⟨ho, rfl, rfl, trivial⟩, fun f v h => nomatch h⟩
  · obtain ⟨t1, ho⟩ := exo_at I.hok e1
    obtain ⟨mA, hns, rel⟩ := exd_at I.hok e2
    obtain ⟨od, ho', hl⟩ := lookIn_ns hns
    refine ⟨_, some od, ⟨ho, rfl, rfl, ho'⟩, fun f v h => ?_⟩
    obtain ⟨u, hu, ru⟩ := RelO.some_of (v := v) (o := mA f) (by rw [← h]; exact rel f)
    exact ⟨od, u, rfl, by rw [hl, hu], ru⟩
end
/-! ### isinstance of a held error -/
def rIsX (K : PySem.W.Frag) : List V → Hp → VK → Prop := fun xs H Q => ∃ (a : Addr) (c : V) (D : Addr) (fs : List (Str × V)) (u : Value) (b : Bool), xs = [.ref a, c] ∧ ClsV c u ∧ ErrAt H D fs a ∧ XC K D ∧ PySem.W.kitOne K (.ref D) u = some b ∧ Q (.bl b) H
theorem call_isX {X : Cx} : CallR X (.builtin "isinstance") (rIsX X.K) := by
  intro pins s σ H xs us Q I r h
  obtain ⟨a, c, D, fs, u, b, rfl, k, e, x, kt, q⟩ := h
  obtain ⟨u1, u2, rfl, r1, r2⟩ := vals2 r
  have e2 := k.eq r2
  subst e2
  cases (show u1 = Value.ref a from r1)
  obtain ⟨ox, od, J, _⟩ := err_inst I e
  exact PySem.W.kia_one (PySem.W.kitx_exc (cls_some x.hd) x.ga x.gg x.ox.exC x.ha x.hn x.ht x.hm) I.kIn J kt (fun z => nomatch z) fun tk => ⟨.bl b, H, I.tok tk, rfl, q⟩
/-! ### e.f of a held error -/
def tFldX (K : PySem.W.Frag) (f : Str) (te : TE) : TE := fun σ H Q => te σ H fun x H1 => ∃ (a C : Addr) (fs : List (Str × V)) (v : V), x = .ref a ∧ ErrAt H1 C fs a ∧ XC K C ∧ PySem.W.findIn K (.ref C) f = some none ∧ fs.lookup f = some v ∧ Q v H1
theorem pe_fldX {X : Cx} {e : Expr} {te : TE} {pos : Pos} {f : Str} (he : PE X e te) (hb : attributeBase e f X.env (eval e X.env) = eval e X.env := by rfl) : PE X (.Attribute e f pos) (tFldX X.K f te) := by
  refine ⟨fun pins s σ H Q I h => ?_⟩
  refine attr_of hb (thn (he.run pins s σ H _ I h) fun u s1 hh => ?_)
  obtain ⟨x, H1, I1, rx, a, C, fs, v, ex, ea, T, hno, l, q⟩ := hh
  subst ex
  obtain rfl : u = Value.ref a := rx
  obtain ⟨ox, od, J, hl⟩ := err_inst I1 ea
  obtain ⟨oD, u, rfl, hu, ru⟩ := hl f v l
  exact HandSPX.exc_get I1.kIn J T.ga T.gg T.ox.exC (PySem.W.findObj_own T.hd hno rfl hu) (handed_of ru) ⟨v, H1, I1.tok _, ru, q⟩
/-! ### making -/
/-- what the __init__ of such a class promises -/
def spI (C : Addr) (f : Str) : Sp := fun vs H Q _ => ∃ (a : Addr) (v : V), vs = [.ref a, v] ∧ H a = some (exo a C none) ∧ ∀ d, H d = none → d ≠ a → Q .non (upd (upd H d (exd d [(f, v)])) a (exo a C (some d)))
theorem made_ok {H1 : Hp} {a C d : Addr} {f : Str} {v : V} (hn : H1 a = none) (hd : upd H1 a (exo a C none) d = none) (hda : d ≠ a) :
    Same H1 (upd (upd (upd H1 a (exo a C none)) d (exd d [(f, v)])) a (exo a C (some d))) ∧ ErrAt (upd (upd (upd H1 a (exo a C none)) d (exd d [(f, v)])) a (exo a C (some d))) C [(f, v)] a := by
  rw [upd_ne hda] at hd
  refine ⟨fun b o e => ?_, .inr ⟨d, upd_same, ?_⟩⟩
  · rw [upd_ne (ne_of_none e hn), upd_ne (ne_of_none e hd), upd_ne (ne_of_none e hn)]
    exact e
  · rw [upd_ne hda, upd_same]
def tNew (C : Addr) (f : Str) (ta : TA) : TE := fun σ H Q => ta σ H fun vs H1 => ∃ v, vs = [v] ∧ ∀ H2 a, Same H1 H2 → H1 a = none → ErrAt H2 C [(f, v)] a → Q (.ref a) H2
section
variable {X : Cx} {pins : List (Addr × Obj)} {σ : St} {H1 : Hp} {C fI : Addr} {k : Nat} {fd : FuncData} {ps : List Str} {f x : Str} {v : V} {Q : VK}
theorem run_new (T : XC X.K C) (iC : PySem.W.findIn X.K (.ref C) "__init__" = some (some (.ref fI))) (tI : PySem.W.typeIn X.K (.ref fI) = some (.type "function"))
    (F1 : FnOk X.prog X.w X.K X.mg X.base CX0 k fI fd ps (spI C f)) (hr : Room (k + 1) X.A) {us : List Value} {kw : List (Str × Value)} {u : Value} (r1 : RelV v u) {s1 : Shared} (I1 : Inv X pins σ H1 s1) (hl : us.length ≤ sizeLine)
    (hb : ∀ (s : Shared) (y : Value), X.K.In s.heap → BindsTo s fd ⟨y :: us, kw⟩ (ps.zip [y, u]))
    (q1 : ∀ H2 a, Same H1 H2 → H1 a = none → ErrAt H2 C [(f, v)] a → Q (.ref a) H2) :
    wpAny (model X.prog X.w) X.A (call (.ref C) us kw) (EP X pins σ Q) X.xe s1 := by
  obtain ⟨nm, q, N, bs, bm, sn, sub, ab, col, dd, k0, k1, k2, k3, k5, hC, hbm⟩ := T.ox.cls
  obtain ⟨hp, g, dr, tk, os⟩ := s1
  have hsz : hp.objs.size ≤ hp.objs.size + 1 := Nat.le_succ _
  have hn : H1 (hp.objs.size + 1) = none := I1.hok.fresh hsz
  have kk : ∀ b o, hp.get? b = some o → ((hp.push (PySem.W.kdv_tup us)).push (PySem.HandSPX.excO C hp.objs.size)).get? b = some o := fun b o e => Heap.get?_push_of_some _ (Heap.get?_push_of_some _ e)
  have hget : ((hp.push (PySem.W.kdv_tup us)).push (PySem.HandSPX.excO C hp.objs.size)).get? (hp.objs.size + 1) = some (PySem.HandSPX.excO C hp.objs.size) := by heap_get
  have I2 : Inv X pins σ (upd H1 (hp.objs.size + 1) (exo (hp.objs.size + 1) C none)) ⟨(hp.push (PySem.W.kdv_tup us)).push (PySem.HandSPX.excO C hp.objs.size), g, dr, tk, os⟩ :=
    I1.laid (t' := tk) (a := hp.objs.size + 1) (o := exo (hp.objs.size + 1) C none) (h' := (hp.push (PySem.W.kdv_tup us)).push (PySem.HandSPX.excO C hp.objs.size)) kk hsz (exo_ok hget)
  have r2 : Vals [V.ref (hp.objs.size + 1), v] [Value.ref (hp.objs.size + 1), u] := .cons rfl (.cons r1 .nil)
  have hq : spI C f [V.ref (hp.objs.size + 1), v] (upd H1 (hp.objs.size + 1) (exo (hp.objs.size + 1) C none)) (fun z H2 => z = .non ∧ Q (.ref (hp.objs.size + 1)) H2) (fun _ _ _ => False) :=
    ⟨hp.objs.size + 1, v, rfl, upd_same, fun d hd hda => by
      obtain ⟨z1, z2⟩ := made_ok (v := v) (f := f) hn hd hda
      exact ⟨rfl, q1 _ _ z1 hn z2⟩⟩
  refine wpAny_call (PySem.KwNew.call_kw PySem.F.excBase_ValueError (fun Y => PySem.HandSPX.refsVE_contains Y bm hbm) (I1.kIn _ _ hC) (PySem.W.looks_findIn I1.kIn iC) (fun self => PySem.W.bind_fn I1.kIn self tI) hl
    (codeAny_mono (F1.run _ X.stack _ _ ⟨Value.ref (hp.objs.size + 1) :: us, kw⟩ [Value.ref (hp.objs.size + 1), u] _ _ (fun _ _ _ => False) (hr.make C us kw) (I2.env0.make C us kw) (hb _ _ I2.kIn) r2 hq) fun r s' hq' => ?_))
  cases r with
  | error er => exact hq'.elim
  | ok fl =>
    cases fl with
    | ret u' =>
      obtain ⟨z, H', I3, rv, ev, q3⟩ := I2.after hq'
      subst ev
      exact ⟨rv, ⟨V.ref (hp.objs.size + 1), H', I3, rfl, q3⟩⟩
    | next => exact False.elim hq'
    | brk => exact False.elim hq'
    | cont => exact False.elim hq'
variable {e : Expr} {ta : TA} {p pos kpos : Pos} {te : TE}
/-- C(e) -/
theorem pe_new (T : XC X.K C) (iC : PySem.W.findIn X.K (.ref C) "__init__" = some (some (.ref fI))) (tI : PySem.W.typeIn X.K (.ref fI) = some (.type "function"))
    (F1 : FnOk X.prog X.w X.K X.mg X.base CX0 k fI fd ps (spI C f)) (hr : Room (k + 1) X.A) (hb : Binds X.K fd ps []) (hp2 : ps.length = 2) (hg : Gl X x) (hm : X.mg x = some (.ref C)) (ha : PA X [e] ta)
    (hdb : (x == ("__debug__" : Str)) = false := by decide) (he : starEach [e] X.env = (false, eval e X.env) :: starEach [] X.env := by rfl) (hpl : (backTo pos (starEach [] X.env)).any (·.1) = false := by rfl) :
    PE X (.Call (.Name x p) [e] [] pos) (tNew C f ta) := by
  refine ⟨fun pins s σ H Q I h => ?_⟩
  refine wpAny_Call_Name_kw (ld_glob I hg hm ?_ hdb)
  refine PySem.W.callWith_K (h₀ := X.base) I.ok.mod.kin T.ox.kC (thn (ha.run pos pins s σ H _ I h) fun us s1 ⟨vs, H1, I1, r1, v, ev, q1⟩ => ⟨I1.kIn, ?_⟩) he hpl
  subst ev
  obtain ⟨u, rfl, ru⟩ := vals1 r1
  show wpAny _ _ (call (.ref C) [u]) _ _ _
  exact run_new T iC tI F1 hr ru I1 (by show 1 ≤ sizeLine; rw [sizeLine_eq]; omega) (fun s y X' => hb s [y, u] X' (by rw [hp2] <;> rfl)) q1
/-- C(f=e) -/
theorem pe_newK {g : Str} (T : XC X.K C) (iC : PySem.W.findIn X.K (.ref C) "__init__" = some (some (.ref fI))) (tI : PySem.W.typeIn X.K (.ref fI) = some (.type "function"))
    (F1 : FnOk X.prog X.w X.K X.mg X.base CX0 k fI fd ps (spI C f)) (hr : Room (k + 1) X.A) (hb : ∀ (s : Shared) (y u : Value), X.K.In s.heap → BindsTo s fd ⟨[y], [(g, u)]⟩ (ps.zip [y, u])) (hg : Gl X x) (hm : X.mg x = some (.ref C)) (ha : PE X e te)
    (hdb : (x == ("__debug__" : Str)) = false := by decide) :
    PE X (.Call (.Name x p) [] [⟨some g, e, kpos⟩] pos) (tNew C f (tCons te tNil)) := by
  refine ⟨fun pins s σ H Q I h => ?_⟩
  refine wpAny_Call_Name_kw (ld_glob I hg hm ?_ hdb)
  refine PySem.W.callWith_KW0 (h₀ := X.base) I.ok.mod.kin T.ox.kC rfl (thn ((pk_cons (nm := some g) (kpos := kpos) ha pk_nil).run pos pins s σ H _ I h) fun us s1 ⟨vs, H1, I1, r1, v, ev, q1⟩ => ⟨I1.kIn, ?_⟩)
  subst ev
  obtain ⟨u, rfl, ru⟩ := vals1 r1
  show wpAny _ _ (call (.ref C) [] [(g, u)]) _ _ _
  exact run_new T iC tI F1 hr ru I1 (Nat.zero_le _) (fun s y X' => hb s y u X') q1
end
end K1
end L2
set_option Elab.async false
set_option linter.all false
set_option maxRecDepth 100000
set_option maxHeartbeats 4000000
namespace L2
namespace WL
open PySem PySem.Spec PyProof.Rows K1
/-! ### what stays -/
theorem Rd.same {H H' : Hp} {a : Addr} {u : HO} (h : Rd H a u) (s : Same H H') : Rd H' a u := by
  rcases h with h | ⟨o, h⟩
  · exact .inl (s _ _ h)
  · exact .inr ⟨o, s _ _ h⟩
theorem SqT.same {K : PySem.W.Frag} {H H' : Hp} {a : Addr} {xs : List V} (h : SqT K H a xs) (s : Same H H') : SqT K H' a xs := by
  rcases h with h | h
  · exact .inl (Rd.same h s)
  · exact .inr h
theorem TyOf.same {K : PySem.W.Frag} {H H' : Hp} {x : V} {t : Value} (h : TyOf K H x t) (s : Same H H') : TyOf K H' x t := by
  cases h with
  | non => exact .non
  | bl b => exact .bl b
  | int i => exact .int i
  | str z => exact .str z
  | flt z => exact .flt z
  | lst e => exact .lst (s _ _ e)
  | frz e => exact .frz (s _ _ e)
  | tup e => exact .tup (s _ _ e)
  | dK e => exact .dK (s _ _ e)
  | dT e => exact .dT (s _ _ e)
  | ins e cl ha hn ht hm => exact .ins (s _ _ e) cl ha hn ht hm
theorem TyX.same {K : PySem.W.Frag} {H H' : Hp} {x : V} {t : Value} (h : TyX K H x t) (s : Same H H') : TyX K H' x t := by
  cases h with
  | base h => exact .base (TyOf.same h s)
  | byt b => exact .byt b
  | set e => exact .set (s _ _ e)
  | kList e c => exact .kList e c
  | kTuple e c => exact .kTuple e c
  | kDict e c => exact .kDict e c
  | fTuple e => exact .fTuple (s _ _ e)
  | fDict e => exact .fDict (s _ _ e)
/-! ### a list or a tuple -/
def Seq (K : PySem.W.Frag) (H : Hp) (v : V) (xs : List V) : Prop := ∃ a, v = .ref a ∧ (SqL K H a xs ∨ SqT K H a xs)
theorem Seq.same {K : PySem.W.Frag} {H H' : Hp} {v : V} {xs : List V} (h : Seq K H v xs) (s : Same H H') : Seq K H' v xs := by
  obtain ⟨a, e, h | h⟩ := h
  · exact ⟨a, e, .inl (s.seq h)⟩
  · exact ⟨a, e, .inr (SqT.same h s)⟩
theorem Seq.ty {K : PySem.W.Frag} {H : Hp} {v : V} {xs : List V} (h : Seq K H v xs) : TyX K H v (.type "list") ∨ TyX K H v (.type "tuple") := by
  obtain ⟨a, rfl, h | h⟩ := h
  · rcases h with (h | ⟨o, h⟩) | ⟨o, its, n, e, c, _⟩
    · exact .inl (.base (.lst h))
    · exact .inl (.base (.frz h))
    · exact .inl (.kList e c)
  · rcases h with (h | ⟨o, h⟩) | ⟨o, its, n, e, c, _⟩
    · exact .inr (.base (.tup h))
    · exact .inr (.fTuple h)
    · exact .inr (.kTuple e c)
abbrev LT : List Value := [.type "list", .type "tuple"]
theorem kit_list {K : PySem.W.Frag} : PySem.W.kitAny K (.type "list") LT = some true := by
  unfold PySem.W.kitAny
  rw [kit_ty (K := K) (a := "list") (b := "list") (r := true) (by decide +kernel)]
theorem kit_tuple {K : PySem.W.Frag} : PySem.W.kitAny K (.type "tuple") LT = some true := by
  unfold PySem.W.kitAny
  rw [kit_ty (K := K) (a := "tuple") (b := "list") (r := false) (by decide +kernel)]
  show PySem.W.kitAny K (.type "tuple") [.type "tuple"] = some true
  unfold PySem.W.kitAny
  rw [kit_ty (K := K) (a := "tuple") (b := "tuple") (r := true) (by decide +kernel)]
theorem Seq.kit {K : PySem.W.Frag} {H : Hp} {v : V} {xs : List V} (h : Seq K H v xs) : ∃ t, TyX K H v t ∧ PySem.W.kitAny K t LT = some true := by
  rcases h.ty with z | z
  · exact ⟨_, z, kit_list⟩
  · exact ⟨_, z, kit_tuple⟩
theorem Seq.len {K : PySem.W.Frag} {H : Hp} {v : V} {xs : List V} (h : Seq K H v xs) : LenV K v H xs.length := by
  obtain ⟨a, rfl, h | h⟩ := h
  · exact .inl ⟨_, h, rfl⟩
  · exact .inr ⟨_, h, rfl⟩
/-! ### a walk over either -/
def iSeq (K : PySem.W.Frag) (tl : TE) : TI := fun σ H R => tl σ H fun x H1 => ∃ a xs, x = .ref a ∧ (SqL K H1 a xs ∧ R (Itl K a) H1 ∨ SqT K H1 a xs ∧ R (Itt K a) H1)
theorem pi_seq {X : Cx} {tg l : Expr} {tl : TE} (hl : PE X l tl) : PI X tg l (iSeq X.K tl) := by
  refine ⟨fun pins s σ H R I h => ?_⟩
  refine thn (hl.run pins s σ H _ I h) fun v s1 ⟨x, H1, I1, r1, q1⟩ => ?_
  obtain ⟨a, xs, e, q1⟩ := q1
  subst e
  cases r1
  have last : ∀ b ∈ [s1.heap.objs.size], _ := fun b hb => by
    have e : b = s1.heap.objs.size := List.mem_singleton.mp hb
    subst e
    exact I1.fpOk (Nat.le_refl _) (I1.hok.fresh (Nat.le_refl _))
  rcases q1 with ⟨hq, q⟩ | ⟨hq, q⟩
  · obtain ⟨its, rv, p, hz⟩ := I1.list hq
    refine wpAny_pyIter_list p.isList ?_
    exact ⟨s1.heap.objs.size, [s1.heap.objs.size], _, _, H1, rfl, I1.kept (t' := s1.toks) fun b o e => Heap.get?_push_of_some _ e, turn_list a _, ⟨_, Heap.get?_push_size _ rfl, rfl, rfl⟩, last, q⟩
  · obtain ⟨its, rv, p, hz⟩ := I1.tuple hq
    refine wpAny_pyIter_tuple (show s1.heap.IsTuple a its.toArray from p) ?_
    exact ⟨s1.heap.objs.size, [s1.heap.objs.size], _, _, H1, rfl, I1.kept (t' := s1.toks) fun b o e => Heap.get?_push_of_some _ e, turn_tuple a _, ⟨_, Heap.get?_push_size _ rfl, rfl, rfl⟩, last, q⟩
/-- for x in either: Pv by the turn, the slots, the heap -/
theorem for_seq {K : PySem.W.Frag} {v : V} {xs : List V} {g : TG} {tb : TS} {D : Ends} {σ : St} {H0 H : Hp} {te : TE} (hq : Seq K H0 v xs) (he : ∀ Q : VK, Q v H → te σ H Q) (Pv : Nat → St → Hp → Prop) (h0 : Pv 0 σ H) (hl : ∀ i σ' H', Pv i σ' H' → Same H0 H')
    (hs : ∀ i x σ' H', xs[i]? = some x → Pv i σ' H' → g x σ' H' fun σ2 H2 => tb { D with nx := Pv (i + 1), ct := Pv (i + 1), bk := D.nx } σ2 H2) (hd : ∀ σ' H', Pv xs.length σ' H' → D.nx σ' H') :
    tFor (iSeq K te) g tb D σ H := by
  obtain ⟨a, rfl, hq⟩ := hq
  rcases hq with hq | hq
  · exact he _ ⟨a, xs, rfl, .inl ⟨(hl _ _ _ h0).seq hq, for_it (walk_list (xs := xs)) Pv h0 (fun i σ' H' _ p => (hl i σ' H' p).seq hq) (fun i x σ' H' H'' _ p y => by
      obtain ⟨rfl, hx⟩ := y
      exact hs i x σ' _ hx p) hd⟩⟩
  · exact he _ ⟨a, xs, rfl, .inr ⟨SqT.same hq (hl _ _ _ h0), for_it (walk_tup (xs := xs)) Pv h0 (fun i σ' H' _ p => SqT.same hq (hl i σ' H' p)) (fun i x σ' H' H'' _ p y => by
      obtain ⟨rfl, hx⟩ := y
      exact hs i x σ' _ hx p) hd⟩⟩
/-- [f(x) for x in either]: each item x gives the value f i -/
theorem lc_seq {K : PySem.W.Frag} {v : V} {xs : List V} {g : TG} {te tl : TE} {vs : List Nat} {σ : St} {H : Hp} {Q : VK} (hq : Seq K H v xs) (he : ∀ Q : VK, Q v H → tl σ H Q) (hn : xs.length ≤ 1000) (f : Nat → V)
    (hs : ∀ i x H' (Q' : VK), xs[i]? = some x → Same H H' → (∀ H'', Same H' H'' → Q' (f i) H'') → g x (wipe σ vs) H' fun σ2 H2 => wipe σ2 vs = wipe σ vs ∧ te σ2 H2 Q')
    (hd : ∀ D H', Same H H' → H' D = some (.lst ((List.range xs.length).map f)) → Q (.ref D) H') : tLc (iSeq K tl) g tYes te vs σ H Q := by
  have key : ∀ (J : It) (G : Hp → Prop) (w : Walk J xs.length G (YAt xs)) (hG : ∀ H', Same H H' → G H') (D : Addr), H D = none → ∃ W : Nat → Nat → Hp → Prop, (∃ m, W 0 m (upd H D (.lst []))) ∧ ∀ i m H, W i m H →
      (J.stop i H ∧ Q (.ref D) H) ∨ (J.go i H ∧ ∃ Nx : Hp → Prop, (∀ H', Nx H' → ∃ m', m' < m ∧ W (i + 1) m' H') ∧ ∀ x H', J.yld i H x H' → g x (wipe σ vs) H' fun σ2 H2 => wipe σ2 vs = wipe σ vs ∧ tYes σ2 H2 fun b H3 =>
        if b = true then te σ2 H3 fun y H4 => ∃ acc, H4 D = some (.lst acc) ∧ acc.length < sizeLine ∧ Nx (upd H4 D (.lst (acc ++ [y]))) else Nx H3) := by
    intro J G w hG D nD
    refine lc_it w (fun i H' => Same H H' ∧ H' D = some (.lst ((List.range i).map f))) ⟨same_upd nD, upd_same⟩ (fun i H' _ p => hG H' p.1) (fun i x H' H'' hi p y => ?_) (fun H' p => hd D H' p.1 p.2)
    obtain ⟨rfl, hx⟩ := y
    refine hs i x _ _ hx p.1 fun H2 s2 => ?_
    refine ⟨_, s2 _ _ p.2, ?_, ?_, ?_⟩
    · rw [List.length_map, List.length_range, sizeLine_eq]
      omega
    · exact fun b u e => by
        rw [upd_ne (ne_of_none e nD)]
        exact s2 _ _ (p.1 _ _ e)
    · rw [upd_same, List.range_succ, List.map_append, List.map_singleton]
  obtain ⟨a, rfl, hq⟩ := hq
  rcases hq with hq | hq
  · exact he _ ⟨a, xs, rfl, .inl ⟨hq, key _ _ (walk_list (xs := xs)) fun H' s => s.seq hq⟩⟩
  · exact he _ ⟨a, xs, rfl, .inr ⟨hq, key _ _ (walk_tup (xs := xs)) fun H' s => SqT.same hq s⟩⟩
theorem iteN {c : Bool} {A B : Prop} (h : c = false) (b : B) : if c = true then A else B := by
  rw [h]
  exact iteF b
theorem same_over {H0 H : Hp} {D : Addr} {o : HO} (n : H0 D = none) (s : Same H0 H) : Same H0 (upd H D o) := fun b u e => by
  rw [upd_ne (ne_of_none e n)]
  exact s _ _ e
theorem t_nall {K : PySem.W.Frag} {tl : TE} {σ : St} {H : Hp} {Q : Bool → Hp → Prop} (h : tl σ H fun x H1 => rAll K [x] H1 fun y H2 => ∃ c, y = .bl c ∧ Q (!c) H2) : tNot (tB (tCB (rAll K) (tCons tl tNil))) σ H Q := h
theorem t_seqAsg {t : TE} {g : TG} {u : TS} {D : Ends} {σ : St} {H : Hp} (h : t σ H fun x H1 => g x σ H1 (u D)) : tSeq (tAsg t g) u D σ H := h
/-! ### names -/
def okc (c : Nat) : Bool := decide (97 ≤ c) && decide (c ≤ 122)
def isNm (z : Str) : Bool := decide (1 ≤ z.length) && (decide (z.length ≤ 8) && z.cps.toList.all okc)
/-- whether a value is a name -/
def IsN (K : PySem.W.Frag) (H : Hp) (x : V) (b : Bool) : Prop := (∃ z, x = .str z ∧ z.length ≤ sizeLine ∧ b = isNm z) ∨ ∃ t, TyX K H x t ∧ PySem.W.kitOne K t (.type "str") = some false ∧ b = false
theorem IsN.same {K : PySem.W.Frag} {H H' : Hp} {x : V} {b : Bool} (h : IsN K H x b) (s : Same H H') : IsN K H' x b := by
  rcases h with h | ⟨t, h1, h2⟩
  · exact .inl h
  · exact .inr ⟨t, TyX.same h1 s, h2⟩
theorem lt_sign (c d : Nat) : decide ([c] < [d]) = decide (c < d) := by
  by_cases h : c < d
  · rw [decide_eq_true h, decide_eq_true]
    exact List.Lex.rel h
  · rw [decide_eq_false h, decide_eq_false]
    intro z
    cases z with
    | rel z => exact h z
    | cons z => cases z
/-- the texts among values -/
def strsOf (xs : List V) : List Str := xs.filterMap fun x => match x with
  | .str z => some z
  | _ => none
def spIsList (K : PySem.W.Frag) : Sp := fun vs H Q _ => ∃ v t b, vs = [v] ∧ TyX K H v t ∧ PySem.W.kitAny K t LT = some b ∧ ∀ H', Same H H' → Q (.bl b) H'
def spIsName (K : PySem.W.Frag) : Sp := fun vs H Q _ => ∃ v b, vs = [v] ∧ IsN K H v b ∧ ∀ H', Same H H' → Q (.bl b) H'
/-- whether these are different names -/
def nlB (xs : List V) (bs : List Bool) : Bool := bs.all id && decide (strsOf xs).Nodup
/-- whether a value is a list of different names -/
def NLis (K : PySem.W.Frag) (H : Hp) (v : V) (c : Bool) : Prop := (∃ t, TyX K H v t ∧ PySem.W.kitAny K t LT = some false ∧ c = false) ∨
  ∃ (xs : List V) (bs : List Bool), Seq K H v xs ∧ xs.length ≤ 900 ∧ bs.length = xs.length ∧ (∀ (i : Nat) x b, xs[i]? = some x → bs[i]? = some b → IsN K H x b) ∧ c = nlB xs bs
theorem NLis.same {K : PySem.W.Frag} {H H' : Hp} {v : V} {c : Bool} (h : NLis K H v c) (s : Same H H') : NLis K H' v c := by
  rcases h with ⟨t, h1, h2⟩ | ⟨xs, bs, h1, h2, h3, h4, h5⟩
  · exact .inl ⟨t, TyX.same h1 s, h2⟩
  · exact .inr ⟨xs, bs, h1.same s, h2, h3, fun i x b e e2 => (h4 i x b e e2).same s, h5⟩
def spNameList (K : PySem.W.Frag) : Sp := fun vs H Q _ => ∃ v c, vs = [v] ∧ NLis K H v c ∧ ∀ H', Same H H' → Q (.bl c) H'
/-- whether a value is a row of a web -/
def RowIs (K : PySem.W.Frag) (H : Hp) (v : V) (r : Bool) : Prop := (∃ t, TyX K H v t ∧ PySem.W.kitAny K t LT = some false ∧ r = false) ∨
  ∃ xs, Seq K H v xs ∧ ((xs.length ≠ 2 ∧ r = false) ∨ ∃ x y b c, xs = [x, y] ∧ IsN K H x b ∧ NLis K H y c ∧ r = (b && c))
theorem RowIs.same {K : PySem.W.Frag} {H H' : Hp} {v : V} {r : Bool} (h : RowIs K H v r) (s : Same H H') : RowIs K H' v r := by
  rcases h with ⟨t, h1, h2⟩ | ⟨xs, h1, h⟩
  · exact .inl ⟨t, TyX.same h1 s, h2⟩
  · refine .inr ⟨xs, h1.same s, ?_⟩
    rcases h with h | ⟨x, y, b, c, e, h2, h3, h4⟩
    · exact .inl h
    · exact .inr ⟨x, y, b, c, e, h2.same s, h3.same s, h4⟩
def spIsRow (K : PySem.W.Frag) : Sp := fun vs H Q _ => ∃ v r, vs = [v] ∧ RowIs K H v r ∧ ∀ H', Same H H' → Q (.bl r) H'
theorem rngD (bs : List Bool) : (List.range bs.length).map (fun i => bs.getD i false) = bs := by
  apply List.ext_getElem?
  intro i
  by_cases h : i < bs.length
  · rw [List.getElem?_map, List.getElem?_range h, List.getElem?_eq_getElem h]
    simp [List.getD_eq_getElem?_getD, List.getElem?_eq_getElem h]
  · rw [List.getElem?_eq_none (by simpa using h), List.getElem?_eq_none (by simpa using h)]
/-- all are names: they are their texts -/
theorem all_strs {K : PySem.W.Frag} {H : Hp} : ∀ {xs : List V} {bs : List Bool}, bs.length = xs.length → (∀ (i : Nat) x b, xs[i]? = some x → bs[i]? = some b → IsN K H x b) → bs.all id = true → xs = (strsOf xs).map V.str
  | [], _, _, _, _ => rfl
  | x :: xs, [], h, _, _ => by cases h
  | x :: xs, b :: bs, h, hi, ha => by
    obtain ⟨a1, a2⟩ := Bool.and_eq_true_iff.mp (show (id b && bs.all id) = true from ha)
    have ih := all_strs (xs := xs) (bs := bs) (Nat.succ.inj h) (fun i x b e e2 => hi (i + 1) x b e e2) a2
    rcases hi 0 x b rfl rfl with ⟨z, rfl, _⟩ | ⟨t, _, _, e⟩
    · show V.str z :: xs = V.str z :: (strsOf xs).map V.str
      rw [← ih]
    · rw [show b = true from a1] at e
      cases e
theorem Seq.ix {K : PySem.W.Frag} {H : Hp} {v : V} {xs : List V} {i : Int} {x : V} {Q : VK} (h : Seq K H v xs) (e : atI xs i = some x) (q : Q x H) : rIx K v (.int i) H Q := by
  obtain ⟨a, rfl, h | h⟩ := h
  · exact .inl ⟨a, xs, i, x, rfl, rfl, h, e, q⟩
  · exact .inr (.inl ⟨a, xs, i, x, rfl, rfl, h, e, q⟩)
/-! ### the first wrong row -/
/-- by the rows' looks: which is wrong first, told seen so far -/
def firstW : List (Bool × Str) → List Str → Nat → Option Nat
  | [], _, _ => none
  | (r, z) :: l, seen, i => if r = false ∨ z ∈ seen then some i else firstW l (seen ++ [z]) (i + 1)
/-- a thing among the rows: whether it is a row, its name if so -/
def RowD (K : PySem.W.Frag) (H : Hp) (d : V × Bool × Str) : Prop := RowIs K H d.1 d.2.1 ∧ (d.2.1 = true → ∃ y, Seq K H d.1 [.str d.2.2, y])
theorem RowD.same {K : PySem.W.Frag} {H H' : Hp} {d : V × Bool × Str} (h : RowD K H d) (s : Same H H') : RowD K H' d :=
  ⟨h.1.same s, fun e => let ⟨y, z⟩ := h.2 e; ⟨y, z.same s⟩⟩
def nmOf (d : V × Bool × Str) : Str := d.2.2
def optV : Option Nat → V
  | none => .non
  | some i => .int (i : Nat)
def firstR (ds : List (V × Bool × Str)) : Option Nat := if ds = [] then some 0 else firstW (ds.map Prod.snd) [] 0
def spFirst (K : PySem.W.Frag) : Sp := fun vs H Q _ => ∃ v, vs = [v] ∧ ((∃ t, TyX K H v t ∧ PySem.W.kitAny K t LT = some false ∧ ∀ H', Same H H' → Q (.int 0) H') ∨
  ∃ ds : List (V × Bool × Str), Seq K H v (ds.map Prod.fst) ∧ ds.length ≤ 1000 ∧ (∀ d ∈ ds, RowD K H d) ∧ ∀ H', Same H H' → Q (optV (firstR ds)) H')
theorem in_strs (z : Str) (seen : List Str) : inV (.str z) (seen.map V.str) = decide (z ∈ seen) := by
  unfold inV
  induction seen with
  | nil => rfl
  | cons y ys ih =>
    rw [List.map_cons, List.any_cons, ih]
    show ((y == z) || decide (z ∈ ys)) = decide (z ∈ y :: ys)
    by_cases e : y = z
    · subst e
      simp
    · have e2 : (y == z) = false := by simpa using e
      rw [e2, Bool.false_or]
      by_cases m : z ∈ ys
      · rw [decide_eq_true m, decide_eq_true (List.mem_cons_of_mem _ m)]
      · rw [decide_eq_false m, decide_eq_false]
        intro h
        rcases List.mem_cons.mp h with h | h
        · exact e h.symm
        · exact m h
theorem flat_strs' (ys : List Str) : (ys.map V.str).all flatV = true := by
  induction ys with
  | nil => rfl
  | cons y ys ih => exact ih
/-- a def as its callers know it -/
structure Cal (P : Program) (w : World) (K : PySem.W.Frag) (mg : Str → Option Value) (base : Heap) (x : Str) (ps : List Str) (k : Nat) (sp : Sp) : Prop where
  ex : ∃ f fd, FnOk P w K mg base CX0 k f fd ps sp ∧ mg x = some (.ref f) ∧ PySem.W.keepIn K (.ref f) = true ∧ Binds K fd ps []
end WL
end L2
set_option Elab.async false
set_option linter.all false
set_option maxRecDepth 100000
set_option maxHeartbeats 4000000
namespace PySem
open Sem (wp)
open AutoSeq1 (wpAny_loadPart')
theorem meets_enumerate_newT (l : Addr) (items : Array Value) (n : Nat) (dct : Option Addr) (sl : Array (Option Value)) :
    Meets (Builtin.«enumerate.__new__» ⟨[.type "enumerate", .ref l], []⟩) (fun _ R s => s.heap.get? l = some { cls := .type "tuple", dict := dct, data := .seq items n, slots := sl } ∧
      R (.ok (.ret (.ref (s.heap.push { cls := .type "tuple_iterator", data := .fields #[.ref l, .int 0 0] }).objs.size)))
        { s with heap := (s.heap.push { cls := .type "tuple_iterator", data := .fields #[.ref l, .int 0 0] }).push { cls := .type "enumerate", data := .fields #[.none, .bool false, .ref s.heap.objs.size, rawInt 0, .none, .none] } }) :=
  .of_wp fun prog w A R s h => by
    obtain ⟨hp, g, d, tk, os⟩ := s; obtain ⟨hl, h⟩ := h
    have hsub := sub_enumerate
    have hL : Heap.IsTuple (Shared.heap ⟨hp, g, d, tk, os⟩) l items := ⟨_, hl, rfl, n, rfl⟩
    wp_walk using wpAny_loadPart' hl
    refine wpAny_stack_any fun st => wpAny_pure ?_
    split
    · rename_i c _ _ _ _ _
      cases (c == Value.type "enumerate")
      · wp_walk using wpAny_loadPart' hl, wpAny_pyIter_tuple hL
        exact ⟨_, rfl, h⟩
      · wp_walk using wpAny_loadPart' hl, wpAny_pyIter_tuple hL
        exact ⟨_, rfl, h⟩
    · wp_walk using wpAny_loadPart' hl, wpAny_pyIter_tuple hL
      exact ⟨_, rfl, h⟩
section
variable {prog : Program} {w : World} {A : Around} {E : Value → Shared → Prop} {s : Shared}
theorem call_enumerate_tuple {l : Addr} {items : Array Value} {Q : Value → Shared → Prop} (hL : s.heap.IsTuple l items)
    (h : ∀ h', IsEnum h' (s.heap.objs.size + 1) s.heap.objs.size 0 .none → h'.IsTupleIter s.heap.objs.size l 0 → h'.objs.size = s.heap.objs.size + 2 →
      (∀ b o, s.heap.get? b = some o → h'.get? b = some o) → Q (.ref (s.heap.objs.size + 1)) { s with heap := h' }) :
    wpAny (model prog w) A (call (.type "enumerate") [.ref l]) Q E s := by
  obtain ⟨⟨c, dct, dt, sl⟩, hl, hc, n, hd⟩ := hL
  replace hc : c = .type "tuple" := hc
  replace hd : dt = .seq items n := hd
  subst hc hd
  refine callType_new F.called_enumerate (by decide) (F.typeCall_enumerate_1 _) (F.newCall_enumerate_1 _) (fun obj => F.args_object_init_2 obj _) F.entry_enumerate_new
    (meets_enumerate_newT l items n dct sl) ⟨hl, ?_⟩
  have hz : (s.heap.push { cls := .type "tuple_iterator", data := .fields #[.ref l, .int 0 0] }).objs.size = s.heap.objs.size + 1 := Heap.size_push ..
  show _ ∧ _
  rw [hz]
  have he : IsEnum ((s.heap.push { cls := .type "tuple_iterator", data := .fields #[.ref l, .int 0 0] }).push
      { cls := .type "enumerate", data := .fields #[.none, .bool false, .ref s.heap.objs.size, rawInt 0, .none, .none] }) (s.heap.objs.size + 1) s.heap.objs.size 0 .none := by
    have := Heap.get?_push_size (s.heap.push { cls := .type "tuple_iterator", data := .fields #[.ref l, .int 0 0] })
      (o := { cls := .type "enumerate", data := .fields #[.none, .bool false, .ref s.heap.objs.size, rawInt 0, .none, .none] }) rfl
    rw [hz] at this; exact this
  refine ⟨⟨_, he, rfl⟩, h _ he ⟨_, Heap.get?_push_of_some _ (Heap.get?_push_size _ rfl), rfl, rfl⟩ (by rw [Heap.size_push, hz]) fun b o x => Heap.get?_push_of_some _ (Heap.get?_push_of_some _ x)⟩
theorem wpAny_pyNext_enum_endT {e it t : Addr} {j : Nat} {i : Int} {items : Array Value} {old : Value} {Q : Option Value → Shared → Prop}
    (hh : A.in1.handled = none) (he : IsEnum s.heap e it i old) (hit : s.heap.IsTupleIter it t j) (ht : s.heap.IsTuple t items) (hx : items[j]? = none)
    (hQ : ∀ h', Heap.ExtBut it s.heap h' → Q none { s with heap := h' }) : wpAny (model prog w) A (pyNext (.ref e)) Q E s := by
  have hT : s.TypeIs (.ref e) "enumerate" := ⟨_, he, rfl⟩
  unfold pyNext
  refine wpAny_bind (wpAny_attempt (wpAny_callSpecial?_slot (name := Str.ofString "__next__") hT F.slot_enumerate_next
    (wpAny_call_entry F.slot_enumerate_next hT F.entry_enumerate_next ?_ (F.args_enumerate_next_1 _))))
  show wpAny _ _ (field (.ref e) 2 >>= _) _ _ _
  refine wpAny_bind (wpAny_field he rfl (x := .ref it) rfl ?_)
  refine wpAny_bind (wpAny_nextOf_tuple_end hh hit ht hx fun h' x he' hx' => ?_)
  obtain ⟨o, ho, hc⟩ := hx'
  refine wpAny_bind (wpAny_isInstance (T := "StopIteration") (b := true) ⟨o, ho, hc⟩ isSubtype_stop ?_)
  exact wpAny_pure (hQ _ he')
end
end PySem
namespace L2
namespace WL
open PySem PySem.Spec PyProof.Rows K1
/-- the tuple at a as it stands at each turn, each item in a new pair -/
def IteT (K : PySem.W.Frag) (a : Addr) : It :=
  ⟨fun i H => ∃ (xs : List V) (x : V), SqT K H a xs ∧ xs[i]? = some x, fun i H v H' => ∃ T x, v = .ref T ∧ H T = none ∧ H' = upd H T (.tup [.int (i : Nat), x]) ∧ ∀ xs, SqT K H a xs → xs[i]? = some x, fun i H => ∃ xs : List V, SqT K H a xs ∧ xs.length ≤ i⟩
theorem turn_enumT {P : Program} {w : World} {K : PySem.W.Frag} {elts : List Expr} {kk : Nat} {tpos : Pos} (a e it : Addr) :
    Turn P w K (.Tuple elts kk tpos) (IteT K a) [e, it] e (fun i h => (∃ old, IsEnum h e it ((i : Nat) : Int) old) ∧ h.IsTupleIter it a i ∧ e ≠ it ∧ a ≠ e ∧ a ≠ it) where
  mem := by simp
  obj := fun i h st b hb => by
    obtain ⟨⟨old, he⟩, ⟨o, ho, hc, hd⟩, _⟩ := st
    have e' : b = e ∨ b = it := by simpa using hb
    rcases e' with z | z
    · rw [z]; exact ⟨_, he, fun v q => nomatch q⟩
    · rw [z]; exact ⟨o, ho, fun v q => by rw [hd] at q; cases q⟩
  keep := fun i h h' st k => let ⟨⟨old, he⟩, hi, hne⟩ := st; ⟨⟨old, k e (by simp) _ he⟩, hi.at fun o q => k it (by simp) o q, hne⟩
  item := by
    intro X hP hw hK hc i pins s σ H E I hf st hg
    subst hP hw hK
    obtain ⟨⟨old, he⟩, hit, hne, hae, hai⟩ := st
    obtain ⟨xs, x, hq, hx⟩ := hg
    obtain ⟨its, rv, p, hz⟩ := I.tuple hq
    obtain ⟨u, hu, ru⟩ := rv.get hx
    have hel : e < s.heap.objs.size := Heap.lt_size he
    have hil : it < s.heap.objs.size := by obtain ⟨_, q, _⟩ := hit; exact Heap.lt_size q
    have hT : s.heap.IsTuple a its.toArray := p
    have il : i < its.toArray.size := by
      have := (List.getElem?_eq_some_iff.mp hu).1
      simpa using this
    refine wpAny_pyNext_enum_itemD (Draws.tuple (A := X.A.in1) (I.ok.hd hc) it a hai its.toArray) he ⟨hit, hT⟩ il hne (by simp [hne, Ne.symm hae]) fun x' h' tk hx' ho hit' hT hsz hk => ?_
    obtain rfl : u = x' := by
      have z : its[i]? = some x' := by simpa using hx'
      rw [hu] at z
      exact Option.some.inj z
    refine ⟨_, rfl, wpAny_letOwnedTupleGo_enum (s := { s with heap := h', toks := tk + 1 }) ho fun h'' he' sb => ?_⟩
    have hT2 : h''.get? s.heap.objs.size = some { cls := .type "tuple", data := .seq #[.int i tk, u] } := (sb.2 _ (Nat.ne_of_gt hel)).trans hT
    have new : ObjOk X.prog X.w (upd H s.heap.objs.size (.tup [.int (i : Nat), x])) h'' s.heap.objs.size (.tup [.int (i : Nat), x]) :=
      ⟨by show 2 ≤ sizeLine; decide, [.int i tk, u], .cons ⟨_, rfl⟩ (.cons ru .nil), ⟨_, hT2, rfl, _, rfl⟩⟩
    have I1 : Inv X pins σ (upd H s.heap.objs.size (.tup [.int (i : Nat), x])) { s with heap := h'', toks := tk + 1 } :=
      I.turnedNew (ch := [e, it]) (fun b ob hb q => (sb.2 b (fun z => hb (by simp [z]))).trans (hk b ob (fun z => hb (by simp [z])) (fun z => hb (by simp [z])) q)) hf (Nat.le_refl _) new
    refine ⟨.ref s.heap.objs.size, _, I1, rfl, ⟨_, x, rfl, I.hok.fresh (Nat.le_refl _), rfl, fun ys hy => by rw [I.tuple_inj hy hq]; exact hx⟩, ⟨⟨u, ?_⟩, hit'.1.at fun o q => (sb.2 it (Ne.symm hne)).trans q, hne, hae, hai⟩, fun b hb => ?_⟩
    · have e1 : ((i + 1 : Nat) : Int) = (i : Int) + 1 := by omega
      rw [e1]; exact he'
    · have hb' : b < s.heap.objs.size := by
        have e' : b = e ∨ b = it := by simpa using hb
        rcases e' with z | z
        · rw [z]; exact hel
        · rw [z]; exact hil
      rw [upd_ne (Nat.ne_of_lt hb')]
      exact (hf b hb).1
  done := by
    intro X hP hw hK hc i pins s σ H E I hf st hg
    subst hP hw hK
    obtain ⟨⟨old, he⟩, hit, hne, hae, hai⟩ := st
    obtain ⟨xs, hq, hx⟩ := hg
    obtain ⟨its, rv, p, hz⟩ := I.tuple hq
    obtain ⟨f0, f1, f2, f3, f4, f5⟩ := hf it (by simp)
    have hl := rv.length
    exact wpAny_pyNext_enum_endT (I.ok.hd hc) he hit p (by simp; omega) fun h' eb => ⟨rfl, I.turned (t' := s.toks) (fun b o hb q => eb b o hb q) f0 f1 f3 f4 f5⟩
  self := fun A i s Q E st h => let ⟨⟨_, he⟩, _⟩ := st; wpAny_pyIter_enum he h
theorem walk_enumT {K : PySem.W.Frag} {a : Addr} {xs : List V} : Walk (IteT K a) xs.length (fun H => SqT K H a xs) (YPair (fun i => some (.int (i : Nat))) (fun i => xs[i]?)) := by
  refine ⟨fun i _ hi q => ⟨xs, xs[i], q, by simp [hi]⟩, fun _ q => ⟨xs, q, Nat.le_refl _⟩, fun i H v H' _ q y => ?_⟩
  obtain ⟨T, x, h1, h2, h3, h4⟩ := y
  exact ⟨T, .int (i : Nat), x, h1, h2, h3, rfl, h4 xs q⟩
/-- enumerate of a list or a tuple -/
def iEnumS (K : PySem.W.Frag) (ta : TA) : TI := fun σ H R => ta σ H fun vs H1 => ∃ a xs, vs = [.ref a] ∧ (SqL K H1 a xs ∧ R (Ite K a) H1 ∨ SqT K H1 a xs ∧ R (IteT K a) H1)
theorem pi_enumS {X : Cx} {e : Expr} {ta : TA} {p pos tpos : Pos} {elts : List Expr} {kk : Nat} (hg : Gl X "enumerate") (hm : X.mg "enumerate" = none) (ha : PA X [e] ta) (hs : starEach [e] X.env = [(false, eval e X.env)] := by rfl) :
    PI X (.Tuple elts kk tpos) (.Call (.Name "enumerate" p) [e] [] pos) (iEnumS X.K ta) := by
  refine ⟨fun pins s σ H R I h => ?_⟩
  refine Call_ (ld_blt I hg hm boot_enumerate (PyProof.Rows.callWith_type1 (thn (ha.run pos pins s σ H _ I h) fun us s1 ⟨vs, H1, I1, r1, q1⟩ => ?_) hs rfl))
  obtain ⟨a, xs, ex, q1⟩ := q1
  subst ex
  cases r1 with
  | cons r rr =>
    cases rr
    cases r
    have hle : ∀ b, b = s1.heap.objs.size + 1 ∨ b = s1.heap.objs.size → s1.heap.objs.size ≤ b := fun b e' => by
      rcases e' with z | z
      · rw [z]; exact Nat.le_add_right _ _
      · rw [z]; exact Nat.le_refl _
    rcases q1 with ⟨hq, q⟩ | ⟨hq, q⟩
    · obtain ⟨its, rv, p', hz⟩ := I1.list hq
      refine call_enumerate_list p'.isList fun h' he hit hsz hk => wpAny_pyIter_enum he ?_
      have I2 : Inv X pins σ H1 { s1 with heap := h' } := I1.kept (t' := s1.toks) hk
      refine ⟨s1.heap.objs.size + 1, [s1.heap.objs.size + 1, s1.heap.objs.size], _, _, H1, rfl, I2, turn_enum a (s1.heap.objs.size + 1) s1.heap.objs.size, ⟨⟨.none, he⟩, hit, Nat.succ_ne_self _⟩, fun b hb => ?_, q⟩
      have e' := hle b (by simpa using hb)
      exact I1.fpOk e' (I1.hok.fresh e')
    · obtain ⟨its, rv, p', hz⟩ := I1.tuple hq
      have hT : s1.heap.IsTuple a its.toArray := p'
      have hal : a < s1.heap.objs.size := by obtain ⟨o, ho, _⟩ := hT; exact Heap.lt_size ho
      refine call_enumerate_tuple hT fun h' he hit hsz hk => wpAny_pyIter_enum he ?_
      have I2 : Inv X pins σ H1 { s1 with heap := h' } := I1.kept (t' := s1.toks) hk
      refine ⟨s1.heap.objs.size + 1, [s1.heap.objs.size + 1, s1.heap.objs.size], _, _, H1, rfl, I2, turn_enumT a (s1.heap.objs.size + 1) s1.heap.objs.size, ⟨⟨.none, he⟩, hit, Nat.succ_ne_self _, Nat.ne_of_lt (Nat.lt_succ_of_lt hal), Nat.ne_of_lt hal⟩, fun b hb => ?_, q⟩
      have e' := hle b (by simpa using hb)
      exact I1.fpOk e' (I1.hok.fresh e')
/-- for i, x in enumerate(either) -/
theorem for_enumS {K : PySem.W.Frag} {v : V} {xs : List V} {g : TG} {tb : TS} {D : Ends} {σ : St} {H0 H : Hp} {ta : TA} (hq : Seq K H0 v xs) (he : ∀ Q : List V → Hp → Prop, Q [v] H → ta σ H Q) (Pv : Nat → St → Hp → Prop) (h0 : Pv 0 σ H) (hl : ∀ i σ' H', Pv i σ' H' → Same H0 H')
    (hs : ∀ i x σ' H' T, xs[i]? = some x → Pv i σ' H' → H' T = none → g (.ref T) σ' (upd H' T (.tup [.int (i : Nat), x])) fun σ2 H2 => tb { D with nx := Pv (i + 1), ct := Pv (i + 1), bk := D.nx } σ2 H2) (hd : ∀ σ' H', Pv xs.length σ' H' → D.nx σ' H') :
    tFor (iEnumS K ta) g tb D σ H := by
  obtain ⟨a, rfl, hq⟩ := hq
  rcases hq with hq | hq
  · exact he _ ⟨a, xs, rfl, .inl ⟨(hl _ _ _ h0).seq hq, for_it (walk_enum (xs := xs)) Pv h0 (fun i σ' H' _ p => (hl i σ' H' p).seq hq) (fun i x σ' H' H'' _ p y => by
      obtain ⟨T, u, z, rfl, nT, rfl, eu, ey⟩ := y
      obtain rfl : V.int (i : Nat) = u := Option.some.inj eu
      exact hs i z σ' _ T ey p nT) hd⟩⟩
  · exact he _ ⟨a, xs, rfl, .inr ⟨SqT.same hq (hl _ _ _ h0), for_it (walk_enumT (xs := xs)) Pv h0 (fun i σ' H' _ p => SqT.same hq (hl i σ' H' p)) (fun i x σ' H' H'' _ p y => by
      obtain ⟨T, u, z, rfl, nT, rfl, eu, ey⟩ := y
      obtain rfl : V.int (i : Nat) = u := Option.some.inj eu
      exact hs i z σ' _ T ey p nT) hd⟩⟩
end WL
end L2
set_option Elab.async false
set_option linter.all false
set_option maxRecDepth 100000
set_option maxHeartbeats 4000000
namespace L2
namespace WL
open PySem PySem.Spec PyProof.Rows K1
theorem PS.imp {X : Cx} {st : Stmt} {t t' : TS} (h : PS X st t) (f : ∀ D σ H, t' D σ H → t D σ H) : PS X st t' := ⟨fun pins s σ H D I q => h.run pins s σ H D I (f _ _ _ q)⟩
/-- raise C(name), C an own error class with one field that its __init__ keeps -/
def tRaiseV (C : Addr) (f : Str) (W : WX) (i : Nat) : TS := fun _ σ H => ∃ v, σ[i]? = some (some v) ∧ ∀ H2 d, Same H H2 → H d = none → H2 d = some (.xd [(f, v)]) → W (.ref C) (some d) σ H2
theorem ps_raiseV {X : Cx} {W : WX} {C fI : Addr} {k i : Nat} {fd : FuncData} {ps : List Str} {x y f : Str} {p q pos pos2 : Pos} (hc : X.calm = true) (tk : Takes X W) (T : XC X.K C) (iC : PySem.W.findIn X.K (.ref C) "__init__" = some (some (.ref fI))) (tI : PySem.W.typeIn X.K (.ref fI) = some (.type "function"))
    (F1 : FnOk X.prog X.w X.K X.mg X.base CX0 k fI fd ps (spI C f)) (hr : Room (k + 1) X.A) (hb : Binds X.K fd ps []) (hg : Gl X x) (hm : X.mg x = some (.ref C)) (ha : PE X (.Name y q) (tVar i))
    (hdb : (x == ("__debug__" : Str)) = false := by decide) (he : starEach [Expr.Name y q] X.env = (false, eval (.Name y q) X.env) :: starEach [] X.env := by rfl) (hpl : (backTo pos (starEach [] X.env)).any (·.1) = false := by rfl) :
    PS X (.Raise (some (.Call (.Name x p) [.Name y q] [] pos)) none pos2) (tRaiseV C f W i) := by
  refine PS.imp (ps_raise hc tk (pmk_oex T.ox iC tI F1 hr hb .nil (fun _ _ _ _ _ _ _ z => z.elim) hg hm (pa_cons ha pa_nil he) hdb he hpl)) fun D σ H h => ?_
  obtain ⟨v, e, h⟩ := h
  refine ⟨v, e, (show 1 ≤ 1000 by decide), fun a na => ⟨a, v, rfl, upd_same, fun d hd hda => ⟨rfl, d, [(f, v)], upd_same, ?_, ?_, ?_⟩⟩⟩
  · rw [upd_ne hda, upd_same]
  · rw [upd_ne hda] at hd
    exact hd
  · rw [upd_ne hda] at hd
    refine h _ d (fun b o z => ?_) hd upd_same
    have hb : b ≠ a := ne_of_none z na
    have hb2 : b ≠ d := ne_of_none z hd
    rw [upd_ne hb2, del_ne hb, upd_ne hb, upd_ne hb2, upd_ne hb]
    exact z
/-- what stands of an error that leaves a def: its class, its dict, the rest as it stood -/
def Rz (H : Hp) (E : XK) (C : Addr) (f : Str) (v : V) : Prop := ∀ H' d, Same H H' → H' d = some (.xd [(f, v)]) → E (.ref C) (some d) H'
/-- what is known of the __init__ of the error class x with the field f -/
structure Er (P : Program) (w : World) (K : PySem.W.Frag) (mg : Str → Option Value) (base : Heap) (x f : Str) : Prop where
  g : mg x = some (.ref (He.ga K x))
  c : XC K (He.ga K x)
  iC : PySem.W.findIn K (.ref (He.ga K x)) "__init__" = some (some (.ref (He.ma K (He.ga K x) "__init__")))
  tI : PySem.W.typeIn K (.ref (He.ma K (He.ga K x) "__init__")) = some (.type "function")
  ex : ∃ fd, FnOk P w K mg base CX0 1 (He.ma K (He.ga K x) "__init__") fd ["self", f] (spI (He.ga K x) f) ∧ Binds K fd ["self", f] []
/-! ### rows that are rows -/
def RowG (K : PySem.W.Frag) (H : Hp) (v : V) (r : Str × List Str) : Prop := ∃ y, Seq K H v [.str r.1, y] ∧ Seq K H y (r.2.map .str)
theorem RowG.same {K : PySem.W.Frag} {H H' : Hp} {v : V} {r : Str × List Str} (h : RowG K H v r) (s : Same H H') : RowG K H' v r := let ⟨y, a, b⟩ := h; ⟨y, a.same s, b.same s⟩
/-- the first source that is no cell -/
def firstU (cells : List Str) (rs : List (Str × List Str)) : Option Str := (rs.flatMap Prod.snd).find? fun s => decide (s ∉ cells)
theorem rngS (xs : List Str) : (List.range xs.length).map (fun i => V.str (xs.getD i Str.empty)) = xs.map V.str := by
  apply List.ext_getElem?
  intro i
  by_cases h : i < xs.length
  · rw [List.getElem?_map, List.getElem?_range h, List.getElem?_map, List.getElem?_eq_getElem h]
    simp [List.getD_eq_getElem?_getD, List.getElem?_eq_getElem h]
  · rw [List.getElem?_eq_none (by simpa using h), List.getElem?_eq_none (by simpa using h)]
theorem find_at {cells : List Str} {s : Str} {rest : List Str} (hs : s ∉ cells) : ∀ {done : List Str}, (∀ x ∈ done, x ∈ cells) → (done ++ s :: rest).find? (fun s => decide (s ∉ cells)) = some s
  | [], _ => by
    rw [List.nil_append, List.find?_cons, decide_eq_true hs]
  | d :: ds, h => by
    rw [List.cons_append, List.find?_cons, decide_eq_false (fun z => z (h d (List.mem_cons_self ..)))]
    exact find_at hs fun x hx => h x (List.mem_cons_of_mem _ hx)
theorem find_none {cells : List Str} {done : List Str} (h : ∀ x ∈ done, x ∈ cells) : done.find? (fun s => decide (s ∉ cells)) = none := by
  rw [List.find?_eq_none]
  intro x hx z
  exact (of_decide_eq_true z) (h x hx)
def spCheckRows (K : PySem.W.Frag) : Sp := fun vs H Q E => ∃ v, vs = [v] ∧ ((∃ t, TyX K H v t ∧ PySem.W.kitAny K t LT = some false ∧ Rz H E (He.ga K "BadWeb") "index" (.int 0)) ∨
  ∃ ds : List (V × Bool × Str), Seq K H v (ds.map Prod.fst) ∧ ds.length ≤ 1000 ∧ (∀ d ∈ ds, RowD K H d) ∧
    ((∃ i, firstR ds = some i ∧ Rz H E (He.ga K "BadWeb") "index" (.int (i : Nat))) ∨
      (firstR ds = none ∧ ∃ rs : List (Str × List Str), rs.length = ds.length ∧ (∀ (i : Nat) (d : V × Bool × Str) (r : Str × List Str), ds[i]? = some d → rs[i]? = some r → RowG K H d.1 r ∧ r.2.length ≤ 900) ∧
        ((∃ u, firstU (rs.map Prod.fst) rs = some u ∧ Rz H E (He.ga K "UnknownCell") "cell" (.str u)) ∨ (firstU (rs.map Prod.fst) rs = none ∧ ∀ H', Same H H' → Q .non H')))))
theorem g_nm {i : Nat} {x : V} {σ : St} {H : Hp} {R : St → Hp → Prop} (h : R (σ.set i (some x)) H) : gName i x σ H R := h
theorem t_seqF {wi : TI} {g : TG} {tb u : TS} {D : Ends} {σ : St} {H : Hp} (h : tFor wi g tb { D with nx := u D } σ H) : tSeq (tFor wi g tb) u D σ H := h
theorem t_next {D : Ends} {σ : St} {H : Hp} (h : D.nx σ H) : tNext D σ H := h
end WL
end L2
set_option Elab.async false
set_option linter.all false
set_option maxRecDepth 100000
set_option maxHeartbeats 4000000
namespace L2
namespace WL
open PySem PySem.Spec PyProof.Rows K1
abbrev Rws : Type := List (Str × List Str)
/-- the cells that have z for a source -/
def tgt (rs : Rws) (z : Str) : List Str := (rs.filter fun r => decide (z ∈ r.2)).map Prod.fst
/-- the arrows -/
def arr (rs : Rws) : List (Str × Str) := rs.flatMap fun r => r.2.map fun s => (s, r.1)
def kS (z : Str) : Key := Sum.inr z
/-- a dict from texts to tuples of texts -/
def DTup (K : PySem.W.Frag) (H : Hp) (kvs : List (Key × V)) (ps : Rws) : Prop := Paired (fun (kv : Key × V) (p : Str × List Str) => kv.1 = kS p.1 ∧ ∃ a, kv.2 = .ref a ∧ SqT K H a (p.2.map .str)) kvs ps
theorem Paired.imp {α β : Type} {F G : α → β → Prop} (f : ∀ a b, F a b → G a b) : ∀ {l : List α} {m : List β}, Paired F l m → Paired G l m
  | _, _, .nil => .nil
  | _, _, .cons h t => .cons (f _ _ h) (Paired.imp f t)
theorem Paired.get {α β : Type} {F : α → β → Prop} : ∀ {l : List α} {m : List β}, Paired F l m → ∀ {i : Nat} {b : β}, m[i]? = some b → ∃ a, l[i]? = some a ∧ F a b
  | _, _, .nil, _, _, e => by cases e
  | _, _, .cons (a := a) h t, 0, b, e => ⟨a, rfl, by cases e; exact h⟩
  | _, _, .cons h t, i + 1, b, e => Paired.get t (i := i) e
theorem Paired.getL {α β : Type} {F : α → β → Prop} : ∀ {l : List α} {m : List β}, Paired F l m → ∀ {i : Nat} {a : α}, l[i]? = some a → ∃ b, m[i]? = some b ∧ F a b
  | _, _, .nil, _, _, e => by cases e
  | _, _, .cons (b := b) h t, 0, a, e => ⟨b, rfl, by cases e; exact h⟩
  | _, _, .cons h t, i + 1, a, e => Paired.getL t (i := i) e
theorem DTup.same {K : PySem.W.Frag} {H H' : Hp} {kvs : List (Key × V)} {ps : Rws} (h : DTup K H kvs ps) (s : Same H H') : DTup K H' kvs ps :=
  Paired.imp (fun _ _ ⟨e, a, e2, q⟩ => ⟨e, a, e2, SqT.same q s⟩) h
theorem DTup.len {K : PySem.W.Frag} {H : Hp} {kvs : List (Key × V)} {ps : Rws} (h : DTup K H kvs ps) : kvs.length = ps.length := Paired.length h
/-- the sources of a cell: of the first row with its name -/
def srcs (ps : Rws) (z : Str) : Option (List Str) := (ps.find? fun p => decide (p.1 = z)).map Prod.snd
theorem DTup.get {K : PySem.W.Frag} {H : Hp} {z : Str} : ∀ {kvs : List (Key × V)} {ps : Rws}, DTup K H kvs ps → (∃ xs a, srcs ps z = some xs ∧ valV kvs (kS z) = some (.ref a) ∧ SqT K H a (xs.map .str)) ∨ (srcs ps z = none ∧ valV kvs (kS z) = none)
  | _, _, .nil => .inr ⟨rfl, rfl⟩
  | kv :: l1, p :: l2, .cons ⟨e, a, e2, q⟩ t => by
    by_cases h : p.1 = z
    · refine .inl ⟨p.2, a, ?_, ?_, q⟩
      · unfold srcs
        rw [List.find?_cons, decide_eq_true h]
        rfl
      · rw [valV_pos (by rw [e, h]), e2]
    · have ih := DTup.get (z := z) t
      have e3 : srcs (p :: l2) z = srcs l2 z := by
        unfold srcs
        rw [List.find?_cons, decide_eq_false h]
      have e4 := valV_neg (p := kv) (r := l1) (k := kS z) (by rw [e]; exact fun y => h (Sum.inr.inj y))
      rw [e3, e4]
      exact ih
theorem srcs_none {ps : Rws} {z : Str} : srcs ps z = none ↔ z ∉ ps.map Prod.fst := by
  unfold srcs
  rw [Option.map_eq_none_iff, List.find?_eq_none]
  constructor
  · rintro h m
    obtain ⟨p, hp, rfl⟩ := List.mem_map.mp m
    exact h p hp (decide_eq_true rfl)
  · intro h p hp e
    exact h (List.mem_map.mpr ⟨p, hp, of_decide_eq_true e⟩)
theorem srcs_at {ps : Rws} (nd : (ps.map Prod.fst).Nodup) {p : Str × List Str} (hp : p ∈ ps) : srcs ps p.1 = some p.2 := by
  induction ps with
  | nil => cases hp
  | cons q qs ih =>
    unfold srcs
    rw [List.find?_cons]
    rcases List.mem_cons.mp hp with rfl | hp
    · rw [decide_eq_true rfl]
      rfl
    · have nq : ¬ q.1 = p.1 := fun e => by
        have := (List.nodup_cons.mp nd).1
        rw [e] at this
        exact this (List.mem_map.mpr ⟨p, hp, rfl⟩)
      rw [decide_eq_false nq]
      exact ih (List.nodup_cons.mp nd).2 hp
/-- the fields of a web -/
def wFld (c s a t : Addr) : List (Str × V) := [("cells", .ref c), ("sources_of", .ref s), ("arrows", .ref a), ("targets_of", .ref t)]
def PairT (H : Hp) (v : V) (p : Str × Str) : Prop := ∃ q, v = .ref q ∧ H q = some (.tup [.str p.1, .str p.2])
/-- a web stands at p -/
structure WebAt (K : PySem.W.Frag) (H : Hp) (C p : Addr) (rs : Rws) (dx c s a t : Addr) (ks kt : List (Key × V)) (av : List V) : Prop where
  ob : H p = some (.ins C dx (wFld c s a t))
  hc : H c = some (.tup ((rs.map Prod.fst).map .str))
  hs : H s = some (.dK ks)
  ds : DTup K H ks rs
  ha : H a = some (.tup av)
  da : Paired (PairT H) av (arr rs)
  ht : H t = some (.dK kt)
  dt : DTup K H kt (rs.map fun r => (r.1, tgt rs r.1))
theorem WebAt.same {K : PySem.W.Frag} {H H' : Hp} {C p : Addr} {rs : Rws} {dx c s a t : Addr} {ks kt : List (Key × V)} {av : List V} (h : WebAt K H C p rs dx c s a t ks kt av) (e : Same H H') : WebAt K H' C p rs dx c s a t ks kt av :=
  ⟨e _ _ h.ob, e _ _ h.hc, e _ _ h.hs, h.ds.same e, e _ _ h.ha, Paired.imp (fun _ _ ⟨q, e1, e2⟩ => ⟨q, e1, e _ _ e2⟩) h.da, e _ _ h.ht, h.dt.same e⟩
def IsWeb (K : PySem.W.Frag) (H : Hp) (C p : Addr) (rs : Rws) : Prop := ∃ dx c s a t ks kt av, WebAt K H C p rs dx c s a t ks kt av
theorem IsWeb.same {K : PySem.W.Frag} {H H' : Hp} {C p : Addr} {rs : Rws} (h : IsWeb K H C p rs) (e : Same H H') : IsWeb K H' C p rs := let ⟨dx, c, s, a, t, ks, kt, av, w⟩ := h; ⟨dx, c, s, a, t, ks, kt, av, w.same e⟩
/-- rows of a web: different names, few, sources among them, each once -/
structure Good (rs : Rws) : Prop where
  nd : (rs.map Prod.fst).Nodup
  l1 : 1 ≤ rs.length
  ln : rs.length ≤ 900
  sr : ∀ r ∈ rs, r.2.length ≤ 900 ∧ r.2.Nodup ∧ ∀ s ∈ r.2, s ∈ rs.map Prod.fst
  nm : ∀ r ∈ rs, isNm r.1 = true
/-- what the head tells of the class Web -/
structure Wt (K : PySem.W.Frag) (mg : Str → Option Value) (C : Addr) : Prop where
  cl : Cls K C
  nc : NoAttr K C "cells"
  ns : NoAttr K C "sources_of"
  na : NoAttr K C "arrows"
  nt : NoAttr K C "targets_of"
  mg : mg "Web" = some (.ref C)
def spCW (K : PySem.W.Frag) (C : Addr) : Sp := fun vs H Q _ => ∃ (p : Addr) (z : Str) (dx : Addr) (fs : List (Str × V)) (c s : Addr) (ks : List (Key × V)) (rs : Rws), vs = [.ref p, .str z] ∧ H p = some (.ins C dx fs) ∧ fs.lookup ("cells" : Str) = some (.ref c) ∧ fs.lookup ("sources_of" : Str) = some (.ref s) ∧
  H c = some (.tup ((rs.map Prod.fst).map .str)) ∧ H s = some (.dK ks) ∧ DTup K H ks rs ∧ (rs.map Prod.fst).Nodup ∧ rs.length ≤ 900 ∧ ∀ (q : Addr) (H' : Hp), Same H H' → H q = none → H' q = some (.tup ((tgt rs z).map .str)) → Q (.ref q) H'
/-- in a comprehension: what is kept -/
theorem tgt_take {rs : Rws} {z : Str} {i : Nat} {r : Str × List Str} (h : rs[i]? = some r) : tgt (rs.take (i + 1)) z = tgt (rs.take i) z ++ (if z ∈ r.2 then [r.1] else []) := by
  unfold tgt
  rw [List.take_succ, h, List.filter_append, List.map_append]
  congr 1
  show (List.filter _ [r]).map _ = _
  by_cases m : z ∈ r.2
  · rw [if_pos m, List.filter_cons, if_pos (decide_eq_true m)]
    rfl
  · rw [if_neg m, List.filter_cons, if_neg (by simpa using m)]
    rfl
end WL
end L2
set_option Elab.async false
set_option linter.all false
set_option maxRecDepth 100000
set_option maxHeartbeats 4000000
namespace L2
namespace WL
open PySem PySem.Spec PyProof.Rows K1
/-! ### the pool, and what stands beside it -/
def hide (p : Addr) (H : Hp) : Hp := fun b => if b = p then none else H b
theorem hide_self {p : Addr} {H : Hp} : hide p H p = none := if_pos rfl
theorem hide_ne {p b : Addr} {H : Hp} (h : b ≠ p) : hide p H b = H b := if_neg h
theorem hide_some {p b : Addr} {H : Hp} {o : HO} (h : hide p H b = some o) : b ≠ p ∧ H b = some o := by
  unfold hide at h
  by_cases e : b = p
  · rw [if_pos e] at h
    cases h
  · rw [if_neg e] at h
    exact ⟨e, h⟩
theorem hide_le {p : Addr} {H : Hp} : Same (hide p H) H := fun b o e => (hide_some e).2
theorem hide_upd {p d : Addr} {H : Hp} {o : HO} (h : d ≠ p) : hide p (upd H d o) = upd (hide p H) d o := by
  funext b
  show (if b = p then none else upd H d o b) = upd (hide p H) d o b
  by_cases e : b = p
  · rw [if_pos e, upd_ne (fun z => h (z.symm.trans e))]
    exact (if_pos e).symm
  · rw [if_neg e]
    by_cases f : b = d
    · rw [f, upd_same, upd_same]
    · rw [upd_ne f, upd_ne f, hide_ne e]
theorem hide_updp {p : Addr} {H : Hp} {o : HO} : hide p (upd H p o) = hide p H := by
  funext b
  by_cases e : b = p
  · rw [e, hide_self, hide_self]
  · rw [hide_ne e, hide_ne e, upd_ne e]
theorem hide_same {p : Addr} {H H' : Hp} (s : Same H H') : Same (hide p H) (hide p H') := fun b o e => by
  obtain ⟨h1, h2⟩ := hide_some e
  rw [hide_ne h1]
  exact s _ _ h2
theorem hide_none {p b : Addr} {H : Hp} (h : H b = none) : hide p H b = none := by
  unfold hide
  by_cases e : b = p
  · rw [if_pos e]
  · rw [if_neg e]
    exact h
/-- a new object beside the pool -/
theorem hide_new {p d : Addr} {H : Hp} {o : HO} (hp : H p ≠ none) (h : H d = none) : d ≠ p ∧ Same (hide p H) (hide p (upd H d o)) ∧ hide p (upd H d o) d = some o := by
  have e : d ≠ p := fun z => hp (z ▸ h)
  refine ⟨e, ?_, ?_⟩
  · rw [hide_upd e]
    exact same_upd (hide_none h)
  · rw [hide_upd e]
    exact upd_same
/-- at p a pool, of which at most n turns are gone -/
def Pl (H : Hp) (p : Addr) (n : Nat) : Prop := ∃ a b c : Int, H p = some (.lst [.int a, .int b, .int c]) ∧ 0 ≤ a ∧ 0 ≤ b ∧ b < 1000000007 ∧ 0 ≤ c ∧ c ≤ (n : Nat)
theorem Pl.le {H : Hp} {p : Addr} {n m : Nat} (h : Pl H p n) (l : n ≤ m) : Pl H p m := by
  obtain ⟨a, b, c, h1, h2, h3, h4, h5, h6⟩ := h
  exact ⟨a, b, c, h1, h2, h3, h4, h5, by omega⟩
theorem Pl.ne {H : Hp} {p : Addr} {n : Nat} (h : Pl H p n) : H p ≠ none := by
  obtain ⟨a, b, c, h1, _⟩ := h
  rw [h1]
  exact fun z => nomatch z
theorem Pl.upd {H : Hp} {p d : Addr} {n : Nat} {o : HO} (h : Pl H p n) (hd : d ≠ p) : Pl (upd H d o) p n := by
  obtain ⟨a, b, c, h1, h2⟩ := h
  exact ⟨a, b, c, by rw [upd_ne (Ne.symm hd)]; exact h1, h2⟩
theorem Pl.new {H : Hp} {p d : Addr} {n : Nat} {o : HO} (h : Pl H p n) (hd : H d = none) : Pl (L2.upd H d o) p n := h.upd fun z => h.ne (z ▸ hd)
theorem Pl.same {H H' : Hp} {p : Addr} {n : Nat} (h : Pl H p n) (s : Same H H') : Pl H' p n := by
  obtain ⟨a, b, c, h1, h2⟩ := h
  exact ⟨a, b, c, s _ _ h1, h2⟩
def spCellL (K : PySem.W.Frag) : Sp := fun vs H Q _ => ∃ (l : Addr) (ns : List Int) (j : Nat), vs = [.ref l, .int (j : Nat)] ∧ SqL K H l (ns.map V.int) ∧ ∀ g : Int, Q (.int g) H
def spPoolL : Sp := fun vs H Q _ => ∃ g : Int, vs = [.int g] ∧ ∀ p o, H p = none → Pl (upd H p o) p 0 → Q (.ref p) (upd H p o)
def spTakeL : Sp := fun vs H Q _ => ∃ (p : Addr) (m : Int) (n : Nat), vs = [.ref p, .int m] ∧ 0 < m ∧ m < 1000000 ∧ Pl H p n ∧ n ≤ 900000000 ∧
  ∀ (r : Nat) H', (r : Int) < m → hide p H' = hide p H → Pl H' p (n + 1) → Q (.int (r : Nat)) H'
/-! ### lists mixed -/
def spMixed (K : PySem.W.Frag) : Sp := fun vs H Q _ => ∃ (p : Addr) (v : V) (xs : List V) (n : Nat), vs = [.ref p, v] ∧ Seq K (hide p H) v xs ∧ xs.length ≤ 1000 ∧ Pl H p n ∧ n ≤ 800000000 ∧
  ∀ (ys : List V) H' q, Same (hide p H) (hide p H') → Pl H' p (n + xs.length) → ys.Perm xs → hide p H q = none → hide p H' q = some (.lst ys) → Q (.ref q) H'
theorem cut_to {xs : List V} {i : Nat} (h : i ≤ xs.length) : cutV xs none (some (i : Int)) = xs.take i := by
  have e2 : HT.sIx xs.length xs.length (some (i : Int)) = i := by
    rw [HT.sIx_nat]
    omega
  unfold cutV
  rw [e2]
  show (xs.drop 0).take (i - 0) = _
  rw [List.drop_zero, Nat.sub_zero]
theorem cut_from {xs : List V} {i : Nat} (h : i ≤ xs.length) : cutV xs (some (i : Int)) none = xs.drop i := by
  have e2 : HT.sIx xs.length 0 (some (i : Int)) = i := by
    rw [HT.sIx_nat]
    omega
  unfold cutV
  rw [e2]
  show (xs.drop i).take (xs.length - i) = _
  rw [← List.length_drop, List.take_length]
theorem cut_ix {xs : List V} {i : Nat} {x : V} (h : xs[i]? = some x) : (xs.take i ++ xs.drop (i + 1)).length + 1 = xs.length ∧ (x :: (xs.take i ++ xs.drop (i + 1))).Perm xs := by
  have lt : i < xs.length := (List.getElem?_eq_some_iff.mp h).1
  have e : xs = xs.take i ++ x :: xs.drop (i + 1) := by
    conv => lhs; rw [← List.take_append_drop i xs, List.drop_eq_getElem_cons lt]
    rw [List.getElem?_eq_getElem lt] at h
    rw [Option.some.inj h]
  refine ⟨?_, ?_⟩
  · conv => rhs; rw [e]
    simp
    omega
  · conv => rhs; rw [e]
    exact List.perm_middle.symm
end WL
end L2
namespace L2
namespace WL
open PySem PySem.Spec PyProof.Rows K1
open TL
/-! ### names drawn -/
def lawNm (z : Str) : Prop := isNm z = true ∧ (z.length = 3 ∨ ∀ c ∈ z.cps.toList, c ≤ 121)
theorem pig {α : Type} [DecidableEq α] : ∀ {S F : List α}, S.Nodup → (∀ x ∈ S, x ∈ F) → S.length ≤ F.length
  | [], _, _, _ => Nat.zero_le _
  | x :: S, F, nd, h => by
    obtain ⟨n1, n2⟩ := List.nodup_cons.mp nd
    have m := h x (List.mem_cons_self ..)
    have := pig (S := S) (F := F.erase x) n2 fun y hy => (List.mem_erase_of_ne (fun (e : y = x) => n1 (e ▸ hy))).mpr (h y (List.mem_cons_of_mem _ hy))
    rw [List.length_erase_of_mem m] at this
    have p : 0 < F.length := List.length_pos_of_mem m
    rw [List.length_cons]
    omega
theorem joinL_nil : ∀ l : List (List Nat), joinL [] l = l.flatten
  | [] => rfl
  | [p] => by simp [joinL]
  | p :: q :: r => by
    show p ++ ([] ++ joinL [] (q :: r)) = p ++ (q :: r).flatten
    rw [joinL_nil (q :: r)]
    rfl
theorem join_signs (cs : List Nat) : (Txt.join ("" : Str) (cs.map fun c => (⟨#[c]⟩ : Str))).cps.toList = cs := by
  have e : tl (Txt.join ("" : Str) (cs.map fun c => (⟨#[c]⟩ : Str))) = (cs.map fun c => [c]).flatten := by
    rw [join_eq, tl_join, List.map_map]
    show joinL [] _ = _
    rw [joinL_nil]
    rfl
  have f : (cs.map fun c => [c]).flatten = cs := by
    induction cs with
    | nil => rfl
    | cons c cs ih =>
      rw [List.map_cons, List.flatten_cons, ih]
      · rfl
      · rw [join_eq, tl_join, List.map_map]
        show joinL [] _ = _
        rw [joinL_nil]
        rfl
  rw [f] at e
  exact e
def abc25 : Str := "abcdefghijklmnopqrstuvwxy"
theorem abc25_at {r : Nat} (h : r < 25) : atI abc25.cps.toList (r : Int) = some (97 + r) := by
  refine atI_nat ?_
  have e : abc25.cps.toList = (List.range 25).map (97 + ·) := by decide +kernel
  rw [e, List.getElem?_map, List.getElem?_range h]
  rfl
def abc16 : Str := "abcdefghijklmnop"
/-- the spare names -/
def spare (c : Nat) : Str := ("z" : Str) ++ (⟨#[c]⟩ : Str) ++ ("q" : Str)
theorem spare_cps (c : Nat) : (spare c).cps.toList = [122, c, 113] := rfl
def spares : List Str := abc16.cps.toList.map spare
theorem spare_nm : ∀ z ∈ spares, lawNm z := by
  intro z hz
  obtain ⟨c, hc, rfl⟩ := List.mem_map.mp hz
  have e : abc16.cps.toList = (List.range 16).map (97 + ·) := by decide +kernel
  rw [e] at hc
  obtain ⟨k, hk, rfl⟩ := List.mem_map.mp hc
  have hk' := List.mem_range.mp hk
  refine ⟨?_, .inl rfl⟩
  unfold isNm
  rw [spare_cps]
  show (true && (true && (okc 122 && (okc (97 + k) && (okc 113 && true))))) = true
  have o : okc (97 + k) = true := by
    unfold okc
    rw [decide_eq_true (by omega), decide_eq_true (by omega)]
    rfl
  rw [o]
  rfl
theorem spares_nodup : spares.Nodup := by decide +kernel
theorem spares_len : spares.length = 16 := by decide +kernel
theorem len_toList (z : Str) : z.length = z.cps.toList.length := by simp [Str.length]
theorem nm_of {z : Str} {cs : List Nat} (e : z.cps.toList = cs) (h1 : 1 ≤ cs.length) (h8 : cs.length ≤ 8) (hc : ∀ c ∈ cs, 97 ≤ c ∧ c ≤ 121) : lawNm z := by
  subst e
  refine ⟨?_, .inr fun c m => (hc c m).2⟩
  unfold isNm
  rw [len_toList, decide_eq_true h1, decide_eq_true h8]
  show z.cps.toList.all okc = true
  rw [List.all_eq_true]
  intro c m
  unfold okc
  have := hc c m
  rw [decide_eq_true this.1, decide_eq_true (by omega)]
  rfl
def spNames (K : PySem.W.Frag) : Sp := fun vs H Q _ => ∃ (p : Addr) (m n : Nat), vs = [.ref p, .int (m : Nat)] ∧ 1 ≤ m ∧ m ≤ 12 ∧ Pl H p n ∧ n ≤ 800000000 ∧
  ∀ (zs : List Str) H' q, Same (hide p H) (hide p H') → Pl H' p (n + 9 * m) → zs.length = m → zs.Nodup → (∀ z ∈ zs, lawNm z) → hide p H q = none → hide p H' q = some (.lst (zs.map .str)) → Q (.ref q) H'
/-- the first of the candidates that is not among the found ones -/
theorem first_free {name : Str} {found : List Str} (h : found.length < 16) (hn : lawNm name) : ∃ z rest, (name :: spares).filter (fun z => decide (z ∉ found)) = z :: rest ∧ z ∉ found ∧ lawNm z := by
  cases e : (name :: spares).filter (fun z => decide (z ∉ found)) with
  | nil =>
    exfalso
    have all : ∀ x ∈ spares, x ∈ found := fun x hx => by
      have := List.filter_eq_nil_iff.mp e x (List.mem_cons_of_mem _ hx)
      simpa using this
    have := pig spares_nodup all
    rw [spares_len] at this
    omega
  | cons z rest =>
    have m : z ∈ (name :: spares).filter (fun z => decide (z ∉ found)) := by
      rw [e]
      exact List.mem_cons_self ..
    obtain ⟨m1, m2⟩ := List.mem_filter.mp m
    refine ⟨z, rest, rfl, of_decide_eq_true m2, ?_⟩
    rcases List.mem_cons.mp m1 with rfl | m1
    · exact hn
    · exact spare_nm z m1
end WL
end L2
namespace L2
namespace WL
open PySem PySem.Spec PyProof.Rows K1
theorem iteP {c : Bool} {A B : Prop} (h : c = true) (a : A) : if c = true then A else B := by
  rw [if_pos h]
  exact a
theorem size_at {r : Nat} (h : r < 5) : ∃ sz : Nat, ([.int 1, .int 1, .int 2, .int 3, .int 8] : List V)[r]? = some (.int (sz : Nat)) ∧ 1 ≤ sz ∧ sz ≤ 8 := by
  have c : r = 0 ∨ r = 1 ∨ r = 2 ∨ r = 3 ∨ r = 4 := by omega
  rcases c with rfl | rfl | rfl | rfl | rfl
  · exact ⟨1, rfl, by omega, by omega⟩
  · exact ⟨1, rfl, by omega, by omega⟩
  · exact ⟨2, rfl, by omega, by omega⟩
  · exact ⟨3, rfl, by omega, by omega⟩
  · exact ⟨8, rfl, by omega, by omega⟩
theorem sum_ones : ∀ cs : List Nat, (cs.map fun _ => 1).sum = cs.length
  | [] => rfl
  | c :: cs => by
    rw [List.map_cons, List.sum_cons, sum_ones cs, List.length_cons, Nat.add_comm]
end WL
end L2
namespace L2
namespace WL
open PySem PySem.Spec PyProof.Rows K1
theorem strsOf_map (xs : List Str) : strsOf (xs.map .str) = xs := by
  induction xs with
  | nil => rfl
  | cons x xs ih =>
    show x :: strsOf (xs.map .str) = x :: xs
    rw [ih]
theorem map_strsOf : ∀ {ys : List V}, (∀ y ∈ ys, ∃ z, y = .str z) → ys = (strsOf ys).map .str
  | [], _ => rfl
  | y :: ys, h => by
    obtain ⟨z, rfl⟩ := h y (List.mem_cons_self ..)
    show V.str z :: ys = V.str z :: (strsOf ys).map .str
    rw [← map_strsOf fun y hy => h y (List.mem_cons_of_mem _ hy)]
theorem perm_strs {ys : List V} {xs : List Str} (h : ys.Perm (xs.map .str)) : ∃ zs : List Str, ys = zs.map .str ∧ zs.Perm xs := by
  refine ⟨strsOf ys, map_strsOf fun y hy => ?_, ?_⟩
  · obtain ⟨z, _, e⟩ := List.mem_map.mp (h.mem_iff.mp hy)
    exact ⟨z, e.symm⟩
  · have := h.filterMap (fun x => match x with
      | .str z => some z
      | _ => none)
    have e : strsOf (xs.map .str) = xs := strsOf_map xs
    show (strsOf ys).Perm xs
    conv => rhs; rw [← e]
    exact this
/-- rows as the law draws them -/
structure LawRows (most many : Nat) (rs : Rws) : Prop where
  nd : (rs.map Prod.fst).Nodup
  l1 : 1 ≤ rs.length
  lm : rs.length ≤ most
  nm : ∀ r ∈ rs, lawNm r.1
  sr : ∀ r ∈ rs, r.2.Nodup ∧ r.2.length ≤ many ∧ r.2.length ≤ rs.length ∧ ∀ s ∈ r.2, s ∈ rs.map Prod.fst
/-- a row: a tuple of a name and a list -/
def RowT (H : Hp) (v : V) (r : Str × List Str) : Prop := ∃ t l, v = .ref t ∧ H t = some (.tup [.str r.1, .ref l]) ∧ H l = some (.lst (r.2.map .str))
theorem RowT.same {H H' : Hp} {v : V} {r : Str × List Str} (h : RowT H v r) (s : Same H H') : RowT H' v r := let ⟨t, l, e, a, b⟩ := h; ⟨t, l, e, s _ _ a, s _ _ b⟩
def RowsAt (H : Hp) (q : Addr) (rs : Rws) : Prop := ∃ vs, H q = some (.lst vs) ∧ Paired (RowT H) vs rs
theorem RowsAt.same {H H' : Hp} {q : Addr} {rs : Rws} (h : RowsAt H q rs) (s : Same H H') : RowsAt H' q rs := let ⟨vs, e, a⟩ := h; ⟨vs, s _ _ e, Paired.imp (fun _ _ r => r.same s) a⟩
def spWeb (K : PySem.W.Frag) : Sp := fun vs H Q _ => ∃ (p : Addr) (most many n : Nat), vs = [.ref p, .int (most : Nat), .int (many : Nat)] ∧ 1 ≤ most ∧ most ≤ 12 ∧ many ≤ 12 ∧ Pl H p n ∧ n ≤ 700000000 ∧
  ∀ (rs : Rws) H' q, Same (hide p H) (hide p H') → Pl H' p (n + 300) → LawRows most many rs → hide p H q = none → RowsAt (hide p H') q rs → Q (.ref q) H'
end WL
end L2
set_option Elab.async false
set_option linter.all false
set_option maxRecDepth 100000
set_option maxHeartbeats 4000000
namespace L2
namespace WL
open PySem PySem.Spec PyProof.Rows K1
section
variable {J : It} {n : Nat} {G : Hp → Prop} {Y : Nat → Hp → V → Hp → Prop}
/-- a dict comprehension over any walk -/
theorem dc_it (w : Walk J n G Y) {g : TG} {tt : TT} {tk tv : TE} {vs : List Nat} {σ : St} {H1 : Hp} {D : Addr} {Qd : Hp → Prop} (Pv : Nat → Hp → Prop) (h0 : Pv 0 (upd H1 D (.dK []))) (hG : ∀ i H, i ≤ n → Pv i H → G H)
    (hs : ∀ i x H H', i < n → Pv i H → Y i H x H' → g x (wipe σ vs) H' fun σ2 H2 => wipe σ2 vs = wipe σ vs ∧ tt σ2 H2 fun b H3 =>
      if b = true then tk σ2 H3 fun y H4 => tv σ2 H4 fun z H5 => ∃ kvs k, y = kV k ∧ H5 D = some (.dK kvs) ∧ kvs.length < sizeLine ∧ Pv (i + 1) (upd H5 D (.dK (putK kvs k z))) else Pv (i + 1) H3) (hd : ∀ H, Pv n H → Qd H) :
    ∃ W : Nat → Nat → Hp → Prop, (∃ m, W 0 m (upd H1 D (.dK []))) ∧ ∀ i m H, W i m H →
      (J.stop i H ∧ Qd H) ∨ (J.go i H ∧ ∃ Nx : Hp → Prop, (∀ H', Nx H' → ∃ m', m' < m ∧ W (i + 1) m' H') ∧ ∀ x H', J.yld i H x H' → g x (wipe σ vs) H' fun σ2 H2 => wipe σ2 vs = wipe σ vs ∧ tt σ2 H2 fun b H3 =>
        if b = true then tk σ2 H3 fun y H4 => tv σ2 H4 fun z H5 => ∃ kvs k, y = kV k ∧ H5 D = some (.dK kvs) ∧ kvs.length < sizeLine ∧ Nx (upd H5 D (.dK (putK kvs k z))) else Nx H3) := by
  refine ⟨fun i m H => m = n - i ∧ i ≤ n ∧ Pv i H, ⟨n, by simp, Nat.zero_le _, h0⟩, ?_⟩
  rintro i m H ⟨rfl, hi, p⟩
  have q := hG i H hi p
  by_cases hlt : i < n
  · refine .inr ⟨w.goes i H hlt q, Pv (i + 1), fun H' p' => ⟨n - (i + 1), by omega, rfl, hlt, p'⟩, fun x H' y => hs i x H H' hlt p (w.yields i H x H' hlt q y)⟩
  · have e : i = n := by omega
    subst e
    exact .inl ⟨w.stops H q, hd H p⟩
end
section
variable {J J1 : It} {n n1 : Nat} {G G1 : Hp → Prop} {Y Y1 : Nat → Hp → V → Hp → Prop}
/-- a comprehension of two walks: the inner one -/
theorem lc2_in (w : Walk J1 n1 G1 Y1) {g1 : TG} {tt1 : TT} {te : TE} {vs1 : List Nat} {σ2 : St} {H4 : Hp} {D : Addr} {Nx : Hp → Prop} (Pv : Nat → Hp → Prop) (h0 : Pv 0 H4) (hG : ∀ i H, i ≤ n1 → Pv i H → G1 H)
    (hs : ∀ i x H H', i < n1 → Pv i H → Y1 i H x H' → g1 x (wipe σ2 vs1) H' fun σ3 H5 => wipe σ3 vs1 = wipe σ2 vs1 ∧ tt1 σ3 H5 fun b H6 =>
      if b = true then te σ3 H6 fun y H7 => ∃ acc, H7 D = some (.lst acc) ∧ acc.length < sizeLine ∧ Pv (i + 1) (upd H7 D (.lst (acc ++ [y]))) else Pv (i + 1) H6) (hd : ∀ H, Pv n1 H → Nx H) :
    ∃ W1 : Nat → Nat → Hp → Prop, (∃ m, W1 0 m H4) ∧ ∀ j k H, W1 j k H →
      (J1.stop j H ∧ Nx H) ∨ (J1.go j H ∧ ∃ Nx1 : Hp → Prop, (∀ H', Nx1 H' → ∃ k', k' < k ∧ W1 (j + 1) k' H') ∧ ∀ x H', J1.yld j H x H' → g1 x (wipe σ2 vs1) H' fun σ3 H5 => wipe σ3 vs1 = wipe σ2 vs1 ∧ tt1 σ3 H5 fun b H6 =>
        if b = true then te σ3 H6 fun y H7 => ∃ acc, H7 D = some (.lst acc) ∧ acc.length < sizeLine ∧ Nx1 (upd H7 D (.lst (acc ++ [y]))) else Nx1 H6) := by
  refine ⟨fun i m H => m = n1 - i ∧ i ≤ n1 ∧ Pv i H, ⟨n1, by simp, Nat.zero_le _, h0⟩, ?_⟩
  rintro i m H ⟨rfl, hi, p⟩
  have q := hG i H hi p
  by_cases hlt : i < n1
  · refine .inr ⟨w.goes i H hlt q, Pv (i + 1), fun H' p' => ⟨n1 - (i + 1), by omega, rfl, hlt, p'⟩, fun x H' y => hs i x H H' hlt p (w.yields i H x H' hlt q y)⟩
  · have e : i = n1 := by omega
    subst e
    exact .inl ⟨w.stops H q, hd H p⟩
/-- .. the outer one -/
theorem lc2_it (w : Walk J n G Y) {g : TG} {tt : TT} {wi1 : TI} {g1 : TG} {tt1 : TT} {te : TE} {vs vs1 : List Nat} {σ : St} {H1 : Hp} {D : Addr} {Qd : Hp → Prop} (Pv : Nat → Hp → Prop) (h0 : Pv 0 (upd H1 D (.lst []))) (hG : ∀ i H, i ≤ n → Pv i H → G H)
    (hs : ∀ i x H H', i < n → Pv i H → Y i H x H' → g x (wipe σ vs) H' fun σ2 H2 => wipe σ2 vs = wipe σ vs ∧ tt σ2 H2 fun b H3 =>
      if b = true then wi1 σ2 H3 fun J1 H4 => ∃ W1 : Nat → Nat → Hp → Prop, (∃ m, W1 0 m H4) ∧ ∀ j k H, W1 j k H →
        (J1.stop j H ∧ Pv (i + 1) H) ∨ (J1.go j H ∧ ∃ Nx1 : Hp → Prop, (∀ H', Nx1 H' → ∃ k', k' < k ∧ W1 (j + 1) k' H') ∧ ∀ x H', J1.yld j H x H' → g1 x (wipe σ2 vs1) H' fun σ3 H5 => wipe σ3 vs1 = wipe σ2 vs1 ∧ tt1 σ3 H5 fun b H6 =>
          if b = true then te σ3 H6 fun y H7 => ∃ acc, H7 D = some (.lst acc) ∧ acc.length < sizeLine ∧ Nx1 (upd H7 D (.lst (acc ++ [y]))) else Nx1 H6)
      else Pv (i + 1) H3) (hd : ∀ H, Pv n H → Qd H) :
    ∃ W : Nat → Nat → Hp → Prop, (∃ m, W 0 m (upd H1 D (.lst []))) ∧ ∀ i m H, W i m H →
      (J.stop i H ∧ Qd H) ∨ (J.go i H ∧ ∃ Nx : Hp → Prop, (∀ H', Nx H' → ∃ m', m' < m ∧ W (i + 1) m' H') ∧ ∀ x H', J.yld i H x H' → g x (wipe σ vs) H' fun σ2 H2 => wipe σ2 vs = wipe σ vs ∧ tt σ2 H2 fun b H3 =>
        if b = true then wi1 σ2 H3 fun J1 H4 => ∃ W1 : Nat → Nat → Hp → Prop, (∃ m, W1 0 m H4) ∧ ∀ j k H, W1 j k H →
          (J1.stop j H ∧ Nx H) ∨ (J1.go j H ∧ ∃ Nx1 : Hp → Prop, (∀ H', Nx1 H' → ∃ k', k' < k ∧ W1 (j + 1) k' H') ∧ ∀ x H', J1.yld j H x H' → g1 x (wipe σ2 vs1) H' fun σ3 H5 => wipe σ3 vs1 = wipe σ2 vs1 ∧ tt1 σ3 H5 fun b H6 =>
            if b = true then te σ3 H6 fun y H7 => ∃ acc, H7 D = some (.lst acc) ∧ acc.length < sizeLine ∧ Nx1 (upd H7 D (.lst (acc ++ [y]))) else Nx1 H6)
        else Nx H3) := by
  refine ⟨fun i m H => m = n - i ∧ i ≤ n ∧ Pv i H, ⟨n, by simp, Nat.zero_le _, h0⟩, ?_⟩
  rintro i m H ⟨rfl, hi, p⟩
  have q := hG i H hi p
  by_cases hlt : i < n
  · refine .inr ⟨w.goes i H hlt q, Pv (i + 1), fun H' p' => ⟨n - (i + 1), by omega, rfl, hlt, p'⟩, fun x H' y => hs i x H H' hlt p (w.yields i H x H' hlt q y)⟩
  · have e : i = n := by omega
    subst e
    exact .inl ⟨w.stops H q, hd H p⟩
end
/-- (a, b, ..) = a list or a tuple of that length -/
def gSeq (K : PySem.W.Frag) (n : Nat) (t : TGs) : TG := fun v σ H Q => ∃ xs, Seq K H v xs ∧ xs.length = n ∧ t xs σ H Q
theorem pg_seq {X : Cx} {pos : Pos} {es : List Expr} {k : Nat} {t : TGs} {n : Nat} (hc : X.calm = true) (h : PGs X es t)
    (hn : (assignEach es X.env).length = n := by rfl) (hst : (assignEach es X.env).findIdx? (·.1) = none := by rfl) : PG X (.Tuple es k pos) (gSeq X.K n t) := by
  refine ⟨fun pins s σ H v u Q I r hw => ?_⟩
  obtain ⟨xs, ⟨a, rfl, hq⟩, hl, hw⟩ := hw
  rcases hq with hq | hq
  · exact (pg_unl hc h hn hst).run pins s σ H _ u Q I r ⟨a, xs, rfl, hq, hl, hw⟩
  · exact (pg_tup hc h hn hst).run pins s σ H _ u Q I r ⟨a, xs, rfl, hq, hl, hw⟩
theorem t_nil {σ : St} {H : Hp} {Q : List V → Hp → Prop} (h : Q [] H) : tNil σ H Q := h
/-- tuple(either) -/
def rTupS (K : PySem.W.Frag) : List V → Hp → VK → Prop := fun xs H Q => ∃ v ys, xs = [v] ∧ Seq K H v ys ∧ ∀ H' l, Same H H' → SqT K H' l ys → Q (.ref l) H'
theorem call_tupS {X : Cx} : CallR X (.type "tuple") (rTupS X.K) := by
  intro pins s σ H xs us Q I r h
  obtain ⟨v, ys, rfl, ⟨a, rfl, hq⟩, q⟩ := h
  rcases hq with hq | hq
  · exact call_tuple_of pins s σ H _ us Q I r ⟨a, ys, rfl, .inl ⟨hq, fun l nl => q _ l (same_upd nl) (SqT.of upd_same)⟩⟩
  · exact call_tuple_of pins s σ H _ us Q I r ⟨a, ys, rfl, .inr ⟨hq, q H a (Same.refl H) hq⟩⟩
theorem putK_fresh {kvs : List (Key × V)} {k : Key} {v : V} (h : ∀ p ∈ kvs, p.1 ≠ k) : putK kvs k v = kvs ++ [(k, v)] := by
  unfold putK
  rw [if_neg]
  intro z
  obtain ⟨p, hp, e⟩ := List.any_eq_true.mp z
  exact h p hp (of_decide_eq_true e)
theorem t_seqFld {K : PySem.W.Frag} {ta tv : TE} {f : Str} {u : TS} {D : Ends} {σ : St} {H : Hp} (h : tv σ H fun y H1 => ta σ H1 fun x H2 => ∃ a C dx fs, x = .ref a ∧ H2 a = some (.ins C dx fs) ∧ Cls K C ∧ NoAttr K C f ∧ fs.length < 1000 ∧ u D σ (upd H2 a (.ins C dx (putF f y fs)))) :
    tSeq (sFld K ta tv f) u D σ H := h
theorem t_cb1 {r : List V → Hp → VK → Prop} {te : TE} {σ : St} {H : Hp} {Q : VK} (h : te σ H fun x H1 => r [x] H1 Q) : tCB r (tCons te tNil) σ H Q := h
theorem sqt_hideD {K : PySem.W.Frag} {H : Hp} {D l : Addr} {kvs : List (Key × V)} {xs : List V} (h : SqT K H l xs) (e : H D = some (.dK kvs)) : SqT K (hide D H) l xs := by
  rcases h with (h | ⟨o, h⟩) | h
  · refine .inl (.inl ?_)
    rw [hide_ne (fun z => by rw [z, e] at h; cases h)]
    exact h
  · refine .inl (.inr ⟨o, ?_⟩)
    rw [hide_ne (fun z => by rw [z, e] at h; cases h)]
    exact h
  · exact .inr h
theorem sqt_hide {K : PySem.W.Frag} {H : Hp} {p l : Addr} {o : HO} {xs : List V} (h : SqT K H l xs) (e : H p = some o) (no : ∀ ys, o ≠ .tup ys) (nf : ∀ q ys, o ≠ .frz q (.tup ys)) : SqT K (hide p H) l xs := by
  rcases h with (h | ⟨q, h⟩) | h
  · refine .inl (.inl ?_)
    rw [hide_ne (fun z => by rw [z, e] at h; exact no _ (Option.some.inj h))]
    exact h
  · refine .inl (.inr ⟨q, ?_⟩)
    rw [hide_ne (fun z => by rw [z, e] at h; exact nf _ _ (Option.some.inj h))]
    exact h
  · exact .inr h
theorem DTup.hide {K : PySem.W.Frag} {H : Hp} {p : Addr} {o : HO} {ks : List (Key × V)} {rs : Rws} (h : DTup K H ks rs) (e : H p = some o) (no : ∀ ys, o ≠ .tup ys) (nf : ∀ q ys, o ≠ .frz q (.tup ys)) : DTup K (hide p H) ks rs :=
  Paired.imp (fun _ _ ⟨e1, a, e2, q⟩ => ⟨e1, a, e2, sqt_hide q e no nf⟩) h
theorem t_fld {K : PySem.W.Frag} {ta tv : TE} {f : Str} {D : Ends} {σ : St} {H : Hp} (h : tv σ H fun y H1 => ta σ H1 fun x H2 => ∃ a C dx fs, x = .ref a ∧ H2 a = some (.ins C dx fs) ∧ Cls K C ∧ NoAttr K C f ∧ fs.length < 1000 ∧ D.nx σ (upd H2 a (.ins C dx (putF f y fs)))) :
    sFld K ta tv f D σ H := h
theorem arr_len : ∀ {l : Rws}, (∀ r ∈ l, r.2.length ≤ 900) → (arr l).length ≤ l.length * 900
  | [], _ => Nat.zero_le _
  | r :: l, h => by
    have := arr_len (l := l) fun r hr => h r (List.mem_cons_of_mem _ hr)
    have h1 := h r (List.mem_cons_self ..)
    have e : arr (r :: l) = r.2.map (fun s => (s, r.1)) ++ arr l := rfl
    rw [e, List.length_append, List.length_map, List.length_cons]
    omega
theorem PairT.same {H H' : Hp} {v : V} {p : Str × Str} (h : PairT H v p) (s : Same H H') : PairT H' v p := let ⟨q, e, a⟩ := h; ⟨q, e, s _ _ a⟩
theorem PairT.hide {H : Hp} {v : V} {p : Str × Str} {b : Addr} {o : HO} (h : PairT H v p) (e : H b = some o) (no : ∀ ys, o ≠ .tup ys) : PairT (hide b H) v p := by
  obtain ⟨q, e1, a⟩ := h
  refine ⟨q, e1, ?_⟩
  rw [hide_ne (fun z => by rw [z, e] at a; exact no _ (Option.some.inj a))]
  exact a
/-- {k: v for x in either} -/
theorem dc_seq {K : PySem.W.Frag} {v : V} {xs : List V} {g : TG} {tt : TT} {tk tv tl : TE} {vs : List Nat} {σ : St} {H0 H : Hp} {Q : VK} (hq : Seq K H0 v xs) (s0 : Same H0 H) (he : ∀ Q : VK, Q v H → tl σ H Q) (Pv : Addr → Nat → Hp → Prop) (h0 : ∀ D, H D = none → Pv D 0 (upd H D (.dK [])))
    (hl : ∀ D i H', Pv D i H' → Same H0 H') (hs : ∀ D i x H', xs[i]? = some x → Pv D i H' → g x (wipe σ vs) H' fun σ2 H2 => wipe σ2 vs = wipe σ vs ∧ tt σ2 H2 fun b H3 =>
      if b = true then tk σ2 H3 fun y H4 => tv σ2 H4 fun z H5 => ∃ kvs k, y = kV k ∧ H5 D = some (.dK kvs) ∧ kvs.length < sizeLine ∧ Pv D (i + 1) (upd H5 D (.dK (putK kvs k z))) else Pv D (i + 1) H3) (hd : ∀ D H', Pv D xs.length H' → Q (.ref D) H') : tDc (iSeq K tl) g tt tk tv vs σ H Q := by
  obtain ⟨a, rfl, hq⟩ := hq
  rcases hq with hq | hq
  · exact he _ ⟨a, xs, rfl, .inl ⟨s0.seq hq, fun D nD => dc_it (walk_list (xs := xs)) (Pv D) (h0 D nD) (fun i H' _ p => (hl D i H' p).seq hq) (fun i x H' H'' _ p y => by
      obtain ⟨rfl, hx⟩ := y
      exact hs D i x _ hx p) (hd D)⟩⟩
  · exact he _ ⟨a, xs, rfl, .inr ⟨SqT.same hq s0, fun D nD => dc_it (walk_tup (xs := xs)) (Pv D) (h0 D nD) (fun i H' _ p => SqT.same hq (hl D i H' p)) (fun i x H' H'' _ p y => by
      obtain ⟨rfl, hx⟩ := y
      exact hs D i x _ hx p) (hd D)⟩⟩
theorem DTup.snoc {K : PySem.W.Frag} {H : Hp} {kvs : List (Key × V)} {ps : Rws} {z : Str} {xs : List Str} {a : Addr} (h : DTup K H kvs ps) (e : SqT K H a (xs.map .str)) (nz : z ∉ ps.map Prod.fst) : DTup K H (putK kvs (kS z) (.ref a)) (ps ++ [(z, xs)]) := by
  rw [putK_fresh]
  · exact Paired.snoc h ⟨rfl, a, rfl, e⟩
  · intro kv hkv e2
    obtain ⟨i, hi⟩ := List.getElem?_of_mem hkv
    obtain ⟨p, hp, e3, _⟩ := Paired.getL h hi
    rw [e3] at e2
    exact nz (List.mem_map.mpr ⟨p, List.mem_of_getElem? hp, Sum.inr.inj e2⟩)
theorem nodup_take {rs : Rws} (nd : (rs.map Prod.fst).Nodup) {i : Nat} {r : Str × List Str} (h : rs[i]? = some r) : r.1 ∉ (rs.take i).map Prod.fst := by
  intro m
  obtain ⟨p, hp, e⟩ := List.mem_map.mp m
  obtain ⟨j, hj⟩ := List.getElem?_of_mem hp
  have lj : j < i := by
    have := (List.getElem?_eq_some_iff.mp hj).1
    rw [List.length_take] at this
    omega
  rw [List.getElem?_take_of_lt lj] at hj
  have li := (List.getElem?_eq_some_iff.mp h).1
  have lj' : j < rs.length := (List.getElem?_eq_some_iff.mp hj).1
  have h1 : (rs.map Prod.fst)[j]? = some p.1 := by rw [List.getElem?_map, hj]; rfl
  have h2 : (rs.map Prod.fst)[i]? = some r.1 := by rw [List.getElem?_map, h]; rfl
  have := (List.getElem?_inj (by rw [List.length_map]; exact lj') nd).mp (h1.trans ((congrArg some e).trans h2.symm))
  omega
theorem arr_take {rs : Rws} {i : Nat} {r : Str × List Str} (h : rs[i]? = some r) : arr (rs.take (i + 1)) = arr (rs.take i) ++ r.2.map (fun s => (s, r.1)) := by
  unfold arr
  rw [List.take_succ, h, List.flatMap_append]
  congr 1
  simp
/-! ### rows that are rows pass the check -/
theorem isNm_len {z : Str} (h : isNm z = true) : z.length ≤ sizeLine := by
  unfold isNm at h
  obtain ⟨_, h⟩ := Bool.and_eq_true_iff.mp h
  obtain ⟨h, _⟩ := Bool.and_eq_true_iff.mp h
  have := of_decide_eq_true h
  rw [sizeLine_eq]
  omega
theorem nl_strs {K : PySem.W.Frag} {H : Hp} {v : V} {xs : List Str} (h : Seq K H v (xs.map .str)) (hl : xs.length ≤ 900) (hn : ∀ z ∈ xs, isNm z = true) (nd : xs.Nodup) : NLis K H v true := by
  refine .inr ⟨xs.map .str, xs.map fun _ => true, h, by rw [List.length_map]; exact hl, by rw [List.length_map, List.length_map], fun i x b e e2 => ?_, ?_⟩
  · rw [List.getElem?_map] at e e2
    obtain ⟨z, hz, rfl⟩ := Option.map_eq_some_iff.mp e
    rw [hz] at e2
    cases e2
    have := hn z (List.mem_of_getElem? hz)
    exact .inl ⟨z, rfl, isNm_len this, this.symm⟩
  · unfold nlB
    rw [strsOf_map, decide_eq_true nd, Bool.and_true]
    symm
    rw [List.all_eq_true]
    intro b hb
    obtain ⟨_, _, rfl⟩ := List.mem_map.mp hb
    rfl
theorem firstW_none : ∀ (l : List Str) (seen : List Str) (i : Nat), l.Nodup → (∀ z ∈ l, z ∉ seen) → firstW (l.map fun z => (true, z)) seen i = none
  | [], _, _, _, _ => rfl
  | z :: l, seen, i, nd, h => by
    obtain ⟨n1, n2⟩ := List.nodup_cons.mp nd
    show (if true = false ∨ z ∈ seen then some i else firstW (l.map fun z => (true, z)) (seen ++ [z]) (i + 1)) = none
    rw [if_neg (by rintro (e | e); cases e; exact h z (List.mem_cons_self ..) e)]
    refine firstW_none l _ _ n2 fun y hy m => ?_
    rcases List.mem_append.mp m with m | m
    · exact h y (List.mem_cons_of_mem _ hy) m
    · have : y = z := by simpa using m
      exact n1 (this ▸ hy)
theorem rows_ds {K : PySem.W.Frag} {H : Hp} : ∀ {vs : List V} {rs : Rws}, Paired (RowG K H) vs rs → (∀ r ∈ rs, isNm r.1 = true ∧ r.2.length ≤ 900 ∧ r.2.Nodup ∧ ∀ s ∈ r.2, isNm s = true) →
    ∃ ds : List (V × Bool × Str), ds.map Prod.fst = vs ∧ ds.map Prod.snd = (rs.map Prod.fst).map (fun z => (true, z)) ∧ ∀ d ∈ ds, RowD K H d
  | _, _, .nil, _ => ⟨[], rfl, rfl, fun d h => nomatch h⟩
  | v :: vs, r :: rs, .cons h t, g => by
    obtain ⟨ds, e1, e2, e3⟩ := rows_ds t fun r hr => g r (List.mem_cons_of_mem _ hr)
    obtain ⟨g1, g2, g3, g4⟩ := g r (List.mem_cons_self ..)
    obtain ⟨y, s1, s2⟩ := h
    refine ⟨(v, true, r.1) :: ds, by rw [List.map_cons, e1], by rw [List.map_cons, List.map_cons, List.map_cons, e2], fun d hd => ?_⟩
    rcases List.mem_cons.mp hd with rfl | hd
    · exact ⟨.inr ⟨_, s1, .inr ⟨.str r.1, y, true, true, rfl, .inl ⟨r.1, rfl, isNm_len g1, g1.symm⟩, nl_strs s2 g2 g4 g3, rfl⟩⟩, fun _ => ⟨y, s1⟩⟩
    · exact e3 d hd
theorem Good.names {rs : Rws} (g : Good rs) : ∀ r ∈ rs, isNm r.1 = true ∧ r.2.length ≤ 900 ∧ r.2.Nodup ∧ ∀ s ∈ r.2, isNm s = true := fun r hr => by
  obtain ⟨a, b, c⟩ := g.sr r hr
  refine ⟨g.nm r hr, a, b, fun s hs => ?_⟩
  obtain ⟨r', hr', rfl⟩ := List.mem_map.mp (c s hs)
  exact g.nm r' hr'
theorem good_check {K : PySem.W.Frag} {H : Hp} {Q : VK} {E : XK} {v : V} {vs : List V} {rs : Rws} (hs : Seq K H v vs) (hp : Paired (RowG K H) vs rs) (g : Good rs) (q : ∀ H', Same H H' → Q .non H') : spCheckRows K [v] H Q E := by
  obtain ⟨ds, e1, e2, e3⟩ := rows_ds hp g.names
  have hl : ds.length = rs.length := by
    have := congrArg List.length e1
    rw [List.length_map] at this
    rw [this]
    exact Paired.length hp
  refine ⟨v, rfl, .inr ⟨ds, by rw [e1]; exact hs, by have := g.ln; omega, e3, .inr ⟨?_, rs, hl.symm, fun i d r hd hr => ?_, .inr ⟨?_, q⟩⟩⟩⟩
  · unfold firstR
    have ne : ds ≠ [] := fun e => by
      rw [e] at hl
      have := g.l1
      rw [← hl] at this
      cases this
    rw [if_neg ne, e2]
    exact firstW_none _ _ _ g.nd fun z _ h => nomatch h
  · have hv : vs[i]? = some d.1 := by rw [← e1, List.getElem?_map, hd]; rfl
    obtain ⟨r', h1, h2⟩ := Paired.getL hp hv
    rw [hr] at h1
    cases h1
    exact ⟨h2, (g.sr r (List.mem_of_getElem? hr)).1⟩
  · unfold firstU
    refine find_none fun x hx => ?_
    obtain ⟨r, hr, hx⟩ := List.mem_flatMap.mp hx
    exact (g.sr r hr).2.2 x hx
/-- making a web: of bad rows nothing comes, of good ones a web -/
def spInit (K : PySem.W.Frag) (C : Addr) : Sp := fun vs H Q E => ∃ (p dx : Addr) (v : V), vs = [.ref p, v] ∧ H p = some (.ins C dx []) ∧
  ((∀ Q', spCheckRows K [v] H Q' E) ∨ ∃ (xs : List V) (rs : Rws), Seq K (hide p H) v xs ∧ Paired (RowG K (hide p H)) xs rs ∧ Good rs ∧ ∀ H', Same (hide p H) (hide p H') → IsWeb K H' C p rs → Q .non H')
end WL
end L2
namespace L2
namespace WL
open PySem PySem.Spec PyProof.Rows K1
theorem dget_inj {H : Hp} {a : Addr} {k : Key} {v : V} {kvs : List (Key × V)} (g : DGet H a (kV k) (some v)) (e : H a = some (.dK kvs)) : valV kvs k = some v := by
  rcases g with ⟨kvs', k', h | ⟨o, h⟩, e1, e2⟩ | ⟨kvs', k', b, h | ⟨o, h⟩, _⟩
  · rw [e] at h
    cases h
    have : k = k' := by
      cases k with
      | inl i => cases k' with
        | inl j => exact congrArg _ (V.int.inj e1)
        | inr z => cases e1
      | inr y => cases k' with
        | inl j => cases e1
        | inr z => exact congrArg _ (V.str.inj e1)
    rw [this]
    exact e2.symm
  · rw [e] at h
    cases h
  · rw [e] at h
    cases h
  · rw [e] at h
    cases h
end WL
end L2
set_option Elab.async false
set_option linter.all false
set_option maxRecDepth 100000
set_option maxHeartbeats 4000000
namespace L2
namespace WL
open PySem PySem.Spec PyProof.Rows K1
/-! ### the class's own words -/
/-- what is known of an own special method -/
structure Spc (K : PySem.W.Frag) (C : Addr) (m : Str) (f : Addr) : Prop where
  at_ : PySem.W.findIn K (.ref C) m = some (some (.ref f))
  fn : PySem.W.isFn K (.ref f) = true
section
variable {X : Cx} {CX : CXT} {k : Nat} {C f : Addr} {fd : FuncData} {ps : List Str} {sp : Sp} {E : XK}
/-- x in o, x not in o by the class's __contains__ -/
def rInO (C : Addr) (sp : Sp) (E : XK) (g : Bool → Bool) : R2 := fun x y H Q => ∃ a dx fs, y = .ref a ∧ H a = some (.ins C dx fs) ∧ sp [.ref a, x] H (fun v H' => ∃ b, v = .bl b ∧ Q (.bl (g b)) H') E
theorem op_inO (M : Spc X.K C "__contains__" f) (F : FnOk X.prog X.w X.K X.mg X.base CX k f fd ps sp) (hr : Room k X.A) (hb : Binds X.K fd ps []) (hx : Passes CX X E) : OpR X (compareOp .In) (rInO C sp E id) := by
  intro pins s σ H x y v u Q I rx ry h
  obtain ⟨a, dx, fs, rfl, ha, hsp⟩ := h
  obtain rfl : u = Value.ref a := ry
  obtain ⟨mA, J, _⟩ := ins_get I.hok ha
  obtain ⟨od, J, _⟩ := J.look
  obtain ⟨m, hF⟩ := I.fr
  refine PySem.W.in_K hF I.ok.mod.kin J M.at_ M.fn ?_
  refine wpAny_mono (run_fn (us := [.ref a, v]) (vs := [.ref a, x]) F hr hb .nil hx I (.cons rfl (.cons rx .nil)) hsp) (fun r s' q => ?_) fun _ _ z => z
  obtain ⟨z, H', I', rz, b, rfl, q⟩ := q
  cases rz
  exact wpAny_truthy_bool ⟨.bl b, H', I', rfl, q⟩
theorem op_notInO (M : Spc X.K C "__contains__" f) (F : FnOk X.prog X.w X.K X.mg X.base CX k f fd ps sp) (hr : Room k X.A) (hb : Binds X.K fd ps []) (hx : Passes CX X E) : OpR X (compareOp .NotIn) (rInO C sp E not) := by
  intro pins s σ H x y v u Q I rx ry h
  obtain ⟨a, dx, fs, rfl, ha, hsp⟩ := h
  obtain rfl : u = Value.ref a := ry
  obtain ⟨mA, J, _⟩ := ins_get I.hok ha
  obtain ⟨od, J, _⟩ := J.look
  obtain ⟨m, hF⟩ := I.fr
  refine PySem.W.notIn_K hF I.ok.mod.kin J M.at_ M.fn ?_
  refine wpAny_mono (run_fn (us := [.ref a, v]) (vs := [.ref a, x]) F hr hb .nil hx I (.cons rfl (.cons rx .nil)) hsp) (fun r s' q => ?_) fun _ _ z => z
  obtain ⟨z, H', I', rz, b, rfl, q⟩ := q
  cases rz
  exact wpAny_truthy_bool ⟨.bl (!b), H', I', rfl, q⟩
/-- a def called within a built-in -/
theorem run_fnA {A : Around} {pins : List (Addr × Obj)} {σ : St} {H : Hp} {s : Shared} {Q : VK} {us : List Value} {vs : List V} (F : FnOk X.prog X.w X.K X.mg X.base CX k f fd ps sp) (sb : L2.Sub X k A) (hb : Binds X.K fd ps []) (hx : Passes CX X E)
    (I : Inv X pins σ H s) (r : Vals vs us) (h : sp vs H Q E) : wpAny (model X.prog X.w) A (call (.ref f) us) (EP X pins σ Q) X.xe s := by
  have z : Env0 X.prog X.w X.K X.mg X.base A X.stack s H := by
    have e := I.env0
    exact ⟨by rw [sb.fr]; exact e.frames, e.mod, e.bs, e.bsz, e.funs, e.frf, e.hok, e.bare⟩
  have bi := hb s us I.kIn (by rw [List.append_nil, ← r.length]; exact F.len _ _ _ _ h)
  rw [List.append_nil] at bi
  refine wpAny_call (codeAny_mono (F.run A X.stack s H ⟨us, []⟩ us vs Q E sb.room z bi r h) fun g s' hq => ?_)
  match g, hq with
  | .error e, hq => exact hx pins σ H s e s' I hq
  | .ok (.ret _), hq => exact I.after hq
  | .ok .next, hq => exact False.elim hq
  | .ok .brk, hq => exact False.elim hq
  | .ok .cont, hq => exact False.elim hq
/-- .. by a def that lets nothing out -/
theorem run_fn0 {A : Around} {pins : List (Addr × Obj)} {σ : St} {H : Hp} {s : Shared} {Q : VK} {us : List Value} {vs : List V} {E2 : Value → Shared → Prop} (F : FnOk X.prog X.w X.K X.mg X.base CX0 k f fd ps sp) (sb : L2.Sub X k A) (hb : Binds X.K fd ps [])
    (I : Inv X pins σ H s) (r : Vals vs us) (h : sp vs H Q E) : wpAny (model X.prog X.w) A (call (.ref f) us) (EP X pins σ Q) E2 s := by
  have z : Env0 X.prog X.w X.K X.mg X.base A X.stack s H := by
    have e := I.env0
    exact ⟨by rw [sb.fr]; exact e.frames, e.mod, e.bs, e.bsz, e.funs, e.frf, e.hok, e.bare⟩
  have bi := hb s us I.kIn (by rw [List.append_nil, ← r.length]; exact F.len _ _ _ _ h)
  rw [List.append_nil] at bi
  refine wpAny_call (codeAny_mono (F.run A X.stack s H ⟨us, []⟩ us vs Q E sb.room z bi r h) fun g s' hq => ?_)
  match g, hq with
  | .error e, hq => exact hq.elim
  | .ok (.ret _), hq => exact I.after hq
  | .ok .next, hq => exact False.elim hq
  | .ok .brk, hq => exact False.elim hq
  | .ok .cont, hq => exact False.elim hq
/-- len(o) by the class's __len__ -/
def rLenO (C : Addr) (sp : Sp) (E : XK) : List V → Hp → VK → Prop := fun xs H Q => ∃ a dx fs, xs = [.ref a] ∧ H a = some (.ins C dx fs) ∧ sp [.ref a] H (fun v H' => ∃ n : Nat, v = .int (n : Nat) ∧ n < 2 ^ 60 ∧ Q (.int (n : Nat)) H') E
theorem call_lenO (M : Spc X.K C "__len__" f) (F : FnOk X.prog X.w X.K X.mg X.base CX k f fd ps sp) (hr : Room (k + 1) X.A) (hb : Binds X.K fd ps []) (hx : Passes CX X E) : CallR X (.builtin "len") (rLenO C sp E) := by
  intro pins s σ H xs us Q I r h
  obtain ⟨a, dx, fs, rfl, ha, hsp⟩ := h
  obtain ⟨u, rfl, ru⟩ := vals1 r
  cases ru
  obtain ⟨mA, J, _⟩ := ins_get I.hok ha
  obtain ⟨od, J, _⟩ := J.look
  obtain ⟨m, hF⟩ := I.fr
  refine PySem.W.len_K hF I.ok.mod.kin J M.at_ M.fn ?_
  refine wpAny_mono (run_fnA (us := [.ref a]) (vs := [.ref a]) F (L2.Sub.in1 ⟨hr, rfl⟩) hb hx I (.cons rfl .nil) hsp) (fun r s' q => ?_) fun _ _ z => z
  obtain ⟨z, H', I', rz, n, rfl, hn, q⟩ := q
  obtain ⟨t, rfl⟩ := rz
  have hn2 : n < 2 ^ 63 := Nat.lt_of_lt_of_le hn (by decide)
  exact ⟨⟨by omega, by have : ((2 ^ 63 : Nat) : Int) = 2 ^ 63 := by decide
                       omega⟩, .int (n : Nat), H', I'.tok _, ⟨_, rfl⟩, q⟩
end
/-! ### o walked, by an __iter__ that gives the iterator of a tuple -/
abbrev itTup (t : Addr) : Obj := { cls := .type "tuple_iterator", data := .fields #[.ref t, .int 0 0] }
/-- a new iterator of the tuple at t -/
def ItT (t it : Addr) : HO := .ext fun h => h.get? it = some (itTup t)
section
variable {P : Program} {w : World} {H : Hp} {h : Heap} {t it : Addr}
theorem itT_ok (e : h.get? it = some (itTup t)) : ObjOk P w H h it (ItT t it) := ⟨e, ⟨_, e⟩, fun _ _ z k => k _ z⟩
end
section
variable {X : Cx}
def rIterT (K : PySem.W.Frag) (n : Nat) : List V → Hp → VK → Prop := fun xs H Q => ∃ (t : Addr) (zs : List V), xs = [.ref t] ∧ SqT K H t zs ∧ ∀ it, H it = none → n ≤ it → Q (.ref it) (upd H it (ItT t it))
theorem call_iterT : CallR X (.builtin "iter") (rIterT X.K X.s_0.heap.objs.size) := by
  intro pins s σ H xs us Q I r h
  obtain ⟨t, zs, rfl, hq, q⟩ := h
  obtain ⟨u, rfl, ru⟩ := vals1 r
  cases ru
  obtain ⟨its, rv, pl, hz⟩ := I.tuple hq
  have ht : s.heap.IsTuple t its.toArray := pl
  refine Calls.call_function_entry (by decide +kernel) (by decide +kernel) PySem.W.kdk_entry_iter (PySem.W.kdk_args_iter _) ?_
  unfold Builtin.«iter»
  refine wpAny_bind (m := someArgs "iter" 1 2 _) (wpAny_of_eq (a := [Value.ref t]) (by first | rfl | kernel_rfl!) ?_)
  show wpAny _ _ (pyIter (.ref t) >>= _) _ _ _
  refine wpAny_bind (wpAny_pyIter_tuple ht (wpAny_pure ⟨_, rfl, ?_⟩))
  exact ⟨.ref s.heap.objs.size, _, I.laid (t' := s.toks) (fun b u e => Heap.get?_push_of_some _ e) (Nat.le_refl _) (itT_ok (Heap.get?_push_size _ rfl)), rfl, q _ (I.hok.fresh (Nat.le_refl _)) I.sz⟩
end
/-- one run of a def whose body is walked for this one state -/
theorem run_at {CX : CXT} {P : Program} {w : World} {K : PySem.W.Frag} {mg : Str → Option Value} {base : Heap} {k : Nat} {f : Addr} {fd : FuncData} {x qual : Str} {params : Arguments} {body : List Stmt} {scope : Scope} {N ps : List Str} {A : Around} {outer : List Env} {s : Shared} {H : Hp} {us : List Value} {vs : List V} {Q : VK} {E : XK}
    (F : FunD K x qual params body scope [] [] f fd) (S : FnScope N ps scope) (hl : vs.length = ps.length) (hr : Room (k + 1) A) (e0 : Env0 P w K mg base A outer s H) (hb : BindsTo s fd ⟨us, []⟩ (ps.zip us)) (r : Vals vs us)
    (hbody : ∀ cdv, Room k (A.deeper (envOfC qual scope s.heap.objs.size f cdv)) → ∃ t, PSs (cxOf CX P w K mg base N qual scope f cdv A outer s H E) body t ∧ t { nx := fun _ H' => Q .non H', rt := Q } (start N vs) H) :
    codeAny (model P w) A (.call (.ref f) ⟨us, []⟩) (CR CX outer P w H s Q E) s := by
  obtain ⟨oc, od, dV, kV, doc, pm, an, cdv, ct, osl, rfl, lk, hcd, _, _⟩ := F.ex
  have kin : K.In s.heap := e0.mod.kin.keeps fun b o e => (e0.bs b o e).1
  have nol : s.heap.NoLimit := e0.mod.nolimit.keeps fun b o e => (e0.bs b o e).1
  have kinds : ∀ y ∈ ps.zip us, scope.names.lookup y.1 = some .local ∨ (scope.names.lookup y.1 = some .cell ∧ ((cellsFrom (s.heap.objs.size + 1) scope.names []).lookup y.1).isSome = true) := by
    rintro ⟨n, v⟩ hy
    exact (S.par n (List.of_mem_zip hy).1).elim .inl fun q => .inr ⟨q, PySem.W.cellsFrom_some _ _ _ (.inl q)⟩
  refine codeAny_call_function hr.depth (kin _ _ lk) rfl S.co S.gen rfl (PySem.W.codeRec_of kin hcd) (hb _ _ _ _ (wpAny_newFunctionEnv_cells S.kind kinds fun env he s1 x => ?_))
  subst he
  refine ⟨nol.keeps x.toInCall.keep, codeAny_func ?_⟩
  obtain ⟨t, ht, hq⟩ := hbody cdv (hr.deeper _)
  have I : Inv (cxOf CX P w K mg base N qual scope f cdv A outer s H E) [] (start N vs) H s1 := inv_start S hr.hd e0 hl r x
  refine wpAny_mono (ht.run [] s1 (start N vs) H _ I hq) (fun fl s' hs => ?_) fun e s' hs => hs
  match fl, hs with
  | .ret u, ⟨v, σ', H', J, rv, q⟩ => exact ⟨v, H', J.os, J.bare, J.base, J.hok, rv, q⟩
  | .next, ⟨σ', H', J, q⟩ => exact ⟨.non, H', J.os, J.bare, J.base, J.hok, rfl, q⟩
  | .brk, ⟨_, _, _, q⟩ => exact False.elim q
  | .cont, ⟨_, _, _, q⟩ => exact False.elim q
/-- what is known of a class whose __iter__ gives the iterator of its cells -/
structure OwnIt (P : Program) (w : World) (K : PySem.W.Frag) (mg : Str → Option Value) (base : Heap) (C f : Addr) (fd : FuncData) (fld : Str) : Prop where
  sp : Spc K C "__iter__" f
  bd : Binds K fd ["self"] []
  run : ∀ (A : Around) (outer : List Env) (s : Shared) (H : Hp) (p dx t : Addr) (fs : List (Str × V)) (zs : List V) (Q : VK) (E : XK), Room 1 A → Env0 P w K mg base A outer s H → BindsTo s fd ⟨[.ref p], []⟩ ((["self"] : List Str).zip [Value.ref p]) → H p = some (.ins C dx fs) → fs.lookup fld = some (.ref t) → SqT K H t zs →
    (∀ it, H it = none → s.heap.objs.size ≤ it → Q (.ref it) (upd H it (ItT t it))) → codeAny (model P w) A (.call (.ref f) ⟨[.ref p], []⟩) (CR CX0 outer P w H s Q E) s
section
variable {X : Cx} {C f : Addr} {fd : FuncData} {fld : Str}
theorem own_iter (M : OwnIt X.prog X.w X.K X.mg X.base C f fd fld) {A : Around} (sb : L2.Sub X 1 A) {pins : List (Addr × Obj)} {σ : St} {H : Hp} {s : Shared} {p dx t : Addr} {fs : List (Str × V)} {zs : List V} (I : Inv X pins σ H s) (hp : H p = some (.ins C dx fs)) (hl : fs.lookup fld = some (.ref t)) (ht : SqT X.K H t zs)
    {Q : Value → Shared → Prop} (h : ∀ it s', Inv X pins σ H s' → s'.heap.IsTupleIter it t 0 → FpOk X pins H it → Q (.ref it) s') : wpAny (model X.prog X.w) A (pyIter (.ref p)) Q X.xe s := by
  obtain ⟨mA, J, _⟩ := ins_get I.hok hp
  obtain ⟨od, J, _⟩ := J.look
  obtain ⟨m, hF⟩ := I.fr
  refine PySem.W.owit_iter hF I.ok.mod.kin J M.sp.at_ M.sp.fn ?_
  have z : Env0 X.prog X.w X.K X.mg X.base A X.stack s H := by
    have e := I.env0
    exact ⟨by rw [sb.fr]; exact e.frames, e.mod, e.bs, e.bsz, e.funs, e.frf, e.hok, e.bare⟩
  have bi := M.bd s [.ref p] I.kIn rfl
  refine wpAny_call (codeAny_mono (M.run A X.stack s H p dx t fs zs (fun v H' => ∃ it, v = .ref it ∧ H it = none ∧ s.heap.objs.size ≤ it ∧ H' = upd H it (ItT t it)) (fun _ _ _ => False) sb.room z bi hp hl ht fun it n1 n2 => ⟨it, rfl, n1, n2, rfl⟩) fun g s' hq => ?_)
  match g, hq with
  | .error e, hq => exact hq.elim
  | .ok (.ret u), hq =>
    obtain ⟨v, H', I', rv, it, rfl, n1, n2, rfl⟩ := I.after hq
    cases rv
    have e0 : s'.heap.get? it = some (itTup t) := (I'.hok it _ (upd_same (o := ItT t it))).1
    have I2 : Inv X pins σ H s' := by
      have := ItX.inv_drop I' (a := it) (upd_same (o := ItT t it))
      rw [ItX.dropH_upd n1] at this
      exact this
    have fp : FpOk X pins H it := by
      have := ItX.inv_fp I' (upd_same (o := ItT t it)) (Nat.le_trans I.sz n2)
      rw [ItX.dropH_upd n1] at this
      exact this
    have hi : s'.heap.IsTupleIter it t 0 := ⟨_, e0, rfl, rfl⟩
    unfold PySem.W.OwitIt
    exact wpAny_specialOf hi.typeIs PySem.F.slot_tuple_iterator_next.lookup (h it s' I2 hi fp)
  | .ok .next, hq => exact False.elim hq
  | .ok .brk, hq => exact False.elim hq
  | .ok .cont, hq => exact False.elim hq
/-- for x in o -/
def iOwn (K : PySem.W.Frag) (C : Addr) (fld : Str) (tl : TE) : TI := fun σ H R => tl σ H fun x H1 => ∃ p dx fs t zs, x = .ref p ∧ H1 p = some (.ins C dx fs) ∧ fs.lookup fld = some (.ref t) ∧ SqT K H1 t zs ∧ R (Itt K t) H1
theorem pi_own (M : OwnIt X.prog X.w X.K X.mg X.base C f fd fld) (hr : Room 1 X.A) {tg l : Expr} {tl : TE} (hl : PE X l tl) : PI X tg l (iOwn X.K C fld tl) := by
  refine ⟨fun pins s σ H R I h => ?_⟩
  refine thn (hl.run pins s σ H _ I h) fun v s1 ⟨x, H1, I1, r1, p, dx, fs, t, zs, e, hp, hf, ht, q⟩ => ?_
  subst e
  cases r1
  refine own_iter M ⟨hr, rfl⟩ I1 hp hf ht fun it s2 I2 hi fp => ?_
  exact ⟨it, [it], _, _, H1, rfl, I2, turn_tuple t it, hi, fun b hb => by rw [List.mem_singleton.mp hb]; exact fp, q⟩
end
end WL
end L2
set_option Elab.async false
set_option linter.all false
set_option maxRecDepth 100000
set_option maxHeartbeats 4000000
namespace L2
namespace WL
open PySem PySem.Spec PyProof.Rows K1
section
variable {X : Cx} {pins : List (Addr × Obj)} {σ : St} {H : Hp} {A1 : Around} {q it t : Addr} {zs : List V} {Rs : Result → Shared → Prop}
/-- the list at q filled from the iterator of a tuple -/
theorem own_fill (hh : A1.in1.handled = none) (hqi : it ≠ q) (ht : ∀ i, SqT X.K (upd H q (.lst (zs.take i))) t zs) (fp : FpOk X pins H it) (hdone : ∀ s, Inv X pins σ (upd H q (.lst zs)) s → Rs (.ok (.ret .none)) s) :
    ∀ (n i : Nat) (s : Shared), zs.length - i = n → i ≤ zs.length → Inv X pins σ (upd H q (.lst (zs.take i))) s → s.heap.IsTupleIter it t i → codeAny (model X.prog X.w) A1 (.builtin "list.extend.loop" ⟨[.ref q, .ref it, .none], []⟩) Rs s := by
  intro n
  induction n with
  | zero =>
    intro i s hn hi I st
    have e : i = zs.length := by omega
    subst e
    rw [List.take_length] at I
    refine codeAny_builtin PySem.F.entry_extend_loop ?_
    rw [Around.under_plainId PySem.F.plain_extend_loop _]
    show wpAny _ A1.in1 (pyNext (.ref it) >>= _) _ _ s
    have ht' := ht zs.length
    rw [List.take_length] at ht'
    obtain ⟨its, rv, p, hz⟩ := I.tuple ht'
    have hl := rv.length
    obtain ⟨f0, f1, f2, f3, f4, f5⟩ := fp
    refine wpAny_bind (wpAny_pyNext_tuple_end hh st (show s.heap.IsTuple t its.toArray from p) (by simp; omega) fun h' eb => wpAny_pure (hdone _ ?_))
    exact I.turned (t' := s.toks) (fun b o hb e => eb b o hb e) (by rw [upd_ne hqi]; exact f0) f1 f3 f4 f5
  | succ n ih =>
    intro i s hn hi I st
    have lt : i < zs.length := by omega
    refine codeAny_builtin PySem.F.entry_extend_loop ?_
    rw [Around.under_plainId PySem.F.plain_extend_loop _]
    show wpAny _ A1.in1 (pyNext (.ref it) >>= _) _ _ s
    obtain ⟨its, rv, p, hz⟩ := I.tuple (ht i)
    obtain ⟨u, hu, ru⟩ := rv.get (List.getElem?_eq_getElem lt)
    obtain ⟨f0, f1, f2, f3, f4, f5⟩ := id fp
    refine wpAny_bind (wpAny_pyNext_tuple_item st (show s.heap.IsTuple t its.toArray from p) (x := u) (by simpa using hu) fun h' st' sb => ?_)
    have I1 : Inv X pins σ (upd H q (.lst (zs.take i))) { s with heap := h' } := I.turned (t' := s.toks) (fun b o hb e => (sb.2 b hb).trans e) (by rw [upd_ne hqi]; exact f0) f1 f3 f4 f5
    show wpAny _ A1.in1 (updateSeq q (·.push u) >>= _) _ _ _
    obtain ⟨z, its2, k, r2, hl, e⟩ := I1.lstM upd_same
    have hz2 : zs.length ≤ sizeLine := hz
    have hll : its2.length = i := by
      rw [← hl, List.length_take]
      omega
    refine wpAny_bind (wpAny_updateSeq e rfl (wpAny_pure ⟨plainId_quiet PySem.F.plain_extend_loop _, ?_⟩) (by rw [List.size_toArray]; omega) (by show (its2.toArray.push u).size ≤ sizeLine + 1; rw [Array.size_push, List.size_toArray]; omega))
    have tk : zs.take (i + 1) = zs.take i ++ [zs[i]] := by rw [List.take_succ, List.getElem?_eq_getElem lt]; rfl
    have I2 := I1.lset (its' := its2 ++ [u]) (ys := zs.take (i + 1)) (f := (·.push u)) (t' := s.toks) upd_same e (by simp) (by rw [tk]; exact r2.append (.cons ru .nil)) (by rw [List.length_take]; omega)
    rw [upd_upd] at I2
    exact ih (i + 1) _ (by omega) (by omega) I2 (st'.at fun o e => (Heap.get?_update_other _ _ (Ne.symm hqi)).trans e)
end
section
variable {X : Cx} {CX : CXT} {k : Nat} {C f g : Addr} {fd gd : FuncData} {fld : Str} {spL : Sp} {EL : XK}
/-- the length that the class's __len__ tells -/
theorem own_hintL {pins : List (Addr × Obj)} {σ : St} {H : Hp} {s : Shared} {A : Around} {p dx : Addr} {fs : List (Str × V)} {n : Nat} {Q : Bool → Shared → Prop} (M : Spc X.K C "__len__" g) (F : FnOk X.prog X.w X.K X.mg X.base CX0 k g gd ["self"] spL) (sb : L2.Sub X (k + 1) A) (hb : Binds X.K gd ["self"] [])
    (I : Inv X pins σ H s) (hp : H p = some (.ins C dx fs)) (hn : n ≤ 1000) (hsp : spL [.ref p] H (fun v H' => v = .int (n : Nat) ∧ H' = H) EL) (h : ∀ s', Inv X pins σ H s' → Q (decide (n ≠ 0)) s') :
    wpAny (model X.prog X.w) A (Builtin.List.listLengthHint (.ref p)) Q X.xe s := by
  obtain ⟨mA, J, _⟩ := ins_get I.hok hp
  obtain ⟨od, J, _⟩ := J.look
  obtain ⟨m, hF⟩ := I.fr
  unfold Builtin.List.listLengthHint
  refine wpAny_bind (wpAny_bind (J.type.here ((PySem.W.looks_findIn I.kIn M.at_).here ?_)))
  refine PySem.W.KFB.if_not rfl ?_
  refine PySem.W.KFB.if_so rfl ?_
  refine wpAny_bind (wpAny_rule ?_)
  refine wpAny_bind (wpAny_attempt ?_)
  refine PySem.W.len_K hF I.ok.mod.kin J M.at_ M.fn ?_
  refine wpAny_mono (run_fn0 (us := [.ref p]) (vs := [.ref p]) F (L2.Sub.in1 sb) hb I (.cons rfl .nil) hsp) (fun r s' q => ?_) fun e s' he => he
  obtain ⟨z, H', I', rz, rfl, rfl⟩ := q
  obtain ⟨t, rfl⟩ := rz
  refine ⟨⟨by omega, by omega⟩, ?_⟩
  refine wpAny_bind (wpAny_of_eq (a := some (n : Int)) rfl ?_)
  show wpAny _ A (if Builtin.List.listTooLong (n : Int).toNat = true then _ else pure ((n : Int) != 0)) _ _ _
  rw [Int.toNat_natCast, notLongL (by rw [sizeLine_eq]; omega)]
  refine PySem.W.KFB.if_not rfl (wpAny_pure ?_)
  have e : ((n : Int) != 0) = decide (n ≠ 0) := by
    by_cases z : n = 0
    · subst z
      rfl
    · rw [decide_eq_true z]
      simp [z]
  rw [e]
  exact h _ (I'.tok _)
/-- list(o), o with an own __iter__ over the tuple in the field fld and an own __len__ -/
def rListO (K : PySem.W.Frag) (C : Addr) (fld : Str) (spL : Sp) (EL : XK) : List V → Hp → VK → Prop := fun xs H Q => ∃ p dx fs t zs, xs = [.ref p] ∧ H p = some (.ins C dx fs) ∧ fs.lookup fld = some (.ref t) ∧ H t = some (.tup zs) ∧ zs.length ≤ 1000 ∧
  ∀ q, H q = none → (∃ n : Nat, n ≤ 1000 ∧ spL [.ref p] (upd H q (.lst [])) (fun v H' => v = .int (n : Nat) ∧ H' = upd H q (.lst [])) EL) ∧ Q (.ref q) (upd H q (.lst zs))
theorem call_listO (hc : X.calm = true) (M : OwnIt X.prog X.w X.K X.mg X.base C f fd fld) (L : Spc X.K C "__len__" g) (F : FnOk X.prog X.w X.K X.mg X.base CX0 k g gd ["self"] spL) (hb : Binds X.K gd ["self"] []) (hr : Room (k + 3) X.A) : CallR X (.type "list") (rListO X.K C fld spL EL) := by
  intro pins s σ H xs us Q I rv h
  obtain ⟨p, dx, fs, t, zs, rfl, hp, hf, ht, hz, hq⟩ := h
  obtain ⟨u, rfl, ru⟩ := rv.one
  cases ru
  have s2 : L2.Sub X (k + 1) X.A.in1.in1 := L2.Sub.in1 (L2.Sub.in1 (⟨hr, rfl⟩ : L2.Sub X (k + 3) X.A))
  refine callType_codes (Q₁ := fun obj s₁ => obj = .ref s.heap.objs.size ∧ s₁ = { s with heap := s.heap.push { cls := .type "list", data := .seq #[] } }) PySem.F.called_list (PySem.F.typeCall_list_1 _) PySem.F.entry_list_init
    (code_list_new _ ⟨rfl, rfl⟩) fun obj s₁ h₁ => ?_
  obtain ⟨rfl, rfl⟩ := h₁
  have hS : (s.heap.push { cls := .type "list", data := .seq #[] }).get? s.heap.objs.size = some { cls := .type "list", data := .seq #[] } := Heap.get?_push_size _ rfl
  have fr : H s.heap.objs.size = none := I.hok.fresh (Nat.le_refl _)
  obtain ⟨⟨n, hn, hsp⟩, q⟩ := hq _ fr
  refine ⟨⟨_, hS, rfl⟩, PySem.F.args_list_init_2 _ _, ?_⟩
  have I1 : Inv X pins σ (upd H s.heap.objs.size (.lst [])) { s with heap := s.heap.push { cls := .type "list", data := .seq #[] } } := I.lnew (its := []) (t' := s.toks) .nil (Nat.zero_le _)
  show wpAny _ _ (Builtin.List.listItems (.ref s.heap.objs.size) >>= _) _ _ _
  refine wpAny_bind ?_
  unfold Builtin.List.listItems
  refine wpAny_bind (wpAny_seqItems hS rfl (wpAny_pure ?_))
  show wpAny _ _ (updateSeq s.heap.objs.size (fun _ => #[]) >>= fun _ => letGo (#[] : Array Value).toList.reverse >>= fun _ => _) _ _ _
  have I2 := I1.lset (f := fun _ => #[]) (its := []) (its' := []) (ys := []) (t' := s.toks) upd_same hS rfl .nil (Nat.zero_le _)
  rw [upd_upd] at I2
  refine wpAny_bind (wpAny_updateSeq hS rfl (wpAny_bind (wpAny_letGo ?_)))
  generalize hsz : s.heap.objs.size = d at *
  generalize hh2 : Heap.update (s.heap.push { cls := .type "list", data := .seq #[] }) d (Obj.mapSeq fun _ => #[]) = h2 at I2 ⊢
  have pd : p ≠ d := ne_of_none hp fr
  have td : t ≠ d := ne_of_none ht fr
  have hp2 : upd H d (.lst []) p = some (.ins C dx fs) := by rw [upd_ne pd]; exact hp
  have ht2 : ∀ ys, SqT X.K (upd H d (.lst ys)) t zs := fun ys => SqT.of (by rw [upd_ne td]; exact ht)
  obtain ⟨mA, J, _⟩ := ins_get I2.hok hp2
  obtain ⟨od, J, _⟩ := J.look
  show wpAny _ _ (Builtin.List.listExtendWith (.ref d) (.ref p) .none) _ _ _
  unfold Builtin.List.listExtendWith
  refine wpAny_bind (J.type.here ?_)
  have e1 : Builtin.List.listSameRef (.ref d) (.ref p) = false := by simp [Builtin.List.listSameRef, Ne.symm pd]
  have e2 : (Value.ref C == Value.type "list") = false := rfl
  have e3 : (Value.ref C == Value.type "tuple") = false := rfl
  simp only [e1, e2, e3, Bool.or_false, Bool.false_eq_true, if_false]
  refine wpAny_bind (own_iter M (s2.mono (by omega)) I2 hp2 hf (ht2 []) fun it s3 I3 hi fp => ?_)
  have itd : it ≠ d := fun z => by
    have := fp.1
    rw [z, upd_same] at this
    cases this
  have fpH : FpOk X pins H it := ⟨by have := fp.1; rw [upd_ne itd] at this; exact this, fp.2⟩
  obtain ⟨o, ho, hoc, hod⟩ := id hi
  have I4 := I3.pinned (fp := [it]) (fun b hb => by rw [List.mem_singleton.mp hb]; exact fp) (fun b hb => by
    rw [List.mem_singleton.mp hb]
    exact ⟨o, ho, fun v z => by rw [hod] at z; cases z⟩)
  refine wpAny_bind (wpAny_holding (own_hintL L F s2 hb I4 hp2 hn hsp fun s5 I5 => ?_))
  have pn := (I5.pin (it, o) (List.mem_append_right _ (List.mem_append_right _ (mem_pinsAt (List.mem_singleton.mpr rfl) ho)))).1
  have hi5 : s5.heap.IsTupleIter it t 0 := ⟨o, pn, hoc, hod⟩
  have I6 := I5.unpinned
  have hA : X.A.in1.in1.handled = none := I.ok.hd hc
  have fill : ∀ s6, Inv X pins σ (upd H d (.lst [])) s6 → s6.heap.IsTupleIter it t 0 → codeAny (model X.prog X.w) X.A.in1 (.builtin "list.extend.loop" ⟨[.ref d, .ref it, .none], []⟩) (wants (fun r s₂ => r = .none ∧ EP X pins σ Q (.ref d) s₂) X.xe) s6 := fun s6 I7 h7 =>
    own_fill (H := H) hA itd (fun i => ht2 _) fpH (fun s8 I8 => ⟨rfl, .ref d, _, I8, rfl, q⟩) zs.length 0 s6 (by omega) (Nat.zero_le _) I7 h7
  refine wpAny_ite_split (fun _ => ?_) (fun _ => wpAny_pure ⟨plainId_quiet PySem.F.plain_extend_loop _, fill _ I6 hi5⟩)
  obtain ⟨z3, its3, k3, r3, hl3, w3⟩ := I6.lstM upd_same
  cases r3
  refine wpAny_bind (wpAny_rule (wpAny_bind ?_))
  show wpAny _ _ (updateSeq d (·.push .none) >>= fun _ => updateSeq d (·.pop)) _ _ _
  refine wpAny_bind (wpAny_updateSeq w3 rfl ?_)
  have I7 := I6.lset (f := (·.push Value.none)) (its' := [Value.none]) (ys := [.non]) (t' := s5.toks) upd_same w3 (by simp) (.cons rfl .nil) (by rw [List.length_singleton, sizeLine_eq]; decide)
  obtain ⟨z4, its4, k4, r4, hl4, w4⟩ := I7.lstM upd_same
  obtain ⟨u4, rfl, ru4⟩ := r4.one
  refine wpAny_updateSeq w4 rfl ?_ (by show 1 ≤ sizeLine; rw [sizeLine_eq]; decide) (by show 0 ≤ sizeLine + 1; exact Nat.zero_le _)
  have I8 := I7.lset (f := (·.pop)) (its := [u4]) (its' := []) (ys := []) (t' := s5.toks) upd_same w4 (by rfl) .nil (Nat.zero_le _)
  rw [upd_upd, upd_upd] at I8
  refine wpAny_pure ⟨plainId_quiet PySem.F.plain_extend_loop _, fill _ I8 ?_⟩
  exact (hi5.at fun o e => (Heap.get?_update_other _ _ (Ne.symm itd)).trans e).at fun o e => (Heap.get?_update_other _ _ (Ne.symm itd)).trans e
end
end WL
end L2
set_option Elab.async false
set_option linter.all false
set_option maxRecDepth 100000
set_option maxHeartbeats 4000000
namespace L2
namespace WL
open PySem PySem.Spec PyProof.Rows K1
/-! ### {elt for x in xs for y in ys}: sets of anything -/
/-- what `add D y H N` asks is enough for set.add -/
def AddOk (X : Cx) (add : Addr → V → Hp → (Hp → Prop) → Prop) : Prop := ∀ (pins : List (Addr × Obj)) (σ : St) (H : Hp) (s : Shared) (E : Value → Shared → Prop) (D : Addr) (y : V) (u : Value) (N : Hp → Prop) (Q : Value → Shared → Prop), Inv X pins σ H s → RelV y u → add D y H N →
  (∀ r H' s', N H' → Inv X pins σ H' s' → Q r s') → wpAny (model X.prog X.w) X.A (call (.builtin "set.add") [.ref D, u]) Q E s
section
variable {elt t0 i0 t1 i1 : Expr} {f0 f1 : List Expr} {scope : Scope} {pos : Pos}
/-- the comprehension itself -/
abbrev sc2 (elt t0 i0 t1 i1 : Expr) (f0 f1 : List Expr) (scope : Scope) (pos : Pos) : Expr := .SetComp elt [⟨t0, i0, f0, 0⟩, ⟨t1, i1, f1, 0⟩] scope pos
theorem sc2_turn0 (it acc : Value) (env : Env) : compTurn (sc2 elt t0 i0 t1 i1 f0 f1 scope pos) 0 it acc env = (do
      standAt i0.pos
      match ← pyNext it with
      | none => pure (.done .next)
      | some v =>
        letOwnedTupleGo t0 it v
        assign t0 env v
        let mut good := true
        for c in f0 do
          if good then good ← isTrue c env (eval c env)
        if good then
          let y ← eval i1 env
          standAt i1.pos
          let y ← foldedSetIterable i1 env y
          let _ ← runOwn (.compStart (sc2 elt t0 i0 t1 i1 f0 f1 scope pos) 1 (← holding [y] (pyIter y)) acc env) env
        again (.compLoop (sc2 elt t0 i0 t1 i1 f0 f1 scope pos) 0 it acc env)) := by rfl
theorem sc2_turn1 (it acc : Value) (env : Env) : compTurn (sc2 elt t0 i0 t1 i1 f0 f1 scope pos) 1 it acc env = (do
      standAt i1.pos
      match ← pyNext it with
      | none => pure (.done .next)
      | some v =>
        letOwnedTupleGo t1 it v
        assign t1 env v
        let mut good := true
        for c in f1 do
          if good then good ← isTrue c env (eval c env)
        if good then
          (do let v ← eval elt env; standAt elt.pos; let _ ← call (.builtin "set.add") [acc, v])
        again (.compLoop (sc2 elt t0 i0 t1 i1 f0 f1 scope pos) 1 it acc env)) := by rfl
variable {prog : Program} {w : World} {A : Around} {R : Result → Shared → Prop} {s : Shared} {it acc : Value} {env : Env}
theorem sc2_loop0 (hs : ∀ x, foldedSetIterable i1 env x = pure x) (I : Nat → Shared → Prop)
    (turn : ∀ n s, I n s → wpAny (model prog w) A (pyNext it) (fun r sa => match r with
      | none => R (.ok .next) sa
      | some v => wpAny (model prog w) A (letOwnedTupleGo t0 it v) (fun _ sb => wpAny (model prog w) A (assign t0 env v) (fun _ sc =>
          wpAny (model prog w) A (forIn f0 true fun c r => if r = true then do let good ← isTrue c env (eval c env); pure (ForInStep.yield good) else pure (ForInStep.yield r)) (fun good sd =>
            if good = true then wpAny (model prog w) A (eval i1 env) (fun x se => wpAny (model prog w) A (pyIter x) (fun jt sf =>
              codeAny (model prog w) A (.compStart (sc2 elt t0 i0 t1 i1 f0 f1 scope pos) 1 jt acc env) (fun r s' => match r with
                | .ok _ => ∃ m, m < n ∧ I m s'
                | .error _ => False) sf) (notedBy (model prog w) A env fun e s' => R (.error e) s') se) (notedBy (model prog w) A env fun e s' => R (.error e) s') sd
            else ∃ m, m < n ∧ I m sd) (notedBy (model prog w) A env fun e s' => R (.error e) s') sc) (notedBy (model prog w) A env fun e s' => R (.error e) s') sb) (notedBy (model prog w) A env fun e s' => R (.error e) s') sa) (notedBy (model prog w) A env fun e s' => R (.error e) s') s)
    (n : Nat) (h : I n s) : codeAny (model prog w) A (.compLoop (sc2 elt t0 i0 t1 i1 f0 f1 scope pos) 0 it acc env) R s := by
  refine codeAny_loop rfl I (fun n s hI => ?_) n h
  show wpAny _ A ((compTurn (sc2 elt t0 i0 t1 i1 f0 f1 scope pos) 0 it acc env).onRaise (fun x => do noteFrame x env; theTreesLotGoes x)) _ _ s
  refine wpAny_noted ?_
  rw [sc2_turn0]
  refine wpAny_bind (wpAny_standAt (wpAny_bind (wpAny_mono (turn n s hI) (fun r sa ha => ?_) fun _ _ z => z)))
  cases r with
  | none => exact wpAny_pure ha
  | some v =>
    refine wpAny_bind (wpAny_mono ha (fun _ sb hb => wpAny_bind (wpAny_mono hb (fun _ sc hc => wpAny_bind (wpAny_mono hc (fun good sd hd => ?_) fun _ _ z => z)) fun _ _ z => z)) fun _ _ z => z)
    cases good with
    | false => exact wpAny_pure ⟨rfl, hd⟩
    | true =>
      refine wpAny_bind (wpAny_mono hd (fun x se he => ?_) fun _ _ z => z)
      refine wpAny_bind (wpAny_standAt (wpAny_bind (wpAny_of_eq (hs x) (wpAny_bind (wpAny_holding (wpAny_mono he (fun jt sf hf => ?_) fun _ _ z => z))))))
      refine wpAny_bind (wpAny_runOwn ?_)
      rw [Around.mark_none]
      refine codeAny_mono hf fun r s' hr => ?_
      cases r with
      | error e => exact hr.elim
      | ok f =>
        first
          | exact wpAny_pure ⟨rfl, hr⟩
          | exact wpAny_bind (wpAny_pure (wpAny_pure ⟨rfl, hr⟩))
theorem sc2_loop1 (I : Nat → Shared → Prop)
    (turn : ∀ n s, I n s → wpAny (model prog w) A (pyNext it) (fun r sa => match r with
      | none => R (.ok .next) sa
      | some v => wpAny (model prog w) A (letOwnedTupleGo t1 it v) (fun _ sb => wpAny (model prog w) A (assign t1 env v) (fun _ sc =>
          wpAny (model prog w) A (forIn f1 true fun c r => if r = true then do let good ← isTrue c env (eval c env); pure (ForInStep.yield good) else pure (ForInStep.yield r)) (fun good sd =>
            if good = true then wpAny (model prog w) A (eval elt env) (fun x se =>
              wpAny (model prog w) A (call (.builtin "set.add") [acc, x]) (fun _ sf => ∃ m, m < n ∧ I m sf) (notedBy (model prog w) A env fun e s' => R (.error e) s') se) (notedBy (model prog w) A env fun e s' => R (.error e) s') sd
            else ∃ m, m < n ∧ I m sd) (notedBy (model prog w) A env fun e s' => R (.error e) s') sc) (notedBy (model prog w) A env fun e s' => R (.error e) s') sb) (notedBy (model prog w) A env fun e s' => R (.error e) s') sa) (notedBy (model prog w) A env fun e s' => R (.error e) s') s)
    (n : Nat) (h : I n s) : codeAny (model prog w) A (.compLoop (sc2 elt t0 i0 t1 i1 f0 f1 scope pos) 1 it acc env) R s := by
  refine codeAny_loop rfl I (fun n s hI => ?_) n h
  show wpAny _ A ((compTurn (sc2 elt t0 i0 t1 i1 f0 f1 scope pos) 1 it acc env).onRaise (fun x => do noteFrame x env; theTreesLotGoes x)) _ _ s
  refine wpAny_noted ?_
  rw [sc2_turn1]
  refine wpAny_bind (wpAny_standAt (wpAny_bind (wpAny_mono (turn n s hI) (fun r sa ha => ?_) fun _ _ z => z)))
  cases r with
  | none => exact wpAny_pure ha
  | some v =>
    refine wpAny_bind (wpAny_mono ha (fun _ sb hb => wpAny_bind (wpAny_mono hb (fun _ sc hc => wpAny_bind (wpAny_mono hc (fun good sd hd => ?_) fun _ _ z => z)) fun _ _ z => z)) fun _ _ z => z)
    cases good with
    | false => exact wpAny_pure ⟨rfl, hd⟩
    | true =>
      exact wpAny_bind (wpAny_bind (wpAny_mono hd (fun x se he => wpAny_bind (wpAny_standAt (wpAny_bind (wpAny_mono he (fun _ sf hf => wpAny_pure (wpAny_pure ⟨rfl, hf⟩)) fun _ _ z => z)))) fun _ _ z => z))
theorem sc2_start1 (h0 : codeAny (model prog w) A (.compLoop (sc2 elt t0 i0 t1 i1 f0 f1 scope pos) 1 it acc env) R s)
    (h : wpAny (model prog w) A (pyIter it) (fun it' s' => codeAny (model prog w) A (.compLoop (sc2 elt t0 i0 t1 i1 f0 f1 scope pos) 1 it' acc env) R s') (notedBy (model prog w) A env fun x s' => R (.error x) s') s) :
    codeAny (model prog w) A (.compStart (sc2 elt t0 i0 t1 i1 f0 f1 scope pos) 1 it acc env) R s := by
  refine codeAny_of_tree ?_
  show wpAny _ _ ((compStart (sc2 elt t0 i0 t1 i1 f0 f1 scope pos) 1 it acc env).onRaise (fun x => do noteFrame x env; standAt theWindowsPlace)) _ _ s
  refine wpAny_notedAt ?_
  unfold compStart
  show wpAny _ _ (ask >>= _) _ _ s
  refine wpAny_bind (wpAny_askSetting (wpAny_ite ?_))
  split
  · first
      | exact wpAny_bind (wpAny_pure (wpAny_pure (And.intro rfl h0)))
      | exact wpAny_pure (And.intro rfl h0)
  · first
      | exact wpAny_bind (wpAny_rule (wpAny_bind (wpAny_standAt (wpAny_bind (wpAny_mono h (fun it' s' h' => wpAny_pure (And.intro rfl h')) fun _ _ x => x)))))
      | (refine wpAny_bind (wpAny_rule ?_); show wpAny _ _ (standAt i1.pos >>= _) _ _ s; exact wpAny_bind (wpAny_standAt (wpAny_bind (wpAny_mono h (fun it' s' h' => wpAny_pure (And.intro rfl h')) fun _ _ x => x))))
end
section
variable {X : Cx}
/-- the inner loop, from H4 on, to N -/
def inSc2 (add : Addr → V → Hp → (Hp → Prop) → Prop) (J1 : It) (g1 : TG) (tt1 : TT) (te : TE) (vs1 : List Nat) (τ : St) (D : Addr) (N : Hp → Prop) (H4 : Hp) : Prop := ∃ W1 : Nat → Nat → Hp → Prop, (∃ m, W1 0 m H4) ∧ ∀ j k G, W1 j k G →
  (J1.stop j G ∧ N G) ∨ (J1.go j G ∧ ∃ N1 : Hp → Prop, (∀ G', N1 G' → ∃ n, n < k ∧ W1 (j + 1) n G') ∧ ∀ x G', J1.yld j G x G' → g1 x (wipe τ vs1) G' fun ρ H5 => wipe ρ vs1 = wipe τ vs1 ∧ tt1 ρ H5 fun b H6 =>
    if b = true then te ρ H6 fun y H7 => add D y H7 N1 else N1 H6)
/-- vs: the block's names; vs1: those of the second target; o0: a new set; add: what one put in asks for -/
def tSc2 (o0 : Addr → HO) (add : Addr → V → Hp → (Hp → Prop) → Prop) (wi : TI) (g : TG) (tt : TT) (wi1 : TI) (g1 : TG) (tt1 : TT) (te : TE) (vs vs1 : List Nat) : TE := fun σ H Q => wi σ H fun J H1 => ∀ D, H1 D = none → ∃ W : Nat → Nat → Hp → Prop, (∃ m, W 0 m (upd H1 D (o0 D))) ∧ ∀ i m G, W i m G →
  (J.stop i G ∧ Q (.ref D) G) ∨ (J.go i G ∧ ∃ N : Hp → Prop, (∀ G', N G' → ∃ n, n < m ∧ W (i + 1) n G') ∧ ∀ x G', J.yld i G x G' → g x (wipe σ vs) G' fun τ H2 => wipe τ vs = wipe σ vs ∧ tt τ H2 fun b H3 =>
    if b = true then wi1 τ H3 fun J1 H4 => inSc2 add J1 g1 tt1 te vs1 τ D N H4
    else N H3)
theorem sc2_in {J1 : It} {n1 : Nat} {G1 : Hp → Prop} {Y1 : Nat → Hp → V → Hp → Prop} (w : Walk J1 n1 G1 Y1) {add : Addr → V → Hp → (Hp → Prop) → Prop} {g1 : TG} {tt1 : TT} {te : TE} {vs1 : List Nat} {τ : St} {D : Addr} {N : Hp → Prop} {H4 : Hp} (Pv : Nat → Hp → Prop) (h0 : Pv 0 H4) (hG : ∀ j G, j ≤ n1 → Pv j G → G1 G)
    (hs : ∀ j x G G', j < n1 → Pv j G → Y1 j G x G' → g1 x (wipe τ vs1) G' fun ρ H5 => wipe ρ vs1 = wipe τ vs1 ∧ tt1 ρ H5 fun b H6 => if b = true then te ρ H6 fun y H7 => add D y H7 (Pv (j + 1)) else Pv (j + 1) H6) (hd : ∀ G, Pv n1 G → N G) :
    inSc2 add J1 g1 tt1 te vs1 τ D N H4 := by
  refine ⟨fun j k G => k + j = n1 ∧ Pv j G, ⟨n1, rfl, h0⟩, ?_⟩
  rintro j k G ⟨e, p⟩
  have gd := hG j G (by omega) p
  by_cases lt : j < n1
  · exact .inr ⟨w.goes j G lt gd, Pv (j + 1), fun G' p' => ⟨k - 1, by omega, by omega, p'⟩, fun x G' y => hs j x G G' lt p (w.yields j G x G' lt gd y)⟩
  · have ej : j = n1 := by omega
    subst ej
    exact .inl ⟨w.stops G gd, hd G p⟩
theorem sc2_out {J : It} {n : Nat} {Gd : Hp → Prop} {Y : Nat → Hp → V → Hp → Prop} (w : Walk J n Gd Y) {o0 : Addr → HO} {add : Addr → V → Hp → (Hp → Prop) → Prop} {g : TG} {tt : TT} {wi1 : TI} {g1 : TG} {tt1 : TT} {te : TE} {vs vs1 : List Nat} {σ : St} {H1 : Hp} {D : Addr} {Qd : Hp → Prop} (Pv : Nat → Hp → Prop) (h0 : Pv 0 (upd H1 D (o0 D))) (hG : ∀ i G, i ≤ n → Pv i G → Gd G)
    (hs : ∀ i x G G', i < n → Pv i G → Y i G x G' → g x (wipe σ vs) G' fun τ H2 => wipe τ vs = wipe σ vs ∧ tt τ H2 fun b H3 => if b = true then wi1 τ H3 fun J1 H4 => inSc2 add J1 g1 tt1 te vs1 τ D (Pv (i + 1)) H4 else Pv (i + 1) H3) (hd : ∀ G, Pv n G → Qd G) :
    ∃ W : Nat → Nat → Hp → Prop, (∃ m, W 0 m (upd H1 D (o0 D))) ∧ ∀ i m G, W i m G → (J.stop i G ∧ Qd G) ∨ (J.go i G ∧ ∃ N : Hp → Prop, (∀ G', N G' → ∃ n, n < m ∧ W (i + 1) n G') ∧ ∀ x G', J.yld i G x G' → g x (wipe σ vs) G' fun τ H2 => wipe τ vs = wipe σ vs ∧ tt τ H2 fun b H3 =>
      if b = true then wi1 τ H3 fun J1 H4 => inSc2 add J1 g1 tt1 te vs1 τ D N H4 else N H3) := by
  refine ⟨fun i m G => m + i = n ∧ Pv i G, ⟨n, rfl, h0⟩, ?_⟩
  rintro i m G ⟨e, p⟩
  have gd := hG i G (by omega) p
  by_cases lt : i < n
  · exact .inr ⟨w.goes i G lt gd, Pv (i + 1), fun G' p' => ⟨m - 1, by omega, by omega, p'⟩, fun x G' y => hs i x G G' lt p (w.yields i G x G' lt gd y)⟩
  · have ei : i = n := by omega
    subst ei
    exact .inl ⟨w.stops G gd, hd G p⟩
theorem pe_sc2 {elt tg iter tg1 iter1 : Expr} {ifs ifs1 : List Expr} {scope : Scope} {own : List (Str × Nat)} {vs1 : List Nat} {pos : Pos} {wi wi1 : TI} {g g1 : TG} {tt tt1 : TT} {te : TE} (o0 : Addr → HO) (add : Addr → V → Hp → (Hp → Prop) → Prop)
    (new0 : ∀ (h : Heap) (H : Hp), ObjOk X.prog X.w H (h.push { cls := .type "set", dict := none, data := .set #[] 0 (.fresh 0 0 (!X.w.params.followText "set-order")) }) h.objs.size (o0 h.objs.size))
    (hadd : ∀ (s : Shared) (H : Hp) (ce : Env) (fp : List Addr), AddOk (X.blk s H scope ce fp) add)
    (calm : X.calm = true) (nd : X.N.Nodup) (hi : PI X tg iter wi) (ok : BlkOk X.N X.env.scope scope own) (hv : ∀ i ∈ vs1, i ∈ own.map (·.2))
    (pg : ∀ (s : Shared) (H : Hp) (C : Addr) (cl : List (Str × Addr)) (fp : List Addr), PG (X.blk s H scope (compEnvC scope cl C X.env) fp) tg g)
    (pt : ∀ (s : Shared) (H : Hp) (C : Addr) (cl : List (Str × Addr)) (fp : List Addr), PTs (X.blk s H scope (compEnvC scope cl C X.env) fp) ifs tt)
    (pi1 : ∀ (s : Shared) (H : Hp) (C : Addr) (cl : List (Str × Addr)) (fp : List Addr), PI (X.blk s H scope (compEnvC scope cl C X.env) fp) tg1 iter1 wi1)
    (pg1 : ∀ (s : Shared) (H : Hp) (C : Addr) (cl : List (Str × Addr)) (fp : List Addr), PG (X.blk s H scope (compEnvC scope cl C X.env) fp) tg1 g1)
    (pt1 : ∀ (s : Shared) (H : Hp) (C : Addr) (cl : List (Str × Addr)) (fp : List Addr), PTs (X.blk s H scope (compEnvC scope cl C X.env) fp) ifs1 tt1)
    (pe : ∀ (s : Shared) (H : Hp) (C : Addr) (cl : List (Str × Addr)) (fp : List Addr), PE (X.blk s H scope (compEnvC scope cl C X.env) fp) elt te) (plain : ∀ x, foldedSetIterable iter X.env x = pure x := by intro _; rfl) (plain1 : ∀ env x, foldedSetIterable iter1 env x = pure x := by intro _ _; rfl) :
    PE X (sc2 elt tg iter tg1 iter1 ifs ifs1 scope pos) (tSc2 o0 add wi g tt wi1 g1 tt1 te (own.map (·.2)) vs1) := by
  refine ⟨fun pins s σ H Q I ask => ?_⟩
  have clo : closureFor scope X.env = pure (cloFrom X.env.cells scope.names []) := closure_ok fun y hy fr => (ok.free y hy fr).elim (fun k => I.ok.has _ (.inl k)) fun k => I.ok.has _ (.inr k)
  rw [PpSet.eval_SetComp]
  refine wpAny_comprehension_free (use := none) rfl plain clo ok.kind (fun y hy el => (ok.uniq y hy).trans (congrArg some el)) ?_
  refine thn (hi.run pins s σ H _ I ask) fun itv0 sa ha => thn ha fun itv sb hb => ?_
  obtain ⟨it, fp, tn, J, H1, rfl, I1, T, t1, f1, rest⟩ := hb
  refine PpSet.newSet_ok (newEnv_comp ?_)
  -- the new set
  obtain ⟨D, hD⟩ : ∃ D, sb.heap.objs.size = D := ⟨_, rfl⟩
  rw [hD]
  have D0 : H1 D = none := I1.hok.fresh (Nat.le_of_eq hD)
  obtain ⟨W, ⟨m0, W0⟩, steps⟩ := rest D D0
  have fpLt : ∀ b ∈ fp, b < D := fun b hb => by
    obtain ⟨o, e, _⟩ := T.obj _ _ t1 b hb
    rw [← hD]
    exact Heap.lt_size e
  obtain ⟨sc, hsc⟩ : ∃ sc : Shared, sc = { sb with heap := sb.heap.push { cls := .type "set", dict := none, data := .set #[] 0 (.fresh 0 0 (!X.w.params.followText "set-order")) } } := ⟨_, rfl⟩
  have up : ∀ b o, sb.heap.get? b = some o → sc.heap.get? b = some o := fun b o e => by
    rw [hsc]
    exact Heap.get?_push_of_some _ e
  have size : sc.heap.objs.size = D + 1 := by rw [hsc, ← hD]; exact Heap.size_push ..
  have I2 : Inv X pins σ (upd H1 D (o0 D)) sc := by
    rw [hsc]
    refine I1.laid (t' := sb.toks) (fun b o e => Heap.get?_push_of_some _ e) (Nat.le_of_eq hD) ?_
    rw [← hD]
    exact new0 sb.heap _
  obtain ⟨G0, hG0⟩ : ∃ G0, G0 = upd H1 D (o0 D) := ⟨_, rfl⟩
  rw [← hG0] at I2 W0
  have f2 : ∀ b ∈ fp, FpOk X pins G0 b ∧ b < sc.heap.objs.size := fun b hb => by
    have lt := fpLt b hb
    refine ⟨⟨?_, (f1 b hb).2⟩, by rw [size]; exact Nat.lt_succ_of_lt lt⟩
    rw [hG0, upd_ne (Nat.ne_of_lt lt)]
    exact (f1 b hb).1
  have t2 : tn 0 sc.heap := T.keep _ _ _ t1 fun b _ => up b
  have I3 := block_start I2 ok nd f2
  rw [← hsc]
  obtain ⟨C, hC⟩ : ∃ C, sc.heap.objs.size = C := ⟨_, rfl⟩
  rw [hC] at I3
  rw [hC]
  obtain ⟨cl, hcl⟩ : ∃ cl, cellsFrom (C + 1) scope.names (cloFrom X.env.cells scope.names []) = cl := ⟨_, rfl⟩
  rw [hcl] at I3
  rw [hcl]
  have pg := pg sc G0 C cl fp
  have pt := pt sc G0 C cl fp
  have pi1 := pi1 sc G0 C cl fp
  have pg1 := pg1 sc G0 C cl fp
  have pt1 := pt1 sc G0 C cl fp
  have pe := pe sc G0 C cl fp
  show codeAny _ _ (.compStart (sc2 elt tg iter tg1 iter1 ifs ifs1 scope pos) 0 (.ref it) (.ref D) (compEnvC scope cl C X.env)) _ _
  obtain ⟨ce, hce⟩ : ∃ ce, compEnvC scope cl C X.env = ce := ⟨_, rfl⟩
  rw [hce] at I3 pg pt pi1 pg1 pt1 pe
  rw [hce]
  have pa := hadd sc G0 ce fp
  have loc : ce.locals = C := by rw [← hce]; rfl
  obtain ⟨sd, hsd⟩ : ∃ sd : Shared, sd = { sc with heap := pushCells (sc.heap.push { cls := .type "dict", data := .dict #[] }) scope.names } := ⟨_, rfl⟩
  rw [← hsd] at I3
  rw [← hsd]
  have t3 : tn 0 sd.heap := T.keep _ _ _ t2 fun b _ o e => by
    rw [hsd]
    exact pushCells_keeps _ _ _ _ (Heap.get?_push_of_some _ e)
  have fps : ∀ {τ : St} {G : Hp} {s' : Shared}, Inv (X.blk sc G0 scope ce fp) [] τ G s' → (∀ b ∈ fp, G b = none) → ∀ b ∈ fp, FpOk (X.blk sc G0 scope ce fp) [] G b := fun J' off b hb =>
    ⟨off b hb, (J'.ok.exf b hb).1, J'.ok.exfs b hb, .inl hb, fun x c e => (J'.ok.exf b hb).2 x c e, fun p hp => absurd (show p ∈ ([] : List (Addr × Obj)) ++ [] from hp) nofun⟩
  suffices loop : codeAny (model X.prog X.w) X.A (.compLoop (sc2 elt tg iter tg1 iter1 ifs ifs1 scope pos) 0 (.ref it) (.ref D) ce) (compPost (model X.prog X.w) X.A X.xe none (EP X pins σ Q) (.ref D) C) sd from
    PpSet.codeAny_compStart_set loop (T.self X.A 0 _ _ _ t3 loop)
  refine sc2_loop0 (plain1 ce) (fun n s' => ∃ i G, W i n G ∧ (∀ b ∈ fp, G b = none) ∧ tn i s'.heap ∧ Inv (X.blk sc G0 scope ce fp) [] (wipe σ (own.map (·.2))) G s') ?_ m0 ⟨0, G0, W0, fun b hb => (f2 b hb).1.1, t3, I3⟩
  rintro n s1 ⟨i, G, w1, off, t4, I4⟩
  rcases steps i n G w1 with ⟨stop, fin⟩ | ⟨more, N, hN, body⟩
  · refine thnF (T.done (X.blk sc G0 scope ce fp) rfl rfl rfl calm i [] s1 _ G (fun _ _ => False) I4 (fps I4 off) t4 stop) fun r s2 ⟨er, I5⟩ => ?_
    subst er
    have nC : G C = none := by
      have z : G ce.locals = none := I5.free
      rwa [loc] at z
    have I6 : Inv X pins σ G s2 := I2.call' (ch := fp) I5.os I5.base I5.hok I5.bare fun b hb => let q := (f2 b hb).1; ⟨q.2.2.2.1, q.2.1, q.2.2.2.2.1, q.2.2.2.2.2⟩
    obtain ⟨m, hm, _⟩ := I5.loc
    have hm : s2.heap.Ns ce.locals m := hm
    rw [loc] at hm
    obtain ⟨g0, g1, g2, g3, g4, g5⟩ := I2.fpOk (Nat.le_of_eq hC) nC
    exact ⟨m, hm, fun h2 sb => ⟨.ref D, G, I6.turned (t' := s2.toks) (fun b o hb e => (sb.2 b hb).trans e) g0 g1 g3 g4 g5, rfl, fin⟩⟩
  · refine thnF (T.item (X.blk sc G0 scope ce fp) rfl rfl rfl calm i [] s1 _ G (fun _ _ => False) I4 (fps I4 off) t4 more) fun r s2 ⟨u, er, h2⟩ => ?_
    subst er
    refine thnF h2 fun _ s3 ⟨x, G1, I5, rx, yl, t5, off1⟩ => ?_
    have I6 := I5.pinned (fps I5 off1) (T.obj _ _ t5)
    refine thnF (pg.run _ s3 _ G1 x u _ I6 rx (body x G1 yl)) fun _ s4 ⟨τ, G2, I7, same, q2⟩ => ?_
    refine thnF (pt.run _ s4 τ G2 _ I7 q2) fun b s5 ⟨G3, I8, q3⟩ => ?_
    have over : ∀ {ρ : St} {G' : Hp} {s' : Shared}, N G' → (∀ (j : Nat) v, (wipe σ (own.map (·.2)))[j]? = some (some v) → ρ[j]? = some (some v)) → (wipe σ (own.map (·.2))).length = ρ.length → Inv (X.blk sc G0 scope ce fp) ([] ++ pinsAt fp s3.heap) ρ G' s' →
        ∃ m, m < n ∧ ∃ i G, W i m G ∧ (∀ b ∈ fp, G b = none) ∧ tn i s'.heap ∧ Inv (X.blk sc G0 scope ce fp) [] (wipe σ (own.map (·.2))) G s' := fun {ρ G' s'} nx kn ln J' => by
      obtain ⟨m, lt, w'⟩ := hN G' nx
      have held : ∀ b ∈ fp, ∀ o, s3.heap.get? b = some o → s'.heap.get? b = some o ∧ G' b = none := fun b hb o e => by
        have z := J'.pin (b, o) (List.mem_append_right _ (List.mem_append_right _ (mem_pinsAt hb e)))
        exact ⟨z.1, z.2.1⟩
      refine ⟨m, lt, i + 1, G', w', fun b hb => ?_, T.keep _ _ _ t5 fun b hb o e => (held b hb o e).1, (J'.unpinned (pins := [])).weak ln kn⟩
      obtain ⟨o, e, _⟩ := T.obj _ _ t5 b hb
      exact (held b hb o e).2
    have ln1 : (wipe σ (own.map (·.2))).length = τ.length := by rw [← same, wipe_length]
    have kn1 : ∀ (j : Nat) v, (wipe σ (own.map (·.2)))[j]? = some (some v) → τ[j]? = some (some v) := fun j v e => by
      rw [← same] at e
      exact (wipe_some e).1
    have kn2 : ∀ (j : Nat) v, (wipe σ (own.map (·.2)))[j]? = some (some v) → (wipe τ vs1)[j]? = some (some v) := fun j v e => by
      rw [← same] at e
      obtain ⟨e1, e2⟩ := wipe_some e
      rw [wipe_out fun z => e2 (hv j z)]
      exact e1
    cases b with
    | false =>
      rw [if_neg Bool.false_ne_true] at q3 ⊢
      exact over q3 kn1 ln1 I8
    | true =>
      rw [if_pos rfl] at q3 ⊢
      refine thnF (pi1.run _ s5 τ G3 _ I8 q3) fun xv s6 hx => thnF hx fun itv s7 h7 => ?_
      obtain ⟨jt, fq, tq, J1, G4, rfl, I9, T1, u1, fo, W1, ⟨m1, w0⟩, turns⟩ := h7
      have fqs : ∀ {G : Hp}, (∀ b ∈ fq, G b = none) → ∀ b ∈ fq, FpOk (X.blk sc G0 scope ce fp) ([] ++ pinsAt fp s3.heap) G b := fun off b hb => ⟨off b hb, (fo b hb).2⟩
      suffices inner : codeAny (model X.prog X.w) X.A (.compLoop (sc2 elt tg iter tg1 iter1 ifs ifs1 scope pos) 1 (.ref jt) (.ref D) ce) (fun r s' => match r with
          | .ok _ => ∃ m, m < n ∧ ∃ i G, W i m G ∧ (∀ b ∈ fp, G b = none) ∧ tn i s'.heap ∧ Inv (X.blk sc G0 scope ce fp) [] (wipe σ (own.map (·.2))) G s'
          | .error _ => False) s7 from sc2_start1 inner (T1.self X.A 0 _ _ _ u1 inner)
      refine sc2_loop1 (fun k s' => ∃ j G, W1 j k G ∧ (∀ b ∈ fq, G b = none) ∧ tq j s'.heap ∧ Inv (X.blk sc G0 scope ce fp) ([] ++ pinsAt fp s3.heap) (wipe τ vs1) G s') ?_ m1 ⟨0, G4, w0, fun b hb => (fo b hb).1, u1, I9.weak (wipe_length _ _) fun j v e => (wipe_some e).1⟩
      rintro k s8 ⟨j, G5, w5, off5, u5, I10⟩
      rcases turns j k G5 w5 with ⟨stop1, nx⟩ | ⟨more1, N1, hN1, body1⟩
      · refine thnF (T1.done (X.blk sc G0 scope ce fp) rfl rfl rfl calm j _ s8 (wipe τ vs1) G5 (fun _ _ => False) I10 (fqs off5) u5 stop1) fun r s9 ⟨er, I11⟩ => ?_
        subst er
        exact over nx kn2 (ln1.trans (wipe_length τ vs1).symm) I11
      · refine thnF (T1.item (X.blk sc G0 scope ce fp) rfl rfl rfl calm j _ s8 (wipe τ vs1) G5 (fun _ _ => False) I10 (fqs off5) u5 more1) fun r s9 ⟨u', er, h9⟩ => ?_
        subst er
        refine thnF h9 fun _ sA ⟨x1, G6, I11, rx1, yl1, u6, off6⟩ => ?_
        have I12 := I11.pinned (fqs off6) (T1.obj _ _ u6)
        refine thnF (pg1.run _ sA (wipe τ vs1) G6 x1 u' _ I12 rx1 (body1 x1 G6 yl1)) fun _ sB ⟨ρ, G7, I13, same1, q7⟩ => ?_
        refine thnF (pt1.run _ sB ρ G7 _ I13 q7) fun b1 sC ⟨G8, I14, q8⟩ => ?_
        have over1 : ∀ {G' : Hp} {s' : Shared}, N1 G' → Inv (X.blk sc G0 scope ce fp) (([] ++ pinsAt fp s3.heap) ++ pinsAt fq sA.heap) ρ G' s' →
            ∃ m, m < k ∧ ∃ j G, W1 j m G ∧ (∀ b ∈ fq, G b = none) ∧ tq j s'.heap ∧ Inv (X.blk sc G0 scope ce fp) ([] ++ pinsAt fp s3.heap) (wipe τ vs1) G s' := fun {G' s'} nx J' => by
          obtain ⟨m, lt, w'⟩ := hN1 G' nx
          have held : ∀ b ∈ fq, ∀ o, sA.heap.get? b = some o → s'.heap.get? b = some o ∧ G' b = none := fun b hb o e => by
            have z := J'.pin (b, o) (List.mem_append_right _ (List.mem_append_right _ (mem_pinsAt hb e)))
            exact ⟨z.1, z.2.1⟩
          refine ⟨m, lt, j + 1, G', w', fun b hb => ?_, T1.keep _ _ _ u6 fun b hb o e => (held b hb o e).1, J'.unpinned.weak (by rw [← same1, wipe_length]) fun j v e => ?_⟩
          · obtain ⟨o, e, _⟩ := T1.obj _ _ u6 b hb
            exact (held b hb o e).2
          · rw [← same1] at e
            exact (wipe_some e).1
        cases b1 with
        | false =>
          rw [if_neg Bool.false_ne_true] at q8 ⊢
          exact over1 q8 I14
        | true =>
          rw [if_pos rfl] at q8 ⊢
          refine thnF (pe.run _ sC ρ G8 _ I14 q8) fun z sD ⟨y, G9, I15, ry, q9⟩ => ?_
          exact pa _ ρ G9 sD _ D y z N1 _ I15 ry q9 fun r H' s' nx J' => over1 nx J'
end
end WL
end L2
set_option Elab.async false
set_option linter.all false
set_option maxRecDepth 100000
set_option maxHeartbeats 4000000
namespace L2
namespace WL
open PySem PySem.Spec PyProof.Rows K1
/-! ### sets of texts, their members known one by one -/
def keyX (e : Int × Value) : Str := match e.2 with | .str x _ => x | _ => Str.empty
def GoodX (w : World) (e : Int × Value) : Prop := ∃ x t, e = (hashStr w x, Value.str x t)
structure SXs (w : World) (h : Heap) (a : Addr) (D : List Str) (o : Obj) (es : Array (Int × Value)) (ep : Nat) (t : SetTable) : Prop where
  at_ : h.get? a = some o
  ex : o.ExactSet
  dat : o.data = .set es ep t
  good : ∀ e ∈ es.toList, GoodX w e
  pm : (es.toList.map keyX).Perm D
  nd : D.Nodup
  lt : D.length < 1000
  fit : t.fits es.size = true
  ris : Ris t.place.toList
  led : w.params.followText "set-order" = true ∨ t.led = true
def SX (w : World) (h : Heap) (a : Addr) (D : List Str) : Prop := ∃ o es ep t, SXs w h a D o es ep t
theorem bound1000 : 1000 < scanBound := by decide
section
variable {P : Program} {w : World} {A : Around} {E : Value → Shared → Prop} {s : Shared} {a : Addr} {D : List Str}
theorem goodX_el {l : List (Int × Value)} (g : ∀ e ∈ l, GoodX w e) : ElemsOf (strKind P w) l := fun e m => by
  obtain ⟨x, t, rfl⟩ := g e m
  exact ⟨⟨x, strKind_is P w x t, rfl⟩, rfl⟩
theorem goodX_is {e : Int × Value} (g : GoodX w e) (x : Str) : (strKind P w).is x e.2 = true ↔ keyX e = x := by
  obtain ⟨y, t, rfl⟩ := g
  constructor
  · intro h
    exact (strKind P w).inj _ _ _ (strKind_is P w y t) h
  · rintro rfl
    exact strKind_is P w _ t
theorem SXs.size {h : Heap} {o : Obj} {es : Array (Int × Value)} {ep : Nat} {t : SetTable} (R : SXs w h a D o es ep t) : es.size = D.length := by
  rw [← R.pm.length_eq, List.length_map, Array.length_toList]
/-- behind the new entry: laid down, and the table made larger where it is too full -/
theorem sx_tail {g : Bool → Sem Unit} (hg : ∀ (b : Bool) (s1 : Shared) (Q' : Unit → Shared → Prop), Q' () s1 → wpAny (model P w) A (g b) Q' E s1) {o : Obj} {es es1 : Array (Int × Value)} {ep : Nat} {t t2 : SetTable} (ho : s.heap.get? a = some o) (hex : o.ExactSet) (hd : o.data = .set es ep t)
    (good : ∀ e ∈ es1.toList, GoodX w e) (pm : (es1.toList.map keyX).Perm D) (nd : D.Nodup) (lt : D.length < 1000) (fit : t2.fits es1.size = true) (ris : Ris t2.place.toList) (led : w.params.followText "set-order" = true ∨ t2.led = true) {dummy : Bool} {R : Option Bool → Shared → Prop}
    (hR : ∀ h', Heap.SameBut a s.heap h' → SX w h' a D → R (some true) { s with heap := h' }) :
    wpAny (model P w) A (do
        storeSet a es1 t2
        if (!dummy && t2.tooFull) = true then do
            g (relayAll t2 es1 (SetTable.grown es1.size)).2.2
            storeSet a (relayAll t2 es1 (SetTable.grown es1.size)).1 (relayAll t2 es1 (SetTable.grown es1.size)).2.1
            pure (some true)
          else pure (some true)) R E s := by
  have sz : es1.size = D.length := by rw [← pm.length_eq, List.length_map, Array.length_toList]
  have sl : es1.size ≤ sizeLine := by rw [sz, sizeLine_eq]; omega
  refine wpAny_bind (wpAny_storeSet_of ho hd ?_ sl)
  have o1 := PpSet.storeB_at (es' := es1) (t' := t2) ho hd
  have s1 := Heap.SameBut.update s.heap a (Obj.putSet es1 t2)
  by_cases full : (!dummy && t2.tooFull) = true
  · rw [if_pos full]
    have q1 := relayAll_perm t2 es1 (SetTable.grown es1.size)
    have q2 := relayAll_fits t2 es1 (SetTable.grown es1.size)
    have q3 := relayAll_ris t2 es1 (SetTable.grown es1.size)
    have q4 := relayAll_led t2 es1 (SetTable.grown es1.size)
    generalize relayAll t2 es1 (SetTable.grown es1.size) = Z at q1 q2 q3 q4 ⊢
    obtain ⟨es2, t3, gave⟩ := Z
    dsimp only at q1 q2 q3 q4 ⊢
    have z2 : es2.size = es1.size := by rw [← Array.length_toList, q1.length_eq, Array.length_toList]
    refine wpAny_bind (hg _ _ _ (wpAny_bind (wpAny_storeSet_of o1 rfl ?_ (by omega))))
    have o2 := PpSet.storeB_at (es' := es2) (t' := t3) o1 rfl
    exact wpAny_pure (hR _ (s1.trans (Heap.SameBut.update _ a _)) ⟨_, es2, _, t3, { at_ := o2, ex := ⟨hex.1, hex.2.1, hex.2.2⟩, dat := rfl, good := fun e m => good e (q1.mem_iff.mp m), pm := (q1.map keyX).trans pm, nd := nd, lt := lt, fit := q2, ris := q3, led := by rw [q4]; exact led }⟩)
  · rw [if_neg full]
    exact wpAny_pure (hR _ s1 ⟨_, es1, _, t2, { at_ := o1, ex := ⟨hex.1, hex.2.1, hex.2.2⟩, dat := rfl, good := good, pm := pm, nd := nd, lt := lt, fit := fit, ris := ris, led := led }⟩)
/-- one text more -/
def addX (D : List Str) (x : Str) : List Str := if x ∈ D then D else x :: D
theorem sx_add {x : Str} {u : Tok} {Q : Bool → Shared → Prop} (R : SX w s.heap a D) (room : D.length + 1 < 1000) (hQ : ∀ b h', Heap.SameBut a s.heap h' → SX w h' a (addX D x) → Q b { s with heap := h' }) :
    wpAny (model P w) A (setAddHashed a (.str x u) ((strKind P w).hash x)) Q E s := by
  obtain ⟨o, es, ep, t, R⟩ := R
  have sz := R.size
  have bd : es.size < scanBound := by have := bound1000; have := R.lt; omega
  have key : (strKind P w).is x (.str x u) = true := strKind_is P w x u
  have scn : (Value.str x u).scannable = true := rfl
  have el : ElemsOf (strKind P w) es.toList := goodX_el R.good
  unfold setAddHashed setAddHashedIn
  refine wpAny_holding (wpAny_bind (wpAny_setState_of R.at_ R.dat R.fit ?_))
  dsimp only
  rw [byScan_of scn bd el]
  simp only [↓reduceIte]
  unfold setAddByScan
  refine wpAny_bind (wpAny_bind (wpAny_rule (wpAny_bind (wpAny_setScan_of key R.at_ R.dat R.fit el ?_))))
  have mem : ∀ y, y ∈ D ↔ ∃ e ∈ es.toList, (strKind P w).is y e.2 = true := fun y => by
    rw [← R.pm.mem_iff, List.mem_map]
    exact ⟨fun ⟨e, m, z⟩ => ⟨e, m, (goodX_is (R.good e m) y).mpr z⟩, fun ⟨e, m, z⟩ => ⟨e, m, (goodX_is (R.good e m) y).mp z⟩⟩
  cases hfi : List.findIdx? (fun e => (strKind P w).is x e.2) es.toList with
  | some j =>
    dsimp only
    obtain ⟨hj, pj, _⟩ := List.findIdx?_eq_some_iff_getElem.mp hfi
    have md : x ∈ D := (mem x).mpr ⟨_, List.getElem_mem hj, pj⟩
    refine wpAny_pure (wpAny_pure ?_)
    exact hQ false s.heap (Heap.SameBut.refl a s.heap) (by
      unfold addX
      rw [if_pos md]
      exact ⟨o, es, ep, t, R⟩)
  | none =>
    dsimp only
    have md : x ∉ D := fun z => by
      obtain ⟨e, m, q⟩ := (mem x).mp z
      have c := List.findIdx?_eq_none_iff.mp hfi e m
      rw [q] at c
      cases c
    have way_ : ∀ (b : Bool) {s1 : Shared} {Q' : Unit → Shared → Prop}, Q' () s1 → wpAny (model P w) A (match b with | true => rule "set.scan.the-table-gave-way" | false => pure ()) Q' E s1 :=
      fun b s1 Q' q => by cases b <;> first | exact wpAny_pure q | exact wpAny_rule q
    have q1 := layNew_perm t es ((strKind P w).hash x) (.str x u)
    have q2 := layNew_fits t es ((strKind P w).hash x) (.str x u)
    have q3 := layNew_ris t es ((strKind P w).hash x) (.str x u) R.ris
    have q4 := layNew_led t es ((strKind P w).hash x) (.str x u)
    generalize layNew t es ((strKind P w).hash x) (.str x u) = Z at q1 q2 q3 q4 ⊢
    obtain ⟨es1, t1, dummy, gave⟩ := Z
    dsimp only at q1 q2 q3 q4 ⊢
    rw [Array.toList_push] at q1
    have pc : es1.toList.Perm (((strKind P w).hash x, Value.str x u) :: es.toList) := q1.trans (List.perm_append_singleton _ _)
    have pk : (es1.toList.map keyX).Perm (x :: D) := (pc.map keyX).trans (R.pm.cons x)
    have good : ∀ e ∈ es1.toList, GoodX w e := fun e m => by
      rcases List.mem_cons.mp (pc.mem_iff.mp m) with rfl | m
      · exact ⟨x, u, rfl⟩
      · exact R.good e m
    have nd : (x :: D).Nodup := List.nodup_cons.mpr ⟨md, R.nd⟩
    have lt : (x :: D).length < 1000 := room
    have led : w.params.followText "set-order" = true ∨ t1.led = true := by rw [q4]; exact R.led
    have fin : ∀ h', Heap.SameBut a s.heap h' → SX w h' a (x :: D) → Q true { s with heap := h' } := fun h' sb r => hQ true h' sb (by
      unfold addX
      rw [if_neg md]
      exact r)
    refine wpAny_bind (way_ _ ?_)
    split
    · refine wpAny_bind ?_
      rw [hashByValue_scannable 8 scn]
      refine wpAny_pure ?_
      refine sx_tail (D := x :: D) ?_ R.at_ R.ex R.dat good pk nd lt ?_ ?_ ?_ fun h' sb r => ?_
      · intro b s1 Q' q
        cases b <;> first | exact wpAny_pure q | exact wpAny_rule q
      · first | (split <;> first | exact q2 | exact SetTable.fits_plain_off q2) | exact q2
      · first | (split <;> exact q3) | exact q3
      · first | (split <;> exact led) | exact led
      · dsimp only
        exact wpAny_pure (fin h' sb r)
    · refine wpAny_bind (wpAny_pure ?_)
      simp only [↓reduceIte]
      refine sx_tail (D := x :: D) ?_ R.at_ R.ex R.dat good pk nd lt q2 q3 led fun h' sb r => ?_
      · intro b s1 Q' q
        cases b <;> first | exact wpAny_pure q | exact wpAny_rule q
      · dsimp only
        exact wpAny_pure (fin h' sb r)
theorem SX.type {h : Heap} (R : SX w h a D) (e : s.heap = h) : s.TypeIs (.ref a) "set" := by
  obtain ⟨o, es, ep, t, R⟩ := R
  subst e
  exact ⟨o, R.at_, R.ex.1⟩
/-- found.add(x) -/
theorem sx_call {x : Str} {u : Tok} {Q : Value → Shared → Prop} (R : SX w s.heap a D) (room : D.length + 1 < 1000) (hQ : ∀ h', Heap.SameBut a s.heap h' → SX w h' a (addX D x) → Q .none { s with heap := h', toks := s.toks + 1 }) :
    wpAny (model P w) A (call (.builtin "set.add") [.ref a, .str x u]) Q E s := by
  refine wpAny_call_entry F.slot_set_add (R.type rfl) F.entry_set_add ?_ (F.args_set_add_2 _ _)
  unfold Builtin.«set.add» Builtin.Frozenset.oneOther
  simp only [List.isEmpty_nil, bind_assoc]
  unfold Builtin.Frozenset.addrOf setAdd
  refine wpAny_bind (wpAny_pure ?_)
  try dsimp only
  refine wpAny_bind (wpAny_pure ?_)
  try dsimp only
  refine wpAny_bind (wpAny_holding (wpAny_bind ((strKind P w).pyHash (strKind_is P w x u) ?_)))
  refine sx_add (s := { s with toks := s.toks + 1 }) R room fun b h' sb r => ?_
  show wpAny _ _ (ret Value.none) _ _ _
  exact wpAny_pure ⟨_, rfl, hQ h' sb r⟩
end
def SXO (w : World) (a : Addr) (D : List Str) : HO := .ext fun h => SX w h a D
theorem SXO_new {w : World} {P : Program} {H : Hp} {h : Heap} {a : Addr} {D : List Str} (R : SX w h a D) : ObjOk P w H h a (SXO w a D) := by
  obtain ⟨o, es, ep, t, R'⟩ := id R
  refine ⟨R, ⟨o, R'.at_⟩, fun h1 h2 p k => ?_⟩
  have p : SX w h1 a D := p
  obtain ⟨o', es', ep', t', p⟩ := p
  exact ⟨o', es', ep', t', { p with at_ := k o' p.at_ }⟩
theorem led0 (w : World) : w.params.followText "set-order" = true ∨ (SetTable.fresh 0 0 (!w.params.followText "set-order")).led = true := by
  show _ ∨ (!w.params.followText "set-order") = true
  cases w.params.followText "set-order" <;> simp
theorem SX_zero (w : World) (h : Heap) : SX w (h.push { cls := .type "set", dict := none, data := .set #[] 0 (.fresh 0 0 (!w.params.followText "set-order")) }) h.objs.size [] :=
  ⟨_, #[], 0, _, { at_ := Heap.get?_push_size _ rfl, ex := ⟨rfl, rfl, rfl⟩, dat := rfl, good := fun _ m => (nomatch m), pm := .nil, nd := .nil, lt := by decide, fit := by rfl, ris := .nil, led := (led0 w) }⟩
/-- what one text more asks -/
def putX (w : World) (a : Addr) (y : V) (H : Hp) (N : Hp → Prop) : Prop := ∃ x D, y = .str x ∧ H a = some (SXO w a D) ∧ D.length + 1 < 1000 ∧ N (upd H a (SXO w a (addX D x)))
section
variable {X : Cx}
theorem addOkX : AddOk X (putX X.w) := fun pins σ H s E D y u N Q I ry h go => by
  obtain ⟨x, d, rfl, hD, room, n⟩ := h
  obtain ⟨t, rfl⟩ := ry
  have R : SX X.w s.heap D d := (I.hok D _ hD).1
  refine sx_call R room fun h' sb r => go _ _ _ n ?_
  obtain ⟨o, es, ep, tb, r'⟩ := id r
  exact I.write (e := D) (t' := s.toks + 1) (by rw [hD]; trivial) (.inl rfl) (fun b o hb e => (sb.2 b hb).trans e) ⟨o, r'.at_⟩ (SXO_new r)
/-- sorted(a set of texts) -/
noncomputable def sortS (D : List Str) : List Str := D.mergeSort (PySem.W.dataLe false PySem.PyData.str)
end
end WL
end L2
set_option Elab.async false
set_option linter.all false
set_option maxRecDepth 100000
set_option maxHeartbeats 4000000
namespace L2
namespace WL
open PySem PySem.Spec PyProof.Rows K1
/-! ### several except clauses, with names or without -/
abbrev Clz : Type := Value × Option Nat × (Addr → Value → Option Addr → TS)
def endsAt : Option Nat → Ends → Ends
  | none, D => D
  | some i, D => { nx := fun σ H => D.nx (σ.set i none) H, rt := D.rt, bk := fun σ H => D.bk (σ.set i none) H, ct := fun σ H => D.ct (σ.set i none) H }
def setAt : Option Nat → Addr → St → St
  | none, _, σ => σ
  | some i, a, σ => σ.set i (some (.ref a))
def wAll (K : PySem.W.Frag) (Wo : WX) (D : Ends) : List Clz → WX
  | [] => Wo
  | z :: r => fun cls d σ H => ∃ b, PySem.W.exmOne K cls z.1 = some b ∧ (b = true → ∀ a, H a = none → z.2.2 a cls d (endsAt z.2.1 D) (setAt z.2.1 a σ) H) ∧ (b = false → wAll K Wo D r cls d σ H)
inductive HdsA (X : Cx) : List ExceptHandler → List Clz → Prop
  | nil : HdsA X [] []
  | plain {x : Str} {c : Value} {ts : Addr → Value → Option Addr → TS} {b0 : Stmt} {bs : List Stmt} {np q : Pos} {hs : List ExceptHandler} {l : List Clz} (hc : Names X x c)
      (hsu : ∀ (a : Addr) (oe : Obj) (cls : Value) (d : Option Addr) (pn : List (Addr × Obj)), Zc cls d oe → (∃ vs, oe.data = .fields vs) → PSs (X.suite a ((a, oe) :: pn)) (b0 :: bs) (ts a cls d)) (r : HdsA X hs l) :
      HdsA X (.ExceptHandler (some (.Name x np)) none (b0 :: bs) q :: hs) ((c, none, ts) :: l)
  | named {x n : Str} {i : Nat} {c : Value} {ts : Addr → Value → Option Addr → TS} {b0 : Stmt} {bs : List Stmt} {np q : Pos} {hs : List ExceptHandler} {l : List Clz} (hc : Names X x c) (hN : X.N.Nodup) (hi : X.N[i]? = some n) (hln : X.env.kindOf n = some .local)
      (hsu : ∀ (a : Addr) (oe : Obj) (cls : Value) (d : Option Addr) (pn : List (Addr × Obj)), Zc cls d oe → (∃ vs, oe.data = .fields vs) → PSs (X.suite a ((a, oe) :: pn)) (b0 :: bs) (ts a cls d)) (r : HdsA X hs l) :
      HdsA X (.ExceptHandler (some (.Name x np)) (some n) (b0 :: bs) q :: hs) ((c, some i, ts) :: l)
section
variable {X : Cx} {body : List Stmt} {h0 : ExceptHandler} {hs : List ExceptHandler} {l : List Clz} {pos : Pos} {tb : WX → TS} {Wo : WX}
/-- the clauses, one behind another, of an exception that has landed -/
theorem clauses {pins : List (Addr × Obj)} {D : Ends} {B : Heap} {a : Addr} {s' : Shared} {σ : St} {H : Hp} {cls : Value} {d : Option Addr} (hst : X.stack = X.env :: X.outer) (hf : X.env.frame = some X.env.locals) (tk : Takes X Wo) (ok : X.Ok)
    (na : H a = none) (land : ∀ {h : Heap}, HandSPX.FlyingZ B (X.env :: X.outer) a (Zc cls d) h → s'.heap.UpToSlots h → Inv X pins σ H { s' with heap := h })
    (off : a ≠ X.env.locals ∧ a ∉ X.fs) (leave : ∀ {h4 : Heap}, HandSPX.HeldZ B (X.env :: X.outer) a (Zc cls d) X.env.locals h4 → s'.heap.UpToSlots h4 → Wo cls d σ H → X.xe (.ref a) { s' with heap := h4 }) {h3 : Heap} (fl3 : HandSPX.FlyingZ B (X.env :: X.outer) a (Zc cls d) h3) (up3 : s'.heap.UpToSlots h3) :
    ∀ {hs : List ExceptHandler} {l : List Clz}, HdsA X hs l → wAll X.K Wo D l cls d σ H → wpAny (model X.prog X.w) X.A (handleBy (.ref a) X.env hs) (SP X pins D) X.xe { s' with heap := h3 } := by
  have J3 := land fl3 up3
  obtain ⟨oe, vs, he, hz, hd⟩ := fl3.there
  have S3 := J3.suite he hd na off.1 off.2
  have ty : PySem.W.Looks (model X.prog X.w) h3 (typeOf (.ref a)) cls := fun A Q E s k q => wpAny_typeOf_ref (k _ _ he) (by rw [hz.1]; exact q)
  have asks : ∀ {x : Str} {c : Value} {np : Pos}, Names X x c → ∀ {Q E : Value → Shared → Prop}, Q c { s' with heap := h3 } → wpAny (model X.prog X.w) (X.A.mark (some (.ref a))) (eval (.Name x np) X.env) Q E { s' with heap := h3 } := by
    intro x c np hc Q E q
    unfold Names at hc
    rcases hc with ⟨g1, g2, g | ⟨g, g3, g4⟩⟩
    · exact ld_glob (X := X.suite a ((a, oe) :: (X.pn ++ pins))) S3 g1 g q g2
    · exact ld_blt (X := X.suite a ((a, oe) :: (X.pn ++ pins))) S3 g1 g g3 q g4 g2
  have again : ∀ {h4 : Heap}, HandSPX.FlyingZ B (X.env :: X.outer) a (Zc cls d) h4 → h3.UpToSlots h4 → ∃ oe4, Zc cls d oe4 ∧ (∃ vs, oe4.data = .fields vs) ∧ Inv (X.suite a ((a, oe4) :: (X.pn ++ pins))) [] σ H { s' with heap := h4 } := fun fl4 up4 => by
    obtain ⟨oe4, vs4, e4, z4, d4⟩ := fl4.there
    exact ⟨oe4, z4, ⟨_, d4⟩, (land fl4 (up3.trans up4)).suite e4 d4 na off.1 off.2⟩
  intro hs l hk
  induction hk with
  | nil =>
    intro w
    refine wpAny_handleBy_nil ?_
    obtain ⟨_, _, _, oe2, vs2, T, oT, ts, e2, _, d2, h1, _⟩ := id fl3
    unfold PySem.passOn
    refine wpAny_bind (wpAny_field e2 d2 h1 ?_)
    rw [if_neg (show ¬ ((Value.ref T == Value.none) = true) from by simp)]
    have out : wpAny (model X.prog X.w) X.A (setFlight (.ref a) X.env.frame) (fun _ s4 => wpAny (model X.prog X.w) X.A (throw (.ref a) : Sem Flow) (SP X pins D) X.xe s4) X.xe { s' with heap := h3 } := by
      rw [hf]
      exact HandSPX.setFlight_upZ fl3 fun h4 hh up4 => wpAny_throw (leave hh (up3.trans up4) w)
    first
      | exact wpAny_bind (wpAny_pure (wpAny_bind out))
      | exact wpAny_bind out
  | @plain x c ts b0 bs np q hs l hc hsu r ih =>
    rintro ⟨b, hb, yes, no⟩
    refine wpAny_handleBy_cons (codeAny_handlers_test ?_) (by intro q; cases q)
    refine asks hc ((PySem.W.exm_one (M := model X.prog X.w) J3.kIn ty hb).here ?_)
    cases b with
    | false => exact ih (no rfl)
    | true =>
      refine codeAny_handlers_suite (HandSPX.lands_againZ fl3 fun h4 fl4 up4 => ?_)
      obtain ⟨oe4, z4, d4, S4⟩ := again fl4 up4
      refine wpAny_mono ((hsu a oe4 cls d (X.pn ++ pins) z4 d4).run [] _ _ H _ S4 (yes rfl a na)) (fun f s6 hsp => ?_) (fun _ _ z => False.elim z)
      cases f with
      | ret u =>
        obtain ⟨v, σ6, H6, S6, r6, q6⟩ := hsp
        exact ⟨_, _, _, S6.unsuite ok, r6, q6⟩
      | _ =>
        obtain ⟨σ6, H6, S6, q6⟩ := hsp
        exact ⟨_, _, S6.unsuite ok, q6⟩
  | @named x n i c ts b0 bs np q hs l hc hN hi hln hsu r ih =>
    rintro ⟨b, hb, yes, no⟩
    refine wpAny_handleBy_cons (codeAny_handlers_test ?_) (by intro q; cases q)
    refine asks hc ((PySem.W.exm_one (M := model X.prog X.w) J3.kIn ty hb).here ?_)
    cases b with
    | false => exact ih (no rfl)
    | true =>
      refine codeAny_handlers_suite_as (HandSPX.lands_againZ fl3 fun h4 fl4 up4 => ?_)
      obtain ⟨oe4, z4, d4, S4⟩ := again fl4 up4
      refine store_ok (X := X.suite a ((a, oe4) :: (X.pn ++ pins))) (v := .ref a) S4 hN hi (.inl hln) rfl (fun s5 S5 => ?_) (.inr hln)
      refine wpAny_mono ((hsu a oe4 cls d (X.pn ++ pins) z4 d4).run [] s5 _ H _ S5 (yes rfl a na)) (fun f s6 hsp => ?_) (fun _ _ z => False.elim z)
      have fin : ∀ {σ6 : St} {H6 : Hp} {Q : Shared → Prop}, Inv (X.suite a ((a, oe4) :: (X.pn ++ pins))) [] σ6 H6 s6 → (∀ s7, Inv X pins (σ6.set i none) H6 s7 → Q s7) →
          wpAny (model X.prog X.w) X.A (do bindName X.env n .none; unbindBehindTheSuite X.env n q) (fun _ s7 => Q s7) X.xe s6 := fun S6 hq => gone_ok (S6.unsuite ok) hN hi hln hq
      cases f with
      | ret u =>
        obtain ⟨v, σ6, H6, S6, r6, q6⟩ := hsp
        exact fin S6 fun s7 J7 => ⟨_, _, _, J7, r6, q6⟩
      | next =>
        obtain ⟨σ6, H6, S6, q6⟩ := hsp
        exact fin S6 fun s7 J7 => ⟨_, _, J7, q6⟩
      | brk =>
        obtain ⟨σ6, H6, S6, q6⟩ := hsp
        exact fin S6 fun s7 J7 => ⟨_, _, J7, q6⟩
      | cont =>
        obtain ⟨σ6, H6, S6, q6⟩ := hsp
        exact fin S6 fun s7 J7 => ⟨_, _, J7, q6⟩
theorem ps_try_all (hst : X.stack = X.env :: X.outer) (hf : X.env.frame = some X.env.locals) (tk : Takes X Wo)
    (hb : ∀ (W : WX) (pn : List (Addr × Obj)) (xe : Value → Shared → Prop), Takes (X.tr pn xe) W → PassesOwn (model X.prog X.w) X.A X.env xe → PSs (X.tr pn xe) body (tb W)) (hh : HdsA X (h0 :: hs) l) : PS X (.Try body (h0 :: hs) [] [] pos) (fun D σ H => tb (wAll X.K Wo D l) D σ H) := by
  refine ⟨fun pins s σ H D I h => ?_⟩
  have ok := I.ok
  have hfr : X.A.frames = some (X.env :: X.outer) := by rw [ok.frames, hst]
  refine wpAny_Try_except ?_
  refine wpAny_mono ((hb (wAll X.K Wo D l) (X.pn ++ pins) (fun e s1 => wpAny (model X.prog X.w) X.A (noteFrame e X.env) (fun _ s2 => wpAny (model X.prog X.w) X.A (setFlight e none) (fun _ s3 =>
    wpAny (model X.prog X.w) X.A (handleBy e X.env (h0 :: hs)) (SP X pins D) X.xe s3) X.xe s2) X.xe s1) (fun u s' xx => ?_) PassesOwn.looking).run [] s σ H D (I.toTry _) h) (fun f s1 hsp => ?_) (fun e s1 he => he)
  · obtain ⟨a, B, sI, pins', σ', H', cls, d, rfl, J', nb, up, sky, na, os, ag, w⟩ := xx
    have J : Inv X pins σ' H' sI := J'.ofTry ok
    have sky' : Sky B (X.env :: X.outer) a (Zc cls d) X.env.locals s'.heap := by rw [← hst]; exact sky
    show wpAny (model X.prog X.w) X.A (noteFrame (.ref a) X.env) _ _ _
    refine Sky.land Zc.steady hfr hf sky' fun h3 fl3 up3 => ?_
    have off : a ∉ frs (X.env :: X.outer) := fun hm => by
      obtain ⟨oe, vs, e, _, dd⟩ := fl3.there
      obtain ⟨_, o', e', hnf⟩ := fl3.2.2.1.mem hm
      rw [e] at e'
      cases e'
      exact hnf _ dd
    refine clauses hst hf tk ok na (fun {h} fl up2 => J.landed nb fl.1 (up.trans up2) os ag) ⟨fun z => off (List.mem_filterMap.mpr ⟨X.env, List.mem_cons_self, by rw [hf, z]⟩), fun hm => ?_⟩ (fun {h4} hh up4 wo => ?_) fl3 up3 hh w
    · obtain ⟨e, he, q⟩ := List.mem_filterMap.mp hm
      exact off (List.mem_filterMap.mpr ⟨e, List.mem_cons_of_mem _ he, q⟩)
    · exact tk _ _ ⟨a, B, sI, pins, σ', H', cls, d, rfl, J, nb, up.trans up4, .inr (.inr (by rw [hst]; exact hh)), na, os, ag, wo⟩
  · cases f with
    | ret u =>
      obtain ⟨v, σ', H', J', r, q⟩ := hsp
      exact ⟨v, σ', H', J'.ofTry ok, r, q⟩
    | next =>
      obtain ⟨σ', H', J', q⟩ := hsp
      exact wpAny_execs_nil ⟨σ', H', J'.ofTry ok, q⟩
    | brk =>
      obtain ⟨σ', H', J', q⟩ := hsp
      exact ⟨σ', H', J'.ofTry ok, q⟩
    | cont =>
      obtain ⟨σ', H', J', q⟩ := hsp
      exact ⟨σ', H', J'.ofTry ok, q⟩
end
end WL
end L2
set_option Elab.async false
set_option linter.all false
set_option maxRecDepth 100000
set_option maxHeartbeats 4000000
namespace L2
namespace WL
open PySem PySem.Spec PyProof.Rows K1
open Builtin
/-! ### == and != by the class's __eq__ -/
section
variable {M : Model} {A : Around} {E : Value → Shared → Prop} {s : Shared} {K : PySem.W.Frag} {x C : Addr} {ox : Obj} {od : Option Obj} {name : Str} {id : String} {args : List Value}
theorem ifBound_B {Q : Option Value → Shared → Prop} (kin : K.In s.heap) (I : PySem.W.InstAt s.heap x ox C od) (hs : PySem.W.findIn K (.ref C) name = some (some (.builtin id))) (hb : bindSpecial (.builtin id) (.ref x) = pure (.builtin id, [.ref x]))
    (h : wpAny M A (call (.builtin id) (.ref x :: args)) (fun v => Q (some v)) E s) : wpAny M A (callSpecialIfBound? (.ref x) name args) Q E s := by
  simp only [callSpecialIfBound?, bindSpecialIfBound?]
  refine wpAny_holding (wpAny_bind (wpAny_bind (wpAny_bind (I.type.here ((PySem.W.looks_findIn kin hs).here ?_)))))
  simp only [hb]
  have go : wpAny M A (call (.builtin id) ([.ref x] ++ args) >>= fun v => pure (some v)) Q E s := wpAny_bind (wpAny_mono h (fun _ _ z => wpAny_pure z) fun _ _ z => z)
  refine wpAny_bind (wpAny_askSetting (wpAny_ite ?_))
  split
  · exact wpAny_bind (wpAny_pure (wpAny_pure go))
  · exact wpAny_tryCatch (wpAny_bind (wpAny_pure (wpAny_pure go)))
end
section
variable {X : Cx} {CX : CXT} {k : Nat} {C f : Addr} {fd : FuncData} {ps : List Str} {sp : Sp} {E : XK}
def rEqO (K : PySem.W.Frag) (C : Addr) (sp : Sp) (E : XK) (g : Bool → Bool) : R2 := fun x y H Q => ∃ a dx fs t, x = .ref a ∧ H a = some (.ins C dx fs) ∧ TyX K H y t ∧ PySem.W.notFirst K C t = true ∧ sp [x, y] H (fun v H' => ∃ b, v = .bl b ∧ Q (.bl (g b)) H') E
theorem op_eqO (M : Spc X.K C "__eq__" f) (F : FnOk X.prog X.w X.K X.mg X.base CX k f fd ps sp) (hr : Room k X.A) (hu : X.A.units < cLine) (hb : Binds X.K fd ps []) (hx : Passes CX X E) : OpR X (compareOp .Eq) (rEqO X.K C sp E id) := by
  intro pins s σ H x y v u Q I rx ry h
  obtain ⟨a, dx, fs, t, rfl, ha, ty, hn, hsp⟩ := h
  cases rx
  obtain ⟨mA, J, _⟩ := ins_get I.hok ha
  obtain ⟨od, J, _⟩ := J.look
  obtain ⟨m, hF⟩ := I.fr
  obtain ⟨Pk, Z, pk, _⟩ := kit_of I ry ty
  refine PySem.W.cmp_K (op := .Eq) hu hF I.ok.mod.kin J (Z.ty _ _ I.kIn pk) hn M.at_ M.fn ?_
  refine wpAny_mono (run_fn (us := [.ref a, u]) (vs := [.ref a, y]) F hr hb .nil hx I (.cons rfl (.cons ry .nil)) hsp) (fun r s' q => ?_) fun _ _ z => z
  obtain ⟨z, H', I', rz, b, rfl, q⟩ := q
  cases rz
  exact ⟨.bl b, H', I', rfl, q⟩
theorem op_neO (M : Spc X.K C "__eq__" f) (hne : PySem.W.findIn X.K (.ref C) "__ne__" = some (some (.builtin "object.__ne__"))) (hmo : PySem.W.mroIn X.K C (.type "object") = some true) (F : FnOk X.prog X.w X.K X.mg X.base CX0 k f fd ps sp) (hr : Room (k + 1) X.A) (hu : X.A.units + 1 < cLine) (hb : Binds X.K fd ps []) : OpR X (compareOp .NotEq) (rEqO X.K C sp E not) := by
  intro pins s σ H x y v u Q I rx ry h
  obtain ⟨a, dx, fs, t, rfl, ha, ty, hn, hsp⟩ := h
  cases rx
  obtain ⟨mA, J, _⟩ := ins_get I.hok ha
  obtain ⟨od, J, _⟩ := J.look
  obtain ⟨m, hF⟩ := I.fr
  obtain ⟨Pk, Z, pk, _⟩ := kit_of I ry ty
  have inst : PySem.W.Looks (model X.prog X.w) s.heap (isInstance (.ref a) (.type "object")) true := J.type.andThen (PySem.W.looks_mroIn I.kIn hmo)
  have one : wpAny (model X.prog X.w) X.A (tryCompare (.ref a) "__ne__" u) (fun r s' => ∃ v, r = some v ∧ EP X pins σ Q v s') X.xe s := by
    unfold tryCompare
    refine wpAny_bind (ifBound_B I.kIn J hne (PySem.F.cmp_object.ne.bind _) (wpAny_call (codeAny_call_builtin PySem.F.cmp_object.ne.plain PySem.F.cmpEntry_ne (PySem.W.check_slot PySem.F.cmpKind_ne PySem.F.cmpSplit_ne inst (PySem.F.cmpArgs_ne _ _) ?_))))
    unfold Builtin.«object.__ne__»
    refine wpAny_bind (wpAny_of_eq (a := (Value.ref a, [u])) (by first | rfl | kernel_rfl) ?_)
    show wpAny _ _ (cRoomFor "comparison" [.ref a, u] >>= _) _ _ _
    refine wpAny_bind (wpAny_cRoomFor hu ?_)
    refine wpAny_bind (PySem.W.ifBound_K I.kIn J M.at_ M.fn ?_)
    refine wpAny_mono (run_fn0 (us := [.ref a, u]) (vs := [.ref a, y]) F (L2.Sub.in1 ⟨hr, rfl⟩) hb I (.cons rfl (.cons ry .nil)) hsp) (fun r s' q => ?_) fun _ _ z => z
    obtain ⟨z, H', I', rz, b, rfl, q⟩ := q
    cases rz
    show wpAny _ _ (truthy (.bool b) >>= _) _ _ _
    refine wpAny_bind (wpAny_truthy_bool (wpAny_pure ?_))
    exact wpAny_pure ⟨_, rfl, .bl (!b), H', I', rfl, q⟩
  show wpAny _ _ (richCompare .NotEq (.ref a) u) _ _ _
  unfold richCompare
  simp only [oneThing_ref]
  refine wpAny_holding (wpAny_bind (wpAny_cRoomFor (Nat.lt_of_succ_lt hu) ?_))
  refine wpAny_bind (J.type.here (wpAny_bind ((Z.ty _ _ I.kIn pk).here ?_)))
  split
  · rename_i q
    have e : PySem.W.subIn X.K t (.ref C) = some false := by
      rcases Bool.or_eq_true_iff.mp hn with e | e
      · rw [beq_iff_eq.mp e] at q
        simp at q
      · exact beq_iff_eq.mp e
    refine wpAny_bind ((PySem.W.looks_subIn I.kIn e).here ?_)
    simp only [Bool.false_eq_true, if_false]
    refine wpAny_bind (wpAny_mono one (fun r s' z => ?_) fun _ _ e => e)
    obtain ⟨v, rfl, hq⟩ := z
    exact wpAny_pure hq
  · refine wpAny_bind (wpAny_pure ?_)
    simp only [Bool.false_eq_true, if_false]
    refine wpAny_bind (wpAny_mono one (fun r s' z => ?_) fun _ _ e => e)
    obtain ⟨v, rfl, hq⟩ := z
    exact wpAny_pure hq
end
end WL
end L2
set_option Elab.async false
set_option linter.all false
set_option maxRecDepth 100000
set_option maxHeartbeats 4000000
namespace L2
namespace WL
open PySem PySem.Spec PyProof.Rows K1
/-! ### data of texts -/
abbrev dS (xs : List Str) : List PyData := xs.map .str
def sOk (xs : List Str) : Prop := ∀ x ∈ xs, ∀ c ∈ x.cps.toList, c < 1114112
theorem dp_strs {K : PySem.W.Frag} {H : Hp} : ∀ xs : List Str, DpAll K H (xs.map .str) (dS xs)
  | [] => .nil
  | x :: xs => .cons (.str x) (dp_strs xs)
theorem lay_strs : ∀ {xs : List Str}, sOk xs → PyData.canLayAll0 (dS xs) = true
  | [], _ => rfl
  | x :: xs, h => by
    show (PyData.canLay0 (.str x) && PyData.canLayAll0 (dS xs)) = true
    rw [lay_strs fun y hy => h y (List.mem_cons_of_mem _ hy), Bool.and_true]
    show (x.cps.all (· < 1114112)) = true
    rw [Array.all_eq_true']
    intro c hc
    exact decide_eq_true (h x (List.mem_cons_self ..) c (by simpa using hc))
theorem dep_strs : ∀ xs : List Str, PyData.depthAll (dS xs) = 0
  | [] => rfl
  | x :: xs => by
    show max 0 (PyData.depthAll (dS xs)) = 0
    rw [dep_strs xs]
    rfl
theorem shape_tup {xs : List Str} (h : sOk xs) : SeqAt.shaped (.tuple (dS xs)) = true := by
  unfold SeqAt.shaped
  have e : PyData.depth (.tuple (dS xs)) = PyData.depthAll (dS xs) + 1 := rfl
  rw [e, dep_strs]
  show (PyData.canLayAll0 (dS xs) && true) = true
  rw [lay_strs h]
  rfl
theorem eqv_strs : ∀ xs ys : List Str, PyData.eqvAll (dS xs) (dS ys) = decide (xs = ys)
  | [], [] => rfl
  | [], y :: ys => rfl
  | x :: xs, [] => rfl
  | x :: xs, y :: ys => by
    show ((x == y) && PyData.eqvAll (dS xs) (dS ys)) = _
    rw [eqv_strs xs ys]
    by_cases e : x = y
    · subst e
      by_cases f : xs = ys
      · subst f
        simp
      · rw [decide_eq_false f, decide_eq_false (fun z => f (List.cons.inj z).2), Bool.and_false]
    · have e2 : (x == y) = false := by simpa using e
      rw [e2, Bool.false_and, decide_eq_false (fun z => e (List.cons.inj z).1)]
section
variable {X : Cx} {pins : List (Addr × Obj)} {σ : St} {H : Hp} {s : Shared}
theorem eqP_tup (I : Inv X pins σ H s) {A : Around} (hu : A.units + 64 < cLine) {a b : Addr} {xs ys : List Str} (ha : SqT X.K H a (xs.map .str)) (hb : SqT X.K H b (ys.map .str)) (ox : sOk xs) (oy : sOk ys) :
    SeqAt.EqP X.prog X.w A s (.ref a) (.ref b) (decide (xs = ys)) := by
  obtain ⟨as, r1⟩ := Dp.reads I (.tuple (dS xs)) (.ref a) (.ref a) (.tup ha (dp_strs xs)) rfl
  obtain ⟨bs, r2⟩ := Dp.reads I (.tuple (dS ys)) (.ref b) (.ref b) (.tup hb (dp_strs ys)) rfl
  have e : PyData.eqv (.tuple (dS xs)) (.tuple (dS ys)) = decide (xs = ys) := eqv_strs xs ys
  rw [← e]
  exact (SeqAt.eqAt_reads _ _ A s _ _ as bs r1 r2 (SeqAt.canLay_of_shaped (shape_tup ox)) (SeqAt.canLay_of_shaped (shape_tup oy)) (SeqAt.room_of_shaped (shape_tup ox) hu)).eqP
/-- whether two dicts from texts to tuples of texts are equal -/
def dEq (ps qs : Rws) : Bool := decide (ps.length = qs.length) && ps.all fun p => decide (srcs qs p.1 = some p.2)
def rOk (ps : Rws) : Prop := ∀ p ∈ ps, sOk p.2
theorem srcs_mem {ps : Rws} {z : Str} {xs : List Str} (h : srcs ps z = some xs) : ∃ p ∈ ps, p.1 = z ∧ p.2 = xs := by
  unfold srcs at h
  obtain ⟨p, hp, rfl⟩ := Option.map_eq_some_iff.mp h
  exact ⟨p, List.mem_of_find?_eq_some hp, of_decide_eq_true (by have := List.find?_some hp; simpa using this), rfl⟩
theorem hits_tup (I : Inv X pins σ H s) {A : Around} (hu : A.units + 64 < cLine) {ls : List (Key × V)} {qs : Rws} (dl : DTup X.K H ls qs) (oq : rOk qs) {vb : List (Key × Value)} (rb : KV ls vb) : ∀ {ks : List (Key × V)} {ps : Rws}, DTup X.K H ks ps → rOk ps → ∀ {va : List (Key × Value)}, KV ks va →
    PySem.W.KeqHitsP X.prog X.w A s vb va (ps.all fun p => decide (srcs qs p.1 = some p.2))
  | _, _, .nil, _, va, r => by
    cases r
    exact .nil
  | kv :: ks, p :: ps, .cons ⟨e1, a, e2, q⟩ t, op, va, r => by
    cases r with
    | @cons _ w _ ws h tl =>
      obtain ⟨key, v⟩ := w
      obtain ⟨h1, h2⟩ := h
      have h1' : kv.1 = key := h1
      subst h1'
      rw [e2] at h2
      cases (show v = Value.ref a from h2)
      have ih := hits_tup I hu dl oq rb t (fun p' hp' => op p' (List.mem_cons_of_mem _ hp')) tl
      rw [List.all_cons]
      rcases dl.get (z := p.1) with ⟨xs, b, g1, g2, g3⟩ | ⟨g1, g2⟩
      · have rr : RelO (some (.ref b)) (valueAt vb kv.1) := by
          rw [← g2, ← e1]
          exact rb.val kv.1
        obtain ⟨y, hy, ry⟩ := rr.some_of
        cases (show y = Value.ref b from ry)
        obtain ⟨p', hp', _, rfl⟩ := srcs_mem g1
        have eq := eqP_tup I hu q g3 (op p (List.mem_cons_self ..)) (oq p' hp')
        have e : decide (srcs qs p.1 = some p.2) = decide (p.2 = p'.2) := by
          rw [g1]
          by_cases z : p.2 = p'.2
          · rw [decide_eq_true z, decide_eq_true (by rw [z])]
          · rw [decide_eq_false z, decide_eq_false (fun w => z (Option.some.inj w).symm)]
        rw [e]
        exact .hit hy eq ih
      · have rr : RelO none (valueAt vb kv.1) := by
          rw [← g2, ← e1]
          exact rb.val kv.1
        have hn : valueAt vb kv.1 = none := by
          cases z : valueAt vb kv.1 with
          | none => rfl
          | some y =>
            rw [z] at rr
            cases rr
        rw [g1, decide_eq_false (fun z => nomatch z), Bool.false_and]
        exact .miss hn
def rEqDT (K : PySem.W.Frag) : R2 := fun x y H Q => ∃ a b ks ls ps qs, x = .ref a ∧ y = .ref b ∧ H a = some (.dK ks) ∧ H b = some (.dK ls) ∧ DTup K H ks ps ∧ DTup K H ls qs ∧ rOk ps ∧ rOk qs ∧ Q (.bl (dEq ps qs)) H
theorem op_eqDT (hu : X.A.units + 65 < cLine) : OpR X (compareOp .Eq) (rEqDT X.K) := by
  intro pins s σ H x y v u Q I rx ry h
  obtain ⟨a, b, ks, ls, ps, qs, rfl, rfl, ha, hb, dk, dl, op, oq, q⟩ := h
  cases rx
  cases ry
  obtain ⟨_, ya, va, ra, da⟩ := (show ObjOk X.prog X.w H s.heap a (.dK ks) from I.hok a _ ha)
  obtain ⟨_, yb, vb, rb, db⟩ := (show ObjOk X.prog X.w H s.heap b (.dK ls) from I.hok b _ hb)
  have e : (va.length == vb.length) = decide (ps.length = qs.length) := by
    rw [← ra.length, ← rb.length, dk.len, dl.len]
    by_cases z : ps.length = qs.length
    · rw [decide_eq_true z, z]
      simp
    · rw [decide_eq_false z]
      simpa using z
  show wpAny _ _ (richCompare .Eq _ _) _ _ _
  refine PySem.W.rcP_dicts (knd := mixKind X.prog X.w) ya yb da db (by omega) (fun _ => hits_tup I (A := X.A.in1) (by show X.A.units + 1 + 64 < cLine; omega) dl oq rb dk op ra) _ _ ?_
  rw [e]
  exact ⟨.bl (dEq ps qs), H, I, rfl, q⟩
end
end WL
end L2
namespace L2
namespace WL
open PySem PySem.Spec PyProof.Rows K1
/-- whether a value is a cell -/
def inWeb (rs : Rws) : V → Bool
  | .str z => decide (z ∈ rs.map Prod.fst)
  | _ => false
def spCon (K : PySem.W.Frag) (C : Addr) : Sp := fun vs H Q _ => ∃ (p : Addr) (x : V) (b : Bool) (rs : Rws), vs = [.ref p, x] ∧ IsWeb K H C p rs ∧ Good rs ∧ IsN K H x b ∧ ∀ H', Same H H' → Q (.bl (inWeb rs x)) H'
theorem isn_in {K : PySem.W.Frag} {H : Hp} {x : V} {b : Bool} {rs : Rws} (g : Good rs) (h : IsN K H x b) : (b = false → inWeb rs x = false) ∧ (b = true → ∃ z, x = .str z) := by
  rcases h with ⟨z, rfl, _, rfl⟩ | ⟨t, ty, kt, rfl⟩
  · refine ⟨fun e => decide_eq_false fun m => ?_, fun _ => ⟨z, rfl⟩⟩
    obtain ⟨r, hr, rfl⟩ := List.mem_map.mp m
    rw [g.nm r hr] at e
    cases e
  · refine ⟨fun _ => ?_, fun e => by cases e⟩
    cases x with
    | str z =>
      exfalso
      cases ty with
      | base h =>
        cases h
        rw [kit_ty (K := K) (a := "str") (b := "str") (r := true) (by decide +kernel)] at kt
        cases kt
    | _ => rfl
def spLenW (K : PySem.W.Frag) (C : Addr) : Sp := fun vs H Q _ => ∃ (p : Addr) (rs : Rws), vs = [.ref p] ∧ IsWeb K H C p rs ∧ Q (.int (rs.length : Nat)) H
def spCC (K : PySem.W.Frag) (C CU : Addr) : Sp := fun vs H Q E => ∃ (p : Addr) (v : V) (xs : List V) (rs : Rws), vs = [.ref p, v] ∧ Seq K H v xs ∧ IsWeb K H C p rs ∧ Good rs ∧ (∀ x ∈ xs, ∃ b, IsN K H x b) ∧
  ((xs.all (inWeb rs) = true ∧ ∀ H', Same H H' → Q .non H') ∨ ∃ x, xs.find? (fun x => !inWeb rs x) = some x ∧ Rz H E CU "cell" x)
def spSrc (K : PySem.W.Frag) (C CU : Addr) (f : Rws → Rws) : Sp := fun vs H Q E => ∃ (p : Addr) (x : V) (b : Bool) (rs : Rws), vs = [.ref p, x] ∧ IsWeb K H C p rs ∧ Good rs ∧ IsN K H x b ∧
  ((∃ z xs, x = .str z ∧ srcs (f rs) z = some xs ∧ z ∈ rs.map Prod.fst ∧ ∀ H' a, Same H H' → SqT K H' a (xs.map .str) → Q (.ref a) H') ∨ (inWeb rs x = false ∧ Rz H E CU "cell" x))
theorem Rz.up {H H1 : Hp} {E : XK} {C : Addr} {f : Str} {v : V} (h : Rz H E C f v) (s : Same H H1) : Rz H1 E C f v := fun H' d s' e => h H' d (s.trans s') e
end WL
end L2
namespace L2
namespace WL
open PySem PySem.Spec PyProof.Rows K1
/-- what isinstance asks of the class Web -/
structure Wk (K : PySem.W.Frag) (C : Addr) : Prop where
  ins : ∀ {H : Hp} {p dx : Addr} {fs : List (Str × V)}, H p = some (.ins C dx fs) → TyX K H (.ref p) (.ref C)
  self : PySem.W.kitOne K (.ref C) (.ref C) = some true
def wEq (rs qs : Rws) : Bool := decide (rs.map Prod.fst = qs.map Prod.fst) && dEq rs qs
def wOk (rs : Rws) : Prop := sOk (rs.map Prod.fst) ∧ rOk rs
theorem isNm_ok {z : Str} (h : isNm z = true) : ∀ c ∈ z.cps.toList, c < 1114112 := fun c m => by
  unfold isNm at h
  obtain ⟨_, h⟩ := Bool.and_eq_true_iff.mp h
  obtain ⟨_, h⟩ := Bool.and_eq_true_iff.mp h
  have := List.all_eq_true.mp h c m
  unfold okc at this
  obtain ⟨_, h2⟩ := Bool.and_eq_true_iff.mp this
  have := of_decide_eq_true h2
  omega
theorem Good.ok {rs : Rws} (g : Good rs) : wOk rs := ⟨fun x hx => by
  obtain ⟨r, hr, rfl⟩ := List.mem_map.mp hx
  exact isNm_ok (g.nm r hr), fun r hr x hx => by
  obtain ⟨r', hr', rfl⟩ := List.mem_map.mp ((g.sr r hr).2.2 x hx)
  exact isNm_ok (g.nm r' hr')⟩
def spEqW (K : PySem.W.Frag) (C : Addr) : Sp := fun vs H Q _ => ∃ (p : Addr) (y : V) (rs : Rws), vs = [.ref p, y] ∧ IsWeb K H C p rs ∧ wOk rs ∧
  ((∃ t, TyX K H y t ∧ PySem.W.kitOne K t (.ref C) = some false ∧ Q (.bl false) H) ∨ ∃ p2 qs, y = .ref p2 ∧ IsWeb K H C p2 qs ∧ wOk qs ∧ Q (.bl (wEq rs qs)) H)
end WL
end L2
set_option Elab.async false
set_option linter.all false
set_option maxRecDepth 100000
set_option maxHeartbeats 4000000
namespace L2
namespace WL
open PySem PySem.Spec PyProof.Rows K1
/-- list(e.values()) -/
def tListVals (te : TE) : TE := fun σ H Q => te σ H fun x H1 => ∃ (d : Addr) (kvs : List (Key × V)), x = .ref d ∧ H1 d = some (.dK kvs) ∧ ∀ p, H1 p = none → Q (.ref p) (upd H1 p (.lst (kvs.map (·.2))))
theorem vals_of {kvs : List (Key × V)} {vs : List (Key × Value)} (r : KV kvs vs) : Vals (kvs.map (·.2)) (vs.map (·.2)) := by
  unfold KV at r
  induction r with
  | nil => exact .nil
  | cons h _ ih => exact .cons h.2 ih
section
variable {X : Cx} {e : Expr} {te : TE} {p apos cpos pos : Pos}
theorem pe_listVals (hc : X.calm = true) (he : PE X e te) (hg : Gl X "list") (hm : X.mg "list" = none) (hbase : attributeBase e "values" X.env (eval e X.env) = eval e X.env := by rfl) (hline : (apos.endLine == cpos.line) = true := by rfl)
    (hs : starEach [.Call (.Attribute e "values" apos) [] [] cpos] X.env = (false, eval (.Call (.Attribute e "values" apos) [] [] cpos) X.env) :: starEach [] X.env := by rfl) :
    PE X (.Call (.Name "list" p) [.Call (.Attribute e "values" apos) [] [] cpos] [] pos) (tListVals te) := by
  refine ⟨fun pins s σ H Q I hq => ?_⟩
  refine wpAny_Call_Name_kw (ld_blt I hg hm PyProof.Rows.boot_list (PyProof.Rows.callWith_type1 ?_ hs rfl))
  rw [hs]
  show wpAny _ _ (spliced ((false, eval (.Call (.Attribute e "values" apos) [] [] cpos) X.env) :: backTo pos (starEach [] X.env))) _ _ s
  refine Calls.spliced_cons (wpAny_Call_method (T := "dict") (id := "dict.values") hbase rfl hline F.plainAttrs_dict F.slot_dict_values F.type_dict_values (thn (he.run pins s σ H _ I hq) fun u s1 ⟨x, H1, I1, rx, d, kvs, ex, hd, q⟩ => ?_))
  subst ex
  obtain rfl : u = Value.ref d := rx
  obtain ⟨hz, hs0, vs, kv, hdo⟩ := I1.hok d _ hd
  obtain ⟨ep, hat⟩ := hdo.dictAt
  have lk : kvs.length = vs.length := Paired.length kv
  have I2 : Inv X pins σ H1 { s1 with heap := s1.heap.push { cls := .type "dict_values", data := .fields #[.ref d] } } := I1.kept (t' := s1.toks) fun b ob q => Heap.get?_push_of_some _ q
  refine ⟨hdo.typeIs, hdo.mapOf.noDict, ?_⟩
  show wpAny _ _ (callWith cpos (.builtin "dict.values") [.ref d] [] []) _ X.xe s1
  refine method_meetsIn F.slot_dict_values F.entry_dict_values rfl (PySem.evalArgs_none ⟨rfl, hdo.typeIs, F.args_dict_values_1 _, _, meets_dict_values (mixKind X.prog X.w) d hs0, ⟨vs, hdo⟩, Calls.spliced_nil ?_⟩)
  refine PySem.W.kdl_call (PySem.W.kdl_values (knd := mixKind X.prog X.w) (kvs := vs) (ep := ep)) (I1.ok.hd hc) ⟨⟨_, Heap.get?_push_size _ rfl, rfl, rfl⟩, hat.push _⟩ (by omega) fun h' tk acc c hk hD hacc => ?_
  refine ⟨.ref _, _, I2.laid (t' := tk) (o := .lst (kvs.map (·.2))) hk (Nat.le_refl _) ⟨by rw [List.length_map]; exact hz, acc.toList, c, ?_, ?_⟩, rfl, q _ (I2.hok.fresh (Nat.le_refl _))⟩
  · have ea : acc.toList = vs.map (·.2) := by
      apply List.ext_getElem?
      intro i
      rw [List.getElem?_map, Array.getElem?_toList]
      cases hv : acc[i]? with
      | some v =>
        obtain ⟨k, hk'⟩ := hacc.2 i v hv
        rw [hk']
        rfl
      | none =>
        have : acc.size ≤ i := Array.getElem?_eq_none_iff.mp hv
        rw [hacc.1] at this
        rw [List.getElem?_eq_none this]
        rfl
    rw [ea]
    exact vals_of kv
  · rw [Array.toArray_toList]
    exact hD
end
end WL
end L2
set_option Elab.async false
set_option linter.all false
set_option maxRecDepth 100000
set_option maxHeartbeats 4000000
namespace L2
namespace WL
open PySem PySem.Spec PyProof.Rows K1
/-! ### walks along arrows -/
/-- behind k arrows from b, all cells but b told ones -/
def wk (rs : Rws) (cs : List Str) (b : Str) : Nat → Str → Prop
  | 0, x => x = b
  | k + 1, x => x ∈ cs ∧ ∃ y, wk rs cs b k y ∧ x ∈ tgt rs y
/-- k + 1 arrows from b back to b -/
def clo (rs : Rws) (cs : List Str) (b : Str) (k : Nat) : Prop := ∃ y, wk rs cs b k y ∧ b ∈ tgt rs y
inductive Pth (rs : Rws) (cs : List Str) (b : Str) : Nat → List Str → Prop
  | nil : Pth rs cs b 0 [b]
  | snoc {k : Nat} {p : List Str} {y x : Str} (h : Pth rs cs b k p) (l : p.getLast? = some y) (c : x ∈ cs) (t : x ∈ tgt rs y) : Pth rs cs b (k + 1) (p ++ [x])
theorem Pth.len {rs : Rws} {cs : List Str} {b : Str} {k : Nat} {p : List Str} (h : Pth rs cs b k p) : p.length = k + 1 := by
  induction h with
  | nil => rfl
  | snoc h l c t ih =>
    rw [List.length_append, ih]
    rfl
theorem Pth.last {rs : Rws} {cs : List Str} {b : Str} {k : Nat} {p : List Str} (h : Pth rs cs b k p) : ∃ y, p.getLast? = some y ∧ wk rs cs b k y := by
  induction h with
  | nil => exact ⟨b, rfl, rfl⟩
  | @snoc k p y x h l c t ih =>
    obtain ⟨y', e1, e2⟩ := ih
    rw [l] at e1
    cases e1
    exact ⟨x, by simp, c, y, e2, t⟩
theorem Pth.mem {rs : Rws} {cs : List Str} {b : Str} (hb : b ∈ cs) {k : Nat} {p : List Str} (h : Pth rs cs b k p) : ∀ x ∈ p, x ∈ cs := by
  induction h with
  | nil =>
    intro x hx
    have : x = b := by simpa using hx
    rw [this]
    exact hb
  | @snoc k p y x h l c t ih =>
    intro z hz
    rcases List.mem_append.mp hz with hz | hz
    · exact ih z hz
    · have : z = x := by simpa using hz
      rw [this]
      exact c
theorem Pth.head {rs : Rws} {cs : List Str} {b : Str} {k : Nat} {p : List Str} (h : Pth rs cs b k p) : p[0]? = some b := by
  induction h with
  | nil => rfl
  | @snoc k p y x h l c t ih =>
    have : 0 < p.length := by
      rw [h.len]
      omega
    rw [List.getElem?_append_left this]
    exact ih
theorem Pth.arrow {rs : Rws} {cs : List Str} {b : Str} {k : Nat} {p : List Str} (h : Pth rs cs b k p) : ∀ i x y, p[i]? = some x → p[i + 1]? = some y → y ∈ tgt rs x := by
  induction h with
  | nil =>
    intro i x y h1 h2
    rw [List.getElem?_eq_none (by simp)] at h2
    cases h2
  | @snoc k p y x h l c t ih =>
    intro i u v h1 h2
    have hl := h.len
    have lt : i + 1 < (p ++ [x]).length := (List.getElem?_eq_some_iff.mp h2).1
    rw [List.length_append] at lt
    have lt' : i + 1 < p.length + 1 := lt
    by_cases hi : i + 1 < p.length
    · rw [List.getElem?_append_left hi] at h2
      rw [List.getElem?_append_left (by omega)] at h1
      exact ih i u v h1 h2
    · have ei : i + 1 = p.length := by omega
      rw [List.getElem?_append_right (by omega)] at h2
      have e2 : v = x := by
        rw [ei, Nat.sub_self] at h2
        exact (Option.some.inj h2).symm
      rw [List.getElem?_append_left (by omega)] at h1
      have e1 : p.getLast? = some u := by
        rw [List.getLast?_eq_getElem?]
        have : p.length - 1 = i := by omega
        rw [this]
        exact h1
      rw [l] at e1
      cases e1
      rw [e2]
      exact t
/-- ps are the walks of k arrows: each one is, each end has one -/
structure Lev (rs : Rws) (cs : List Str) (b : Str) (k : Nat) (ps : List (List Str)) : Prop where
  pth : ∀ p ∈ ps, Pth rs cs b k p
  all : ∀ x, wk rs cs b k x → ∃ p ∈ ps, p.getLast? = some x
/-- qs are ps one cell longer -/
structure Lng (rs : Rws) (cs : List Str) (ps qs : List (List Str)) : Prop where
  of : ∀ q ∈ qs, ∃ p ∈ ps, ∃ y x, p.getLast? = some y ∧ x ∈ tgt rs y ∧ x ∈ cs ∧ q = p ++ [x]
  all : ∀ p ∈ ps, ∀ y, p.getLast? = some y → ∀ x ∈ tgt rs y, x ∈ cs → ∃ q ∈ qs, q.getLast? = some x
theorem Lev.next {rs : Rws} {cs : List Str} {b : Str} {k : Nat} {ps qs : List (List Str)} (h : Lev rs cs b k ps) (l : Lng rs cs ps qs) : Lev rs cs b (k + 1) qs where
  pth := fun q hq => by
    obtain ⟨p, hp, y, x, e1, e2, e3, rfl⟩ := l.of q hq
    exact .snoc (h.pth p hp) e1 e3 e2
  all := fun x hx => by
    obtain ⟨c, y, hy, t⟩ := hx
    obtain ⟨p, hp, e⟩ := h.all y hy
    exact l.all p hp y e x t c
theorem Lev.zero {rs : Rws} {cs : List Str} {b : Str} : Lev rs cs b 0 [[b]] where
  pth := fun p hp => by
    have : p = [b] := by simpa using hp
    rw [this]
    exact .nil
  all := fun x hx => ⟨[b], by simp, by rw [show x = b from hx]; rfl⟩
theorem wk_none {rs : Rws} {cs : List Str} {b : Str} {k : Nat} (h : ∀ x, ¬ wk rs cs b k x) : ∀ j x, ¬ wk rs cs b (k + j) x
  | 0, x => h x
  | j + 1, x => fun z => by
    obtain ⟨_, y, hy, _⟩ := z
    exact wk_none h j y hy
/-! ### the dict of longer paths -/
def putM (M : Rws) (x : Str) (xs : List Str) : Rws := if (M.any fun m => decide (m.1 = x)) = true then M.map fun m => if m.1 = x then (m.1, xs) else m else M ++ [(x, xs)]
theorem putM_mem {M : Rws} {x : Str} {xs : List Str} {m : Str × List Str} (h : m ∈ putM M x xs) : m ∈ M ∨ m = (x, xs) := by
  unfold putM at h
  split at h
  · obtain ⟨m', hm', e⟩ := List.mem_map.mp h
    by_cases z : m'.1 = x
    · rw [if_pos z] at e
      exact .inr (by rw [← e, z])
    · rw [if_neg z] at e
      exact .inl (e ▸ hm')
  · rcases List.mem_append.mp h with h | h
    · exact .inl h
    · exact .inr (by simpa using h)
theorem putM_keys {M : Rws} {x : Str} {xs : List Str} : (putM M x xs).map Prod.fst = if (M.any fun m => decide (m.1 = x)) = true then M.map Prod.fst else M.map Prod.fst ++ [x] := by
  unfold putM
  split
  · rw [List.map_map]
    apply List.map_congr_left
    intro m _
    show (if m.1 = x then (m.1, xs) else m).1 = m.1
    split <;> rfl
  · rw [List.map_append]
    rfl
theorem any_key {M : Rws} {x : Str} : (M.any fun m => decide (m.1 = x)) = true ↔ x ∈ M.map Prod.fst := by
  rw [List.any_eq_true]
  constructor
  · rintro ⟨m, hm, e⟩
    exact List.mem_map.mpr ⟨m, hm, of_decide_eq_true e⟩
  · intro h
    obtain ⟨m, hm, e⟩ := List.mem_map.mp h
    exact ⟨m, hm, decide_eq_true e⟩
theorem putM_nodup {M : Rws} {x : Str} {xs : List Str} (nd : (M.map Prod.fst).Nodup) : ((putM M x xs).map Prod.fst).Nodup := by
  rw [putM_keys]
  split
  · exact nd
  · rename_i h
    rw [any_key] at h
    rw [List.nodup_append]
    refine ⟨nd, by simp, fun a ha b hb => ?_⟩
    have : b = x := by simpa using hb
    rw [this]
    exact fun e => h (e ▸ ha)
theorem putM_has {M : Rws} {x : Str} {xs : List Str} {z : Str} (h : z ∈ M.map Prod.fst ∨ z = x) : z ∈ (putM M x xs).map Prod.fst := by
  rw [putM_keys]
  split
  · rename_i k
    rcases h with h | h
    · exact h
    · rw [h]
      exact any_key.mp k
  · rcases h with h | h
    · exact List.mem_append_left _ h
    · rw [h]
      simp
/-- a dict from texts to lists of texts -/
def DLst (H : Hp) (kvs : List (Key × V)) (M : Rws) : Prop := Paired (fun (kv : Key × V) (m : Str × List Str) => kv.1 = kS m.1 ∧ ∃ a, kv.2 = .ref a ∧ H a = some (.lst (m.2.map .str))) kvs M
theorem DLst.same {H H' : Hp} {kvs : List (Key × V)} {M : Rws} (h : DLst H kvs M) (s : Same H H') : DLst H' kvs M := Paired.imp (fun _ _ ⟨e, a, e2, q⟩ => ⟨e, a, e2, s _ _ q⟩) h
theorem DLst.any {H : Hp} {x : Str} : ∀ {kvs : List (Key × V)} {M : Rws}, DLst H kvs M → (kvs.any fun kv => decide (kv.1 = kS x)) = (M.any fun m => decide (m.1 = x))
  | _, _, .nil => rfl
  | kv :: ks, m :: ms, .cons h t => by
    rw [List.any_cons, List.any_cons, DLst.any t]
    congr 1
    rw [h.1]
    by_cases e : m.1 = x
    · rw [decide_eq_true e, decide_eq_true (by rw [e])]
    · have e2 : ¬ kS m.1 = kS x := fun z => e (Sum.inr.inj z)
      rw [decide_eq_false e, decide_eq_false e2]
theorem DLst.repl {H : Hp} {x : Str} {xs : List Str} {q : Addr} (hq : H q = some (.lst (xs.map .str))) : ∀ {kvs : List (Key × V)} {M : Rws}, DLst H kvs M →
    DLst H (kvs.map fun kv => if kv.1 = kS x then (kv.1, .ref q) else kv) (M.map fun m => if m.1 = x then (m.1, xs) else m)
  | _, _, .nil => .nil
  | kv :: ks, m :: ms, .cons h t => by
    rw [List.map_cons, List.map_cons]
    refine .cons ?_ (DLst.repl hq t)
    by_cases e : m.1 = x
    · rw [if_pos e, if_pos (by rw [h.1, e])]
      exact ⟨h.1, q, rfl, hq⟩
    · rw [if_neg e, if_neg (by rw [h.1]; exact fun z => e (Sum.inr.inj z))]
      exact h
theorem DLst.put {H : Hp} {x : Str} {xs : List Str} {q : Addr} {kvs : List (Key × V)} {M : Rws} (h : DLst H kvs M) (hq : H q = some (.lst (xs.map .str))) : DLst H (putK kvs (kS x) (.ref q)) (putM M x xs) := by
  have e := h.any (x := x)
  unfold putK putM
  rw [e]
  split
  · exact h.repl hq
  · exact Paired.snoc h ⟨rfl, q, rfl, hq⟩
/-- a list of lists of texts -/
def PthV (H : Hp) (v : V) (q : List Str) : Prop := ∃ a, v = .ref a ∧ H a = some (.lst (q.map .str))
theorem PthV.same {H H' : Hp} {v : V} {q : List Str} (h : PthV H v q) (s : Same H H') : PthV H' v q := let ⟨a, e, b⟩ := h; ⟨a, e, s _ _ b⟩
def PathsAt (H : Hp) (l : Addr) (ps : List (List Str)) : Prop := ∃ vs, H l = some (.lst vs) ∧ Paired (PthV H) vs ps
theorem PathsAt.same {H H' : Hp} {l : Addr} {ps : List (List Str)} (h : PathsAt H l ps) (s : Same H H') : PathsAt H' l ps := let ⟨vs, e, a⟩ := h; ⟨vs, s _ _ e, Paired.imp (fun _ _ r => r.same s) a⟩
theorem DLst.vals {H : Hp} : ∀ {kvs : List (Key × V)} {M : Rws}, DLst H kvs M → Paired (PthV H) (kvs.map (·.2)) (M.map Prod.snd)
  | _, _, .nil => .nil
  | _, _, .cons h t => .cons h.2 (DLst.vals t)
theorem tgt_cell {rs : Rws} {y x : Str} (h : x ∈ tgt rs y) : x ∈ rs.map Prod.fst := by
  unfold tgt at h
  obtain ⟨r, hr, rfl⟩ := List.mem_map.mp h
  exact List.mem_map.mpr ⟨r, (List.mem_filter.mp hr).1, rfl⟩
theorem tgt_len {rs : Rws} {y : Str} : (tgt rs y).length ≤ rs.length := by
  unfold tgt
  rw [List.length_map]
  exact List.length_filter_le _ _
theorem srcs_tgt {rs : Rws} (nd : (rs.map Prod.fst).Nodup) {y : Str} (h : y ∈ rs.map Prod.fst) : srcs (rs.map fun r => (r.1, tgt rs r.1)) y = some (tgt rs y) := by
  obtain ⟨r, hr, rfl⟩ := List.mem_map.mp h
  have := srcs_at (ps := rs.map fun r => (r.1, tgt rs r.1)) (by rw [List.map_map]; exact nd) (p := (r.1, tgt rs r.1)) (List.mem_map.mpr ⟨r, hr, rfl⟩)
  exact this
/-- one cell longer -/
def spLng (K : PySem.W.Frag) (C : Addr) : Sp := fun vs H Q _ => ∃ (p l : Addr) (vc : V) (rs : Rws) (cs : List Str) (ps : List (List Str)), vs = [.ref p, vc, .ref l] ∧ IsWeb K H C p rs ∧ Good rs ∧ Seq K H vc (cs.map .str) ∧ PathsAt H l ps ∧ ps.length ≤ 1000 ∧ (∀ q ∈ ps, q.length ≤ 1000 ∧ ∃ y, q.getLast? = some y ∧ y ∈ rs.map Prod.fst) ∧
  ∀ H' l' qs, Same H H' → PathsAt H' l' qs → qs.length ≤ rs.length → Lng rs cs ps qs → Q (.ref l') H'
end WL
end L2
set_option Elab.async false
set_option linter.all false
set_option maxRecDepth 100000
set_option maxHeartbeats 4000000
namespace L2
namespace WL
open PySem PySem.Spec PyProof.Rows K1
theorem wk_trans {rs : Rws} {cs : List Str} {b z : Str} {a : Nat} (h : wk rs cs b a z) : ∀ {d : Nat} {y : Str}, wk rs cs z d y → wk rs cs b (a + d) y
  | 0, y, e => by
    rw [show y = z from e]
    exact h
  | d + 1, y, ⟨c, u, hu, t⟩ => ⟨c, u, wk_trans h hu, t⟩
theorem Pth.between {rs : Rws} {cs : List Str} {b : Str} {k : Nat} {p : List Str} (h : Pth rs cs b k p) : ∀ i j x y, i ≤ j → p[i]? = some x → p[j]? = some y → wk rs cs x (j - i) y := by
  induction h with
  | nil =>
    intro i j x y hij h1 h2
    have l1 : j < 1 := (List.getElem?_eq_some_iff.mp h2).1
    have ei : i = 0 := by omega
    have ej : j = 0 := by omega
    subst ei
    subst ej
    cases h1
    cases h2
    exact rfl
  | @snoc k p u x h l c t ih =>
    intro i j v y hij h1 h2
    have hl := h.len
    have lt : j < (p ++ [x]).length := (List.getElem?_eq_some_iff.mp h2).1
    rw [List.length_append] at lt
    have lt' : j < p.length + 1 := lt
    by_cases hj : j < p.length
    · rw [List.getElem?_append_left hj] at h2
      rw [List.getElem?_append_left (by omega)] at h1
      exact ih i j v y hij h1 h2
    · have ej : j = p.length := by omega
      rw [List.getElem?_append_right (by omega), ej, Nat.sub_self] at h2
      have e2 : y = x := (Option.some.inj h2).symm
      by_cases hi : i = j
      · rw [hi, ej, List.getElem?_append_right (by omega), Nat.sub_self] at h1
        have e1 : v = x := (Option.some.inj h1).symm
        rw [hi, Nat.sub_self, e1, e2]
        exact rfl
      · rw [List.getElem?_append_left (by omega)] at h1
        have hu : p[p.length - 1]? = some u := by
          rw [← List.getLast?_eq_getElem?]
          exact l
        have := ih i (p.length - 1) v u (by omega) h1 hu
        have e3 : j - i = (p.length - 1 - i) + 1 := by omega
        rw [e3, e2]
        exact ⟨c, u, this, t⟩
/-- the least number of arrows back -/
def Min (rs : Rws) (cs : List Str) (b : Str) (k : Nat) : Prop := clo rs cs b k ∧ ∀ j, j < k → ¬ clo rs cs b j
theorem min_of {rs : Rws} {cs : List Str} {b : Str} : ∀ {k : Nat}, clo rs cs b k → ∃ m, m ≤ k ∧ Min rs cs b m := by
  intro k
  induction k using Nat.strongRecOn with
  | _ k ih =>
    intro h
    by_cases z : ∃ j, j < k ∧ clo rs cs b j
    · obtain ⟨j, hj, hc⟩ := z
      obtain ⟨m, hm, h2⟩ := ih j hj hc
      exact ⟨m, by omega, h2⟩
    · exact ⟨k, Nat.le_refl _, h, fun j hj hc => z ⟨j, hj, hc⟩⟩
theorem wk_path {rs : Rws} {cs : List Str} {b : Str} : ∀ {k : Nat} {x : Str}, wk rs cs b k x → ∃ p, Pth rs cs b k p ∧ p.getLast? = some x
  | 0, x, e => ⟨[b], .nil, by rw [show x = b from e]; rfl⟩
  | k + 1, x, ⟨c, u, hu, t⟩ => by
    obtain ⟨p, h1, h2⟩ := wk_path hu
    exact ⟨p ++ [x], .snoc h1 h2 c t, by simp⟩
theorem min_short {rs : Rws} {cs : List Str} {b : Str} {k : Nat} (h : Min rs cs b k) (hb : b ∈ cs) (hc : ∀ x ∈ cs, x ∈ rs.map Prod.fst) : k < rs.length := by
  obtain ⟨⟨y, hy, t⟩, hm⟩ := h
  obtain ⟨p, hp, hl⟩ := wk_path hy
  have nd : p.Nodup := by
    unfold List.Nodup
    rw [List.pairwise_iff_getElem]
    intro a c hal hcl hac e
    have hlen := hp.len
    obtain ⟨z, hz⟩ : ∃ z, p[a]? = some z := ⟨_, List.getElem?_eq_getElem hal⟩
    have hz2 : p[c]? = some z := by
      rw [List.getElem?_eq_getElem hcl, ← e, ← List.getElem?_eq_getElem hal]
      exact hz
    have h1 := hp.between 0 a b z (by omega) hp.head hz
    have hy2 : p[k]? = some y := by
      rw [List.getLast?_eq_getElem?, hlen] at hl
      exact hl
    have h2 := hp.between c k z y (by omega) hz2 hy2
    have h3 := wk_trans h1 h2
    exact hm (a - 0 + (k - c)) (by omega) ⟨y, h3, t⟩
  have := pig nd (F := rs.map Prod.fst) fun x hx => hc x (hp.mem hb x hx)
  rw [hp.len, List.length_map] at this
  omega
theorem none_of {rs : Rws} {cs : List Str} {b : Str} {k : Nat} (h : ∀ j, j < k → ¬ clo rs cs b j) (hk : rs.length ≤ k) (hb : b ∈ cs) (hc : ∀ x ∈ cs, x ∈ rs.map Prod.fst) : ∀ j, ¬ clo rs cs b j := fun j hj => by
  obtain ⟨m, _, hm⟩ := min_of hj
  exact h m (by have := min_short hm hb hc; omega) hm.1
theorem none_of_empty {rs : Rws} {cs : List Str} {b : Str} {k : Nat} (h : ∀ j, j < k → ¬ clo rs cs b j) (hk : ∀ x, ¬ wk rs cs b k x) : ∀ j, ¬ clo rs cs b j := fun j ⟨y, hy, t⟩ => by
  by_cases z : j < k
  · exact h j z ⟨y, hy, t⟩
  · have e : j = k + (j - k) := by omega
    rw [e] at hy
    exact wk_none hk _ _ hy
/-- a shortest ring from one cell -/
def spRF (K : PySem.W.Frag) (C : Addr) : Sp := fun vs H Q _ => ∃ (p : Addr) (vc : V) (b : Str) (rs : Rws) (cs : List Str), vs = [.ref p, vc, .str b] ∧ IsWeb K H C p rs ∧ Good rs ∧ Seq K H vc (cs.map .str) ∧ b ∈ cs ∧ (∀ x ∈ cs, x ∈ rs.map Prod.fst) ∧
  (∀ H' q k path y, Same H H' → Min rs cs b k → Pth rs cs b k path → path.getLast? = some y → b ∈ tgt rs y → H' q = some (.lst ((path ++ [b]).map .str)) → Q (.ref q) H') ∧ (∀ H', Same H H' → (∀ k, ¬ clo rs cs b k) → Q .non H')
end WL
end L2
namespace L2
namespace WL
open PySem PySem.Spec PyProof.Rows K1
/-- q is a ring from b, of k + 1 arrows -/
def RingAt (rs : Rws) (cs : List Str) (H : Hp) (q : Addr) (b : Str) (k : Nat) : Prop := b ∈ cs ∧ Min rs cs b k ∧ ∃ path y, Pth rs cs b k path ∧ path.getLast? = some y ∧ b ∈ tgt rs y ∧ H q = some (.lst ((path ++ [b]).map .str))
theorem RingAt.same {rs : Rws} {cs : List Str} {H H' : Hp} {q : Addr} {b : Str} {k : Nat} (h : RingAt rs cs H q b k) (s : Same H H') : RingAt rs cs H' q b k := let ⟨a, c, p, y, h1, h2, h3, h4⟩ := h; ⟨a, c, p, y, h1, h2, h3, s _ _ h4⟩
theorem RingAt.len {rs : Rws} {cs : List Str} {H : Hp} {q : Addr} {b : Str} {k : Nat} (h : RingAt rs cs H q b k) : ∃ xs : List Str, H q = some (.lst (xs.map .str)) ∧ xs.length = k + 2 := by
  obtain ⟨_, _, p, y, h1, _, _, h4⟩ := h
  exact ⟨p ++ [b], h4, by rw [List.length_append, h1.len]; rfl⟩
def spRing (K : PySem.W.Frag) (C CU : Addr) : Sp := fun vs H Q E => ∃ (p : Addr) (vc : V) (xs : List V) (rs : Rws), vs = [.ref p, vc] ∧ IsWeb K H C p rs ∧ Good rs ∧ Seq K H vc xs ∧ (∀ x ∈ xs, ∃ b, IsN K H x b) ∧
  ((∃ x, xs.find? (fun x => !inWeb rs x) = some x ∧ Rz H E CU "cell" x) ∨ ∃ cs : List Str, xs = cs.map .str ∧ (∀ x ∈ cs, x ∈ rs.map Prod.fst) ∧
    (∀ H' q b k, Same H H' → RingAt rs cs H' q b k → (∀ b' ∈ cs, ∀ k', clo rs cs b' k' → k ≤ k') → Q (.ref q) H') ∧ (∀ H', Same H H' → (∀ b' ∈ cs, ∀ k, ¬ clo rs cs b' k) → Q .non H'))
end WL
end L2
set_option Elab.async false
set_option linter.all false
set_option maxRecDepth 100000
set_option maxHeartbeats 4000000
namespace L2
namespace WL
open PySem PySem.Spec PyProof.Rows K1
/-! ### going out level by level -/
theorem tgt_iff {rs : Rws} {z x : Str} : x ∈ tgt rs z ↔ ∃ r ∈ rs, z ∈ r.2 ∧ r.1 = x := by
  unfold tgt
  rw [List.mem_map]
  constructor
  · rintro ⟨r, hr, e⟩
    obtain ⟨h1, h2⟩ := List.mem_filter.mp hr
    exact ⟨r, h1, of_decide_eq_true h2, e⟩
  · rintro ⟨r, h1, h2, e⟩
    exact ⟨r, List.mem_filter.mpr ⟨h1, decide_eq_true h2⟩, e⟩
/-- is a row's cell among the told ones, with a source in the level? -/
def onto (cs L : List Str) (r : Str × List Str) : Bool := decide (r.1 ∈ cs) && (r.2.map fun s => decide (s ∈ L)).any id
theorem onto_iff {cs L : List Str} {r : Str × List Str} : onto cs L r = true ↔ r.1 ∈ cs ∧ ∃ s ∈ r.2, s ∈ L := by
  unfold onto
  rw [Bool.and_eq_true, decide_eq_true_iff, List.any_map, List.any_eq_true]
  constructor
  · rintro ⟨h1, s, h2, h3⟩
    exact ⟨h1, s, h2, of_decide_eq_true h3⟩
  · rintro ⟨h1, s, h2, h3⟩
    exact ⟨h1, s, h2, decide_eq_true h3⟩
def nxt (rs : Rws) (cs M L : List Str) : List Str := (rs.filter fun r => onto cs L r && !decide (r.1 ∈ M)).map Prod.fst
theorem nxt_iff {rs : Rws} {cs M L : List Str} {x : Str} : x ∈ nxt rs cs M L ↔ x ∈ cs ∧ x ∉ M ∧ ∃ y ∈ L, x ∈ tgt rs y := by
  unfold nxt
  rw [List.mem_map]
  constructor
  · rintro ⟨r, hr, rfl⟩
    obtain ⟨h1, h2⟩ := List.mem_filter.mp hr
    have h2' : (onto cs L r && !decide (r.1 ∈ M)) = true := h2
    rw [Bool.and_eq_true] at h2'
    obtain ⟨h3, s, h4, h5⟩ := onto_iff.mp h2'.1
    refine ⟨h3, fun h => ?_, s, h5, tgt_iff.mpr ⟨r, h1, h4, rfl⟩⟩
    have := h2'.2
    rw [decide_eq_true h] at this
    cases this
  · rintro ⟨h1, h2, y, h3, h4⟩
    obtain ⟨r, h5, h6, rfl⟩ := tgt_iff.mp h4
    refine ⟨r, List.mem_filter.mpr ⟨h5, ?_⟩, rfl⟩
    show (onto cs L r && !decide (r.1 ∈ M)) = true
    rw [onto_iff.mpr ⟨h1, y, h6, h3⟩, decide_eq_false h2]
    rfl
structure Bfs (rs : Rws) (cs : List Str) (b : Str) (k : Nat) (E L : List Str) : Prop where
  a : ∀ j y, j < k → wk rs cs b j y → y ∈ E
  e : ∀ y, wk rs cs b k y → y ∈ E ∨ y ∈ L
  c : ∀ x ∈ L, wk rs cs b k x
  d : ∀ x ∈ E, b ∉ tgt rs x ∧ ∀ z ∈ tgt rs x, z ∈ cs → z ∈ E ∨ z ∈ L
  nd : (E ++ L).Nodup
  sub : ∀ x ∈ E ++ L, x ∈ rs.map Prod.fst
theorem Bfs.zero {rs : Rws} {cs : List Str} {b : Str} (h : b ∈ rs.map Prod.fst) : Bfs rs cs b 0 [] [b] where
  a := fun j y hj _ => absurd hj (Nat.not_lt_zero _)
  e := fun y hy => .inr (by rw [show y = b from hy]; exact List.mem_cons_self ..)
  c := fun x hx => show x = b by simpa using hx
  d := fun x hx => nomatch hx
  nd := by simp
  sub := fun x hx => by
    have : x = b := by simpa using hx
    rw [this]
    exact h
theorem Bfs.next {rs : Rws} {cs : List Str} {b : Str} {k : Nat} {E L : List Str} (B : Bfs rs cs b k E L) (nd : (rs.map Prod.fst).Nodup) (hb : ∀ x ∈ L, b ∉ tgt rs x) : Bfs rs cs b (k + 1) (E ++ L) (nxt rs cs (E ++ L) L) where
  a := fun j y hj hy => by
    by_cases z : j = k
    · rw [z] at hy
      exact List.mem_append.mpr (B.e y hy)
    · exact List.mem_append_left _ (B.a j y (by omega) hy)
  e := fun z ⟨hc, y, hy, ht⟩ => by
    rcases B.e y hy with h | h
    · exact .inl (List.mem_append.mpr ((B.d y h).2 z ht hc))
    · by_cases m : z ∈ E ++ L
      · exact .inl m
      · exact .inr (nxt_iff.mpr ⟨hc, m, y, h, ht⟩)
  c := fun x hx => by
    obtain ⟨h1, h2, y, h3, h4⟩ := nxt_iff.mp hx
    exact ⟨h1, y, B.c y h3, h4⟩
  d := fun x hx => by
    rcases List.mem_append.mp hx with h | h
    · exact ⟨(B.d x h).1, fun z hz hc => .inl (List.mem_append.mpr ((B.d x h).2 z hz hc))⟩
    · refine ⟨hb x h, fun z hz hc => ?_⟩
      by_cases m : z ∈ E ++ L
      · exact .inl m
      · exact .inr (nxt_iff.mpr ⟨hc, m, x, h, hz⟩)
  nd := List.nodup_append.mpr ⟨B.nd, (List.Nodup.sublist ((List.filter_sublist ..).map _) nd), fun x hx y hy e => by
    subst e
    exact (nxt_iff.mp hy).2.1 hx⟩
  sub := fun x hx => by
    rcases List.mem_append.mp hx with h | h
    · exact B.sub x h
    · obtain ⟨r, hr, e⟩ := List.mem_map.mp h
      exact List.mem_map.mpr ⟨r, (List.mem_filter.mp hr).1, e⟩
theorem Bfs.done {rs : Rws} {cs : List Str} {b : Str} {k : Nat} {E : List Str} (B : Bfs rs cs b k E []) : ∀ j, ¬ clo rs cs b j := fun j ⟨y, hy, ht⟩ => by
  have all : ∀ j y, wk rs cs b j y → y ∈ E := by
    intro j
    induction j with
    | zero =>
      intro y hy
      by_cases z : 0 < k
      · exact B.a 0 y z hy
      · have e : k = 0 := by omega
        rcases B.e y (by rw [e]; exact hy) with h | h
        · exact h
        · cases h
    | succ j ih =>
      rintro z ⟨hc, y, hy, ht⟩
      rcases (B.d y (ih y hy)).2 z ht hc with h | h
      · exact h
      · cases h
  exact (B.d y (all j y hy)).1 ht
theorem Bfs.hit {rs : Rws} {cs : List Str} {b : Str} {k : Nat} {E L : List Str} (B : Bfs rs cs b k E L) {x : Str} (hx : x ∈ L) (ht : b ∈ tgt rs x) : Min rs cs b k :=
  ⟨⟨x, B.c x hx, ht⟩, fun j hj ⟨y, hy, h⟩ => (B.d y (B.a j y hj hy)).1 h⟩
theorem Bfs.short {rs : Rws} {cs : List Str} {b : Str} {k : Nat} {E L : List Str} (B : Bfs rs cs b k E L) : E.length + L.length ≤ rs.length := by
  have := pig B.nd B.sub
  rw [List.length_append, List.length_map] at this
  exact this
def spRound (K : PySem.W.Frag) : Sp := fun vs H Q _ => ∃ (r c : Addr) (b : Str) (rs : Rws) (cs : List Str), vs = [.ref r, .ref c, .str b] ∧ RowsAt H r rs ∧ H c = some (.lst (cs.map .str)) ∧ (rs.map Prod.fst).Nodup ∧ rs.length ≤ 900 ∧ (∀ r ∈ rs, r.2.length ≤ 900) ∧
  sOk (rs.map Prod.fst) ∧ b ∈ rs.map Prod.fst ∧ b ∈ cs ∧ (∀ H' k, Same H H' → Min rs cs b k → Q (.int ((k + 1 : Nat) : Int)) H') ∧ (∀ H', Same H H' → (∀ k, ¬ clo rs cs b k) → Q (.int 0) H')
end WL
end L2
namespace L2
namespace WL
open PySem PySem.Spec PyProof.Rows K1
theorem nxt_take {rs : Rws} {cs M L : List Str} {i : Nat} {r : Str × List Str} (h : rs[i]? = some r) : nxt (rs.take (i + 1)) cs M L = nxt (rs.take i) cs M L ++ (if onto cs L r && !decide (r.1 ∈ M) then [r.1] else []) := by
  unfold nxt
  rw [List.take_succ, h, List.filter_append, List.map_append]
  congr 1
  show ((([r] : Rws).filter fun r => onto cs L r && !decide (r.1 ∈ M)).map Prod.fst) = _
  rw [List.filter_cons]
  split <;> rfl
theorem nxt_len {rs : Rws} {cs M L : List Str} : (nxt rs cs M L).length ≤ rs.length := by
  unfold nxt
  rw [List.length_map]
  exact List.length_filter_le ..
theorem shape_lst {xs : List Str} (h : sOk xs) : SeqAt.shaped (.list (dS xs)) = true := by
  unfold SeqAt.shaped
  have e : PyData.depth (.list (dS xs)) = PyData.depthAll (dS xs) + 1 := rfl
  rw [e, dep_strs]
  show (PyData.canLayAll0 (dS xs) && true) = true
  rw [lay_strs h]
  rfl
theorem shape_nil : SeqAt.shaped (.list []) = true := rfl
theorem nohit {rs : Rws} {cs L : List Str} {b : Str} (hb : b ∈ cs) (h : ∀ r ∈ rs, onto cs L r = true → r.1 ≠ b) : ∀ x ∈ L, b ∉ tgt rs x := fun x hx ht => by
  obtain ⟨r, h1, h2, rfl⟩ := tgt_iff.mp ht
  exact h r h1 (onto_iff.mpr ⟨hb, x, h2, hx⟩) rfl
end WL
end L2
namespace L2
namespace WL
open PySem PySem.Spec PyProof.Rows K1
/-! ### comprehensions over a list, with a condition -/
theorem lcf {K : PySem.W.Frag} {a : Addr} {xs : List V} {g : TG} {tt : TT} {te tl : TE} {vs : List Nat} {σ : St} {H : Hp} {Q : VK} (hq : SqL K H a xs) (he : ∀ Q : VK, Q (.ref a) H → tl σ H Q) (hn : xs.length ≤ 1000) (f : Nat → Option V)
    (hs : ∀ i x H' (Z : Option V → Hp → Prop), xs[i]? = some x → Same H H' → (∀ H'', Same H' H'' → Z (f i) H'') → g x (wipe σ vs) H' fun σ2 H2 => wipe σ2 vs = wipe σ vs ∧ tt σ2 H2 fun b H3 => if b = true then te σ2 H3 fun y H4 => Z (some y) H4 else Z none H3)
    (hd : ∀ D H', H D = none → Same H H' → H' D = some (.lst ((List.range xs.length).filterMap f)) → Q (.ref D) H') : tLc (iList K tl) g tt te vs σ H Q := by
  refine he _ ⟨a, rfl, ⟨_, hq⟩, fun D nD => ?_⟩
  refine lc_it (walk_list (xs := xs)) (fun i H' => Same H H' ∧ H' D = some (.lst ((List.range i).filterMap f))) ⟨same_upd nD, upd_same⟩ (fun i H' _ p => p.1.seq hq) (fun i x H' H'' hi p y => ?_) (fun H' p => hd D H' nD p.1 p.2)
  obtain ⟨rfl, hx⟩ := y
  have rs : (List.range (i + 1)).filterMap f = (List.range i).filterMap f ++ [i].filterMap f := by rw [List.range_succ, List.filterMap_append]
  refine hs i x _ (fun o H4 => match o with
    | some y => ∃ acc, H4 D = some (.lst acc) ∧ acc.length < sizeLine ∧ (Same H (upd H4 D (.lst (acc ++ [y]))) ∧ (upd H4 D (.lst (acc ++ [y]))) D = some (.lst ((List.range (i + 1)).filterMap f)))
    | none => Same H H4 ∧ H4 D = some (.lst ((List.range (i + 1)).filterMap f))) hx p.1 fun H2 s2 => ?_
  cases e : f i with
  | none =>
    refine ⟨p.1.trans s2, ?_⟩
    rw [rs]
    have : [i].filterMap f = [] := by simp [e]
    rw [this, List.append_nil]
    exact s2 _ _ p.2
  | some y =>
    refine ⟨_, s2 _ _ p.2, ?_, same_over nD (p.1.trans s2), ?_⟩
    · have := List.length_filterMap_le f (List.range i)
      rw [List.length_range] at this
      rw [sizeLine_eq]
      omega
    · rw [upd_same, rs]
      have : [i].filterMap f = [y] := by simp [e]
      rw [this]
theorem lcl {K : PySem.W.Frag} {a : Addr} {xs : List V} {g : TG} {te tl : TE} {vs : List Nat} {σ : St} {H : Hp} {Q : VK} (hq : SqL K H a xs) (he : ∀ Q : VK, Q (.ref a) H → tl σ H Q) (hn : xs.length ≤ 1000) (f : Nat → V)
    (hs : ∀ i x H' (Q' : VK), xs[i]? = some x → Same H H' → (∀ H'', Same H' H'' → Q' (f i) H'') → g x (wipe σ vs) H' fun σ2 H2 => wipe σ2 vs = wipe σ vs ∧ te σ2 H2 Q')
    (hd : ∀ D H', H D = none → Same H H' → H' D = some (.lst ((List.range xs.length).map f)) → Q (.ref D) H') : tLc (iList K tl) g tYes te vs σ H Q := by
  refine lcf hq he hn (fun i => some (f i)) (fun i x H' Z hx s z => ?_) fun D H' nD s e => hd D H' nD s ?_
  · exact hs i x H' (fun y H4 => Z (some y) H4) hx s z
  · rw [e, ← List.filterMap_eq_map]
    rfl
theorem rngF {α : Type} {xs : List α} {f : α → V} (d : α) : (List.range xs.length).map (fun i => f (xs.getD i d)) = xs.map f := by
  refine List.ext_getElem (by simp) fun i h1 h2 => ?_
  rw [List.length_map, List.length_range] at h1
  rw [List.getElem_map, List.getElem_map, List.getElem_range, List.getD_eq_getElem?_getD, List.getElem?_eq_getElem h1]
  rfl
end WL
end L2
namespace L2
namespace WL
open PySem PySem.Spec PyProof.Rows K1
theorem t_b1 {r : List V → Hp → VK → Prop} {tl : TE} {σ : St} {H : Hp} {Q : Bool → Hp → Prop} (h : tl σ H fun x H1 => r [x] H1 fun y H2 => ∃ c, y = .bl c ∧ Q c H2) : tB (tCB r (tCons tl tNil)) σ H Q := h
theorem t_nb1 {r : List V → Hp → VK → Prop} {tl : TE} {σ : St} {H : Hp} {Q : Bool → Hp → Prop} (h : tl σ H fun x H1 => r [x] H1 fun y H2 => ∃ c, y = .bl c ∧ Q (!c) H2) : tNot (tB (tCB r (tCons tl tNil))) σ H Q := h
theorem t_c1 {r : List V → Hp → VK → Prop} {tl : TE} {σ : St} {H : Hp} {Q : VK} (h : tl σ H fun x H1 => r [x] H1 Q) : tCB r (tCons tl tNil) σ H Q := h
end WL
end L2
set_option Elab.async false
set_option linter.all false
set_option maxRecDepth 100000
set_option maxHeartbeats 4000000
namespace L2
namespace WL
open PySem PySem.Spec PyProof.Rows K1
/-! ### e.f of an error that a suite holds -/
def tXd (C : Addr) (a : Addr) (cls : Value) (d : Option Addr) (f : Str) (te : TE) : TE := fun σ H Q => te σ H fun x H1 => x = .ref a ∧ cls = .ref C ∧ ∃ (dd : Addr) (v : V), d = some dd ∧ H1 dd = some (.xd [(f, v)]) ∧ Q v H1
theorem pe_xd {X : Cx} {C a : Addr} {oe : Obj} {cls : Value} {d : Option Addr} {pn : List (Addr × Obj)} {e : Expr} {te : TE} {pos : Pos} {f : Str} (T : XC X.K C) (hno : PySem.W.findIn X.K (.ref C) f = some none) (hz : Zc cls d oe) (hf : ∃ vs, oe.data = .fields vs)
    (he : PE (X.suite a ((a, oe) :: pn)) e te) (hb : attributeBase e f X.env (eval e X.env) = eval e X.env := by rfl) : PE (X.suite a ((a, oe) :: pn)) (.Attribute e f pos) (tXd C a cls d f te) := by
  refine ⟨fun pins s σ H Q I h => ?_⟩
  refine attr_of hb (thn (he.run pins s σ H _ I h) fun u s1 hh => ?_)
  obtain ⟨x, H1, I1, rx, rfl, rfl, dd, v, rfl, ea, q⟩ := hh
  obtain rfl : u = Value.ref a := rx
  obtain ⟨ha, _⟩ := I1.pin (a, oe) (List.mem_append_left _ List.mem_cons_self)
  obtain ⟨vs, hd⟩ := hf
  have hx : ObjOk X.prog X.w H1 s1.heap dd (.xd [(f, v)]) := I1.hok dd _ ea
  obtain ⟨mA, hns, hr⟩ := hx
  obtain ⟨od, ho, hl⟩ := lookIn_ns hns
  have l : List.lookup f [(f, v)] = some v := by simp [List.lookup]
  obtain ⟨u, hu, ru⟩ := RelO.some_of (v := v) (o := mA f) (by rw [← l]; exact hr f)
  have J : PySem.W.InstAt s1.heap a oe C (some od) := ⟨ha, hz.1, by unfold PySem.W.notCls; rw [hd] <;> rfl, by rw [hz.2]; exact ho⟩
  exact HandSPX.exc_get I1.kIn J T.ga T.gg T.ox.exC (PySem.W.findObj_own T.hd hno rfl (by rw [hl, hu])) (handed_of ru) ⟨v, H1, I1.tok _, ru, q⟩
def spRefL (K : PySem.W.Frag) (C : Addr) : Sp := fun vs H Q _ => ∃ (p : Addr) (vc : V) (xs : List V) (rs : Rws) (x : V), vs = [.ref p, vc] ∧ IsWeb K H C p rs ∧ Good rs ∧ Seq K H vc xs ∧ (∀ x ∈ xs, ∃ b, IsN K H x b) ∧ xs.find? (fun x => !inWeb rs x) = some x ∧
  ∀ H' q, Same H H' → H' q = some (.lst [x]) → Q (.ref q) H'
end WL
end L2
set_option Elab.async false
set_option linter.all false
set_option maxRecDepth 100000
set_option maxHeartbeats 4000000
namespace L2
namespace WL
open PySem PySem.Spec PyProof.Rows K1
/-! ### the web beside the pool -/
theorem Pl.hid {H : Hp} {p b : Addr} {n : Nat} {o : HO} (h : Pl H p n) (e : H b = some o) (ho : ∀ x y z : Int, o ≠ .lst [.int x, .int y, .int z]) : hide p H b = some o := by
  obtain ⟨x, y, z, e2, _⟩ := h
  rw [hide_ne]
  · exact e
  · intro c
    rw [c, e2] at e
    exact ho x y z (Option.some.inj e).symm
theorem Pl.sqT {K : PySem.W.Frag} {H : Hp} {p b : Addr} {n : Nat} {xs : List V} (h : Pl H p n) (e : SqT K H b xs) : SqT K (hide p H) b xs := by
  rcases e with (e | ⟨o, e⟩) | e
  · exact .inl (.inl (h.hid e (by intro x y z c; cases c)))
  · exact .inl (.inr ⟨o, h.hid e (by intro x y z c; cases c)⟩)
  · exact .inr e
theorem Pl.dtup {K : PySem.W.Frag} {H : Hp} {p : Addr} {n : Nat} {ks : List (Key × V)} {rs : Rws} (h : Pl H p n) (d : DTup K H ks rs) : DTup K (hide p H) ks rs := Paired.imp (fun _ _ ⟨e, a, e2, s⟩ => ⟨e, a, e2, h.sqT s⟩) d
theorem IsWeb.hid {K : PySem.W.Frag} {H : Hp} {C p pl : Addr} {n : Nat} {rs : Rws} (w : IsWeb K H C p rs) (h : Pl H pl n) : IsWeb K (hide pl H) C p rs := by
  obtain ⟨dx, c, s, a, t, ks, kt, av, W⟩ := w
  exact ⟨dx, c, s, a, t, ks, kt, av, h.hid W.ob (by intro x y z c; cases c), h.hid W.hc (by intro x y z c; cases c), h.hid W.hs (by intro x y z c; cases c), h.dtup W.ds, h.hid W.ha (by intro x y z c; cases c),
    Paired.imp (fun _ _ ⟨q, e1, e2⟩ => ⟨q, e1, h.hid e2 (by intro x y z c; cases c)⟩) W.da, h.hid W.ht (by intro x y z c; cases c), h.dtup W.dt⟩
theorem LawRows.good {m n : Nat} {rs : Rws} (h : LawRows m n rs) (hm : m ≤ 900) (hn : n ≤ 900) : Good rs := ⟨h.nd, h.l1, Nat.le_trans h.lm hm, fun r hr => ⟨Nat.le_trans (h.sr r hr).2.1 hn, (h.sr r hr).1, (h.sr r hr).2.2.2⟩, fun r hr => (h.nm r hr).1⟩
theorem RowT.g {K : PySem.W.Frag} {H : Hp} {v : V} {r : Str × List Str} (h : RowT H v r) : RowG K H v r := by
  obtain ⟨t, l, rfl, e1, e2⟩ := h
  exact ⟨.ref l, ⟨t, rfl, .inr (SqT.of e1)⟩, ⟨l, rfl, .inl (SqL.of e2)⟩⟩
/-- what a name of the law's is not -/
theorem law_zq {z : Str} (h : lawNm z) : z ≠ "zzzzqqqq" := fun e => by
  subst e
  rcases h.2 with h | h
  · exact absurd h (by decide)
  · exact absurd (h 122 (by decide)) (by decide)
theorem law_A {z : Str} (h : lawNm z) : z ≠ "A" := fun e => by
  subst e
  exact absurd h.1 (by decide)
end WL
end L2
set_option Elab.async false
set_option linter.all false
set_option maxRecDepth 100000
set_option maxHeartbeats 4000000
namespace L2
namespace WL
open PySem PySem.Spec PyProof.Rows K1
theorem Rd.hid {H : Hp} {l p : Addr} {u : HO} (h : Rd H l u) (n : H p = none) : Rd (hide p H) l u := by
  have ne : l ≠ p := by
    rcases h with h | ⟨o, h⟩ <;> exact ne_of_none h n
  rcases h with h | ⟨o, h⟩
  · exact .inl (by rw [hide_ne ne]; exact h)
  · exact .inr ⟨o, by rw [hide_ne ne]; exact h⟩
theorem SqL.hid {K : PySem.W.Frag} {H : Hp} {l p : Addr} {xs : List V} (h : SqL K H l xs) (n : H p = none) : SqL K (hide p H) l xs := by
  rcases h with h | h
  · exact .inl (Rd.hid h n)
  · exact .inr h
theorem SqL.sm {K : PySem.W.Frag} {H H' : Hp} {l : Addr} {xs : List V} (h : SqL K H l xs) (s : Same H H') : SqL K H' l xs := s.seq h
theorem same_mk {H H3 : Hp} {x dx : Addr} {o1 o2 : HO} (nx : H x = none) (nd : H dx = none) (e : H3 = upd (upd H dx o1) x o2) : Same H (hide x H3) := fun b o h => by
  rw [hide_ne (ne_of_none h nx), e, upd_ne (ne_of_none h nx), upd_ne (ne_of_none h nd)]
  exact h
/-! ### sizes of rings -/
theorem Min.uniq {rs : Rws} {cs : List Str} {b : Str} {k j : Nat} (h : Min rs cs b k) (g : Min rs cs b j) : k = j := by
  rcases Nat.lt_trichotomy k j with z | z | z
  · exact absurd h.1 (g.2 k z)
  · exact z
  · exact absurd g.1 (h.2 j z)
open Classical in
noncomputable def sz (rs : Rws) (cs : List Str) (b : Str) : Nat := if h : ∃ k, Min rs cs b k then h.choose + 1 else 0
theorem sz_min {rs : Rws} {cs : List Str} {b : Str} {k : Nat} (h : Min rs cs b k) : sz rs cs b = k + 1 := by
  have e : ∃ k, Min rs cs b k := ⟨k, h⟩
  unfold sz
  rw [dif_pos e, Min.uniq e.choose_spec h]
theorem sz_none {rs : Rws} {cs : List Str} {b : Str} (h : ∀ k, ¬ clo rs cs b k) : sz rs cs b = 0 := by
  unfold sz
  rw [dif_neg]
  rintro ⟨k, hk⟩
  exact h k hk.1
noncomputable def due (rs : Rws) (cs : List Str) : List Nat := (cs.map (sz rs cs)).filter fun n => decide (0 < n)
theorem due_mem {rs : Rws} {cs : List Str} {n : Nat} : n ∈ due rs cs ↔ 0 < n ∧ ∃ b ∈ cs, sz rs cs b = n := by
  unfold due
  rw [List.mem_filter, List.mem_map]
  constructor
  · rintro ⟨⟨b, h1, h2⟩, h3⟩
    exact ⟨of_decide_eq_true h3, b, h1, h2⟩
  · rintro ⟨h3, b, h1, h2⟩
    exact ⟨⟨b, h1, h2⟩, decide_eq_true h3⟩
theorem sz_pos {rs : Rws} {cs : List Str} {b : Str} (h : 0 < sz rs cs b) : ∃ k, Min rs cs b k ∧ sz rs cs b = k + 1 := by
  by_cases e : ∃ k, Min rs cs b k
  · obtain ⟨k, hk⟩ := e
    exact ⟨k, hk, sz_min hk⟩
  · unfold sz at h
    rw [dif_neg e] at h
    exact absurd h (Nat.lt_irrefl _)
theorem rngM {α β : Type} {xs : List α} {f : α → Option β} (d : α) : (List.range xs.length).filterMap (fun i => f (xs.getD i d)) = xs.filterMap f := by
  have e : (List.range xs.length).map (fun i => xs.getD i d) = xs := by
    refine List.ext_getElem (by simp) fun i h1 h2 => ?_
    rw [List.getElem_map, List.getElem_range, List.getD_eq_getElem?_getD, List.getElem?_eq_getElem h2]
    rfl
  conv => rhs; rw [← e]
  rw [List.filterMap_map]
  rfl
theorem due_vs {xs : List Nat} : xs.filterMap (fun n : Nat => if 0 < n then some (V.int (n : Int)) else none) = (xs.filter fun n : Nat => decide (0 < n)).map fun n : Nat => V.int (n : Int) := by
  induction xs with
  | nil => rfl
  | cons n xs ih =>
    by_cases h : 0 < n
    · rw [List.filterMap_cons, List.filter_cons_of_pos (by simpa using h), List.map_cons, ← ih]
      simp only [h, if_true]
    · rw [List.filterMap_cons, List.filter_cons_of_neg (by simpa using h), ← ih]
      simp only [h, if_false]
theorem dp_ints {K : PySem.W.Frag} {H : Hp} : ∀ xs : List Nat, DpAll K H (xs.map fun n : Nat => V.int (n : Int)) (xs.map fun n : Nat => .int (n : Int))
  | [] => .nil
  | x :: xs => .cons (.int _) (dp_ints xs)
theorem dep_ints : ∀ xs : List Nat, PyData.depthAll (xs.map fun n : Nat => .int (n : Int)) = 0 ∧ PyData.canLayAll0 (xs.map fun n : Nat => .int (n : Int)) = true
  | [] => ⟨rfl, rfl⟩
  | x :: xs => by
    obtain ⟨h1, h2⟩ := dep_ints xs
    constructor
    · show max 0 (PyData.depthAll (xs.map fun n : Nat => .int (n : Int))) = 0
      rw [h1]
      rfl
    · show (PyData.canLay0 (.int (x : Int)) && PyData.canLayAll0 (xs.map fun n : Nat => .int (n : Int))) = true
      rw [h2]
      rfl
theorem shape_ints (xs : List Nat) : SeqAt.shaped (.list (xs.map fun n : Nat => .int (n : Int))) = true := by
  unfold SeqAt.shaped
  have e : PyData.depth (.list (xs.map fun n : Nat => .int (n : Int))) = PyData.depthAll (xs.map fun n : Nat => .int (n : Int)) + 1 := rfl
  rw [e, (dep_ints xs).1]
  show (PyData.canLayAll0 (xs.map fun n : Nat => .int (n : Int)) && true) = true
  rw [(dep_ints xs).2]
  rfl
theorem eqv_nil (xs : List Nat) : PyData.eqv (.list (xs.map fun n : Nat => .int (n : Int))) (.list []) = decide (xs = []) := by
  cases xs with
  | nil => rfl
  | cons x xs => rfl
/-- what ring tells -/
def Told (rs : Rws) (cs : List Str) (H : Hp) (v : V) : Prop := (v = .non ∧ ∀ b ∈ cs, ∀ k, ¬ clo rs cs b k) ∨ ∃ q b k, v = .ref q ∧ RingAt rs cs H q b k ∧ ∀ b' ∈ cs, ∀ k', clo rs cs b' k' → k ≤ k'
theorem told_due {rs : Rws} {cs : List Str} {H : Hp} {v : V} (h : Told rs cs H v) : decide (v = .non) = decide (due rs cs = []) := by
  rcases h with ⟨rfl, hn⟩ | ⟨q, b, k, rfl, rg, _⟩
  · rw [decide_eq_true rfl, decide_eq_true]
    rw [List.eq_nil_iff_forall_not_mem]
    intro n hn'
    obtain ⟨h1, b, h2, h3⟩ := due_mem.mp hn'
    rw [sz_none (hn b h2)] at h3
    omega
  · rw [decide_eq_false (by intro z; cases z), decide_eq_false]
    intro z
    have : k + 1 ∈ due rs cs := due_mem.mpr ⟨by omega, b, rg.1, sz_min rg.2.1⟩
    rw [z] at this
    cases this
theorem spRing_of {K : PySem.W.Frag} {C CU p : Addr} {vc : V} {rs : Rws} {cs : List Str} {H : Hp} {Q : VK} {E : XK} (hw : IsWeb K H C p rs) (g : Good rs) (hs : Seq K H vc (cs.map .str)) (hcs : ∀ x ∈ cs, x ∈ rs.map Prod.fst)
    (q : ∀ H' v, Same H H' → Told rs cs H' v → Q v H') : spRing K C CU [.ref p, vc] H Q E := by
  refine ⟨p, vc, cs.map .str, rs, rfl, hw, g, hs, fun x hx => ?_, .inr ⟨cs, rfl, hcs, fun H' q' b k s rg hl => q H' _ s (.inr ⟨q', b, k, rfl, rg, hl⟩), fun H' s hn => q H' _ s (.inl ⟨rfl, hn⟩)⟩⟩
  obtain ⟨z, hz, rfl⟩ := List.mem_map.mp hx
  obtain ⟨r, hr, e⟩ := List.mem_map.mp (hcs z hz)
  have := g.nm r hr
  rw [e] at this
  exact ⟨true, .inl ⟨z, rfl, isNm_len this, this.symm⟩⟩
theorem seq_tail {a u : TS} {D : Ends} {σ : St} {H : Hp} (Mid : Hp → Prop) (h2 : ∀ H', Mid H' → u D σ H') (h1 : (∀ H', Mid H' → u D σ H') → tSeq a u D σ H) : tSeq a u D σ H := h1 h2
/-- a sixth thing that is no cell -/
def odds (t : Addr) : List V := [.str "A", .non, .int 5, .str "zzzzqqqq", .ref t, .bl true]
theorem odd_ok {K : PySem.W.Frag} {H : Hp} {t : Addr} {rs : Rws} {i : Nat} {x : V} (hn : ∀ r ∈ rs, lawNm r.1) (ht : H t = some (.tup [.str "a"])) (hx : (odds t)[i]? = some x) :
    (∃ b, IsN K H x b) ∧ inWeb rs x = false ∧ ∃ d, Dp K H x d ∧ SeqAt.shaped (.list [d]) = true ∧ PyData.eqv (.list [d]) (.list [d]) = true := by
  have nw : ∀ z : Str, (∀ r ∈ rs, r.1 ≠ z) → inWeb rs (.str z) = false := fun z h => by
    refine decide_eq_false fun m => ?_
    obtain ⟨r, hr, e⟩ := List.mem_map.mp m
    exact h r hr e
  match i, hx with
  | 0, hx =>
    obtain rfl := (Option.some.inj hx).symm
    exact ⟨⟨_, .inl ⟨_, rfl, by decide +kernel, rfl⟩⟩, nw _ fun r hr => law_A (hn r hr), _, .str _, by decide +kernel, by decide +kernel⟩
  | 1, hx =>
    obtain rfl := (Option.some.inj hx).symm
    exact ⟨⟨_, .inr ⟨_, .base .non, rfl, rfl⟩⟩, rfl, _, .non, by decide +kernel, by decide +kernel⟩
  | 2, hx =>
    obtain rfl := (Option.some.inj hx).symm
    exact ⟨⟨_, .inr ⟨_, .base (.int _), rfl, rfl⟩⟩, rfl, _, .int _, by decide +kernel, by decide +kernel⟩
  | 3, hx =>
    obtain rfl := (Option.some.inj hx).symm
    exact ⟨⟨_, .inl ⟨_, rfl, by decide +kernel, rfl⟩⟩, nw _ fun r hr => law_zq (hn r hr), _, .str _, by decide +kernel, by decide +kernel⟩
  | 4, hx =>
    obtain rfl := (Option.some.inj hx).symm
    exact ⟨⟨_, .inr ⟨_, .base (.tup ht), rfl, rfl⟩⟩, rfl, _, .tup (SqT.of ht) (.cons (.str _) .nil), by decide +kernel, by decide +kernel⟩
  | 5, hx =>
    obtain rfl := (Option.some.inj hx).symm
    exact ⟨⟨_, .inr ⟨_, .base (.bl _), rfl, rfl⟩⟩, rfl, _, .bl _, by decide +kernel, by decide +kernel⟩
  | i + 6, hx => cases hx
end WL
end L2
namespace L2
namespace WL
open PySem PySem.Spec PyProof.Rows K1
theorem ring_step {rs : Rws} {cs : List Str} {b y : Str} {k : Nat} {path : List Str} (h : Pth rs cs b k path) (hl : path.getLast? = some y) (hb : b ∈ tgt rs y) {j : Nat} (hj : j < k + 1) :
    ∃ u w, (path ++ [b])[j]? = some u ∧ (path ++ [b])[j + 1]? = some w ∧ w ∈ tgt rs u := by
  have len := h.len
  obtain ⟨u, hu⟩ : ∃ u, path[j]? = some u := ⟨_, List.getElem?_eq_getElem (by omega)⟩
  by_cases e : j = k
  · refine ⟨u, b, by rw [List.getElem?_append_left (by omega)]; exact hu, by rw [List.getElem?_append_right (by omega), e, len, Nat.sub_self]; rfl, ?_⟩
    rw [List.getLast?_eq_getElem?, len, show k + 1 - 1 = j by omega, hu] at hl
    rw [Option.some.inj hl]
    exact hb
  · obtain ⟨w, hw⟩ : ∃ w, path[j + 1]? = some w := ⟨_, List.getElem?_eq_getElem (by omega)⟩
    refine ⟨u, w, by rw [List.getElem?_append_left (by omega)]; exact hu, by rw [List.getElem?_append_left (by omega)]; exact hw, ?_⟩
    have := h.between j (j + 1) u w (by omega) hu hw
    rw [show j + 1 - j = 1 by omega] at this
    obtain ⟨_, z, hz, t⟩ := this
    rw [show z = u from hz] at t
    exact t
theorem src_of {rs : Rws} {u w : Str} (nd : (rs.map Prod.fst).Nodup) (h : w ∈ tgt rs u) : ∃ xs, srcs rs w = some xs ∧ w ∈ rs.map Prod.fst ∧ u ∈ xs := by
  obtain ⟨r, hr, h2, rfl⟩ := tgt_iff.mp h
  exact ⟨r.2, srcs_at nd hr, List.mem_map.mpr ⟨r, hr, rfl⟩, h2⟩
theorem good_isN {K : PySem.W.Frag} {H : Hp} {rs : Rws} (g : Good rs) {z : Str} (h : z ∈ rs.map Prod.fst) : IsN K H (.str z) true := by
  obtain ⟨r, hr, rfl⟩ := List.mem_map.mp h
  exact .inl ⟨_, rfl, isNm_len (g.nm r hr), (g.nm r hr).symm⟩
theorem in_web {rs : Rws} {z : Str} (h : z ∈ rs.map Prod.fst) : inWeb rs (.str z) = true := decide_eq_true h
theorem find_odd {rs : Rws} {cs : List Str} {od : V} {m : Nat} {rest : List V} (hcs : ∀ z ∈ cs, z ∈ rs.map Prod.fst) (h : inWeb rs od = false) : ((cs.map V.str).take m ++ [od] ++ rest).find? (fun x => !inWeb rs x) = some od := by
  rw [List.append_assoc, List.find?_append]
  have e : ((cs.map V.str).take m).find? (fun x => !inWeb rs x) = none := by
    rw [List.find?_eq_none]
    intro y hy
    obtain ⟨z, hz, rfl⟩ := List.mem_map.mp (List.mem_of_mem_take hy)
    rw [in_web (hcs z hz)]
    decide
  rw [e]
  show ((od :: rest).find? fun x => !inWeb rs x) = some od
  rw [List.find?_cons, h]
  rfl
end WL
end L2
set_option Elab.async false
set_option linter.all false
set_option maxRecDepth 100000
set_option maxHeartbeats 4000000
namespace L2
namespace WL
open PySem PySem.Spec PyProof.Rows K1 LamX
/-! ### the head with the law's table of code objects -/
def isTab : Option Obj → Bool
  | some ⟨.none, none, .fields vs, sl⟩ => vs.toList.isEmpty && sl.toList.isEmpty
  | _ => false
theorem isTab_ok {o : Option Obj} (h : isTab o = true) : o = some { cls := .none, data := .fields #[] } := by
  unfold isTab at h
  split at h
  · rename_i vs sl
    obtain ⟨h1, h2⟩ := Bool.and_eq_true_iff.mp h
    have e1 : vs = #[] := by
      cases vs
      simpa using h1
    have e2 : sl = #[] := by
      cases sl
      simpa using h2
    rw [e1, e2]
  · cases h
def frT (g : Addr → Option Obj) (n : Nat) : PySem.W.Frag := He.frG g ((He.asD g n).filter fun a => !isTab (g a))
def tabB (g : Addr → Option Obj) (K : PySem.W.Frag) : Bool := match PySem.W.tabIn K "law" with
  | some (c, p) => PySem.W.codeHdIn K c p && ((K.lookup p).isNone && isTab (g p))
  | none => false
structure TabF (K : PySem.W.Frag) (h : Heap) (c p : Addr) : Prop where
  i : PySem.W.tabIn K "law" = some (c, p)
  hd : PySem.W.codeHdIn K c p = true
  no : K.lookup p = none
  ob : h.get? p = some { cls := .none, data := .fields #[] }
theorem tabB_ok {g : Addr → Option Obj} {K : PySem.W.Frag} (h : tabB g K = true) : ∃ c p, PySem.W.tabIn K "law" = some (c, p) ∧ PySem.W.codeHdIn K c p = true ∧ K.lookup p = none ∧ g p = some { cls := .none, data := .fields #[] } := by
  unfold tabB at h
  split at h
  · rename_i c p e
    obtain ⟨h1, h⟩ := Bool.and_eq_true_iff.mp h
    obtain ⟨h2, h3⟩ := Bool.and_eq_true_iff.mp h
    exact ⟨c, p, e, h1, Option.isNone_iff_eq_none.mp h2, isTab_ok h3⟩
  · cases h
abbrev AlK : Type := He.AlD × Bool
def obsT (n : Nat) (fa : List He.Fa) (fn : List He.DefD) (ex : PySem.W.Frag → Bool) (g : Addr → Option Obj) : AlK := (He.obsD fa fn (frT g n), ex (frT g n) && tabB g (frT g n))
def hookT (n : Nat) (fa : List He.Fa) (fn : List He.DefD) (ex : PySem.W.Frag → Bool) : PySem.W.Hook where
  α := AlK
  obs := fun s => obsT n fa fn ex s.heap.get?
  val := fun _ => (He.valD fn, true)
  says := fun _ h => ∃ K : PySem.W.Frag, K.In h ∧ He.SaysD fa fn K ∧ ex K = true ∧ ∃ c p, TabF K h c p
  of := fun _ _ e => by
    obtain ⟨h1, h2⟩ := Bool.and_eq_true_iff.mp (show (ex _ && tabB _ _) = true from congrArg Prod.snd e)
    obtain ⟨c, p, a1, a2, a3, a4⟩ := tabB_ok h2
    exact ⟨_, He.frG_in, congrArg Prod.fst e, h1, c, p, a1, a2, a3, a4⟩
  keeps := fun _ _ _ ⟨K, hK, c, e, c', p, t⟩ k => ⟨K, PySem.W.Frag.In.keeps hK k, c, e, c', p, t.i, t.hd, t.no, k _ _ t.ob⟩
theorem obsT_eq {n : Nat} {fa : List He.Fa} {fn : List He.DefD} {ex : PySem.W.Frag → Bool} {g : Addr → Option Obj} {s : Shared} (h : ∀ a, g a = s.heap.get? a) : obsT n fa fn ex g = (hookT n fa fn ex).obs s := by
  have e : g = s.heap.get? := funext h
  rw [e] <;> rfl
/-- a def whose code object is known -/
theorem FunD.okC {P : Program} {w : World} {K : PySem.W.Frag} {mg : Str → Option Value} {base : Heap} {x qual : Str} {params : Arguments} {body : List Stmt} {scope : Scope} {dvs : List V} {kws : List (Str × V)} {f c : Addr} {fd : FuncData} {CX : CXT} {N ps : List Str} {k : Nat} {sp : Sp}
    (F : FunD K x qual params body scope dvs kws f fd) (hc : fd.code = .ref c) (S : FnScope N ps scope) (len : ∀ vs H Q E, sp vs H Q E → vs.length = ps.length)
    (hb : ∀ (A : Around) (outer : List Env) (s : Shared) (H : Hp) (vs : List V) (Q : VK) (E : XK), Room k (A.deeper (envOfC qual scope s.heap.objs.size f (.ref c))) → sp vs H Q E →
      ∃ t, PSs (cxOf CX P w K mg base N qual scope f (.ref c) A outer s H E) body t ∧ t { nx := fun _ H' => Q .non H', rt := Q } (start N vs) H) : FnOk P w K mg base CX (k + 1) f fd ps sp := by
  obtain ⟨oc, od, dV, kV, doc, pm, an, cdv, ct, osl, rfl, lk, hcd, _, _⟩ := F.ex
  obtain rfl : cdv = .ref c := hc
  exact fn_of lk hcd S len fun A outer s H vs Q E hr hsp => hb A outer s H vs Q E hr hsp
/-! ### [x] != [x] -/
def rNe1 (K : PySem.W.Frag) : R2 := fun x y H Q => ∃ a b v, x = .ref a ∧ y = .ref b ∧ SqL K H a [v] ∧ SqL K H b [v] ∧ (flatB v = true ∨ ∃ c, v = .ref c) ∧ Q (.bl false) H
theorem op_ne1 {X : Cx} (hu : X.A.units + 64 < cLine) : OpR X (compareOp .NotEq) (rNe1 X.K) := by
  intro pins s σ H x y v u Q I rx ry h
  obtain ⟨a, b, z, rfl, rfl, ha, hb, hz, q⟩ := h
  cases (show v = Value.ref a from rx)
  cases (show u = Value.ref b from ry)
  obtain ⟨us, r1, p1, _⟩ := I.list ha
  obtain ⟨ws, r2, p2, _⟩ := I.list hb
  obtain ⟨u1, rfl, e1⟩ := r1.one
  obtain ⟨u2, rfl, e2⟩ := r2.one
  refine SeqAt.RcNeAt.lists (e := fun _ => true) p1.isList p2.isList rfl (by omega) (fun j h1 h2 => ?_) X.prog X.w _ _ ?_
  · have j0 : j = 0 := by
      have : j < 1 := h1
      omega
    subst j0
    show SeqAt.EqAt X.A.in1 s u1 u2 true
    rcases hz with f | ⟨c, rfl⟩
    · exact eqAt_same e1 e2 f
    · cases (show u1 = Value.ref c from e1)
      cases (show u2 = Value.ref c from e2)
      exact SeqAt.EqAt.same _
  · exact ⟨.bl false, H, I, rfl, q⟩
/-! ### what stays beside pool, tables and some lists -/
def offT (H : Hp) : Hp := fun b => match H b with
  | some (.tbl _) => none
  | o => o
def offS (S : List Addr) (H : Hp) : Hp := fun b => if b ∈ S then none else H b
theorem offT_some {H : Hp} {b : Addr} {o : HO} (h : offT H b = some o) : H b = some o ∧ ∀ ps, o ≠ .tbl ps := by
  unfold offT at h
  split at h
  · cases h
  · rename_i z
    exact ⟨h, fun ps e => z ps (by rw [h, e])⟩
theorem offT_at {H : Hp} {b : Addr} {o : HO} (h : H b = some o) (n : ∀ ps, o ≠ .tbl ps) : offT H b = some o := by
  unfold offT
  rw [h]
  split
  · rename_i e
    exact absurd (Option.some.inj e) (n _)
  · rfl
theorem offT_le {H : Hp} : Same (offT H) H := fun b o e => (offT_some e).1
theorem offT_same {H H' : Hp} (s : Same H H') : Same (offT H) (offT H') := fun b o e => by
  obtain ⟨h, n⟩ := offT_some e
  exact offT_at (s _ _ h) n
theorem offT_ext {H H' : Hp} (s : ExtN H H') : Same (offT H) (offT H') := fun b o e => by
  obtain ⟨h, n⟩ := offT_some e
  exact offT_at (s _ _ h n) n
theorem offS_some {S : List Addr} {H : Hp} {b : Addr} {o : HO} (h : offS S H b = some o) : b ∉ S ∧ H b = some o := by
  unfold offS at h
  by_cases e : b ∈ S
  · rw [if_pos e] at h
    cases h
  · rw [if_neg e] at h
    exact ⟨e, h⟩
theorem offS_ne {S : List Addr} {H : Hp} {b : Addr} (h : b ∉ S) : offS S H b = H b := if_neg h
theorem offS_le {S : List Addr} {H : Hp} : Same (offS S H) H := fun b o e => (offS_some e).2
theorem offS_same {S : List Addr} {H H' : Hp} (s : Same H H') : Same (offS S H) (offS S H') := fun b o e => by
  obtain ⟨h, n⟩ := offS_some e
  rw [offS_ne h]
  exact s _ _ n
theorem offS_upd {S : List Addr} {H : Hp} {b : Addr} {o : HO} (h : b ∈ S) : offS S (upd H b o) = offS S H := by
  funext c
  by_cases e : c ∈ S
  · unfold offS
    rw [if_pos e, if_pos e]
  · rw [offS_ne e, offS_ne e, upd_ne (fun z => e (by rw [z]; exact h))]
/-- of a heap in which none of S stood, all stays -/
theorem offS_new {S : List Addr} {H0 H : Hp} (s : Same H0 H) (h : ∀ b ∈ S, H0 b = none) : Same H0 (offS S H) := fun b o e => by
  rw [offS_ne (fun z => by rw [h b z] at e; cases e)]
  exact s _ _ e
/-! ### tables beside the pool -/
theorem TabS.hid {H : Hp} {p P : Addr} {n : Nat} {q : Str} (t : TabS H P q) (h : Pl H p n) : TabS (hide p H) P q := by
  obtain ⟨ps, h1, h2, h3⟩ := t
  refine ⟨ps, h.hid h1 (by intro x y z c; cases c), h2, fun pos cv hc => ?_⟩
  obtain ⟨c, e1, e2⟩ := h3 pos cv hc
  exact ⟨c, e1, h.hid e2 (by intro x y z c; unfold CodeO at c; cases c)⟩
theorem TabS.sm {H H' : Hp} {P : Addr} {q : Str} (t : TabS H P q) (s : Same H H') : TabS H' P q := t.ext s
/-- the pool stays where only tables change -/
theorem Pl.extN {H H' : Hp} {p : Addr} {n : Nat} (h : Pl H p n) (e : ExtN H H') : Pl H' p n := by
  obtain ⟨a, b, c, h1, h2⟩ := h
  exact ⟨a, b, c, e _ _ h1 (by intro ps z; cases z), h2⟩
theorem ExtN.hide {H H' : Hp} {p : Addr} (e : ExtN H H') : Same (offT (WL.hide p H)) (offT (WL.hide p H')) := fun b o h => by
  obtain ⟨h1, n⟩ := offT_some h
  obtain ⟨h2, h3⟩ := hide_some h1
  exact offT_at (by rw [hide_ne h2]; exact e _ _ h3 n) n
end WL
end L2
set_option Elab.async false
set_option linter.all false
set_option maxRecDepth 100000
set_option maxHeartbeats 4000000
namespace L2
namespace WL
open PySem PySem.Spec PyProof.Rows K1 LamX
/-! ### i not in r -/
theorem op_notInRng {X : Cx} : OpR X (compareOp .NotIn) (fun x y H Q => ∃ i a lo hi, x = V.int i ∧ y = V.ref a ∧ H a = some (.rng lo hi) ∧ Q (.bl (!decide (lo ≤ i ∧ i < hi))) H) := by
  intro pins s σ H x y v u Q I rx ry h
  obtain ⟨i, a, lo, hi, rfl, rfl, ha, q⟩ := h
  obtain ⟨k, rfl⟩ := rx
  obtain rfl : u = Value.ref a := ry
  obtain ⟨t1, t2, t3, ho⟩ := I.hok a _ ha
  have ty : s.TypeIs (.ref a) "range" := ⟨_, ho, rfl⟩
  have fin : wpAny (model X.prog X.w) X.A (pure (Value.bool (!(Builtin.Range.rangePlace? lo hi 1 i).isSome)) : Sem Value) (EP X pins σ Q) X.xe s := by
    rw [place1]
    exact wpAny_pure ⟨.bl _, H, I, rfl, q⟩
  show wpAny _ _ (do return Value.bool (!(← contains (Value.ref a) (Value.int i k)))) _ _ s
  exact wpAny_bind (wpAny_contains_slot (T := "range") ty PySem.F.slot_range_contains (call_meets PySem.F.slot_range_contains ty PySem.F.entry_range_contains (PySem.F.args_range_contains_2 _ _) (q_contains a lo hi i t1 t2 t3 k) ⟨ho, wpAny_truthy_bool fin⟩))
/-! ### what comes of making a web -/
inductive Out where
  | made (cs : List Str)
  | bad (i : Nat)
  | unk (z : Str)
def Out.d : Out → PyData
  | .made cs => .tuple [.str "made", .tuple (dS cs)]
  | .bad i => .tuple [.str "bad", .int (i : Nat)]
  | .unk z => .tuple [.str "unknown", .str z]
/-- what comes of rows that look so -/
def MetOf (K : PySem.W.Frag) (H : Hp) (v : V) (o : Out) : Prop := (∃ t, TyX K H v t ∧ PySem.W.kitAny K t LT = some false ∧ o = .bad 0) ∨
  ∃ ds : List (V × Bool × Str), Seq K H v (ds.map Prod.fst) ∧ ds.length ≤ 1000 ∧ (∀ d ∈ ds, RowD K H d) ∧ ((∃ i, firstR ds = some i ∧ o = .bad i) ∨
    (firstR ds = none ∧ ∃ rs : Rws, Paired (fun (d : V × Bool × Str) (r : Str × List Str) => RowG K H d.1 r ∧ r.2.length ≤ 900) ds rs ∧ ((∃ u, firstU (rs.map Prod.fst) rs = some u ∧ o = .unk u) ∨ (Good rs ∧ o = .made (rs.map Prod.fst)))))
def spMet (K : PySem.W.Frag) : Sp := fun vs H Q _ => ∃ v o, vs = [v] ∧ MetOf K H v o ∧ ∀ H' q, Same H H' → Dp K H' (.ref q) o.d → Q (.ref q) H'
theorem passLen {X : Cx} {W : WX} (tk : Takes X W) : ∀ (pins : List (Addr × Obj)) (σ : St) (H : Hp) (s : Shared) (e : Value) (s' : Shared), Inv X pins σ H s → L2.CX X.prog X.w X.stack H s (fun cls d H => ∀ σ : St, σ.length = X.N.length → W cls d σ H) e s' → X.xe e s' :=
  fun _ σ _ _ e s' I c => tk e s' (XE.of_call I (fun cls d H' h => h σ I.len) c)
theorem Rz.of {H H4 : Hp} {E : XK} {C : Addr} {f : Str} {v : V} (s : Same H H4) (h : ∀ H' d, Same H H' → H' d = some (.xd [(f, v)]) → E (.ref C) (some d) H') : Rz H4 E C f v := fun H' d s' e => h H' d (s.trans s') e
/-- web or error of rows that look so -/
theorem MetOf.init {K : PySem.W.Frag} {H H4 : Hp} {C x dx : Addr} {v : V} {o : Out} {Q : VK} {E : XK} (h : MetOf K H v o) (nx : H x = none) (nd : H dx = none) (e4 : upd (upd H dx (.own x)) x (.ins C dx []) = H4)
    (mk : ∀ rs H', Same H H' → o = .made (rs.map Prod.fst) → Good rs → IsWeb K H' C x rs → Q .non H')
    (bad : ∀ i, o = .bad i → ∀ H' d, Same H H' → H' d = some (.xd [("index", .int (i : Nat))]) → E (.ref (He.ga K "BadWeb")) (some d) H')
    (unk : ∀ z, o = .unk z → ∀ H' d, Same H H' → H' d = some (.xd [("cell", .str z)]) → E (.ref (He.ga K "UnknownCell")) (some d) H') : spInit K C [.ref x, v] H4 Q E := by
  have sx := same_mk nx nd e4.symm
  have s4 := sx.trans hide_le
  have hx : H4 x = some (.ins C dx []) := by rw [← e4]; exact upd_same
  refine ⟨x, dx, v, rfl, hx, ?_⟩
  rcases h with ⟨t, h1, h2, rfl⟩ | ⟨ds, h1, h2, h3, h⟩
  · exact .inl fun Q' => ⟨v, rfl, .inl ⟨t, TyX.same h1 s4, h2, Rz.of s4 (bad 0 rfl)⟩⟩
  · rcases h with ⟨i, hi, rfl⟩ | ⟨h0, rs, hp, ⟨u, hu, rfl⟩ | ⟨g, rfl⟩⟩
    · exact .inl fun Q' => ⟨v, rfl, .inr ⟨ds, h1.same s4, h2, fun d hd => (h3 d hd).same s4, .inl ⟨i, hi, Rz.of s4 (bad i rfl)⟩⟩⟩
    · exact .inl fun Q' => ⟨v, rfl, .inr ⟨ds, h1.same s4, h2, fun d hd => (h3 d hd).same s4, .inr ⟨h0, rs, (Paired.length hp).symm, fun i d r e1 e2 => by
        obtain ⟨r', e3, h5⟩ := Paired.getL hp e1
        rw [e2] at e3
        cases e3
        exact ⟨h5.1.same s4, h5.2⟩, .inl ⟨u, hu, Rz.of s4 (unk u rfl)⟩⟩⟩⟩
    · refine .inr ⟨ds.map Prod.fst, rs, h1.same sx, ?_, g, fun H' s' w => mk rs H' ((sx.trans s').trans hide_le) rfl g w⟩
      have key : ∀ {l : List (V × Bool × Str)} {m : Rws}, Paired (fun (d : V × Bool × Str) (r : Str × List Str) => RowG K H d.1 r ∧ r.2.length ≤ 900) l m → Paired (RowG K (hide x H4)) (l.map Prod.fst) m := by
        intro l m hp
        induction hp with
        | nil => exact .nil
        | cons a _ ih => exact .cons (a.1.same sx) ih
      exact key hp
end WL
end L2
set_option Elab.async false
set_option linter.all false
set_option maxRecDepth 100000
set_option maxHeartbeats 4000000
namespace L2
namespace WL
open PySem PySem.Spec PyProof.Rows K1 LamX
/-! ### xs != [] -/
def rNeNil (K : PySem.W.Frag) : R2 := fun x y H Q => ∃ a b xs, x = .ref a ∧ y = .ref b ∧ SqL K H a xs ∧ SqL K H b [] ∧ Q (.bl (!xs.isEmpty)) H
theorem op_neNil {X : Cx} (hu : X.A.units + 64 < cLine) : OpR X (compareOp .NotEq) (rNeNil X.K) := by
  intro pins s σ H x y v u Q I rx ry h
  obtain ⟨a, b, xs, rfl, rfl, ha, hb, q⟩ := h
  cases (show v = Value.ref a from rx)
  cases (show u = Value.ref b from ry)
  obtain ⟨us, r1, p1, _⟩ := I.list ha
  obtain ⟨ws, r2, p2, _⟩ := I.list hb
  cases r2
  cases r1 with
  | nil => exact SeqAt.RcNeAt.lists (e := fun _ => true) p1.isList p2.isList rfl (by omega) (fun j h1 h2 => absurd h1 (Nat.not_lt_zero j)) X.prog X.w _ _ ⟨.bl false, H, I, rfl, q⟩
  | cons h t => exact SeqAt.RcNeAt.lists_lengths p1.isList p2.isList (by simp) (by omega) X.prog X.w _ _ ⟨.bl true, H, I, rfl, q⟩
/-! ### rows by their looks -/
abbrev Lk : Type := Bool × Str × List Str
/-- a value that may be a list of names; what it lists if it is one -/
def NL1 (K : PySem.W.Frag) (H : Hp) (s : V) (c : Bool) (ss : List Str) : Prop := (∃ t, TyX K H s t ∧ PySem.W.kitAny K t LT = some false ∧ c = false) ∨
  ∃ (l : Addr) (xs : List V) (bs : List Bool), s = .ref l ∧ H l = some (.lst xs) ∧ xs.length ≤ 900 ∧ bs.length = xs.length ∧ (∀ (i : Nat) x b, xs[i]? = some x → bs[i]? = some b → IsN K H x b) ∧ c = nlB xs bs ∧ (c = true → xs = ss.map .str)
theorem NL1.same {K : PySem.W.Frag} {H H' : Hp} {v : V} {c : Bool} {ss : List Str} (h : NL1 K H v c ss) (s : Same H H') : NL1 K H' v c ss := by
  rcases h with ⟨t, h1, h2⟩ | ⟨l, xs, bs, h1, h2, h3, h4, h5, h6⟩
  · exact .inl ⟨t, TyX.same h1 s, h2⟩
  · exact .inr ⟨l, xs, bs, h1, s _ _ h2, h3, h4, fun i x b e e2 => (h5 i x b e e2).same s, h6⟩
theorem NL1.nlis {K : PySem.W.Frag} {H : Hp} {v : V} {c : Bool} {ss : List Str} (h : NL1 K H v c ss) : NLis K H v c := by
  rcases h with h | ⟨l, xs, bs, rfl, h2, h3, h4, h5, h6, _⟩
  · exact .inl h
  · exact .inr ⟨xs, bs, ⟨l, rfl, .inl (SqL.of h2)⟩, h3, h4, h5, h6⟩
/-- a cell and its sources, by their looks -/
def CS (K : PySem.W.Frag) (H : Hp) (c s : V) (e : Lk) : Prop := ∃ bc bs, IsN K H c bc ∧ NL1 K H s bs e.2.2 ∧ e.1 = (bc && bs) ∧ (bc = true → c = .str e.2.1)
theorem CS.same {K : PySem.W.Frag} {H H' : Hp} {c s : V} {e : Lk} (h : CS K H c s e) (q : Same H H') : CS K H' c s e := let ⟨bc, bs, h1, h2, h3⟩ := h; ⟨bc, bs, h1.same q, h2.same q, h3⟩
/-- rows as the law has them (tuples), as it hands them in (lists) -/
def ItD (K : PySem.W.Frag) (H : Hp) (v : V) (e : Lk) : Prop := (v = .non ∧ e.1 = false) ∨ ∃ t c s, v = .ref t ∧ H t = some (.tup [c, s]) ∧ CS K H c s e
def ItM (K : PySem.W.Frag) (H : Hp) (v : V) (e : Lk) : Prop := (v = .non ∧ e.1 = false) ∨ ∃ t c s, v = .ref t ∧ H t = some (.lst [c, s]) ∧ CS K H c s e
theorem ItD.same {K : PySem.W.Frag} {H H' : Hp} {v : V} {e : Lk} (h : ItD K H v e) (q : Same H H') : ItD K H' v e := by
  rcases h with h | ⟨t, c, s, h1, h2, h3⟩
  · exact .inl h
  · exact .inr ⟨t, c, s, h1, q _ _ h2, h3.same q⟩
theorem ItM.same {K : PySem.W.Frag} {H H' : Hp} {v : V} {e : Lk} (h : ItM K H v e) (q : Same H H') : ItM K H' v e := by
  rcases h with h | ⟨t, c, s, h1, h2, h3⟩
  · exact .inl h
  · exact .inr ⟨t, c, s, h1, q _ _ h2, h3.same q⟩
theorem kit_non {K : PySem.W.Frag} : PySem.W.kitAny K (.type "NoneType") LT = some false := by
  unfold PySem.W.kitAny
  rw [kit_ty (K := K) (a := "NoneType") (b := "list") (r := false) (by decide +kernel)]
  show PySem.W.kitAny K (.type "NoneType") [.type "tuple"] = some false
  unfold PySem.W.kitAny
  rw [kit_ty (K := K) (a := "NoneType") (b := "tuple") (r := false) (by decide +kernel)]
  rfl
theorem strsOf_strs (xs : List Str) : strsOf (xs.map .str) = xs := strsOf_map xs
theorem ItM.rowD {K : PySem.W.Frag} {H : Hp} {v : V} {e : Lk} (h : ItM K H v e) : RowD K H (v, e.1, e.2.1) := by
  rcases h with ⟨rfl, e1⟩ | ⟨t, c, s, rfl, h2, bc, bs, h3, h4, h5, h6⟩
  · exact ⟨.inl ⟨_, .base .non, kit_non, e1⟩, fun z => by rw [show e.1 = true from z] at e1; cases e1⟩
  · have q : Seq K H (.ref t) [c, s] := ⟨t, rfl, .inl (SqL.of h2)⟩
    refine ⟨.inr ⟨[c, s], q, .inr ⟨c, s, bc, bs, rfl, h3, h4.nlis, h5⟩⟩, fun z => ?_⟩
    rw [show e.1 = true from z] at h5
    obtain ⟨g1, _⟩ := Bool.and_eq_true_iff.mp h5.symm
    rw [← h6 g1]
    exact ⟨s, q⟩
/-- what comes of rows that look so -/
def outOf (es : List Lk) : Out := if es = [] then .bad 0 else match firstW (es.map fun e => (e.1, e.2.1)) [] 0 with
  | some i => .bad i
  | none => match firstU (es.map fun e => e.2.1) (es.map Prod.snd) with
    | some u => .unk u
    | none => .made (es.map fun e => e.2.1)
theorem firstW_no : ∀ {l : List (Bool × Str)} {seen : List Str} {i : Nat}, firstW l seen i = none → (∀ e ∈ l, e.1 = true) ∧ (l.map Prod.snd).Nodup ∧ ∀ e ∈ l, e.2 ∉ seen
  | [], _, _, _ => ⟨(fun e h => nomatch h), List.nodup_nil, (fun e h => nomatch h)⟩
  | (r, z) :: l, seen, i, h => by
    unfold firstW at h
    by_cases c : r = false ∨ z ∈ seen
    · rw [if_pos c] at h
      cases h
    · rw [if_neg c] at h
      obtain ⟨h1, h2, h3⟩ := firstW_no h
      have cr : r = true := by
        cases r with
        | true => rfl
        | false => exact absurd (.inl rfl) c
      have cz : z ∉ seen := fun m => c (.inr m)
      refine ⟨fun e he => ?_, ?_, fun e he => ?_⟩
      · rcases List.mem_cons.mp he with rfl | he
        · exact cr
        · exact h1 e he
      · rw [List.map_cons]
        refine List.nodup_cons.mpr ⟨fun m => ?_, h2⟩
        obtain ⟨e, he, ez⟩ := List.mem_map.mp m
        exact h3 e he (List.mem_append_right _ (by rw [ez]; exact List.mem_singleton.mpr rfl))
      · rcases List.mem_cons.mp he with rfl | he
        · exact cz
        · exact fun m => h3 e he (List.mem_append_left _ m)
theorem firstU_none {cells : List Str} {rs : Rws} (h : firstU cells rs = none) : ∀ r ∈ rs, ∀ s ∈ r.2, s ∈ cells := fun r hr s hs => by
  unfold firstU at h
  have := List.find?_eq_none.mp h s (List.mem_flatMap.mpr ⟨r, hr, hs⟩)
  simpa using this
theorem CS.true_ {K : PySem.W.Frag} {H : Hp} {c s : V} {e : Lk} (h : CS K H c s e) (t : e.1 = true) : c = .str e.2.1 ∧ isNm e.2.1 = true ∧ ∃ l, s = .ref l ∧ H l = some (.lst (e.2.2.map .str)) ∧ e.2.2.length ≤ 900 ∧ e.2.2.Nodup := by
  obtain ⟨bc, bs, h1, h2, h3, h4⟩ := h
  rw [t] at h3
  obtain ⟨g1, g2⟩ := Bool.and_eq_true_iff.mp h3.symm
  subst g1 g2
  have ec := h4 rfl
  refine ⟨ec, ?_, ?_⟩
  · rcases h1 with ⟨z, ez, _, en⟩ | ⟨_, _, _, e⟩
    · rw [ec] at ez
      cases ez
      exact en.symm
    · cases e
  · rcases h2 with ⟨_, _, _, e⟩ | ⟨l, xs, bs', rfl, h5, h6, h7, h8, h9, h10⟩
    · cases e
    · have ex := h10 rfl
      subst ex
      rw [List.length_map] at h6
      refine ⟨l, rfl, h5, h6, ?_⟩
      unfold nlB at h9
      have := (Bool.and_eq_true_iff.mp h9.symm).2
      rw [strsOf_strs] at this
      exact of_decide_eq_true this
theorem met_of {K : PySem.W.Frag} {H : Hp} {v : V} {vs : List V} {es : List Lk} (hq : Seq K H v vs) (hp : Paired (ItM K H) vs es) (hl : es.length ≤ 900) : MetOf K H v (outOf es) := by
  have hvl := Paired.length hp
  have ds : ∃ ds : List (V × Bool × Str), ds.map Prod.fst = vs ∧ ds.map Prod.snd = (es.map fun e => (e.1, e.2.1)) ∧ (∀ d ∈ ds, RowD K H d) ∧ Paired (fun (d : V × Bool × Str) (e : Lk) => d = (d.1, e.1, e.2.1) ∧ ItM K H d.1 e) ds es := by
    clear hq hl hvl
    induction hp with
    | nil => exact ⟨[], rfl, rfl, (fun d h => nomatch h), .nil⟩
    | @cons v e vs es h t ih =>
      obtain ⟨ds, h1, h2, h3, h4⟩ := ih
      refine ⟨(v, e.1, e.2.1) :: ds, by rw [List.map_cons, h1], by rw [List.map_cons, List.map_cons, h2], fun d hd => ?_, .cons ⟨rfl, h⟩ h4⟩
      rcases List.mem_cons.mp hd with rfl | hd
      · exact h.rowD
      · exact h3 d hd
  obtain ⟨ds, h1, h2, h3, h4⟩ := ds
  have dl : ds.length = es.length := by rw [← List.length_map (f := Prod.fst), h1, hvl]
  refine .inr ⟨ds, by rw [h1]; exact hq, by omega, h3, ?_⟩
  unfold outOf
  by_cases e0 : es = []
  · rw [if_pos e0]
    refine .inl ⟨0, ?_, rfl⟩
    have : ds = [] := List.length_eq_zero_iff.mp (by rw [dl, e0]; rfl)
    unfold firstR
    rw [if_pos this]
  · rw [if_neg e0]
    have fr : firstR ds = firstW (es.map fun e => (e.1, e.2.1)) [] 0 := by
      unfold firstR
      rw [if_neg (fun z => e0 (List.length_eq_zero_iff.mp (by rw [← dl, z]; rfl))), h2]
    cases hw : firstW (es.map fun e => (e.1, e.2.1)) [] 0 with
    | some i => exact .inl ⟨i, fr.trans hw, rfl⟩
    | none =>
      obtain ⟨w1, w2, _⟩ := firstW_no hw
      have all : ∀ e ∈ es, e.1 = true := fun e he => w1 (e.1, e.2.1) (List.mem_map.mpr ⟨e, he, rfl⟩)
      refine .inr ⟨fr.trans hw, es.map Prod.snd, ?_, ?_⟩
      · have key : ∀ {l : List (V × Bool × Str)} {m : List Lk}, Paired (fun (d : V × Bool × Str) (e : Lk) => d = (d.1, e.1, e.2.1) ∧ ItM K H d.1 e) l m → (∀ e ∈ m, e.1 = true) → Paired (fun (d : V × Bool × Str) (r : Str × List Str) => RowG K H d.1 r ∧ r.2.length ≤ 900) l (m.map Prod.snd) := by
          intro l m hp
          induction hp with
          | nil => exact fun _ => .nil
          | @cons d e l m a _ ih =>
            intro hall
            refine .cons ?_ (ih fun e he => hall e (List.mem_cons_of_mem _ he))
            have et := hall e (List.mem_cons_self ..)
            rcases a.2 with ⟨_, z⟩ | ⟨t, c, s, h1, h2, h3⟩
            · rw [et] at z
              cases z
            · obtain ⟨rfl, _, l', rfl, h5, h6, _⟩ := h3.true_ et
              rw [h1]
              exact ⟨⟨.ref l', ⟨t, rfl, .inl (SqL.of h2)⟩, ⟨l', rfl, .inl (SqL.of h5)⟩⟩, h6⟩
        exact key h4 all
      · have em : (es.map Prod.snd).map Prod.fst = es.map fun e => e.2.1 := by rw [List.map_map]; rfl
        rw [em]
        cases hu : firstU (es.map fun e => e.2.1) (es.map Prod.snd) with
        | some u => exact .inl ⟨u, rfl, rfl⟩
        | none =>
          have looks : ∀ e ∈ es, isNm e.2.1 = true ∧ e.2.2.length ≤ 900 ∧ e.2.2.Nodup := fun e he => by
            obtain ⟨i, hi⟩ := List.getElem?_of_mem he
            obtain ⟨v, _, hv⟩ := Paired.get hp hi
            rcases hv with ⟨_, z⟩ | ⟨t, c, s, _, _, h3⟩
            · rw [all e he] at z
              cases z
            · obtain ⟨_, g1, _, _, _, g2, g3⟩ := h3.true_ (all e he)
              exact ⟨g1, g2, g3⟩
          refine .inr ⟨⟨?_, ?_, ?_, fun r hr => ?_, fun r hr => ?_⟩, rfl⟩
          · rw [em]
            rw [List.map_map] at w2
            exact w2
          · rw [List.length_map]
            exact List.length_pos_iff.mpr e0
          · rw [List.length_map]
            exact hl
          · obtain ⟨e, he, rfl⟩ := List.mem_map.mp hr
            rw [em]
            exact ⟨(looks e he).2.1, (looks e he).2.2, fun s hs => firstU_none hu e.2 hr s hs⟩
          · obtain ⟨e, he, rfl⟩ := List.mem_map.mp hr
            exact (looks e he).1
def spDue (K : PySem.W.Frag) : Sp := fun vs H Q _ => ∃ (a : Addr) (xs : List V) (es : List Lk), vs = [.ref a] ∧ H a = some (.lst xs) ∧ Paired (ItD K H) xs es ∧ es.length ≤ 100 ∧ ∀ H' q, Same H H' → Dp K H' (.ref q) (outOf es).d → Q (.ref q) H'
theorem strange_vs (names l : List Str) : l.filterMap (fun s => if s ∈ names then none else some (V.str s)) = (l.filter fun s => decide (s ∉ names)).map .str := by
  induction l with
  | nil => rfl
  | cons x xs ih =>
    by_cases m : x ∈ names
    · have e1 : decide (x ∉ names) = false := decide_eq_false fun z => z m
      simp only [List.filterMap_cons, m, if_true, List.filter_cons, e1, not_true_eq_false, decide_false, Bool.false_eq_true, if_false]
      exact ih
    · have e1 : decide (x ∉ names) = true := decide_eq_true m
      simp only [List.filterMap_cons, m, if_false, List.filter_cons, not_false_eq_true, decide_true, if_true, List.map_cons]
      rw [ih]
/-- whether one of them stands ahead of itself: by places -/
theorem dup_any (ss : List Str) : ((List.range ss.length).map fun k => decide (ss.getD k Str.empty ∈ ss.take k)).any id = !decide ss.Nodup := by
  rw [Bool.eq_iff_iff, List.any_map, List.any_eq_true, Bool.not_eq_true', decide_eq_false_iff_not]
  constructor
  · rintro ⟨k, hk, h⟩ nd
    have hk' := List.mem_range.mp hk
    have h' : ss.getD k Str.empty ∈ ss.take k := of_decide_eq_true h
    rw [List.getD_eq_getElem?_getD, List.getElem?_eq_getElem hk'] at h'
    have e : ss = ss.take k ++ ss.drop k := (List.take_append_drop k ss).symm
    rw [e] at nd
    exact (List.nodup_append.mp nd).2.2 _ h' _ (by rw [List.drop_eq_getElem_cons hk']; exact List.mem_cons_self ..) rfl
  · intro nd
    refine Classical.byContradiction fun no => nd ?_
    refine List.pairwise_iff_getElem.mpr fun i j hi hj hij e => no ⟨j, List.mem_range.mpr hj, ?_⟩
    show decide _ = true
    refine decide_eq_true ?_
    rw [List.getD_eq_getElem?_getD, List.getElem?_eq_getElem hj]
    show ss[j] ∈ ss.take j
    rw [← e]
    exact List.mem_take_iff_getElem.mpr ⟨i, by omega, rfl⟩
end WL
end L2
set_option Elab.async false
set_option linter.all false
set_option maxRecDepth 100000
set_option maxHeartbeats 4000000
namespace L2
namespace WL
open PySem PySem.Spec PyProof.Rows K1 LamX
/-! ### rows spoilt -/
theorem nl1_strs {K : PySem.W.Frag} {H : Hp} {l : Addr} {xs : List Str} (h : H l = some (.lst (xs.map .str))) (hl : xs.length ≤ 900) (hn : ∀ x ∈ xs, isNm x = true) : NL1 K H (.ref l) (decide xs.Nodup) xs := by
  refine .inr ⟨l, xs.map .str, xs.map fun _ => true, rfl, h, by rw [List.length_map]; exact hl, by rw [List.length_map, List.length_map], fun i x b e1 e2 => ?_, ?_, fun _ => rfl⟩
  · rw [List.getElem?_map] at e1 e2
    obtain ⟨z, hz, rfl⟩ := Option.map_eq_some_iff.mp e1
    obtain ⟨_, _, rfl⟩ := Option.map_eq_some_iff.mp e2
    have := hn z (List.mem_of_getElem? hz)
    exact .inl ⟨z, rfl, isNm_len this, this.symm⟩
  · unfold nlB
    rw [strsOf_strs]
    have : (xs.map fun _ => true).all id = true := by simp
    rw [this, Bool.true_and]
theorem nm_is {K : PySem.W.Frag} {H : Hp} {z : Str} (h : isNm z = true) : IsN K H (.str z) true := .inl ⟨z, rfl, isNm_len h, h.symm⟩
theorem cs_strs {K : PySem.W.Frag} {H : Hp} {l : Addr} {z : Str} {xs : List Str} (hz : isNm z = true) (h : H l = some (.lst (xs.map .str))) (hl : xs.length ≤ 900) (hn : ∀ x ∈ xs, isNm x = true) : CS K H (.str z) (.ref l) (decide xs.Nodup, z, xs) :=
  ⟨true, _, nm_is hz, nl1_strs h hl hn, by rw [Bool.true_and], fun _ => rfl⟩
theorem RowT.itd {K : PySem.W.Frag} {H : Hp} {v : V} {r : Str × List Str} (h : RowT H v r) (hz : isNm r.1 = true) (hl : r.2.length ≤ 900) (hn : ∀ x ∈ r.2, isNm x = true) : ItD K H v (decide r.2.Nodup, r.1, r.2) := by
  obtain ⟨t, l, rfl, e1, e2⟩ := h
  exact .inr ⟨t, _, _, rfl, e1, cs_strs hz e2 hl hn⟩
/-- the odd things -/
def oddW (a : Addr) : List V := [.str "A", .str "", .non, .int 5, .str "abcdefghi", .ref a]
theorem odd_n {K : PySem.W.Frag} {H : Hp} {a : Addr} {i : Nat} {x : V} (ha : H a = some (.lst [.str "a"])) (hx : (oddW a)[i]? = some x) : IsN K H x false := by
  match i, hx with
  | 0, hx => obtain rfl := (Option.some.inj hx).symm; exact .inl ⟨_, rfl, by decide +kernel, by decide +kernel⟩
  | 1, hx => obtain rfl := (Option.some.inj hx).symm; exact .inl ⟨_, rfl, by decide +kernel, by decide +kernel⟩
  | 2, hx => obtain rfl := (Option.some.inj hx).symm; exact .inr ⟨_, .base .non, rfl, rfl⟩
  | 3, hx => obtain rfl := (Option.some.inj hx).symm; exact .inr ⟨_, .base (.int _), rfl, rfl⟩
  | 4, hx => obtain rfl := (Option.some.inj hx).symm; exact .inl ⟨_, rfl, by decide +kernel, by decide +kernel⟩
  | 5, hx => obtain rfl := (Option.some.inj hx).symm; exact .inr ⟨_, .base (.lst ha), rfl, rfl⟩
  | i + 6, hx => cases hx
theorem kit_none {K : PySem.W.Frag} {t : String} (h1 : PySem.W.kitOne K (.type t) (.type "list") = some false) (h2 : PySem.W.kitOne K (.type t) (.type "tuple") = some false) : PySem.W.kitAny K (.type t) LT = some false := by
  unfold PySem.W.kitAny
  rw [h1]
  show PySem.W.kitAny K (.type t) [.type "tuple"] = some false
  unfold PySem.W.kitAny
  rw [h2]
  rfl
theorem odd_l {K : PySem.W.Frag} {H : Hp} {a : Addr} {i : Nat} {x : V} (ha : H a = some (.lst [.str "a"])) (hx : (oddW a)[i]? = some x) : ∃ c ss, NL1 K H x c ss := by
  have ks : PySem.W.kitAny K (.type "str") LT = some false := kit_none (kit_ty (by decide +kernel)) (kit_ty (by decide +kernel))
  match i, hx with
  | 0, hx => obtain rfl := (Option.some.inj hx).symm; exact ⟨false, [], .inl ⟨_, .base (.str _), ks, rfl⟩⟩
  | 1, hx => obtain rfl := (Option.some.inj hx).symm; exact ⟨false, [], .inl ⟨_, .base (.str _), ks, rfl⟩⟩
  | 2, hx => obtain rfl := (Option.some.inj hx).symm; exact ⟨false, [], .inl ⟨_, .base .non, kit_non, rfl⟩⟩
  | 3, hx => obtain rfl := (Option.some.inj hx).symm; exact ⟨false, [], .inl ⟨_, .base (.int _), kit_none (kit_ty (by decide +kernel)) (kit_ty (by decide +kernel)), rfl⟩⟩
  | 4, hx => obtain rfl := (Option.some.inj hx).symm; exact ⟨false, [], .inl ⟨_, .base (.str _), ks, rfl⟩⟩
  | 5, hx => obtain rfl := (Option.some.inj hx).symm; exact ⟨_, ["a"], nl1_strs (xs := ["a"]) ha (by decide) (by decide +kernel)⟩
  | i + 6, hx => cases hx
/-- names and an odd thing behind them -/
theorem nl_odd {K : PySem.W.Frag} {H : Hp} {l : Addr} {xs : List Str} {x : V} (h : H l = some (.lst (xs.map .str ++ [x]))) (hl : xs.length ≤ 800) (hn : ∀ x ∈ xs, isNm x = true) (hx : IsN K H x false) : NL1 K H (.ref l) false [] := by
  refine .inr ⟨l, _, (xs.map fun _ => true) ++ [false], rfl, h, by rw [List.length_append, List.length_map]; show _ + 1 ≤ _; omega, by simp, fun i y b e1 e2 => ?_, ?_, fun z => nomatch z⟩
  · by_cases hi : i < xs.length
    · rw [List.getElem?_append_left (by rw [List.length_map]; exact hi), List.getElem?_map] at e1 e2
      obtain ⟨z, hz, rfl⟩ := Option.map_eq_some_iff.mp e1
      obtain ⟨_, _, rfl⟩ := Option.map_eq_some_iff.mp e2
      exact nm_is (hn z (List.mem_of_getElem? hz))
    · have hb : i < (xs.map V.str ++ [x]).length := (List.getElem?_eq_some_iff.mp e1).1
      have hi' : i = xs.length := by
        rw [List.length_append, List.length_map] at hb
        have : i < xs.length + 1 := hb
        omega
      subst hi'
      rw [List.getElem?_append_right (by rw [List.length_map]; exact Nat.le_refl _), List.length_map, Nat.sub_self] at e1 e2
      cases e1
      cases e2
      exact hx
  · unfold nlB
    rw [List.all_append]
    simp
theorem cut_one (ss : List Str) : cutV (ss.map V.str) none (some (1 : Int)) = (ss.take 1).map .str := by
  cases ss with
  | nil => rfl
  | cons x xs =>
    rw [show (1 : Int) = ((1 : Nat) : Int) from rfl, cut_to (by simp), List.map_take]
theorem paired_map {α β γ : Type} {R : α → γ → Prop} {f : β → γ} {l : List α} {m : List β} (h : Paired (fun a b => R a (f b)) l m) : Paired R l (m.map f) := by
  induction h with
  | nil => exact .nil
  | cons h _ ih => exact .cons h ih
theorem paired_take {α β : Type} {R : α → β → Prop} : ∀ (n : Nat) {l : List α} {m : List β}, Paired R l m → Paired R (l.take n) (m.take n)
  | 0, _, _, _ => by rw [List.take_zero, List.take_zero]; exact .nil
  | n + 1, _, _, .nil => .nil
  | n + 1, _, _, .cons h t => .cons h (paired_take n t)
theorem paired_drop {α β : Type} {R : α → β → Prop} : ∀ (n : Nat) {l : List α} {m : List β}, Paired R l m → Paired R (l.drop n) (m.drop n)
  | 0, _, _, h => h
  | n + 1, _, _, .nil => .nil
  | n + 1, _, _, .cons h t => paired_drop n t
/-! ### objects known, by places in a list -/
def Has (B : Hp) (L : List (Addr × HO)) : Prop := ∀ x ∈ L, B x.1 = some x.2
theorem Has.ix {B : Hp} {L : List (Addr × HO)} (h : Has B L) (i : Nat) {a : Addr} {o : HO} (e : L[i]? = some (a, o)) : B a = some o := h (a, o) (List.mem_of_getElem? e)
theorem Has.same {B B' : Hp} {L : List (Addr × HO)} (h : Has B L) (s : Same B B') : Has B' L := fun x hx => s _ _ (h x hx)
theorem alo {p d : Addr} {H B0 : Hp} {n : Nat} {L : List (Addr × HO)} {o : HO} (hL : Has (hide p H) L) (P : Pl H p n) (S : Same B0 (hide p H)) (nd : H d = none) : Has (hide p (upd H d o)) ((d, o) :: L) ∧ Pl (upd H d o) p n ∧ Same B0 (hide p (upd H d o)) := by
  obtain ⟨h1, h2, h3⟩ := hide_new (o := o) P.ne nd
  refine ⟨fun x hx => ?_, P.new nd, S.trans h2⟩
  rcases List.mem_cons.mp hx with rfl | hx
  · exact h3
  · exact h2 _ _ (hL x hx)
def spSpoilt (K : PySem.W.Frag) : Sp := fun vs H Q _ => ∃ (p q : Addr) (n : Nat) (rs : Rws), vs = [.ref p, .ref q] ∧ Pl H p n ∧ n ≤ 600000000 ∧ RowsAt (hide p H) q rs ∧ LawRows 6 6 rs ∧
  ∀ (es : List Lk) (xs : List V) H' r, Same (hide p H) (hide p H') → Pl H' p (n + 4) → hide p H r = none → hide p H' r = some (.lst xs) → Paired (ItD K (hide p H')) xs es → es.length ≤ 20 → Q (.ref r) H'
end WL
end L2
set_option Elab.async false
set_option linter.all false
set_option maxRecDepth 100000
set_option maxHeartbeats 4000000
namespace L2
namespace WL
open PySem PySem.Spec PyProof.Rows K1 LamX
/-! ### facts beside hidden things: a heap with less -/
/-- H' has all of H but some lists and tables -/
structure Less (H H' : Hp) : Prop where
  le : ∀ b o, H b = some o → (∀ xs, o ≠ .lst xs) → (∀ ps, o ≠ .tbl ps) → H' b = some o
theorem Less.sqT {K : PySem.W.Frag} {H H' : Hp} {a : Addr} {xs : List V} (L : Less H H') (h : SqT K H a xs) : SqT K H' a xs := by
  rcases h with (h | ⟨o, h⟩) | h
  · exact .inl (.inl (L.le _ _ h (fun ys z => nomatch z) fun ps z => nomatch z))
  · exact .inl (.inr ⟨o, L.le _ _ h (fun ys z => nomatch z) fun ps z => nomatch z⟩)
  · exact .inr h
theorem Less.web {K : PySem.W.Frag} {H H' : Hp} {C p : Addr} {rs : Rws} (L : Less H H') (w : IsWeb K H C p rs) : IsWeb K H' C p rs := by
  obtain ⟨dx, c, s, a, t, ks, kt, av, W⟩ := w
  have g : ∀ b o, H b = some o → (∀ xs, o ≠ .lst xs) → (∀ ps, o ≠ .tbl ps) → H' b = some o := L.le
  have dt : ∀ {ks : List (Key × V)} {rs : Rws}, DTup K H ks rs → DTup K H' ks rs := fun d => Paired.imp (fun _ _ ⟨e, a, e2, s⟩ => ⟨e, a, e2, L.sqT s⟩) d
  exact ⟨dx, c, s, a, t, ks, kt, av, g _ _ W.ob (fun _ z => nomatch z) (fun _ z => nomatch z), g _ _ W.hc (fun _ z => nomatch z) (fun _ z => nomatch z), g _ _ W.hs (fun _ z => nomatch z) (fun _ z => nomatch z), dt W.ds,
    g _ _ W.ha (fun _ z => nomatch z) (fun _ z => nomatch z), Paired.imp (fun _ _ ⟨q, e1, e2⟩ => ⟨q, e1, g _ _ e2 (fun _ z => nomatch z) (fun _ z => nomatch z)⟩) W.da, g _ _ W.ht (fun _ z => nomatch z) (fun _ z => nomatch z), dt W.dt⟩
theorem less_offS {S : List Addr} {H : Hp} (h : ∀ b ∈ S, ∃ xs, H b = some (.lst xs)) : Less H (offS S H) := ⟨fun b o e n _ => by
  rw [offS_ne]
  · exact e
  · intro m
    obtain ⟨xs, e2⟩ := h b m
    rw [e] at e2
    exact n xs (Option.some.inj e2)⟩
theorem less_hide {E : Addr} {H : Hp} {xs : List V} (h : H E = some (.lst xs)) : Less H (hide E H) := ⟨fun b o e n _ => by
  rw [hide_ne (fun z => by rw [z, h] at e; exact n xs (Option.some.inj e).symm)]
  exact e⟩
theorem less_offT {H : Hp} : Less H (offT H) := ⟨fun b o e _ n => offT_at e n⟩
theorem Less.trans {H H1 H2 : Hp} (a : Less H H1) (b : Less H1 H2) : Less H H2 := ⟨fun c o e n m => b.le _ _ (a.le _ _ e n m) n m⟩
theorem SqL.offT {K : PySem.W.Frag} {H : Hp} {l : Addr} {xs : List V} (h : SqL K H l xs) : SqL K (offT H) l xs := by
  rcases h with (h | ⟨o, h⟩) | h
  · exact .inl (.inl (offT_at h fun ps z => nomatch z))
  · exact .inl (.inr ⟨o, offT_at h fun ps z => nomatch z⟩)
  · exact .inr h
theorem RowT.offT {H : Hp} {v : V} {r : Str × List Str} (h : RowT H v r) : RowT (WL.offT H) v r := by
  obtain ⟨t, l, e, a, b⟩ := h
  exact ⟨t, l, e, offT_at a (fun ps z => nomatch z), offT_at b fun ps z => nomatch z⟩
theorem RowsAt.offT {H : Hp} {q : Addr} {rs : Rws} (h : RowsAt H q rs) : RowsAt (WL.offT H) q rs := by
  obtain ⟨vs, e, a⟩ := h
  exact ⟨vs, offT_at e (fun ps z => nomatch z), Paired.imp (fun _ _ r => RowT.offT r) a⟩
theorem RowT.hidP {H : Hp} {p : Addr} {n : Nat} {v : V} {r : Str × List Str} (h : RowT H v r) (P : Pl H p n) : RowT (hide p H) v r := by
  obtain ⟨t, l, e, a, b⟩ := h
  refine ⟨t, l, e, P.hid a (by intro x y z c; cases c), P.hid b fun x y z c => ?_⟩
  have c' : r.2.map V.str = [.int x, .int y, .int z] := HO.lst.inj c
  cases e2 : r.2 with
  | nil =>
    rw [e2] at c'
    cases c'
  | cons s ss =>
    rw [e2] at c'
    cases (List.cons.inj c').1
theorem RowsAt.hidP {H : Hp} {p q : Addr} {n : Nat} {rs : Rws} (h : RowsAt H q rs) (P : Pl H p n) (ne : rs ≠ []) : RowsAt (hide p H) q rs := by
  obtain ⟨vs, e, a⟩ := h
  refine ⟨vs, P.hid e fun x y z c => ?_, Paired.imp (fun _ _ r => r.hidP P) a⟩
  cases a with
  | nil => exact ne rfl
  | cons h t =>
    obtain ⟨t, l, rfl, _⟩ := h
    cases (List.cons.inj (HO.lst.inj c)).1
/-- what the law keeps at hand -/
structure LawSt (K : PySem.W.Frag) (C x l q p pt : Addr) (n : Nat) (ns : List Int) (rs : Rws) (nm : Str) (H : Hp) : Prop where
  hl : SqL K (WL.offT (hide p H)) l (ns.map V.int)
  w : IsWeb K (WL.offT H) C x rs
  r : RowsAt (WL.offT H) q rs
  pl : Pl H p n
  tb : TabS H pt nm
theorem LawSt.same {K : PySem.W.Frag} {C x l q p pt : Addr} {n : Nat} {ns : List Int} {rs : Rws} {nm : Str} {H H' : Hp} (h : LawSt K C x l q p pt n ns rs nm H) (s : Same H H') : LawSt K C x l q p pt n ns rs nm H' :=
  ⟨SqL.sm h.hl (offT_same (hide_same s)), h.w.same (offT_same s), h.r.same (offT_same s), h.pl.same s, LamX.TabS.ext h.tb s⟩
theorem LawSt.ext {K : PySem.W.Frag} {C x l q p pt : Addr} {n : Nat} {ns : List Int} {rs : Rws} {nm : Str} {H H' : Hp} (h : LawSt K C x l q p pt n ns rs nm H) (e : ExtN H H') (t : TabS H' pt nm) : LawSt K C x l q p pt n ns rs nm H' :=
  ⟨SqL.sm h.hl (ExtN.hide e), h.w.same (offT_ext e), h.r.same (offT_ext e), h.pl.extN e, t⟩
theorem LawSt.web {K : PySem.W.Frag} {C x l q p pt : Addr} {n : Nat} {ns : List Int} {rs : Rws} {nm : Str} {H : Hp} (h : LawSt K C x l q p pt n ns rs nm H) : IsWeb K H C x rs := h.w.same offT_le
theorem LawSt.rows {K : PySem.W.Frag} {C x l q p pt : Addr} {n : Nat} {ns : List Int} {rs : Rws} {nm : Str} {H : Hp} (h : LawSt K C x l q p pt n ns rs nm H) : RowsAt H q rs := h.r.same offT_le
/-! ### webs compared -/
theorem dEq_self {rs : Rws} (nd : (rs.map Prod.fst).Nodup) : dEq rs rs = true := by
  unfold dEq
  rw [decide_eq_true rfl, Bool.true_and, List.all_eq_true]
  exact fun p hp => decide_eq_true (srcs_at nd hp)
theorem wEq_self {rs : Rws} (g : Good rs) : wEq rs rs = true := by
  unfold wEq
  rw [decide_eq_true rfl, dEq_self g.nd]
  rfl
theorem Good.rev {rs : Rws} (g : Good rs) : Good rs.reverse := by
  have m : rs.reverse.map Prod.fst = (rs.map Prod.fst).reverse := List.map_reverse ..
  refine ⟨?_, by rw [List.length_reverse]; exact g.l1, by rw [List.length_reverse]; exact g.ln, fun r hr => ?_, fun r hr => g.nm r (List.mem_reverse.mp hr)⟩
  · rw [m]
    exact (List.reverse_perm _).nodup_iff.mpr g.nd
  · obtain ⟨h1, h2, h3⟩ := g.sr r (List.mem_reverse.mp hr)
    exact ⟨h1, h2, fun s hs => by rw [m]; exact List.mem_reverse.mpr (h3 s hs)⟩
theorem wEq_rev {rs : Rws} (g : Good rs) (h : 1 < rs.length) : wEq rs rs.reverse = false := by
  unfold wEq
  rw [decide_eq_false, Bool.false_and]
  intro e
  rw [List.map_reverse] at e
  have hl : (rs.map Prod.fst).length = rs.length := List.length_map ..
  have nd := g.nd
  generalize rs.map Prod.fst = l at e hl nd
  have h0 : 0 < l.length := by omega
  have hk : l.length - 1 < l.length := by omega
  have e2 : l[0] = l[l.length - 1] := by
    have : l[0]? = l.reverse[0]? := by rw [← e]
    rw [List.getElem?_reverse h0, List.getElem?_eq_getElem h0, List.getElem?_eq_getElem (by omega)] at this
    exact Option.some.inj this
  exact List.pairwise_iff_getElem.mp nd 0 (l.length - 1) h0 hk (by omega) e2
def revS (rs : Rws) : Rws := rs.map fun r => (r.1, r.2.reverse)
theorem revS_fst (rs : Rws) : (revS rs).map Prod.fst = rs.map Prod.fst := by
  unfold revS
  rw [List.map_map]
  rfl
theorem Good.revS {rs : Rws} (g : Good rs) : Good (revS rs) := by
  refine ⟨by rw [revS_fst]; exact g.nd, by unfold WL.revS; rw [List.length_map]; exact g.l1, by unfold WL.revS; rw [List.length_map]; exact g.ln, fun r hr => ?_, fun r hr => ?_⟩
  · obtain ⟨r', hr', rfl⟩ := List.mem_map.mp hr
    obtain ⟨h1, h2, h3⟩ := g.sr r' hr'
    exact ⟨by show r'.2.reverse.length ≤ 900; rw [List.length_reverse]; exact h1, (List.reverse_perm _).nodup_iff.mpr h2, fun s hs => by rw [revS_fst]; exact h3 s (List.mem_reverse.mp hs)⟩
  · obtain ⟨r', hr', rfl⟩ := List.mem_map.mp hr
    exact g.nm r' hr'
theorem wEq_revS {rs : Rws} (g : Good rs) : wEq rs (revS rs) = decide (revS rs = rs) := by
  have nd2 : ((revS rs).map Prod.fst).Nodup := by rw [revS_fst]; exact g.nd
  have hall : (rs.all fun p => decide (srcs (revS rs) p.1 = some p.2)) = decide (revS rs = rs) := by
    rw [Bool.eq_iff_iff, List.all_eq_true, decide_eq_true_iff]
    have at_ : ∀ r ∈ rs, srcs (revS rs) r.1 = some r.2.reverse := fun r hr => srcs_at nd2 (p := (r.1, r.2.reverse)) (List.mem_map.mpr ⟨r, hr, rfl⟩)
    constructor
    · intro h
      unfold revS
      conv => rhs; rw [← List.map_id rs]
      refine List.map_congr_left fun r hr => ?_
      have := of_decide_eq_true (h r hr)
      rw [at_ r hr] at this
      rw [Option.some.inj this]
      rfl
    · intro h r hr
      refine decide_eq_true ?_
      rw [at_ r hr]
      have : (revS rs).map id = rs.map id := by rw [h]
      unfold revS at this
      rw [List.map_map] at this
      have e := (List.map_inj_left.mp this) r hr
      have e2 : r.2.reverse = r.2 := congrArg Prod.snd e
      rw [e2]
  unfold wEq dEq
  rw [revS_fst, decide_eq_true rfl, Bool.true_and, hall]
  have : (revS rs).length = rs.length := by unfold revS; rw [List.length_map]
  rw [decide_eq_true this.symm, Bool.true_and]
/-! ### rows as data -/
def dRows (rs : Rws) : List PyData := rs.map fun r => .tuple [.str r.1, .list (dS r.2)]
theorem dp_rows {K : PySem.W.Frag} {H : Hp} : ∀ {vs : List V} {rs : Rws}, Paired (RowT H) vs rs → DpAll K H vs (dRows rs)
  | _, _, .nil => .nil
  | _, _, .cons ⟨t, l, e, a, b⟩ h => by
    subst e
    exact .cons (.tup (SqT.of a) (.cons (.str _) (.cons (.lst (SqL.of b) (dp_strs _)) .nil))) (dp_rows h)
theorem eqv_rows : ∀ as bs : Rws, PyData.eqvAll (dRows as) (dRows bs) = decide (as = bs)
  | [], [] => rfl
  | [], b :: bs => rfl
  | a :: as, [] => rfl
  | a :: as, b :: bs => by
    show (((a.1 == b.1) && (PyData.eqvAll (dS a.2) (dS b.2) && true)) && PyData.eqvAll (dRows as) (dRows bs)) = _
    rw [eqv_rows as bs, eqv_strs, Bool.and_true, Bool.eq_iff_iff]
    simp only [Bool.and_eq_true, beq_iff_eq, decide_eq_true_iff, List.cons.injEq, Prod.ext_iff]
theorem lay_rows : ∀ {rs : Rws}, (∀ r ∈ rs, sOk [r.1] ∧ sOk r.2) → PyData.canLayAll0 (dRows rs) = true
  | [], _ => rfl
  | r :: rs, h => by
    obtain ⟨h1, h2⟩ := h r (List.mem_cons_self ..)
    have l1 : (PyData.canLay0 (.str r.1) && true) = true := lay_strs h1
    rw [Bool.and_true] at l1
    show ((PyData.canLay0 (.str r.1) && (PyData.canLayAll0 (dS r.2) && true)) && PyData.canLayAll0 (dRows rs)) = true
    rw [lay_rows fun r hr => h r (List.mem_cons_of_mem _ hr), lay_strs h2, l1]
    rfl
theorem dep_rows : ∀ rs : Rws, PyData.depthAll (dRows rs) ≤ 2
  | [] => Nat.zero_le _
  | r :: rs => by
    show max (max 0 (max (PyData.depthAll (dS r.2) + 1) 0) + 1) (PyData.depthAll (dRows rs)) ≤ 2
    have := dep_rows rs
    rw [dep_strs]
    omega
theorem shape_rows {rs : Rws} (g : Good rs) : SeqAt.shaped (.list (dRows rs)) = true := by
  have ok := Good.ok g
  unfold SeqAt.shaped
  refine Bool.and_eq_true_iff.mpr ⟨lay_rows fun r hr => ⟨fun x hx => ?_, ok.2 r hr⟩, decide_eq_true ?_⟩
  · rw [show x = r.1 by simpa using hx]
    exact ok.1 _ (List.mem_map.mpr ⟨r, hr, rfl⟩)
  · show PyData.depthAll (dRows rs) + 1 ≤ 64
    have := dep_rows rs
    omega
/-! ### outcomes as data -/
theorem shape_strs2 {a : Str} {xs : List Str} (ha : sOk [a]) (h : sOk xs) : SeqAt.shaped (.tuple [.str a, .tuple (dS xs)]) = true := by
  have l1 : (PyData.canLay0 (.str a) && true) = true := lay_strs ha
  rw [Bool.and_true] at l1
  unfold SeqAt.shaped
  refine Bool.and_eq_true_iff.mpr ⟨?_, decide_eq_true ?_⟩
  · show (PyData.canLay0 (.str a) && (PyData.canLayAll0 (dS xs) && true)) = true
    rw [l1, lay_strs h]
    rfl
  · show max 0 (max (PyData.depthAll (dS xs) + 1) 0) + 1 ≤ 64
    rw [dep_strs]
    omega
theorem sOk_lit {a : Str} (h : (a.cps.toList.all fun c => decide (c < 1114112)) = true) : sOk [a] := fun x hx => by
  rw [show x = a by simpa using hx]
  intro c m
  exact of_decide_eq_true (List.all_eq_true.mp h c m)
def Out.ok : Out → Prop
  | .made cs => sOk cs
  | .bad _ => True
  | .unk z => sOk [z]
theorem shape_out {o : Out} (h : o.ok) : SeqAt.shaped o.d = true := by
  cases o with
  | made cs => exact shape_strs2 (sOk_lit (by decide +kernel)) h
  | bad i =>
    unfold SeqAt.shaped
    refine Bool.and_eq_true_iff.mpr ⟨?_, rfl⟩
    have l2 : PyData.canLay0 (.str ("bad" : Str)) = true := by decide +kernel
    show (PyData.canLay0 (.str ("bad" : Str)) && (PyData.canLay0 (.int (i : Nat)) && true)) = true
    rw [l2]
    rfl
  | unk z =>
    have l1 : (PyData.canLay0 (.str z) && true) = true := lay_strs h
    rw [Bool.and_true] at l1
    unfold SeqAt.shaped
    refine Bool.and_eq_true_iff.mpr ⟨?_, rfl⟩
    have l2 : PyData.canLay0 (.str ("unknown" : Str)) = true := by decide +kernel
    show (PyData.canLay0 (.str ("unknown" : Str)) && (PyData.canLay0 (.str z) && true)) = true
    rw [l1, l2]
    rfl
theorem out_ok {K : PySem.W.Frag} {H : Hp} {xs : List V} {es : List Lk} (hp : Paired (ItD K H) xs es) : (outOf es).ok := by
  unfold outOf
  by_cases e0 : es = []
  · rw [if_pos e0]
    exact trivial
  · rw [if_neg e0]
    cases hw : firstW (es.map fun e => (e.1, e.2.1)) [] 0 with
    | some i => exact trivial
    | none =>
      obtain ⟨w1, _, _⟩ := firstW_no hw
      have looks : ∀ e ∈ es, isNm e.2.1 = true ∧ ∀ s ∈ e.2.2, isNm s = true := fun e he => by
        have et : e.1 = true := w1 (e.1, e.2.1) (List.mem_map.mpr ⟨e, he, rfl⟩)
        obtain ⟨i, hi⟩ := List.getElem?_of_mem he
        obtain ⟨v, _, hv⟩ := Paired.get hp hi
        rcases hv with ⟨_, z⟩ | ⟨t, c, s, _, _, h3⟩
        · rw [et] at z
          cases z
        · refine ⟨(h3.true_ et).2.1, fun s hs => ?_⟩
          obtain ⟨bc, bs, h4, h5, h6, h7⟩ := h3
          rw [et] at h6
          obtain ⟨_, g2⟩ := Bool.and_eq_true_iff.mp h6.symm
          rcases h5 with ⟨_, _, _, e⟩ | ⟨l, ys, bl, _, _, _, h8, h9, h10, h11⟩
          · rw [g2] at e
            cases e
          · have ey := h11 g2
            obtain ⟨j, hj⟩ := List.getElem?_of_mem hs
            have hy : ys[j]? = some (.str s) := by rw [ey, List.getElem?_map, hj]; rfl
            have lt : j < bl.length := by rw [h8]; exact (List.getElem?_eq_some_iff.mp hy).1
            have hb : bl[j]? = some bl[j] := List.getElem?_eq_getElem lt
            rw [g2] at h10
            unfold nlB at h10
            have ha := (Bool.and_eq_true_iff.mp h10.symm).1
            have hbt : bl[j] = true := List.all_eq_true.mp ha _ (List.getElem_mem lt)
            rcases h9 j _ _ hy hb with ⟨z, e1, _, e2⟩ | ⟨_, _, _, e2⟩
            · cases e1
              rw [← e2]
              exact hbt
            · rw [hbt] at e2
              cases e2
      cases hu : firstU (es.map fun e => e.2.1) (es.map Prod.snd) with
      | some u =>
        have m := List.mem_of_find?_eq_some hu
        obtain ⟨r, hr, hs⟩ := List.mem_flatMap.mp m
        obtain ⟨e, he, rfl⟩ := List.mem_map.mp hr
        intro x hx
        rw [show x = u by simpa using hx]
        exact isNm_ok ((looks e he).2 u hs)
      | none =>
        intro x hx
        obtain ⟨e, he, rfl⟩ := List.mem_map.mp hx
        exact isNm_ok (looks e he).1
end WL
end L2
namespace L2
namespace WL
open PySem PySem.Spec PyProof.Rows K1 LamX
/-! ### rows handed in -/
/-- a tuple of a name and a list of S -/
def PrT (H : Hp) (S : List Addr) (v : V) (r : Str × List Str) : Prop := ∃ t l, v = .ref t ∧ H t = some (.tup [.str r.1, .ref l]) ∧ H l = some (.lst (r.2.map .str)) ∧ l ∈ S
theorem PrT.same {H H' : Hp} {S S' : List Addr} {v : V} {r : Str × List Str} (h : PrT H S v r) (s : Same H H') (m : ∀ b ∈ S, b ∈ S') : PrT H' S' v r := let ⟨t, l, e, a, b, c⟩ := h; ⟨t, l, e, s _ _ a, s _ _ b, m _ c⟩
/-- .. a tuple or a list -/
def HdT (H : Hp) (S : List Addr) (v : V) (r : Str × List Str) : Prop := ∃ t l, v = .ref t ∧ (H t = some (.tup [.str r.1, .ref l]) ∨ H t = some (.lst [.str r.1, .ref l])) ∧ t ∉ S ∧ H l = some (.lst (r.2.map .str)) ∧ l ∈ S
theorem HdT.same {H H' : Hp} {S : List Addr} {v : V} {r : Str × List Str} (h : HdT H S v r) (s : Same H H') : HdT H' S v r := by
  obtain ⟨t, l, e, a, b, c, d⟩ := h
  exact ⟨t, l, e, a.imp (s _ _) (s _ _), b, s _ _ c, d⟩
theorem HdT.g {K : PySem.W.Frag} {H : Hp} {S : List Addr} {v : V} {r : Str × List Str} (h : HdT H S v r) : RowG K H v r := by
  obtain ⟨t, l, rfl, a | a, b, c, d⟩ := h
  · exact ⟨.ref l, ⟨t, rfl, .inr (SqT.of a)⟩, ⟨l, rfl, .inl (SqL.of c)⟩⟩
  · exact ⟨.ref l, ⟨t, rfl, .inl (SqL.of a)⟩, ⟨l, rfl, .inl (SqL.of c)⟩⟩
/-- .. whatever the list holds by now -/
def HdW (H : Hp) (S : List Addr) (v : V) : Prop := ∃ t l z, v = .ref t ∧ (H t = some (.tup [z, .ref l]) ∨ H t = some (.lst [z, .ref l])) ∧ l ∈ S
theorem HdT.w {H : Hp} {S : List Addr} {v : V} {r : Str × List Str} (h : HdT H S v r) : HdW (offS S H) S v := by
  obtain ⟨t, l, e, a, b, c, d⟩ := h
  exact ⟨t, l, _, e, by rw [offS_ne b]; exact a, d⟩
theorem HdW.same {H H' : Hp} {S : List Addr} {v : V} (h : HdW H S v) (s : Same H H') : HdW H' S v := by
  obtain ⟨t, l, z, e, a, d⟩ := h
  exact ⟨t, l, z, e, a.imp (s _ _) (s _ _), d⟩
theorem HdW.seq {K : PySem.W.Frag} {H : Hp} {S : List Addr} {v : V} (h : HdW H S v) : ∃ l z, Seq K H v [z, .ref l] ∧ l ∈ S := by
  obtain ⟨t, l, z, rfl, a | a, d⟩ := h
  · exact ⟨l, z, ⟨t, rfl, .inr (SqT.of a)⟩, d⟩
  · exact ⟨l, z, ⟨t, rfl, .inl (SqL.of a)⟩, d⟩
theorem same_hide_new {H H' : Hp} {D : Addr} (s : Same H H') (n : H D = none) : Same H (hide D H') := fun b o e => by
  rw [hide_ne (ne_of_none e n)]
  exact s _ _ e
theorem paired_imp2 {α β : Type} {F G : α → β → Prop} {l : List α} {m : List β} (h : Paired F l m) (f : ∀ a b, F a b → G a b) : Paired G l m := Paired.imp f h
theorem thirteen {r : List (Option V)} (h : r.length = 13) : ∃ o1 o2 o3 o4 o5 o6 o7 o8 o9 o10 o11 o12 o13 : Option V, r = [o1, o2, o3, o4, o5, o6, o7, o8, o9, o10, o11, o12, o13] := by
  match r, h with
  | [o1, o2, o3, o4, o5, o6, o7, o8, o9, o10, o11, o12, o13], _ => exact ⟨o1, o2, o3, o4, o5, o6, o7, o8, o9, o10, o11, o12, o13, rfl⟩
end WL
end L2
namespace L2
namespace WL
open PySem PySem.Spec PyProof.Rows K1 LamX
theorem init_rows {K : PySem.W.Frag} {H H4 : Hp} {C x dx q : Addr} {rs : Rws} {Q : VK} {E : XK} (h : RowsAt H q rs) (g : Good rs) (nx : H x = none) (nd : H dx = none) (e4 : upd (upd H dx (.own x)) x (.ins C dx []) = H4)
    (mk : ∀ H', Same H H' → IsWeb K H' C x rs → Q .non H') : spInit K C [.ref x, .ref q] H4 Q E := by
  obtain ⟨vs, eq, hvs⟩ := h
  have sx := same_mk nx nd e4.symm
  refine ⟨x, dx, .ref q, rfl, by rw [← e4]; exact upd_same, .inr ⟨vs, rs, ⟨q, rfl, .inl (SqL.of (sx _ _ eq))⟩, ?_, g, fun H' s' w => mk H' ((sx.trans s').trans hide_le) w⟩⟩
  exact Paired.imp (fun _ _ r => RowT.g (r.same sx)) hvs
theorem paired_rev {α β : Type} {R : α → β → Prop} {l : List α} {m : List β} (h : Paired R l m) : Paired R l.reverse m.reverse := by
  induction h with
  | nil => exact .nil
  | cons h _ ih =>
    rw [List.reverse_cons, List.reverse_cons]
    exact Paired.snoc ih h
/-- the odd things that are no cells -/
def odds9 (t u d : Addr) : List V := [.str "A", .str "", .non, .int 5, .bl true, .ref t, .ref u, .ref d, .str "zzzzqqqq"]
theorem odd9_ok {K : PySem.W.Frag} {H : Hp} {t u d : Addr} {rs : Rws} {i : Nat} {x : V} (hn : ∀ r ∈ rs, lawNm r.1) (ht : H t = some (.tup [.str "a"])) (hu : H u = some (.lst [.str "a"])) (hd : H d = some (.dK [])) (hx : (odds9 t u d)[i]? = some x) :
    (∃ b, IsN K H x b) ∧ inWeb rs x = false ∧ (flatB x = true ∨ ∃ c, x = .ref c) := by
  have nw : ∀ z : Str, (∀ r ∈ rs, r.1 ≠ z) → inWeb rs (.str z) = false := fun z h => by
    refine decide_eq_false fun m => ?_
    obtain ⟨r, hr, e⟩ := List.mem_map.mp m
    exact h r hr e
  match i, hx with
  | 0, hx =>
    obtain rfl := (Option.some.inj hx).symm
    exact ⟨⟨_, .inl ⟨_, rfl, by decide +kernel, rfl⟩⟩, nw _ fun r hr => law_A (hn r hr), .inl rfl⟩
  | 1, hx =>
    obtain rfl := (Option.some.inj hx).symm
    refine ⟨⟨_, .inl ⟨_, rfl, by decide +kernel, rfl⟩⟩, nw _ fun r hr e => ?_, .inl rfl⟩
    have := (hn r hr).1
    rw [e] at this
    exact absurd this (by decide +kernel)
  | 2, hx =>
    obtain rfl := (Option.some.inj hx).symm
    exact ⟨⟨_, .inr ⟨_, .base .non, rfl, rfl⟩⟩, rfl, .inl rfl⟩
  | 3, hx =>
    obtain rfl := (Option.some.inj hx).symm
    exact ⟨⟨_, .inr ⟨_, .base (.int _), rfl, rfl⟩⟩, rfl, .inl rfl⟩
  | 4, hx =>
    obtain rfl := (Option.some.inj hx).symm
    exact ⟨⟨_, .inr ⟨_, .base (.bl _), rfl, rfl⟩⟩, rfl, .inl rfl⟩
  | 5, hx =>
    obtain rfl := (Option.some.inj hx).symm
    exact ⟨⟨_, .inr ⟨_, .base (.tup ht), rfl, rfl⟩⟩, rfl, .inr ⟨_, rfl⟩⟩
  | 6, hx =>
    obtain rfl := (Option.some.inj hx).symm
    exact ⟨⟨_, .inr ⟨_, .base (.lst hu), rfl, rfl⟩⟩, rfl, .inr ⟨_, rfl⟩⟩
  | 7, hx =>
    obtain rfl := (Option.some.inj hx).symm
    exact ⟨⟨_, .inr ⟨_, .base (.dK hd), rfl, rfl⟩⟩, rfl, .inr ⟨_, rfl⟩⟩
  | 8, hx =>
    obtain rfl := (Option.some.inj hx).symm
    exact ⟨⟨_, .inl ⟨_, rfl, by decide +kernel, rfl⟩⟩, nw _ fun r hr => law_zq (hn r hr), .inl rfl⟩
  | i + 9, hx => cases hx
theorem six6 {r : List (Option V)} (h : r.length = 6) : ∃ o1 o2 o3 o4 o5 o6 : Option V, r = [o1, o2, o3, o4, o5, o6] := by
  match r, h with
  | [o1, o2, o3, o4, o5, o6], _ => exact ⟨o1, o2, o3, o4, o5, o6, rfl⟩
end WL
end L2
namespace L2
namespace WL
open PySem PySem.Spec PyProof.Rows K1 LamX
/-- x and y, where both ways end in false -/
theorem and_tail {b : Bool} {H : Hp} {R : Bool → Hp → Prop} {tb : TT} {σ : St} (Mid : Hp → Prop) (h0 : Mid H) (h2 : ∀ H', Mid H' → R false H') (h1 : b = true → (∀ H', Mid H' → R false H') → tb σ H R) : (fun (c : Bool) (H1 : Hp) => if c = true then tb σ H1 R else R false H1) b H := by
  cases b with
  | false => exact iteN rfl (h2 H h0)
  | true => exact iteP rfl (h1 rfl h2)
end WL
end L2
namespace L2
namespace WL
open PySem PySem.Spec PyProof.Rows K1 LamX
mutual
theorem dp_same {K : PySem.W.Frag} {H H' : Hp} (s : Same H H') : ∀ {v : V} {d : PyData}, Dp K H v d → Dp K H' v d
  | _, _, .non => .non
  | _, _, .bl b => .bl b
  | _, _, .int i => .int i
  | _, _, .str x => .str x
  | _, _, .lst h a => .lst (s.seq h) (dpA_same s a)
  | _, _, .tup h a => .tup (SqT.same h s) (dpA_same s a)
theorem dpA_same {K : PySem.W.Frag} {H H' : Hp} (s : Same H H') : ∀ {vs : List V} {ds : List PyData}, DpAll K H vs ds → DpAll K H' vs ds
  | _, _, .nil => .nil
  | _, _, .cons h t => .cons (dp_same s h) (dpA_same s t)
end
/-- things of which no web comes: bad at 0 -/
def odds6 (a d t : Addr) : List V := [.ref a, .non, .int 5, .str "ab", .ref d, .ref t]
theorem odd6_met {K : PySem.W.Frag} {H : Hp} {a d t : Addr} {i : Nat} {x : V} (ha : H a = some (.lst [])) (hd : H d = some (.dK [])) (ht : H t = some (.tup [])) (hx : (odds6 a d t)[i]? = some x) : MetOf K H x (.bad 0) := by
  have emp : ∀ v, Seq K H v [] → MetOf K H v (.bad 0) := fun v h => .inr ⟨[], h, Nat.zero_le _, (fun d hd => nomatch hd), .inl ⟨0, rfl, rfl⟩⟩
  match i, hx with
  | 0, hx =>
    obtain rfl := (Option.some.inj hx).symm
    exact emp _ ⟨a, rfl, .inl (SqL.of ha)⟩
  | 1, hx =>
    obtain rfl := (Option.some.inj hx).symm
    exact .inl ⟨_, .base .non, kit_non, rfl⟩
  | 2, hx =>
    obtain rfl := (Option.some.inj hx).symm
    exact .inl ⟨_, .base (.int _), kit_none (kit_ty (by decide +kernel)) (kit_ty (by decide +kernel)), rfl⟩
  | 3, hx =>
    obtain rfl := (Option.some.inj hx).symm
    exact .inl ⟨_, .base (.str _), kit_none (kit_ty (by decide +kernel)) (kit_ty (by decide +kernel)), rfl⟩
  | 4, hx =>
    obtain rfl := (Option.some.inj hx).symm
    exact .inl ⟨_, .base (.dK hd), kit_none (kit_ty (by decide +kernel)) (kit_ty (by decide +kernel)), rfl⟩
  | 5, hx =>
    obtain rfl := (Option.some.inj hx).symm
    exact emp _ ⟨t, rfl, .inr (SqT.of ht)⟩
  | i + 6, hx => cases hx
end WL
end L2
set_option Elab.async false
set_option linter.all false
set_option maxRecDepth 100000
set_option maxHeartbeats 4000000
namespace L2
namespace WL
open PySem PySem.Spec PyProof.Rows K1 LamX
/-! ### X(), X an own error class without own __init__ -/
theorem pmk_own0 {X : Cx} {C : Addr} {bmB : List Value} {B newId initId : String} {x : Str} {p pos : Pos} (F : ExcBaseFacts B newId initId bmB) (q : PySem.W.excIn X.K C bmB newId = true) (gC : X.mg x = some (.ref C)) (kC : PySem.W.keepIn X.K (.ref C) = true) (r : Raises X (.ref C)) (hg : Gl X x)
    (hdb : (x == ("__debug__" : Str)) = false := by decide) : PMk X (.Call (.Name x p) [] [] pos) (fun _ H Q => Q (.ref C) none H) := by
  intro pins s σ H Q I h
  refine wpAny_Call_Name_kw (ld_glob I hg gC (PySem.W.callWith_K0 I.kIn kC ?_) hdb)
  obtain ⟨bm, N, nm, qn, bs, hdct, sn, sub, ab, col, dd, k0, k1, k2, k3, k5, mN, hC, hN, hni, T⟩ := exc_obj I.kIn q
  show wpAny _ _ (call (.ref C) []) _ _ _
  refine wpAny_call_exc_subT F T hC hN hni (fun h' e hm => ?_) (by show 0 ≤ sizeLine; exact Nat.zero_le _)
  exact mk_of I hm r h (I.hok.gone hm.new)
/-- what is known of such a class -/
structure E0c (K : PySem.W.Frag) (mg : Str → Option Value) (x : Str) : Prop where
  g : mg x = some (.ref (He.ga K x))
  xi : PySem.W.excIn K (He.ga K x) He.veBase "ValueError.__new__" = true
  k : PySem.W.keepIn K (.ref (He.ga K x)) = true
  s : PySem.W.subIn K (.ref (He.ga K x)) (.type "BaseException") = some true
  t : PySem.W.typeIn K (.ref (He.ga K x)) = some (.type "type")
/-! ### whole numbers that are no truths -/
def IntV (K : PySem.W.Frag) (H : Hp) (v : V) (o : Option Int) : Prop := (∃ i, v = .int i ∧ o = some i) ∨ ∃ t b1 b2, TyX K H v t ∧ PySem.W.kitOne K t (.type "int") = some b1 ∧ PySem.W.kitOne K t (.type "bool") = some b2 ∧ (b1 && !b2) = false ∧ o = none
theorem IntV.same {K : PySem.W.Frag} {H H' : Hp} {v : V} {o : Option Int} (h : IntV K H v o) (s : Same H H') : IntV K H' v o := by
  rcases h with h | ⟨t, b1, b2, h1, h2⟩
  · exact .inl h
  · exact .inr ⟨t, b1, b2, TyX.same h1 s, h2⟩
def isI : V → Option Int
  | .int i => some i
  | _ => none
theorem intV_flat {K : PySem.W.Frag} {H : Hp} {v : V} (h : flatV v = true) : IntV K H v (isI v) := by
  cases v with
  | int i => exact .inl ⟨i, rfl, rfl⟩
  | non => exact .inr ⟨_, false, false, .base .non, kit_ty (by decide +kernel), kit_ty (by decide +kernel), rfl, rfl⟩
  | bl b => exact .inr ⟨_, true, true, .base (.bl b), kit_ty (by decide +kernel), kit_ty (by decide +kernel), rfl, rfl⟩
  | str z => exact .inr ⟨_, false, false, .base (.str z), kit_ty (by decide +kernel), kit_ty (by decide +kernel), rfl, rfl⟩
  | _ => cases h
theorem intV_tup {K : PySem.W.Frag} {H : Hp} {a : Addr} {xs : List V} (h : H a = some (.tup xs)) : IntV K H (.ref a) none := .inr ⟨_, false, false, .base (.tup h), kit_ty (by decide +kernel), kit_ty (by decide +kernel), rfl, rfl⟩
def spIsInt (K : PySem.W.Frag) : Sp := fun vs H Q _ => ∃ v o, vs = [v] ∧ IntV K H v o ∧ Q (.bl o.isSome) H
def cntB (o : Option Int) : Bool := match o with
  | some i => decide (0 ≤ i)
  | none => false
def spIsCount (K : PySem.W.Frag) : Sp := fun vs H Q _ => ∃ v o, vs = [v] ∧ IntV K H v o ∧ Q (.bl (cntB o)) H
/-! ### arrows of pieces -/
abbrev A3 : Type := Str × Int × Str
def ArIs (K : PySem.W.Frag) (H : Hp) (cs : List Str) (v : V) (b : Bool) : Prop := (∃ t, TyX K H v t ∧ PySem.W.kitAny K t LT = some false ∧ b = false) ∨
  ∃ xs, Seq K H v xs ∧ ((xs.length ≠ 3 ∧ b = false) ∨ ∃ x y z o, xs = [x, y, z] ∧ IntV K H y o ∧ (o = none → b = false) ∧ ∀ i, o = some i → flatV x = true ∧ flatV z = true ∧ b = (inV x (cs.map .str) && (inV z (cs.map .str) && (decide (-1 ≤ i) && decide (i ≤ 1)))))
theorem ArIs.same {K : PySem.W.Frag} {H H' : Hp} {cs : List Str} {v : V} {b : Bool} (h : ArIs K H cs v b) (s : Same H H') : ArIs K H' cs v b := by
  rcases h with ⟨t, h1, h2⟩ | ⟨xs, h1, h⟩
  · exact .inl ⟨t, TyX.same h1 s, h2⟩
  · refine .inr ⟨xs, h1.same s, ?_⟩
    rcases h with h | ⟨x, y, z, o, e, h2, h3⟩
    · exact .inl h
    · exact .inr ⟨x, y, z, o, e, h2.same s, h3⟩
def v3 (a : A3) : List V := [.str a.1, .int a.2.1, .str a.2.2]
def d3 (a : A3) : PyData := .tuple [.str a.1, .int a.2.1, .str a.2.2]
def ArD (K : PySem.W.Frag) (H : Hp) (cs : List Str) (d : V × Bool × A3) : Prop := ArIs K H cs d.1 d.2.1 ∧ (d.2.1 = true → Seq K H d.1 (v3 d.2.2))
theorem ArD.same {K : PySem.W.Frag} {H H' : Hp} {cs : List Str} {d : V × Bool × A3} (h : ArD K H cs d) (s : Same H H') : ArD K H' cs d := ⟨h.1.same s, fun e => (h.2 e).same s⟩
def spPA (K : PySem.W.Frag) : Sp := fun vs H Q _ => ∃ c v cs b, vs = [c, v] ∧ Seq K H c ((cs : List Str).map .str) ∧ ArIs K H cs v b ∧ ∀ H', Same H H' → Q (.bl b) H'
/-- the first wrong one: by looks -/
def firstG {α : Type} [DecidableEq α] : List (Bool × α) → List α → Nat → Option Nat
  | [], _, _ => none
  | (r, z) :: l, seen, i => if r = false ∨ z ∈ seen then some i else firstG l (seen ++ [z]) (i + 1)
def spFA (K : PySem.W.Frag) : Sp := fun vs H Q _ => ∃ c v cs, vs = [c, v] ∧ Seq K H c ((cs : List Str).map .str) ∧ ((∃ t, TyX K H v t ∧ PySem.W.kitAny K t LT = some false ∧ ∀ H', Same H H' → Q (.int 0) H') ∨
  ∃ ds : List (V × Bool × A3), Seq K H v (ds.map Prod.fst) ∧ ds.length ≤ 500 ∧ (∀ d ∈ ds, ArD K H cs d ∧ (d.2.1 = true → sOk [d.2.2.1, d.2.2.2.2])) ∧ ∀ H', Same H H' → Q (optV (firstG (ds.map Prod.snd) [] 0)) H')
theorem eqv_d3 (a b : A3) : PyData.eqv (d3 a) (d3 b) = decide (a = b) := by
  show ((a.1 == b.1) && ((a.2.1 == b.2.1) && ((a.2.2 == b.2.2) && true))) = _
  rw [Bool.and_true, Bool.eq_iff_iff]
  simp only [Bool.and_eq_true, beq_iff_eq, decide_eq_true_iff, Prod.ext_iff]
theorem shape_d3 {a : A3} (h : sOk [a.1, a.2.2]) : PyData.canLay0 (d3 a) = true := by
  have l1 : (PyData.canLay0 (.str a.1) && (PyData.canLay0 (.str a.2.2) && true)) = true := lay_strs h
  rw [Bool.and_true] at l1
  obtain ⟨h1, h2⟩ := Bool.and_eq_true_iff.mp l1
  show (PyData.canLay0 (.str a.1) && (PyData.canLay0 (.int a.2.1) && (PyData.canLay0 (.str a.2.2) && true))) = true
  rw [h1, h2]
  rfl
theorem shape_d3s : ∀ {as : List A3}, (∀ a ∈ as, sOk [a.1, a.2.2]) → PyData.canLayAll0 (as.map d3) = true ∧ PyData.depthAll (as.map d3) ≤ 1
  | [], _ => ⟨rfl, Nat.zero_le _⟩
  | a :: as, h => by
    obtain ⟨h1, h2⟩ := shape_d3s fun x hx => h x (List.mem_cons_of_mem _ hx)
    constructor
    · show (PyData.canLay0 (d3 a) && PyData.canLayAll0 (as.map d3)) = true
      rw [shape_d3 (h a (List.mem_cons_self ..)), h1]
      rfl
    · show max 1 (PyData.depthAll (as.map d3)) ≤ 1
      omega
theorem shaped_d3 {a : A3} (h : sOk [a.1, a.2.2]) : SeqAt.shaped (d3 a) = true := by
  unfold SeqAt.shaped
  exact Bool.and_eq_true_iff.mpr ⟨shape_d3 h, rfl⟩
theorem shaped_l3 {as : List A3} (h : ∀ a ∈ as, sOk [a.1, a.2.2]) : SeqAt.shaped (.list (as.map d3)) = true := by
  obtain ⟨h1, h2⟩ := shape_d3s h
  unfold SeqAt.shaped
  refine Bool.and_eq_true_iff.mpr ⟨h1, decide_eq_true ?_⟩
  show PyData.depthAll (as.map d3) + 1 ≤ 64
  omega
theorem dp_v3 {K : PySem.W.Frag} {H : Hp} {q : Addr} {a : A3} (h : SqT K H q (v3 a)) : Dp K H (.ref q) (d3 a) := .tup h (.cons (.str _) (.cons (.int _) (.cons (.str _) .nil)))
theorem any_d3 (a : A3) (as : List A3) : ((as.map d3).any fun z => PyData.eqv z (d3 a)) = decide (a ∈ as) := by
  rw [List.any_map, Bool.eq_iff_iff, List.any_eq_true, decide_eq_true_iff]
  constructor
  · rintro ⟨b, hb, e⟩
    have e' : PyData.eqv (d3 b) (d3 a) = true := e
    rw [eqv_d3] at e'
    rw [← of_decide_eq_true e']
    exact hb
  · intro h
    refine ⟨a, h, ?_⟩
    show PyData.eqv (d3 a) (d3 a) = true
    rw [eqv_d3]
    exact decide_eq_true rfl
/-- a triple at an address -/
def Trip (K : PySem.W.Frag) (H : Hp) (v : V) (a : A3) : Prop := ∃ q, v = .ref q ∧ SqT K H q (v3 a)
theorem Trip.same {K : PySem.W.Frag} {H H' : Hp} {v : V} {a : A3} (h : Trip K H v a) (s : Same H H') : Trip K H' v a := let ⟨q, e, x⟩ := h; ⟨q, e, SqT.same x s⟩
theorem trips_dp {K : PySem.W.Frag} {H : Hp} : ∀ {vs : List V} {as : List A3}, Paired (Trip K H) vs as → DpAll K H vs (as.map d3)
  | _, _, .nil => .nil
  | _, _, .cons ⟨q, e, h⟩ t => by
    subst e
    exact .cons (dp_v3 h) (trips_dp t)
end WL
end L2
set_option Elab.async false
set_option linter.all false
set_option maxRecDepth 100000
set_option maxHeartbeats 4000000
namespace L2
namespace WL
open PySem PySem.Spec PyProof.Rows K1 LamX
/-! ### pieces in a row -/
def ltr (k : Nat) : Str := ⟨#[97 + k]⟩
theorem cps_app (a b : Str) : (a ++ b).cps.toList = a.cps.toList ++ b.cps.toList := by
  show (a.cps ++ b.cps).toList = _
  exact Array.toList_append
theorem len_cps (z : Str) : z.length = z.cps.toList.length := by simp [Str.length]
theorem app_len (c : Str) (k : Nat) : (c ++ ltr k).length = c.length + 1 := by
  rw [len_cps, len_cps, cps_app, List.length_append]
  rfl
theorem str_ext {a b : Str} (h : a.cps.toList = b.cps.toList) : a = b := by
  cases a
  cases b
  congr 1
  exact Array.toList_inj.mp h
theorem app_inj {c c' : Str} {k k' : Nat} (h : c ++ ltr k = c' ++ ltr k') : c = c' ∧ k = k' := by
  have e : c.cps.toList ++ [97 + k] = c'.cps.toList ++ [97 + k'] := by
    have := congrArg (fun z : Str => z.cps.toList) h
    simp only [cps_app] at this
    exact this
  obtain ⟨e1, e2⟩ := List.append_inj' e rfl
  exact ⟨str_ext e1, by have := (List.cons.inj e2).1; omega⟩
theorem app_nm {c : Str} {k : Nat} (h : isNm c = true) (h7 : c.length ≤ 7) (hk : k < 26) : isNm (c ++ ltr k) = true := by
  unfold isNm at h ⊢
  obtain ⟨h1, h2⟩ := Bool.and_eq_true_iff.mp h
  obtain ⟨_, h3⟩ := Bool.and_eq_true_iff.mp h2
  rw [app_len, decide_eq_true (by omega), decide_eq_true (by omega), cps_app, List.all_append, h3]
  show (true && (true && (true && (okc (97 + k) && true)))) = true
  have : okc (97 + k) = true := by
    unfold okc
    rw [decide_eq_true (by omega), decide_eq_true (by omega)]
    rfl
  rw [this]
  rfl
def fnd (as : List A3) (c : Str) (k : Nat) : List (Str × Int) := (as.filter fun a => decide (a.2.2 = c)).map fun a => (a.1, (k : Int) + a.2.1)
def srcsOf (as : List A3) (c : Str) (k n : Nat) : List Str := ((fnd as c k).filter fun e => decide (0 ≤ e.2) && decide (e.2 < (n : Int))).map fun e => e.1 ++ ltr e.2.toNat
def rowsOf (cs : List Str) (as : List A3) (n : Nat) : Rws := (List.range n).flatMap fun k => cs.map fun c => (c ++ ltr k, srcsOf as c k n)
structure PcOk (cs : List Str) (as : List A3) : Prop where
  nd : cs.Nodup
  ne : cs ≠ []
  nm : ∀ c ∈ cs, isNm c = true ∧ c.length ≤ 7
  lc : cs.length ≤ 30
  na : as.Nodup
  la : as.length ≤ 500
  ar : ∀ a ∈ as, a.1 ∈ cs ∧ a.2.2 ∈ cs ∧ -1 ≤ a.2.1 ∧ a.2.1 ≤ 1
theorem rows_fst (cs : List Str) (as : List A3) (n : Nat) : (rowsOf cs as n).map Prod.fst = (List.range n).flatMap fun k => cs.map fun c => c ++ ltr k := by
  unfold rowsOf
  rw [List.map_flatMap]
  congr 1
  funext k
  rw [List.map_map]
  rfl
theorem fm_len {α β : Type} (g : Nat → α → β) (cs : List α) : ∀ n, ((List.range n).flatMap fun k => cs.map (g k)).length = n * cs.length := fun n => by
  induction n with
  | zero => simp
  | succ n ih =>
    rw [List.range_succ, List.flatMap_append, List.length_append, ih]
    simp [Nat.succ_mul]
theorem rows_len (cs : List Str) (as : List A3) (n : Nat) : (rowsOf cs as n).length = n * cs.length := fm_len _ cs n
theorem rows_good {cs : List Str} {as : List A3} {n : Nat} (h : PcOk cs as) (h1 : 1 ≤ n) (h26 : n ≤ 26) : Good (rowsOf cs as n) := by
  have lc := h.lc
  have lp : 0 < cs.length := List.length_pos_iff.mpr h.ne
  have hmem : ∀ {c : Str} {k : Nat}, c ∈ cs → k < n → c ++ ltr k ∈ (rowsOf cs as n).map Prod.fst := fun {c k} hc hk => by
    rw [rows_fst]
    exact List.mem_flatMap.mpr ⟨k, List.mem_range.mpr hk, List.mem_map.mpr ⟨c, hc, rfl⟩⟩
  refine ⟨?_, ?_, ?_, fun r hr => ?_, fun r hr => ?_⟩
  · rw [rows_fst]
    refine List.pairwise_flatMap.mpr ⟨fun k _ => List.pairwise_map.mpr (List.Pairwise.imp (fun hab e => hab (app_inj e).1) h.nd), ?_⟩
    refine List.Pairwise.imp (fun hab x hx y hy e => ?_) List.nodup_range
    obtain ⟨c, _, rfl⟩ := List.mem_map.mp hx
    obtain ⟨c', _, rfl⟩ := List.mem_map.mp hy
    exact hab (app_inj e).2
  · rw [rows_len]
    exact Nat.mul_pos h1 lp
  · rw [rows_len]
    exact Nat.le_trans (Nat.mul_le_mul h26 lc) (by decide)
  · obtain ⟨k, hk, hr2⟩ := List.mem_flatMap.mp hr
    obtain ⟨c, hc, rfl⟩ := List.mem_map.mp hr2
    have hk' := List.mem_range.mp hk
    refine ⟨?_, ?_, fun s hs => ?_⟩
    · show (srcsOf as c k n).length ≤ 900
      unfold srcsOf fnd
      rw [List.length_map]
      refine Nat.le_trans (List.length_filter_le ..) ?_
      rw [List.length_map]
      exact Nat.le_trans (List.length_filter_le ..) (Nat.le_trans h.la (by decide))
    · show (srcsOf as c k n).Nodup
      unfold srcsOf
      have nf : (fnd as c k).Nodup := by
        unfold fnd
        refine List.pairwise_map.mpr (List.Pairwise.imp_of_mem (fun {a b} ha hb (hab : a ≠ b) e => hab ?_) (h.na.filter _))
        have ta := of_decide_eq_true (List.mem_filter.mp ha).2
        have tb := of_decide_eq_true (List.mem_filter.mp hb).2
        have e1 : a.1 = b.1 := (Prod.mk.inj e).1
        have e2 : (k : Int) + a.2.1 = (k : Int) + b.2.1 := (Prod.mk.inj e).2
        exact (fun {x y : A3} (h1 : x.1 = y.1) (h2 : x.2.1 = y.2.1) (h3 : x.2.2 = y.2.2) => (Prod.ext h1 (Prod.ext h2 h3) : x = y)) e1 (by omega) (ta.trans tb.symm)
      refine List.pairwise_map.mpr (List.Pairwise.imp_of_mem (fun {a b} ha hb (hab : a ≠ b) e => hab ?_) (nf.filter _))
      have pa := (Bool.and_eq_true_iff.mp (List.mem_filter.mp ha).2).1
      have pb := (Bool.and_eq_true_iff.mp (List.mem_filter.mp hb).2).1
      have pa' : 0 ≤ a.2 := of_decide_eq_true pa
      have pb' : 0 ≤ b.2 := of_decide_eq_true pb
      obtain ⟨e1, e2⟩ := app_inj e
      exact Prod.ext e1 (by omega)
    · obtain ⟨e, he, rfl⟩ := List.mem_map.mp (show s ∈ srcsOf as c k n from hs)
      obtain ⟨he1, he2⟩ := List.mem_filter.mp he
      obtain ⟨a, ha, rfl⟩ := List.mem_map.mp he1
      obtain ⟨b1, b2⟩ := Bool.and_eq_true_iff.mp he2
      have b1' := of_decide_eq_true b1
      have b2' := of_decide_eq_true b2
      exact hmem (h.ar a (List.mem_filter.mp ha).1).1 (by omega)
  · obtain ⟨k, hk, hr2⟩ := List.mem_flatMap.mp hr
    obtain ⟨c, hc, rfl⟩ := List.mem_map.mp hr2
    have hk' := List.mem_range.mp hk
    exact app_nm (h.nm c hc).1 (h.nm c hc).2 (by omega)
/-! ### what a piece is in the heap -/
def pFld (c a : Addr) : List (Str × V) := [("cells", .ref c), ("arrows", .ref a)]
structure PcAt (K : PySem.W.Frag) (H : Hp) (C p : Addr) (cs : List Str) (as : List A3) (dx c a : Addr) (av : List V) : Prop where
  ob : H p = some (.ins C dx (pFld c a))
  hc : SqT K H c (cs.map .str)
  ha : SqT K H a av
  da : Paired (Trip K H) av as
theorem PcAt.same {K : PySem.W.Frag} {H H' : Hp} {C p : Addr} {cs : List Str} {as : List A3} {dx c a : Addr} {av : List V} (h : PcAt K H C p cs as dx c a av) (s : Same H H') : PcAt K H' C p cs as dx c a av :=
  ⟨s _ _ h.ob, SqT.same h.hc s, SqT.same h.ha s, Paired.imp (fun _ _ x => x.same s) h.da⟩
def IsPc (K : PySem.W.Frag) (H : Hp) (C p : Addr) (cs : List Str) (as : List A3) : Prop := ∃ dx c a av, PcAt K H C p cs as dx c a av
theorem IsPc.same {K : PySem.W.Frag} {H H' : Hp} {C p : Addr} {cs : List Str} {as : List A3} (h : IsPc K H C p cs as) (s : Same H H') : IsPc K H' C p cs as := let ⟨dx, c, a, av, x⟩ := h; ⟨dx, c, a, av, x.same s⟩
/-- what the head tells of the class Piece -/
structure Pt (K : PySem.W.Frag) (mg : Str → Option Value) (C : Addr) : Prop where
  cl : Cls K C
  nc : NoAttr K C "cells"
  na : NoAttr K C "arrows"
  mg : mg "Piece" = some (.ref C)
def Bz (H : Hp) (E : XK) (C : Addr) : Prop := ∀ H', Same H H' → E (.ref C) none H'
def spPiece (K : PySem.W.Frag) (C : Addr) : Sp := fun vs H Q E => ∃ (p dx : Addr) (cv av : V), vs = [.ref p, cv, av] ∧ H p = some (.ins C dx []) ∧ ((NLis K H cv false ∧ Bz H E (He.ga K "BadPiece")) ∨
  ∃ cs : List Str, NLis K H cv true ∧ Seq K H cv (cs.map .str) ∧ cs.length ≤ 900 ∧ (∀ c ∈ cs, c.length ≤ 1000) ∧ ((cs = [] ∧ Bz H E (He.ga K "BadPiece")) ∨ (cs ≠ [] ∧ (cs.all fun c => decide (c.length ≤ 7)) = false ∧ Bz H E (He.ga K "BadPiece")) ∨
    (cs ≠ [] ∧ (cs.all fun c => decide (c.length ≤ 7)) = true ∧ ((∃ t, TyX K H av t ∧ PySem.W.kitAny K t LT = some false ∧ Rz H E (He.ga K "BadArrow") "index" (.int 0)) ∨
      ∃ ds : List (V × Bool × A3), Seq K H av (ds.map Prod.fst) ∧ ds.length ≤ 500 ∧ (∀ d ∈ ds, ArD K H cs d ∧ (d.2.1 = true → sOk [d.2.2.1, d.2.2.2.2])) ∧ ((∃ i, firstG (ds.map Prod.snd) [] 0 = some i ∧ Rz H E (He.ga K "BadArrow") "index" (.int (i : Nat))) ∨
        (firstG (ds.map Prod.snd) [] 0 = none ∧ (∀ d ∈ ds, d.2.1 = true) ∧ ∀ H', Same (hide p H) (hide p H') → IsPc K H' C p cs (ds.map fun d => d.2.2) → Q .non H'))))))
/-- comprehensions over either, any elements -/
theorem lc_seqI {K : PySem.W.Frag} {v : V} {xs : List V} {g : TG} {tt : TT} {te tl : TE} {vs : List Nat} {σ : St} {H0 H : Hp} {Q : VK} (hq : Seq K H0 v xs) (s0 : Same H0 H) (he : ∀ Q : VK, Q v H → tl σ H Q) (Pv : Addr → Nat → Hp → Prop) (h0 : ∀ D, H D = none → Pv D 0 (upd H D (.lst [])))
    (hl : ∀ D i H', Pv D i H' → Same H0 H') (hs : ∀ D i x H', H D = none → xs[i]? = some x → Pv D i H' → g x (wipe σ vs) H' fun σ2 H2 => wipe σ2 vs = wipe σ vs ∧ tt σ2 H2 fun b H3 =>
      if b = true then te σ2 H3 fun y H4 => ∃ acc, H4 D = some (.lst acc) ∧ acc.length < sizeLine ∧ Pv D (i + 1) (upd H4 D (.lst (acc ++ [y]))) else Pv D (i + 1) H3) (hd : ∀ D H', H D = none → Pv D xs.length H' → Q (.ref D) H') : tLc (iSeq K tl) g tt te vs σ H Q := by
  obtain ⟨a, rfl, hq⟩ := hq
  rcases hq with hq | hq
  · exact he _ ⟨a, xs, rfl, .inl ⟨s0.seq hq, fun D nD => lc_it (walk_list (xs := xs)) (Pv D) (h0 D nD) (fun i H' _ p => (hl D i H' p).seq hq) (fun i x H' H'' _ p y => by
      obtain ⟨rfl, hx⟩ := y
      exact hs D i x _ nD hx p) (fun H' p => hd D H' nD p)⟩⟩
  · exact he _ ⟨a, xs, rfl, .inr ⟨SqT.same hq s0, fun D nD => lc_it (walk_tup (xs := xs)) (Pv D) (h0 D nD) (fun i H' _ p => SqT.same hq (hl D i H' p)) (fun i x H' H'' _ p y => by
      obtain ⟨rfl, hx⟩ := y
      exact hs D i x _ nD hx p) (fun H' p => hd D H' nD p)⟩⟩
theorem seq_hide {K : PySem.W.Frag} {H : Hp} {p : Addr} {C dx : Addr} {fs : List (Str × V)} {v : V} {xs : List V} (h : Seq K H v xs) (e : H p = some (.ins C dx fs)) : Seq K (hide p H) v xs := by
  obtain ⟨a, rfl, h | h⟩ := h
  · refine ⟨a, rfl, .inl ?_⟩
    rcases h with (h | ⟨o, h⟩) | h
    · exact .inl (.inl (by rw [hide_ne (fun z => by rw [z, e] at h; cases h)]; exact h))
    · exact .inl (.inr ⟨o, by rw [hide_ne (fun z => by rw [z, e] at h; cases h)]; exact h⟩)
    · exact .inr h
  · exact ⟨a, rfl, .inr (sqt_hide h e (fun ys z => nomatch z) fun q ys z => nomatch z)⟩
end WL
end L2
set_option Elab.async false
set_option linter.all false
set_option maxRecDepth 100000
set_option maxHeartbeats 4000000
namespace L2
namespace WL
open PySem PySem.Spec PyProof.Rows K1 LamX
/-! ### sorted(texts), from a list, a tuple or a set -/
theorem str_le (a b : Str) : PySem.W.dataLe false PySem.PyData.str a b = decide (a.cps.toList ≤ b.cps.toList) := congrFun (congrFun (PySem.W.dataLe_str (fun x : Str => x)) a) b
theorem sortS_pw (D : List Str) : (sortS D).Pairwise fun a b => a.cps.toList ≤ b.cps.toList := by
  have h := List.pairwise_mergeSort (le := PySem.W.dataLe false PySem.PyData.str) (fun a b c h1 h2 => by
    rw [str_le] at *
    exact decide_eq_true (List.le_trans (of_decide_eq_true h1) (of_decide_eq_true h2))) (fun a b => by
    rw [str_le, str_le, Bool.or_eq_true, decide_eq_true_eq, decide_eq_true_eq]
    exact List.le_total ..) D
  exact h.imp fun {a b} z => by
    rw [str_le] at z
    exact of_decide_eq_true z
theorem sortS_pm (D : List Str) : (sortS D).Perm D := List.mergeSort_perm ..
theorem sortS_uniq {L D : List Str} (p : L.Perm D) (h : L.Pairwise fun a b => a.cps.toList ≤ b.cps.toList) : L = sortS D :=
  List.Perm.eq_of_pairwise (fun a b _ _ h1 h2 => str_ext (List.le_antisymm h1 h2)) h (sortS_pw D) (p.trans (sortS_pm D).symm)
theorem sortS_perm {L D : List Str} (p : L.Perm D) : sortS L = sortS D := sortS_uniq ((sortS_pm L).trans p) (sortS_pw L)
theorem sortS_len (D : List Str) : (sortS D).length = D.length := (sortS_pm D).length_eq
theorem strs_each {h : Heap} : ∀ {ys : List Str} {vs : List Value}, Vals (ys.map V.str) vs → PySem.W.EachIs (fun v x => ∃ t, v = Value.str x t) vs ys
  | [], _, .nil => .nil
  | x :: ys, _, .cons r t => .cons r (strs_each (h := h) t)
theorem each_strs : ∀ {ys : List Str} {vs : List Value}, PySem.W.EachIs (fun v x => ∃ t, v = Value.str x t) vs ys → Vals (ys.map V.str) vs
  | [], _, .nil => .nil
  | x :: ys, _, .cons r t => .cons r (each_strs t)
theorem keyX_vals {w : World} : ∀ {l : List (Int × Value)}, (∀ e ∈ l, GoodX w e) → Vals ((l.map keyX).map V.str) (l.map fun e => e.2)
  | [], _ => .nil
  | e :: l, g => by
    refine .cons ?_ (keyX_vals fun e m => g e (List.mem_cons_of_mem _ m))
    obtain ⟨x, t, rfl⟩ := g e (List.mem_cons_self ..)
    exact ⟨t, rfl⟩
theorem vals_perm : ∀ {xs : List V} {us vs : List Value}, vs.Perm us → Vals xs us → ∃ ys, ys.Perm xs ∧ Vals ys vs := by
  intro xs us vs p
  induction p generalizing xs with
  | nil => exact fun v => ⟨xs, .refl _, v⟩
  | cons x _ ih =>
    intro v
    cases v with
    | cons r t =>
      obtain ⟨ys, p, v⟩ := ih t
      exact ⟨_, p.cons _, .cons r v⟩
  | swap x y l =>
    intro v
    cases v with
    | cons r t =>
      cases t with
      | cons r2 t => exact ⟨_, .swap _ _ _, .cons r2 (.cons r t)⟩
  | trans _ _ ih1 ih2 =>
    intro v
    obtain ⟨y2, p2, v2⟩ := ih2 v
    obtain ⟨y1, p1, v1⟩ := ih1 v2
    exact ⟨y1, p1.trans p2, v1⟩
theorem perm_strs' {ys : List V} {D : List Str} (p : ys.Perm (D.map V.str)) : ∃ zs : List Str, ys = zs.map V.str ∧ zs.Perm D := perm_strs p
section
variable {prog : Program} {w : World} {A : Around} {E : Value → Shared → Prop} {s : Shared}
/-- a tuple's items, gathered into a list -/
theorem collect_tup {l : Addr} {vs : List Value} {Q : List Value → Shared → Prop} (hl : s.heap.IsTuple l vs.toArray) (h : Q vs { s with heap := (s.heap.push (seqObj "list" #[] 0)).update s.heap.objs.size (Obj.mapSeq (· ++ vs.toArray)) }) (hsz : vs.length ≤ sizeLine) :
    wpAny (model prog w) A (collect (.ref l)) Q E s := by
  obtain ⟨o, ho, hc, n, hd⟩ := id hl
  unfold collect
  refine wpAny_bind (wpAny_runValue (codeAny_builtin entry_proto_collect' ?_))
  show wpAny _ _ (do again (.builtin "list.__iadd__" ⟨[← newList [], .ref l], []⟩)) _ _ s
  refine wpAny_bind (wpAny_newList (wpAny_pure ⟨Code.quiet_builtin _ (by decide +kernel), codeAny_builtin entry_list_iadd' ?_⟩))
  show wpAny _ _ (Builtin.List.listExtendWith (.ref s.heap.objs.size) (.ref l) (.ref s.heap.objs.size)) _ _ { s with heap := s.heap.push (seqObj "list" #[] 0) }
  unfold Builtin.List.listExtendWith
  have ho' : (s.heap.push (seqObj "list" #[] 0)).get? l = some o := Heap.get?_push_of_some _ ho
  refine wpAny_bind (wpAny_typeOf (T := "tuple") ⟨o, ho', hc⟩ ?_)
  have ht : (Value.type "tuple" == Value.type "tuple") = true := by rfl
  rw [if_pos (by rw [ht]; simp)]
  refine wpAny_bind (listItems_at ho' hd ?_)
  refine wpAny_bind (listItems_at (xs := #[]) (n := 0) (Heap.get?_push_size _ rfl) rfl ?_)
  rw [if_neg (by simp)]
  refine wpAny_bind (listUpdate_at (xs := #[]) (n := 0) (Heap.get?_push_size _ rfl) rfl ?_ (Nat.zero_le _) (by show (#[] ++ vs.toArray).size ≤ sizeLine + 1; simp only [Array.size_append, List.size_toArray, List.length_nil]; omega))
  refine wpAny_pure ?_
  show wpAny (model prog w) A (do
      let o ← load s.heap.objs.size
      match o.data with
      | .seq xs _ => pure xs.toList
      | _ => unsupported "internal:collect") Q E { s with heap := (s.heap.push (seqObj "list" #[] 0)).update s.heap.objs.size (Obj.mapSeq (· ++ vs.toArray)) }
  refine wpAny_bind (wpAny_load (get?_update_seq (Heap.get?_push_size _ rfl) _) ?_)
  show wpAny _ _ (pure ((#[] : Array Value) ++ vs.toArray).toList) Q E _
  rw [show ((#[] : Array Value) ++ vs.toArray).toList = vs by simp]
  exact wpAny_pure h
end
theorem gath_old {h : Heap} {vs : List Value} {b : Addr} {o : Obj} (e : h.get? b = some o) : ((h.push (seqObj "list" #[] 0)).update h.objs.size (Obj.mapSeq (· ++ vs.toArray))).get? b = some o := by
  have lt : b < h.objs.size := Heap.lt_size e
  rw [Heap.get?_update_ne _ _ _ _ (Nat.ne_of_lt lt), Heap.get?_push_ne _ _ _ (Nat.ne_of_lt lt)]
  exact e
theorem gath_size {h : Heap} {vs : List Value} : h.objs.size ≤ ((h.push (seqObj "list" #[] 0)).update h.objs.size (Obj.mapSeq (· ++ vs.toArray))).objs.size := by
  rw [Heap.size_update, size_push']
  exact Nat.le_succ _
section
variable {X : Cx}
/-- where the texts stand -/
def SrcX (K : PySem.W.Frag) (w : World) (H : Hp) (a : Addr) (xs : List Str) : Prop := Seq K H (.ref a) (xs.map V.str) ∨ H a = some (SXO w a xs)
theorem coll_txt {A : Around} (hh : A.handled = none) {pins : List (Addr × Obj)} {σ : St} {H : Hp} {s : Shared} {a : Addr} {xs : List Str} {E : Value → Shared → Prop} {Q : List Value → Shared → Prop} (I : Inv X pins σ H s) (src : SrcX X.K X.w H a xs) (big : xs.length ≤ 1000)
    (h : ∀ (s1 : Shared) (vs : List Value) (ys : List Str), (∀ b o, s.heap.get? b = some o → s1.heap.get? b = some o) → s.heap.objs.size ≤ s1.heap.objs.size → s1.gens = s.gens → s1.os = s.os → ys.Perm xs → Vals (ys.map V.str) vs → Q vs s1) : wpAny (model X.prog X.w) A (collect (.ref a)) Q E s := by
  have sl : 1000 ≤ sizeLine := by rw [sizeLine_eq]; decide
  rcases src with ⟨a', e, hl | ht⟩ | hx
  · cases e
    obtain ⟨its, rv, pl, -⟩ := I.list hl
    have ln : its.length = xs.length := by rw [← rv.length, List.length_map]
    exact collect_list pl.isList (h _ its xs (fun b o e => gath_old e) gath_size rfl rfl (.refl _) rv) (by omega)
  · cases e
    obtain ⟨its, rv, pl, -⟩ := I.tuple ht
    have ln : its.length = xs.length := by rw [← rv.length, List.length_map]
    exact collect_tup pl (h _ its xs (fun b o e => gath_old e) gath_size rfl rfl (.refl _) rv) (by omega)
  · have R : SX X.w s.heap a xs := (I.hok a _ hx).1
    obtain ⟨o, es, ep, t, R⟩ := R
    have sz := R.size
    refine collect_set hh ⟨o, R.at_, R.ex.1, R.dat⟩ R.fit (by have := bound1000; have := R.lt; omega) R.ris R.led fun s1 vs k1 hz g1 o1 pm => ?_
    obtain ⟨ys, p1, v1⟩ := vals_perm pm (keyX_vals R.good)
    obtain ⟨zs, rfl, p2⟩ := perm_strs' p1
    exact h s1 vs zs k1 hz g1 o1 (p2.trans R.pm) v1
def rSortTx (K : PySem.W.Frag) (w : World) : List V → Hp → VK → Prop := fun us H Q => ∃ (a : Addr) (xs : List Str), us = [.ref a] ∧ SrcX K w H a xs ∧ xs.length ≤ 1000 ∧ ∀ p, H p = none → Q (.ref p) (upd H p (.lst ((sortS xs).map V.str)))
theorem cr_sortTx (hc : X.calm = true) (hu : X.A.units + 64 < cLine) : CallR X (.builtin "sorted") (rSortTx X.K X.w) := by
  intro pins s σ H us vs0 Q I r h
  obtain ⟨a, xs, rfl, src, big, q⟩ := h
  have sl : 1000 ≤ sizeLine := by rw [sizeLine_eq]; decide
  rw [Vals.ref1 r]
  refine Calls.call_function_entry kind_sorted plain_sorted entry_sorted (args_sorted1 _) ?_
  unfold Builtin.«sorted»
  refine wpAny_bind (m := checkCount "sorted" 1 1 _) (wpAny_pure ?_)
  refine wpAny_bind (coll_txt (A := X.A.in1) (I.ok.hd hc) I src big fun s1 vs ys k1 hz g1 o1 pm rv => ?_)
  have ln : vs.length = xs.length := by rw [← rv.length, List.length_map, pm.length_eq]
  refine wpAny_bind (wpAny_newList ?_ (by omega))
  have oL : (s1.heap.push (seqObj "list" vs.toArray 0)).get? s1.heap.objs.size = some (seqObj "list" vs.toArray 0) := Heap.get?_push_size _ rfl
  have up1 : ∀ b o, s1.heap.get? b = some o → (s1.heap.push (seqObj "list" vs.toArray 0)).get? b = some o := fun b o e => Heap.get?_push_of_some _ e
  show wpAny _ _ _ _ _ { s1 with heap := s1.heap.push (seqObj "list" vs.toArray 0) }
  generalize s1.heap.push (seqObj "list" vs.toArray 0) = h2 at oL up1 ⊢
  have ev := strs_each (h := h2) rv
  have er : PySem.W.EachIs (fun v x => ∃ as, PySem.Reads (PySem.W.sortingHeap h2 s1.heap.objs.size vs) v (PySem.PyData.str x) as) vs ys := ev.mono fun v x ⟨t, e⟩ => by
    subst e
    exact ⟨_, .str _ _⟩
  have hal : PySem.W.AllAlike (ys.map PySem.PyData.str) := PySem.W.AllAlike.of fun _ _ => by simp [PySem.W.alike]
  refine wpAny_bind (wpAny_holding (wpAny_call_entry slot_list_sort ⟨_, oL, rfl⟩ entry_list_sort (PySem.W.list_sort_vals (s := { s1 with heap := h2 }) (κ := PySem.W.dataKind (PySem.W.sortingHeap h2 s1.heap.objs.size vs) (ys.map PySem.PyData.str)) oL
    (PySem.W.SortsAt.data (s := { s1 with heap := PySem.W.sortingHeap h2 s1.heap.objs.size vs }) (PySem.W.each_map (R := fun v d => ∃ as, PySem.Reads (PySem.W.sortingHeap h2 s1.heap.objs.size vs) v d as) PySem.PyData.str er) hal (PySem.W.Sortable.others fun _ => ⟨nofun, nofun⟩) fun d m => ?_) (by omega) ⟨.none, rfl, ?_⟩) (args_list_sort _)))
  · obtain ⟨x, mx, rfl⟩ := List.mem_map.mp m
    have : (PySem.PyData.str x).depth = 0 := by simp [PySem.PyData.depth]
    rw [this]
    show X.A.units + 1 + 1 + 0 < cLine
    omega
  · have es := PySem.W.sortVals_data false ev er hal
    have vo := each_strs es
    obtain ⟨c, hc'⟩ := sortedHeap_at (vs := vs) (out := (PySem.W.sortVals (PySem.W.dataKind (PySem.W.sortingHeap h2 s1.heap.objs.size vs) (ys.map PySem.PyData.str)) false vs vs).toArray) oL
    have up : ∀ b o, s.heap.get? b = some o → (sortedHeap h2 s1.heap.objs.size vs (PySem.W.sortVals (PySem.W.dataKind (PySem.W.sortingHeap h2 s1.heap.objs.size vs) (ys.map PySem.PyData.str)) false vs vs).toArray).get? b = some o := fun b o e => by
      have e1 := k1 b o e
      have e3 := up1 b o e1
      rw [sortedHeap_old (Nat.ne_of_lt (Heap.lt_size e1)) (Heap.lt_size e3)]
      exact e3
    generalize PySem.W.sortVals (PySem.W.dataKind (PySem.W.sortingHeap h2 s1.heap.objs.size vs) (ys.map PySem.PyData.str)) false vs vs = out at vo hc' up ⊢
    have es' : ys.mergeSort (PySem.W.dataLe false PySem.PyData.str) = sortS xs := sortS_perm pm
    rw [es'] at vo
    have hn : H s1.heap.objs.size = none := I.hok.fresh hz
    have len : ((sortS xs).map V.str).length ≤ sizeLine := by
      rw [List.length_map, sortS_len]
      omega
    generalize sortedHeap h2 s1.heap.objs.size vs out.toArray = hF at hc' up ⊢
    have J : Inv X pins σ (upd H s1.heap.objs.size (.lst ((sortS xs).map V.str))) { s with heap := hF, gens := s1.gens, drawn := s1.drawn, toks := s1.toks } :=
      I.call (ch := []) (Un.laid up hz hn) (I.hok.laid up hz ⟨len, _, c, vo, hc'⟩) (by rw [g1]; exact I.bare) (fun _ z => nomatch z)
    have e : ({ s1 with heap := hF } : Shared) = { s with heap := hF, gens := s1.gens, drawn := s1.drawn, toks := s1.toks } := by
      cases s1
      cases s
      cases o1
      rfl
    refine wpAny_pure ⟨_, rfl, ?_⟩
    show EP X pins σ Q (.ref s1.heap.objs.size) { s1 with heap := hF }
    rw [e]
    exact ⟨.ref s1.heap.objs.size, _, J, rfl, q _ hn⟩
end
end WL
end L2
set_option Elab.async false
set_option linter.all false
set_option maxRecDepth 100000
set_option maxHeartbeats 4000000
namespace L2
namespace WL
open PySem PySem.Spec PyProof.Rows K1
/-! sets of tuples of ints and texts: the table, its search, its growth -/
abbrev KL : Type := List Key
abbrev hsh (P : Program) (w : World) (k : KL) : Int := tupleKeyHash (mixKind P w) k
abbrev TAt (P : Program) (w : World) (h : Heap) (k : KL) (b : Addr) : Prop := IsTupleKey (mixKind P w) h k b
/-- an int or a text, as the model's small questions take it -/
def Sml (v : Value) : Prop := (∃ n t, v = .int n t) ∨ ∃ z t, v = .str z t
theorem mix_sml {P : Program} {w : World} {k : Key} {v : Value} (h : (mixKind P w).is k v = true) : Sml v := by
  rcases keyIs_shape h with ⟨n, t, _, e⟩ | ⟨z, t, _, e⟩
  · exact .inl ⟨n, t, e⟩
  · exact .inr ⟨z, t, e⟩
theorem Sml.ofA {v : Value} (h : Sml v) (n : Nat) : ofAClassStatement n v = pure false := by
  rcases h with ⟨i, t, rfl⟩ | ⟨z, t, rfl⟩ <;> cases n <;> rfl
theorem Sml.hb {v : Value} (h : Sml v) (n : Nat) : ∃ b, hashByValue n v = pure b := by
  rcases h with ⟨i, t, rfl⟩ | ⟨z, t, rfl⟩ <;> cases n <;> exact ⟨_, rfl⟩
theorem smls {P : Program} {w : World} {k : KL} {vs : List Value} (h : ItemsAre (mixKind P w) k vs) : ∀ v ∈ vs, Sml v := by
  induction h with
  | nil => exact fun v m => nomatch m
  | cons r _ ih =>
    intro v m
    rcases List.mem_cons.mp m with rfl | m
    · exact mix_sml r
    · exact ih v m
theorem TAt.grow {P : Program} {w : World} {h h' : Heap} {k : KL} {b : Addr} (x : TAt P w h k b) (g : ∀ c o, h.get? c = some o → h'.get? c = some o) : TAt P w h' k b := by
  obtain ⟨o, its, n, e, rest⟩ := x
  exact ⟨o, its, n, g b o e, rest⟩
theorem TAt.but {P : Program} {w : World} {h h' : Heap} {k : KL} {a b : Addr} {o : Obj} {es : Array (Int × Value)} {ep : Nat} {t : SetTable} (x : TAt P w h k b) (e : h.get? a = some o) (d : o.data = .set es ep t) (sb : Heap.SameBut a h h') : TAt P w h' k b := by
  obtain ⟨o', its, n, e', c', d', r⟩ := x
  have : b ≠ a := fun z => by
    rw [z, e] at e'
    rw [← Option.some.inj e', d] at d'
    cases d'
  exact ⟨o', its, n, (sb.2 b this).trans e', c', d', r⟩
section
variable {P : Program} {w : World} {A : Around} {E : Value → Shared → Prop} {s : Shared}
theorem TAt.ofA {k : KL} {b : Addr} {Q : Bool → Shared → Prop} (x : TAt P w s.heap k b) (h : Q false s) : wpAny (model P w) A (ofAClassStatement 8 (.ref b)) Q E s := by
  have ty := IsTupleKey.typeIs x
  obtain ⟨o, its, n, e, -, d, r⟩ := x
  unfold ofAClassStatement
  refine wpAny_bind (wpAny_typeOf ty ?_)
  have q : (("tuple" : String) == "tuple") = true := by decide
  simp only [q, if_true, Bool.not_true, Bool.false_eq_true, if_false]
  try refine wpAny_bind (wpAny_pure ?_)
  try simp only [Bool.not_true, Bool.false_eq_true, if_false]
  show wpAny _ _ (seqItems? (.ref b) >>= _) _ _ s
  refine wpAny_bind (wpAny_seqItems e d ?_)
  dsimp only
  refine wpAny_bind ?_
  show wpAny _ _ (forIn its _ _) _ _ s
  rw [← Array.forIn_toList]
  refine wpAny_forIn_list _ (fun l st s' => st.1 = none ∧ s' = s ∧ ∀ v ∈ l, Sml v) _ (fun v l st s' hh => ?_) (fun st s' hh => ?_) _ _ ⟨rfl, rfl, smls r⟩
  · obtain ⟨e, rfl, m⟩ := hh
    rw [(m v (List.mem_cons_self ..)).ofA]
    exact wpAny_bind (wpAny_pure (wpAny_pure ⟨rfl, rfl, fun u mu => m u (List.mem_cons_of_mem _ mu)⟩))
  · obtain ⟨e, rfl, -⟩ := hh
    obtain ⟨x, ⟨⟩⟩ := st
    obtain rfl : x = none := e
    exact wpAny_pure h
theorem TAt.hb {k : KL} {b : Addr} {Q : Bool → Shared → Prop} (x : TAt P w s.heap k b) (h : ∀ c, Q c s) : wpAny (model P w) A (hashByValue 8 (.ref b)) Q E s := by
  have ty := IsTupleKey.typeIs x
  obtain ⟨o, its, n, e, -, d, r⟩ := x
  unfold hashByValue
  refine wpAny_bind (wpAny_specialOf ty PySem.F.slot_tuple_hash.lookup ?_)
  show wpAny _ _ (seqItems? (.ref b) >>= _) _ _ s
  refine wpAny_bind (wpAny_seqItems e d ?_)
  refine wpAny_bind ?_
  show wpAny _ _ (forIn its _ _) _ _ s
  rw [← Array.forIn_toList]
  have fin : ∀ st : MProd (Option Bool) PUnit, True := fun _ => trivial
  refine wpAny_forIn_list _ (fun l st s' => s' = s ∧ ∀ v ∈ l, Sml v) _ (fun v l st s' hh => ?_) (fun st s' hh => ?_) _ _ ⟨rfl, smls r⟩
  · obtain ⟨rfl, m⟩ := hh
    obtain ⟨c, ec⟩ := (m v (List.mem_cons_self ..)).hb 7
    rw [ec]
    refine wpAny_bind (wpAny_pure ?_)
    cases c with
    | true => exact wpAny_pure ⟨rfl, fun u mu => m u (List.mem_cons_of_mem _ mu)⟩
    | false => exact wpAny_pure (wpAny_pure (h _))
  · obtain ⟨rfl, -⟩ := hh
    obtain ⟨x, ⟨⟩⟩ := st
    cases x with
    | none => exact wpAny_pure (h _)
    | some c => exact wpAny_pure (h _)
end
end WL
end L2
set_option Elab.async false
set_option linter.all false
set_option maxRecDepth 100000
set_option maxHeartbeats 4000000
namespace L2
namespace WL
open PySem PySem.Spec PyProof.Rows K1
/-- a member of the set: where it stands and what it is -/
abbrev Mb : Type := Addr × KL
def ents (P : Program) (w : World) (L : List Mb) : List (Int × Value) := L.map fun q => (hsh P w q.2, Value.ref q.1)
abbrev hss (P : Program) (w : World) (L : List Mb) : List Int := L.map fun q => hsh P w q.2
theorem ents_len {P : Program} {w : World} {L : List Mb} {es : Array (Int × Value)} (e : es.toList = ents P w L) : es.size = L.length := by
  rw [← Array.length_toList, e]
  exact List.length_map ..
structure SK (P : Program) (w : World) (h : Heap) (a : Addr) (L : List Mb) (es : Array (Int × Value)) (ep : Nat) (t : SetTable) : Prop where
  obj : ∃ o, h.get? a = some o ∧ o.ExactSet ∧ o.data = .set es ep t
  es_ : es.toList = ents P w L
  tb : TabOk t (hss P w L)
  nd : (L.map Prod.snd).Nodup
  mem : ∀ q ∈ L, TAt P w h q.2 q.1
  led : w.params.followText "set-order" = true ∨ t.led = true
  rm : L.length * 5 < t.mask * 3
  lt : L.length < 64
section
variable {P : Program} {w : World} {A : Around} {E : Value → Shared → Prop} {s : Shared} {a : Addr} {L : List Mb} {es : Array (Int × Value)} {ep : Nat} {t : SetTable}
theorem SK.sz (R : SK P w s.heap a L es ep t) : es.size = L.length := ents_len R.es_
theorem SK.fit (R : SK P w s.heap a L es ep t) : t.fits es.size = true := by
  have p := R.tb.sz
  have q := R.sz
  have r := R.rm
  rw [List.length_map] at p
  unfold SetTable.fits SetTable.fill
  rw [R.tb.dm, Bool.and_eq_true, beq_iff_eq, decide_eq_true_eq]
  exact ⟨by omega, by show t.place.size + 0 ≤ t.mask; omega⟩
theorem SK.at_ (R : SK P w s.heap a L es ep t) {i : Nat} {q : Mb} (e : L[i]? = some q) : es[i]? = some (hsh P w q.2, Value.ref q.1) := by
  have : (ents P w L)[i]? = some (hsh P w q.2, Value.ref q.1) := by
    unfold ents
    rw [List.getElem?_map, e]
    rfl
  rw [← R.es_, Array.getElem?_toList] at this
  exact this
theorem SK.there (R : SK P w s.heap a L es ep t) : ¬ t.gaveWay = true := by
  unfold SetTable.gaveWay
  rw [mask_odd R.tb.mok]
  decide
/-- the j-th place that a search for k looks at -/
abbrev stepP (P : Program) (w : World) (t : SetTable) (k : KL) (j : Nat) : SetTable.Probe := nth t.mask (runAt t.mask (SetTable.bits (hsh P w k) % (t.mask + 1)) (SetTable.bits (hsh P w k))) j
theorem stepP_clean (m : Nat) : ∀ (j : Nat) (p : SetTable.Probe), p.dummy = none → (nth m p j).dummy = none
  | 0, _, e => e
  | j + 1, p, e => stepP_clean m j (adv m p) (by
    unfold adv
    split <;> exact e)
theorem stepP_on (t : SetTable) (k : KL) (c j : Nat) : nth t.mask (stepP P w t k c) j = stepP P w t k (c + j) := (nth_add t.mask c _ j).symm
theorem no_sight {k : KL} {x : Addr} (hx : TAt P w s.heap k x) {ys : List Value} (hy : ∀ y ∈ ys, ∃ k' c, y = Value.ref c ∧ TAt P w s.heap k' c) {Q : Bool → Shared → Prop} (h : Q false s) : wpAny (model P w) A (searchCouldBeSeen (.ref x) ys) Q E s := by
  unfold searchCouldBeSeen
  refine wpAny_bind ?_
  refine wpAny_forIn_list _ (fun l st s' => st.1 = none ∧ s' = s ∧ ∀ y ∈ l, ∃ k' c, y = Value.ref c ∧ TAt P w s.heap k' c) _ (fun v l st s' hh => ?_) (fun st s' hh => ?_) _ _ ⟨rfl, rfl, hy⟩
  · obtain ⟨e, rfl, m⟩ := hh
    have m' : ∀ y ∈ l, ∃ k' c, y = Value.ref c ∧ TAt P w s'.heap k' c := fun u mu => m u (List.mem_cons_of_mem _ mu)
    obtain ⟨k', c, rfl, hc⟩ := m v (List.mem_cons_self ..)
    dsimp only
    by_cases hv : (x == c || (carriedByValue (.ref x) && carriedByValue (.ref c))) = true
    · exact wp_if_pos hv (wpAny_pure ⟨rfl, rfl, m'⟩)
    · refine wp_if_neg hv (wpAny_bind (wpAny_eqIsQuiet_tuple hx ?_))
      simp only [Bool.not_true, Bool.false_eq_true, if_false]
      refine wpAny_bind (wpAny_eqIsQuiet_tuple hc ?_)
      simp only [Bool.not_true, Bool.false_eq_true, if_false]
      refine wpAny_bind (hx.ofA ?_)
      simp only [Bool.false_eq_true, if_false]
      refine wpAny_bind (hc.ofA ?_)
      simp only [Bool.false_eq_true, if_false]
      exact wpAny_pure ⟨rfl, rfl, m'⟩
  · obtain ⟨e, rfl, -⟩ := hh
    obtain ⟨r, ⟨⟩⟩ := st
    obtain rfl : r = none := e
    exact wpAny_pure h
/-- the search, from its c-th place on; K is the first empty one -/
theorem SK.look (R : SK P w s.heap a L es ep t) {x : Addr} {k : KL} (hx : TAt P w s.heap k x) (hu : A.units < cLine) {K : Nat} (big : K < 10 * SetTable.turns t.mask) (eK : way t.mask (hsh P w k) K ∉ t.place.toList)
    (fK : ∀ j, j < K → way t.mask (hsh P w k) j ∈ t.place.toList) {Q : SetFound → Shared → Prop} (yes : k ∈ L.map Prod.snd → Q (.there none) s) (no : k ∉ L.map Prod.snd → Q (.free (way t.mask (hsh P w k) K) false) s) :
    ∀ (fuel c : Nat) (st : Option SetTable.Probe), st.getD (t.probeStart (hsh P w k)) = stepP P w t k c → c ≤ K → K - c < fuel →
      (∀ (i : Nat) q, L[i]? = some q → q.2 = k → ∃ d, c ≤ d ∧ d < K ∧ t.place.toList[i]? = some (way t.mask (hsh P w k) d)) → wpAny (model P w) A (setSearchFrom a (.ref x) (hsh P w k) true fuel st) Q E s := by
  intro fuel
  obtain ⟨o, ho, hex, hd⟩ := R.obj
  induction fuel with
  | zero => exact fun c st _ _ l _ => absurd l (Nat.not_lt_zero _)
  | succ f ih =>
    intro c st est lc lf ahead
    rw [setSearchFrom_succ]
    refine wpAny_bind (wpAny_setState_of ho hd R.fit ?_)
    dsimp only
    refine wp_if_neg R.there ?_
    try refine wpAny_bind (wpAny_pure ?_)
    have jj : ∀ j, (nth t.mask (stepP P w t k c) j).j = way t.mask (hsh P w k) (c + j) := fun j => by rw [stepP_on]
    have hat : ∀ (i : Nat) q, L[i]? = some q → (fun i => (es[i]?.map (·.1)).getD 0) i = hsh P w q.2 := fun i q e => by
      show (es[i]?.map (·.1)).getD 0 = _
      rw [R.at_ e]
      rfl
    have sp := go_spec t R.tb.ris R.tb.dm (fun i => (es[i]?.map (·.1)).getD 0) (hsh P w k) (10 * SetTable.turns t.mask) (K - c) (stepP P w t k c) (stepP_clean _ _ _ rfl) (by omega) (fun j hj => by
      rw [jj]
      exact fK _ (by omega)) (by
      rw [jj, show c + (K - c) = K by omega]
      exact eK)
    rcases sp with ⟨j, i, lj, ei, eh, nothing, ep'⟩ | ⟨nothing, ep'⟩
    · rw [jj] at ei ep'
      rw [stepP_on] at ep'
      have epr : t.probe (fun i => (es[i]?.map (·.1)).getD 0) (hsh P w k) (st.getD (t.probeStart (hsh P w k))) = some (.candidate (way t.mask (hsh P w k) (c + j)) i (stepP P w t k (c + (j + 1)))) := by
        rw [est]
        exact ep'
      rw [epr]
      dsimp only
      have il : i < L.length := by
        have p := (List.getElem?_eq_some_iff.mp ei).1
        have q := R.tb.sz
        rw [List.length_map] at q
        rw [Array.length_toList] at p
        omega
      obtain ⟨q, eq⟩ : ∃ q, L[i]? = some q := ⟨_, List.getElem?_eq_getElem il⟩
      have mq := List.mem_of_getElem? eq
      have sl : t.slot (way t.mask (hsh P w k) (c + j)) = .live i := slot_live R.tb.ris ei
      have go : wpAny (model P w) A (searchRest a (.ref x) (hsh P w k) true f es t (way t.mask (hsh P w k) (c + j)) i (stepP P w t k (c + (j + 1)))) Q E s := by
        unfold searchRest
        rw [R.at_ eq]
        dsimp only
        refine wpAny_bind (wpAny_holding (wpAny_eqBool_tuple hu (R.mem q mq) hx (wpAny_bind (wpAny_setState_of ho hd R.fit ?_))))
        dsimp only
        by_cases hk : q.2 = k
        · exact wp_if_pos (by simp [hk]) (wpAny_pure (yes (List.mem_map.mpr ⟨q, mq, hk⟩)))
        · refine wp_if_neg (by simp [hk]) ?_
          try refine wpAny_bind (wpAny_pure ?_)
          rw [sameMem]
          dsimp only
          simp only [if_true, sl, R.at_ eq]
          refine wpAny_bind (wpAny_isSame_ref_self (wpAny_bind (wpAny_pure ?_)))
          simp only [if_true]
          refine wp_if_neg (by simp [hk]) (ih (c + (j + 1)) _ rfl (by omega) (by omega) fun i' q' e' k' => ?_)
          obtain ⟨d, d1, d2, d3⟩ := ahead i' q' e' k'
          refine ⟨d, Nat.not_lt.mp fun (le : d < c + (j + 1)) => ?_, d2, d3⟩
          by_cases ed : d = c + j
          · rw [ed] at d3
            have z := slot_live R.tb.ris d3
            rw [sl] at z
            injection z with z
            rw [← z, eq] at e'
            exact hk (by rw [Option.some.inj e']; exact k')
          · exact nothing (d - c) i' (by omega) (by rw [jj, show c + (d - c) = d by omega]; exact d3) ((hat i' q' e').trans (by rw [k']))
      by_cases hl : t.led = true
      · refine wp_if_neg (by simp [hl]) ?_
        try refine wpAny_bind (wpAny_pure ?_)
        exact go
      · refine wp_if_pos (by simp [hl]) (wpAny_bind (no_sight hx (fun y hy => ?_) ?_))
        · obtain ⟨e, he, ee⟩ := List.mem_map.mp hy
          have h1 : e ∈ es := (by simpa using he : e ∈ es ∧ e.1 = hsh P w k).1
          have h2 : e ∈ ents P w L := by rw [← R.es_]; simpa using h1
          obtain ⟨q', m', e'⟩ := List.mem_map.mp h2
          exact ⟨q'.2, q'.1, by rw [← ee, ← e'], R.mem q' m'⟩
        · refine wp_if_neg (by decide) ?_
          try refine wpAny_bind (wpAny_pure ?_)
          exact go
    · rw [jj, show c + (K - c) = K by omega] at ep'
      have epr : t.probe (fun i => (es[i]?.map (·.1)).getD 0) (hsh P w k) (st.getD (t.probeStart (hsh P w k))) = some (.empty (way t.mask (hsh P w k) K) none) := by
        rw [est]
        exact ep'
      rw [epr]
      dsimp only
      refine wpAny_pure (no fun m => ?_)
      obtain ⟨q', m', k'⟩ := List.mem_map.mp m
      obtain ⟨i', e'⟩ := List.mem_iff_getElem?.mp m'
      obtain ⟨d, d1, d2, d3⟩ := ahead i' q' e' k'
      exact nothing (d - c) i' (by omega) (by rw [jj, show c + (d - c) = d by omega]; exact d3) ((hat i' q' e').trans (by rw [k']))
theorem SK.find (R : SK P w s.heap a L es ep t) {x : Addr} {k : KL} (hx : TAt P w s.heap k x) (hu : A.units < cLine) {Q : SetFound → Shared → Prop} (yes : k ∈ L.map Prod.snd → Q (.there none) s)
    (no : ∀ K, k ∉ L.map Prod.snd → way t.mask (hsh P w k) K ∉ t.place.toList → (∀ j, j < K → way t.mask (hsh P w k) j ∈ t.place.toList) → Q (.free (way t.mask (hsh P w k) K) false) s) :
    wpAny (model P w) A (setSearch a (.ref x) (hsh P w k) true) Q E s := by
  have rm := R.rm
  obtain ⟨K, big, eK, fK⟩ := R.tb.first (by rw [List.length_map]; omega) (hsh P w k)
  have l1 : K < 100000 := by
    have : 10 * SetTable.turns t.mask ≤ 1420 := by
      unfold SetTable.turns
      rcases R.tb.mok with e | e | e <;> omega
    omega
  unfold setSearch
  refine R.look hx hu big eK fK yes (fun n => no K n eK fK) 100000 0 none rfl (Nat.zero_le _) (by omega) fun i q e k' => ?_
  have hi : (hss P w L)[i]? = some (hsh P w k) := by
    rw [List.getElem?_map, e, ← k']
    rfl
  have il : i < t.place.toList.length := by
    have p := (List.getElem?_eq_some_iff.mp e).1
    have q := R.tb.sz
    rw [List.length_map] at q
    rw [Array.length_toList]
    omega
  obtain ⟨d, ld, e⟩ := R.tb.before eK hi (List.getElem?_eq_getElem il)
  exact ⟨d, Nat.zero_le _, ld, by rw [List.getElem?_eq_getElem il, e]⟩
end
end WL
end L2
set_option Elab.async false
set_option linter.all false
set_option maxRecDepth 100000
set_option maxHeartbeats 4000000
namespace L2
namespace WL
open PySem PySem.Spec PyProof.Rows K1
theorem picks {α : Type} : ∀ L : List α, (List.range L.length).filterMap (fun i => L[i]?) = L
  | [] => rfl
  | a :: l => by
    rw [List.length_cons, List.range_succ_eq_map, List.filterMap_cons_some (f := fun i => (a :: l)[i]?) (b := a) rfl, List.filterMap_map]
    exact congrArg (a :: ·) (picks l)
theorem mid_perm {α : Type} (L : List α) (n : Nat) (q : α) : List.Perm (L.take n ++ q :: L.drop n) (q :: L) := by
  refine List.perm_middle.trans ?_
  rw [List.take_append_drop]
section
variable {P : Program} {w : World}
theorem ents_put (L : List Mb) (n : Nat) (q : Mb) : ents P w (L.take n ++ q :: L.drop n) = (ents P w L).take n ++ (hsh P w q.2, Value.ref q.1) :: (ents P w L).drop n := by
  simp [ents, List.map_take, List.map_drop]
theorem hss_put (L : List Mb) (n : Nat) (q : Mb) : hss P w (L.take n ++ q :: L.drop n) = (hss P w L).take n ++ hsh P w q.2 :: (hss P w L).drop n := by
  simp [hss, List.map_take, List.map_drop]
theorem ents_get {L : List Mb} {es : Array (Int × Value)} (e : es.toList = ents P w L) (i : Nat) : es[i]? = (L[i]?).map fun q => (hsh P w q.2, Value.ref q.1) := by
  rw [← Array.getElem?_toList, e]
  exact List.getElem?_map ..
theorem ents_order {L : List Mb} {es : Array (Int × Value)} (e : es.toList = ents P w L) {order : Array Nat} (hp : order.toList.Perm (List.range L.length)) :
    ∃ L2 : List Mb, (order.filterMap (es[·]?)).toList = ents P w L2 ∧ L2.Perm L ∧ hss P w L2 = order.toList.map fun i => (es.map (·.1)).getD i 0 := by
  have b : ∀ i ∈ order.toList, i < L.length := fun i m => List.mem_range.mp (hp.mem_iff.mp m)
  refine ⟨order.toList.filterMap fun i => L[i]?, ?_, ?_, ?_⟩
  · rw [Array.toList_filterMap]
    unfold ents
    rw [List.map_filterMap]
    refine congrFun (congrArg List.filterMap (funext fun i => ?_)) _
    exact ents_get e i
  · have q := hp.filterMap (fun i => L[i]?)
    rw [picks] at q
    exact q
  · generalize order.toList = l at b
    induction l with
    | nil => rfl
    | cons i l ih =>
      have il := b i (List.mem_cons_self ..)
      have e1 : L[i]? = some L[i] := List.getElem?_eq_getElem il
      rw [List.filterMap_cons_some (f := fun i => L[i]?) e1]
      show hsh P w L[i].2 :: hss P w _ = _ :: _
      rw [ih fun j m => b j (List.mem_cons_of_mem _ m)]
      refine congrArg (· :: _) ?_
      have e2 := ents_get e i
      rw [e1] at e2
      have e3 : (es.map (·.1))[i]? = some (hsh P w L[i].2) := by
        rw [Array.getElem?_map, e2]
        rfl
      show _ = (es.map (·.1)).getD i 0
      rw [Array.getD_eq_getD_getElem?, e3]
      rfl
variable {A : Around} {E : Value → Shared → Prop} {s : Shared} {a : Addr} {L : List Mb} {es : Array (Int × Value)} {ep : Nat} {t : SetTable}
/-- the table made larger -/
theorem SK.relay {o : Obj} (ho : s.heap.get? a = some o) (hex : o.ExactSet) (hd : o.data = .set es ep t) (he : es.toList = ents P w L) (tb : TabOk t (hss P w L)) (nd : (L.map Prod.snd).Nodup) (mem : ∀ q ∈ L, TAt P w s.heap q.2 q.1)
    (led : w.params.followText "set-order" = true ∨ t.led = true) (le : L.length ≤ t.mask) (lt : L.length < 64) {want M : Nat} (hw : SetTable.sizeAbove want - 1 = M) (mok : MaskOk M) (hw2 : SetTable.sizeAbove want ≤ 128) (rm : L.length * 5 < M * 3)
    {Q : Unit → Shared → Prop} (hQ : ∀ h' L' es' ep' t', Heap.SameBut a s.heap h' → SK P w h' a L' es' ep' t' → L'.Perm L → Q () { s with heap := h' }) : wpAny (model P w) A (setRelay a want) Q E s := by
  have sz := ents_len he
  have psz : t.place.size = L.length := by
    rw [tb.sz]
    exact List.length_map ..
  have fit : t.fits es.size = true := by
    unfold SetTable.fits SetTable.fill
    rw [tb.dm, Bool.and_eq_true, beq_iff_eq, decide_eq_true_eq]
    exact ⟨by omega, by show t.place.size + 0 ≤ t.mask; omega⟩
  obtain ⟨t', order, er, hp, T, em, el, -, -⟩ := relaid_ok t (hs := es.map (·.1)) (wanted := want) hw mok (by rw [Array.size_map]; omega)
  rw [Array.size_map, sz] at hp
  obtain ⟨L2, r1, r2, r3⟩ := ents_order he hp
  rw [← r3] at T
  have l2 := r2.length_eq
  have s2 := ents_len r1
  rw [setRelay_eq]
  refine wpAny_bind (wpAny_setState_of ho hd fit ?_)
  dsimp only
  refine wp_if_neg (by rw [sizeLine_eq]; omega) ?_
  try refine wpAny_bind (wpAny_pure ?_)
  rw [er]
  dsimp only
  refine wpAny_bind (wp_if_neg (by simp only [bne_iff_ne, ne_eq, Decidable.not_not]; omega) ?_)
  try refine wpAny_bind (wpAny_pure ?_)
  refine wpAny_pure ?_
  dsimp only
  refine wpAny_storeSet_of ho hd ?_ (by rw [sizeLine_eq]; omega)
  have sb : Heap.SameBut a s.heap (s.heap.update a (Obj.putSet (order.filterMap (es[·]?)) t')) := Heap.SameBut.update ..
  exact hQ _ L2 _ (ep + 1) t' sb
    { obj := ⟨_, store_at ho hd, ⟨hex.1, hex.2.1, hex.2.2⟩, rfl⟩, es_ := r1, tb := T, nd := (r2.map Prod.snd).nodup_iff.mpr nd, mem := fun q m => (mem q (r2.mem_iff.mp m)).but ho hd sb, led := by rw [el]; exact led, rm := by rw [em]; omega, lt := by omega } r2
/-- one put in -/
theorem SK.add (R : SK P w s.heap a L es ep t) {x : Addr} {k : KL} (hx : TAt P w s.heap k x) (hu : A.units < cLine) (few : k ∉ L.map Prod.snd → L.length + 1 < 64) {Q : Bool → Shared → Prop}
    (old : k ∈ L.map Prod.snd → Q false s)
    (new : ∀ h' L' es' ep' t', k ∉ L.map Prod.snd → Heap.SameBut a s.heap h' → SK P w h' a L' es' ep' t' → L'.Perm ((x, k) :: L) → Q true { s with heap := h' }) :
    wpAny (model P w) A (setAddHashed a (.ref x) (hsh P w k)) Q E s := by
  obtain ⟨o, ho, hex, hd⟩ := R.obj
  have sz := R.sz
  have rm := R.rm
  unfold setAddHashed
  refine wpAny_holding ?_
  rw [show (100000 : Nat) = 99999 + 1 from rfl, setAddHashedIn_succ]
  refine wpAny_bind (wpAny_setState_of ho hd R.fit ?_)
  dsimp only
  refine wp_if_neg (by simp [byScan, Value.scannable]) ?_
  try refine wpAny_bind (wpAny_pure ?_)
  refine wpAny_bind (R.find hx hu (fun m => wpAny_pure (old m)) fun K nm eK fK => ?_)
  have lt := few nm
  dsimp only
  refine wpAny_bind (wpAny_setState_of ho hd R.fit ?_)
  dsimp only
  obtain ⟨q1, q2, q3, q4, q5, q6, -, -, q9⟩ := R.tb.put eK fK
  generalize hpt : t.put (way t.mask (hsh P w k) K) = pt at q1 q3 q4 q5 q6 q9 ⊢
  obtain ⟨t1, n⟩ := pt
  dsimp only at q1 q3 q4 q5 q6 q9 ⊢
  subst q1
  have hin : (SetTable.insertAt es (SetTable.below t.place (way t.mask (hsh P w k) K)) (hsh P w k, Value.ref x)).toList = ents P w (L.take (SetTable.below t.place (way t.mask (hsh P w k) K)) ++ (x, k) :: L.drop (SetTable.below t.place (way t.mask (hsh P w k) K))) := by
    rw [SetTable.toList_insertAt, ents_put, R.es_]
  rw [← hss_put L _ (x, k)] at q3
  generalize SetTable.below t.place (way t.mask (hsh P w k) K) = n at q2 q3 hin ⊢
  have pm := mid_perm L n (x, k)
  have nd : ((L.take n ++ (x, k) :: L.drop n).map Prod.snd).Nodup := (pm.map Prod.snd).nodup_iff.mpr (List.nodup_cons.mpr ⟨nm, R.nd⟩)
  have es1 := ents_len hin
  generalize SetTable.insertAt es n (hsh P w k, Value.ref x) = E1 at hin es1 ⊢
  generalize L.take n ++ (x, k) :: L.drop n = L1 at pm q3 nd hin es1
  have l1 : L1.length = L.length + 1 := pm.length_eq
  have fin : ∀ t2 : SetTable, t2.place = t1.place → t2.dummies = t1.dummies → t2.mask = t1.mask → t2.led = t1.led → wpAny (model P w) A (do
      storeSet a E1 t2
      if !false && t2.tooFull then setRelay a (SetTable.grown (es.size + 1))
      return true) Q E s := fun t2 z1 z2 z3 z4 => by
    have T2 : TabOk t2 (hss P w L1) := by
      have := q3
      exact ⟨by rw [z1]; exact this.ris, by rw [z2]; exact this.dm, by rw [z1]; exact this.sz, by rw [z3]; exact this.mok, by rw [z1, z3]; exact this.bd, by rw [z1, z3]; exact this.reach⟩
    have f2 : t2.tooFull = t1.tooFull := by
      unfold SetTable.tooFull SetTable.fill
      rw [z1, z2, z3]
    refine wpAny_bind (wpAny_storeSet_of ho hd ?_ (by rw [sizeLine_eq]; omega))
    have sb : Heap.SameBut a s.heap (s.heap.update a (Obj.putSet E1 t2)) := Heap.SameBut.update ..
    have ho1 := store_at (es' := E1) (t' := t2) ho hd
    generalize s.heap.update a (Obj.putSet E1 t2) = h1 at sb ho1 ⊢
    have mem1 : ∀ q ∈ L1, TAt P w h1 q.2 q.1 := fun q m => by
      rcases List.mem_cons.mp (pm.mem_iff.mp m) with rfl | m
      · exact hx.but ho hd sb
      · exact (R.mem q m).but ho hd sb
    have led1 : w.params.followText "set-order" = true ∨ t2.led = true := by
      rw [z4, q5]
      exact R.led
    have f9 : t1.tooFull = decide ((L.length + 1) * 5 ≥ t.mask * 3) := by
      unfold SetTable.tooFull
      rw [q9, q4]
      simp [hss]
    by_cases hf : t2.tooFull = true
    · have full : (L.length + 1) * 5 ≥ t.mask * 3 := by
        rw [f2, f9] at hf
        exact of_decide_eq_true hf
      have two : (t.mask = 7 ∧ L.length = 4) ∨ (t.mask = 31 ∧ L.length = 18) := by
        rcases R.tb.mok with e | e | e
        · exact .inl ⟨e, by rw [e] at full rm; omega⟩
        · exact .inr ⟨e, by rw [e] at full rm; omega⟩
        · rw [e] at full
          omega
      have go : ∀ M, SetTable.sizeAbove (SetTable.grown (L.length + 1)) - 1 = M → MaskOk M → SetTable.sizeAbove (SetTable.grown (L.length + 1)) ≤ 128 → (L.length + 1) * 5 < M * 3 →
          wpAny (model P w) A (setRelay a (SetTable.grown (es.size + 1))) (fun _ s' => wpAny (model P w) A (pure true) Q E s') E { s with heap := h1 } := fun M h1' h2' h3' h4' => by
        rw [sz]
        refine SK.relay (s := { s with heap := h1 }) ho1 ⟨hex.1, hex.2.1, hex.2.2⟩ rfl hin T2 nd mem1 led1 (by rw [z3, q4]; rcases two with ⟨e, e2⟩ | ⟨e, e2⟩ <;> omega) (by omega) h1' h2' h3' (by omega) ?_
        intro h2 L2 es2 ep2 t2 sb2 R2 pm2
        exact wpAny_pure (new h2 L2 es2 ep2 t2 nm (sb.trans sb2) R2 (pm2.trans pm))
      have all : wpAny (model P w) A (setRelay a (SetTable.grown (es.size + 1))) (fun _ s' => wpAny (model P w) A (pure true) Q E s') E { s with heap := h1 } := by
        rcases two with ⟨-, e2⟩ | ⟨-, e2⟩
        · exact go 31 (by rw [e2, size_20]) (.inr (.inl rfl)) (by rw [e2, size_20]; decide) (by omega)
        · exact go 127 (by rw [e2, size_76]) (.inr (.inr rfl)) (by rw [e2, size_76]; decide) (by omega)
      first
        | (refine wp_if_pos (by simp [hf]) ?_; exact wpAny_bind all)
        | (refine wpAny_bind (wp_if_pos (by simp [hf]) ?_); exact all)
    · have R2 : SK P w h1 a L1 E1 (ep + 1) t2 :=
        { obj := ⟨_, ho1, ⟨hex.1, hex.2.1, hex.2.2⟩, rfl⟩, es_ := hin, tb := T2, nd := nd, mem := mem1, led := led1, rm := by
            rw [f2, f9] at hf
            rw [z3, q4]
            simp only [decide_eq_true_eq] at hf
            omega, lt := by omega }
      have fin2 := wpAny_pure (M := model P w) (A := A) (E := E) (new h1 L1 E1 (ep + 1) t2 nm sb R2 pm)
      first
        | (refine wp_if_neg (by simp [hf]) ?_; exact fin2)
        | (refine wp_if_neg (by simp [hf]) ?_; exact wpAny_bind (wpAny_pure fin2))
        | (refine wpAny_bind (wp_if_neg (by simp [hf]) ?_); exact wpAny_pure fin2)
  by_cases hpl : t1.plain = true
  · refine wp_if_pos hpl (wpAny_bind (hx.hb fun c => ?_))
    cases c with
    | true => exact fin t1 rfl rfl rfl rfl
    | false => exact fin { t1 with plain := false } rfl rfl rfl rfl
  · refine wp_if_neg hpl ?_
    try refine wpAny_bind (wpAny_pure ?_)
    exact fin t1 rfl rfl rfl rfl
end
end WL
end L2
set_option Elab.async false
set_option linter.all false
set_option maxRecDepth 100000
set_option maxHeartbeats 4000000
namespace L2
namespace WL
open PySem PySem.Spec PyProof.Rows K1
/-- what the set has of a list of tuples -/
structure Took (ks L : List Mb) : Prop where
  sub : ∀ q ∈ L, q ∈ ks
  all : ∀ q ∈ ks, q.2 ∈ L.map Prod.snd
theorem Took.nil : Took [] [] := ⟨fun _ m => (nomatch m), fun _ m => (nomatch m)⟩
theorem Took.old {ks L : List Mb} {x : Mb} (g : Took ks L) (m : x.2 ∈ L.map Prod.snd) : Took (ks ++ [x]) L :=
  ⟨fun q h => List.mem_append_left _ (g.sub q h), fun q h => by
    rcases List.mem_append.mp h with h | h
    · exact g.all q h
    · rw [List.mem_singleton.mp h]
      exact m⟩
theorem Took.new {ks L L' : List Mb} {x : Mb} (g : Took ks L) (pm : L'.Perm (x :: L)) : Took (ks ++ [x]) L' := by
  refine ⟨fun q h => ?_, fun q h => ?_⟩
  · rcases List.mem_cons.mp (pm.mem_iff.mp h) with rfl | h
    · exact List.mem_append_right _ (List.mem_singleton.mpr rfl)
    · exact List.mem_append_left _ (g.sub q h)
  · have e := (pm.map Prod.snd).mem_iff (a := q.2)
    refine e.mpr ?_
    rcases List.mem_append.mp h with h | h
    · exact List.mem_cons_of_mem _ (g.all q h)
    · rw [List.mem_singleton.mp h]
      exact List.mem_cons_self ..
theorem take_at {α : Type} {l : List α} {i : Nat} {x : α} (h : l[i]? = some x) : l.take (i + 1) = l.take i ++ [x] := by
  rw [List.take_succ, h]
  rfl
theorem nd_len {α : Type} [DecidableEq α] : ∀ l D : List α, l.Nodup → (∀ x ∈ l, x ∈ D) → l.length ≤ D.length
  | [], _, _, _ => Nat.zero_le _
  | x :: l, D, hn, hs => by
    have ⟨n1, n2⟩ := List.nodup_cons.mp hn
    have hx := hs x (List.mem_cons_self ..)
    have ih := nd_len l (D.erase x) n2 fun y m => (List.mem_erase_of_ne (a := y) (b := x) fun e => n1 (by rw [← e]; exact m)).mpr (hs y (List.mem_cons_of_mem _ m))
    have := List.length_erase_of_mem hx
    have := List.length_pos_of_mem hx
    simp only [List.length_cons]
    omega
/-- fewer than 64 unlike ones -/
def Few (ks : List Mb) : Prop := ∀ D : List KL, D.Nodup → (∀ k ∈ D, k ∈ ks.map Prod.snd) → D.length < 64
theorem few_of {ks : List Mb} (U : List KL) (h : ∀ q ∈ ks, q.2 ∈ U) (l : U.length < 64) : Few ks := fun D nd sub =>
  Nat.lt_of_le_of_lt (nd_len D U nd fun k m => by
    obtain ⟨q, mq, e⟩ := List.mem_map.mp (sub k m)
    rw [← e]
    exact h q mq) l
theorem few_len {ks : List Mb} (l : ks.length < 64) : Few ks := few_of (ks.map Prod.snd) (fun q m => List.mem_map.mpr ⟨q, m, rfl⟩) (by rw [List.length_map]; exact l)
section
variable {P : Program} {w : World} {A : Around} {E : Value → Shared → Prop} {s : Shared}
theorem SK.keep {h h' : Heap} {a : Addr} {L : List Mb} {es : Array (Int × Value)} {ep : Nat} {t : SetTable} (R : SK P w h a L es ep t) (at_ : ∀ o, h.get? a = some o → h'.get? a = some o) (mem : ∀ q ∈ L, TAt P w h' q.2 q.1) : SK P w h' a L es ep t := by
  obtain ⟨o, e, r⟩ := R.obj
  exact { R with obj := ⟨o, at_ o e, r⟩, mem := mem }
def set0 (w : World) : Obj := { cls := .type "set", dict := none, data := .set #[] 0 (.fresh 0 0 (!w.params.followText "set-order")) }
theorem SK.zero {h : Heap} {a : Addr} (e : h.get? a = some (set0 w)) : SK P w h a [] #[] 0 (.fresh 0 0 (!w.params.followText "set-order")) where
  obj := ⟨_, e, ⟨rfl, rfl, rfl⟩, rfl⟩
  es_ := rfl
  tb := ⟨.nil, rfl, rfl, .inl rfl, fun _ m => (nomatch m), fun i h j hi => (nomatch hi)⟩
  nd := .nil
  mem := fun _ m => nomatch m
  led := by
    show _ ∨ (!w.params.followText "set-order") = true
    cases w.params.followText "set-order" <;> simp
  rm := by
    show 0 * 5 < 7 * 3
    decide
  lt := by decide
/-- set.update, item by item -/
theorem fill {I : Addr} {fp wr : List Addr} {G : Array GenState → Array GenState → Prop} {n : Nat} {Pv : Nat → Value → Prop} {St : Nat → Shared → Prop} {R : Result → Shared → Prop} (W : WalksS P w A.in1 I fp wr G n Pv St) (S : Addr) (nS : S ∉ fp)
    (ks : List Mb) (en : n = ks.length) (few : Few ks) (val : ∀ i v, Pv i v → ∃ q, ks[i]? = some q ∧ v = .ref q.1) (h0 : Heap) (hk : ∀ q ∈ ks, TAt P w h0 q.2 q.1) (z0 : h0.get? S = none) (zw : ∀ b ∈ wr, h0.get? b = none) (hu : A.in1.units < cLine) :
    ∀ (m i : Nat) (s : Shared), n - i = m → i ≤ n → St i s → (∀ b o, h0.get? b = some o → s.heap.get? b = some o) → (∃ L es ep t, SK P w s.heap S L es ep t ∧ Took (ks.take i) L) →
      (∀ s' L es ep t, Moved (S :: wr) G s s' → SK P w s'.heap S L es ep t → Took ks L → (∀ b o, h0.get? b = some o → s'.heap.get? b = some o) → R (.ok (.ret .none)) s') →
      codeAny (model P w) A (.builtin "set.update.loop" ⟨[.ref S, .ref I], []⟩) R s := by
  have nw : S ∉ wr := fun h => nS (W.sub _ h)
  have more : ∀ b ∈ wr, b ∈ S :: wr := fun b h => List.mem_cons_of_mem _ h
  have on : ∀ {u u' : Shared}, Moved wr G u u' → (∀ b o, h0.get? b = some o → u.heap.get? b = some o) → ∀ b o, h0.get? b = some o → u'.heap.get? b = some o := fun mv k b o e => mv.heap b o (fun h => nomatch (zw b h).symm.trans e) (k b o e)
  intro m
  induction m with
  | zero =>
    rintro i s em le st kp ⟨L, es, ep, t, R0, g⟩ hR
    obtain rfl : i = n := by omega
    refine codeAny_builtin F.entry_set_update_loop ?_
    rw [Around.under_plainId F.plain_set_update_loop _]
    show wpAny _ A.in1 (pyNext (.ref I) >>= _) _ _ s
    refine wpAny_bind (W.done s _ _ st fun s' mv => ?_)
    show wpAny _ A.in1 (ret Value.none) _ _ s'
    have kp' := on mv kp
    rw [en, List.take_length] at g
    exact wpAny_pure (hR s' L es ep t (mv.mono more) (R0.keep (fun o e => mv.heap S o nw e) fun q h => (hk q (g.sub q h)).grow kp') g kp')
  | succ m ih =>
    rintro i s em le st kp ⟨L, es, ep, t, R0, g⟩ hR
    have il : i < n := by omega
    refine codeAny_builtin F.entry_set_update_loop ?_
    rw [Around.under_plainId F.plain_set_update_loop _]
    show wpAny _ A.in1 (pyNext (.ref I) >>= _) _ _ s
    refine wpAny_bind (W.item i s _ _ il st fun v s' pv st' mv => ?_)
    obtain ⟨⟨x, k⟩, ex, rfl⟩ := val i v pv
    have kp' := on mv kp
    have sub : ∀ q ∈ L, q ∈ ks := fun q h => List.mem_of_mem_take (g.sub q h)
    have R1 : SK P w s'.heap S L es ep t := R0.keep (fun o e => mv.heap S o nw e) fun q h => (hk q (sub q h)).grow kp'
    have hx : TAt P w s'.heap k x := (hk (x, k) (List.mem_of_getElem? ex)).grow kp'
    show wpAny _ A.in1 (holding [Value.ref x] (setAdd S (.ref x)) >>= _) _ _ s'
    refine wpAny_bind (wpAny_holding ?_)
    unfold setAdd
    refine wpAny_holding (wpAny_bind (wpAny_pyHash_tuple hu hx ?_))
    have fin : ∀ (h' : Heap) (L' : List Mb) es' ep' t', Heap.SameBut S s'.heap h' → SK P w h' S L' es' ep' t' → Took (ks.take (i + 1)) L' →
        codeAny (model P w) A (.builtin "set.update.loop" ⟨[.ref S, .ref I], []⟩) R { s' with heap := h', toks := s'.toks + (k.length + 1) } := fun h' L' es' ep' t' sb R2 g' => by
      refine ih (i + 1) _ (by omega) il (W.frame _ s' _ _ st' (Nat.le_add_right _ _) fun b hb o e => ?_) (fun b o e => ?_) ⟨L', es', ep', t', R2, g'⟩ fun s2 L2 es2 ep2 t2 mv2 R3 g2 kp2 => ?_
      · exact (sb.2 b fun z : b = S => nS (z ▸ hb)).trans e
      · exact (sb.2 b fun z : b = S => nomatch (z ▸ z0).symm.trans e).trans (kp' b o e)
      · refine hR s2 L2 es2 ep2 t2 (Moved.trans W.gtrans ((mv.mono more).then_heap (Nat.le_add_right _ _) fun b o hb e => ?_) mv2) R3 g2 kp2
        exact (sb.2 b fun z : b = S => hb (z ▸ List.mem_cons_self ..)).trans e
    refine SK.add (s := { s' with toks := s'.toks + (k.length + 1) }) R1 hx hu (fun nm => ?_) (fun hm => ?_) fun h' L' es' ep' t' nm sb R2 pm => ?_
    · have := few (k :: L.map Prod.snd) (List.nodup_cons.mpr ⟨nm, R1.nd⟩) fun k' m' => by
        rcases List.mem_cons.mp m' with rfl | m'
        · exact List.mem_map.mpr ⟨_, List.mem_of_getElem? ex, rfl⟩
        · obtain ⟨q, mq, rfl⟩ := List.mem_map.mp m'
          exact List.mem_map.mpr ⟨q, sub q mq, rfl⟩
      rw [List.length_cons, List.length_map] at this
      exact this
    · refine wpAny_pure ⟨plainId_quiet F.plain_set_update_loop _, ?_⟩
      exact fin s'.heap L es ep t (Heap.SameBut.refl S s'.heap) R1 (by
        rw [take_at ex]
        exact g.old hm)
    · refine wpAny_pure ⟨plainId_quiet F.plain_set_update_loop _, ?_⟩
      exact fin h' L' es' ep' t' sb R2 (by
        rw [take_at ex]
        exact g.new pm)
/-- set(xs), xs a list of tuples of ints and texts -/
theorem set_of {l : Addr} {its : Array Value} (ks : List Mb) {Q : Value → Shared → Prop} (hh : A.handled = none) (hl : s.heap.IsList l its) (ei : its.toList = ks.map fun q => Value.ref q.1) (hk : ∀ q ∈ ks, TAt P w s.heap q.2 q.1) (few : Few ks) (hu : A.units + 3 < cLine)
    (h : ∀ (h' : Heap) (tk : Nat) L es ep t, SK P w h' s.heap.objs.size L es ep t → Took ks L → (∀ b o, s.heap.get? b = some o → h'.get? b = some o) → Q (.ref s.heap.objs.size) { s with heap := h', toks := tk }) :
    wpAny (model P w) A (call (.type "set") [.ref l]) Q E s := by
  have zi : its.size = ks.length := by
    rw [← Array.length_toList, ei]
    exact List.length_map ..
  obtain ⟨c, tl, mro⟩ := F.called_set.mro
  have made := F.called_set.made
  have sub := F.called_set.sub
  refine wpAny_call (codeAny_of_tree ?_)
  show wpAny _ _ (callAny (.type "set") _) _ _ _
  refine wpAny_pure ⟨Code.quiet_builtin _ (by decide +kernel), codeAny_builtin F.entry_type_call ?_⟩
  rw [Around.under_plain (weight_type_call_type "set" [.ref l] []) rfl]
  have h1 := F.called_set.notType
  have h2 := F.called_set.canCreate
  have h3 := F.typeCall_set_1 (.ref l)
  repeat (any_goals (first | assumption | wp_step))

  refine codeAny_mono (code_set_led1 (.ref l) (E := E) (Q₁ := fun o s1 => o = .ref s.heap.objs.size ∧ s1 = { s with heap := s.heap.push (set0 w) }) ⟨rfl, rfl⟩) fun r s1 hr => ?_
  cases r with
  | error e => exact hr
  | ok fl =>
    cases fl with
    | ret o =>
      obtain ⟨rfl, rfl⟩ := hr
      have gS : (s.heap.push (set0 w)).get? s.heap.objs.size = some (set0 w) := Heap.get?_push_size _ rfl
      have tS : Shared.TypeIs { s with heap := s.heap.push (set0 w) } (.ref s.heap.objs.size) "set" := ⟨_, gS, rfl⟩
      have li := F.called_set.init.lookup
      have bi := F.called_set.init.bind (.ref s.heap.objs.size)
      repeat (any_goals (first | assumption | wp_step))

      refine codeAny_mono (codeAny_call_builtin (R := wants (fun r s2 => r = .none ∧ ∃ h' tk L es ep t, s2 = { s with heap := h', toks := tk } ∧ SK P w h' s.heap.objs.size L es ep t ∧ Took ks L ∧ (∀ b o, s.heap.get? b = some o → h'.get? b = some o)) E) F.called_set.init.plain F.entry_set_init (check_set_init_1 tS ?_)) fun r2 s2 hr2 => ?_
      · obtain ⟨⟨ol, dl, tl', sl⟩, eo, cl, nl, el⟩ := hl
        simp only at cl el
        subst cl el
        have eo' : (s.heap.push (set0 w)).get? l = some { cls := .type "list", dict := dl, data := .seq its nl, slots := sl } := Heap.get?_push_of_some _ eo
        have s1 := F.sub_list_set
        have s2 := F.sub_list_frozenset
        have ne : (Value.type "list" == Value.type "dict") = false := by decide
        have hl1 : (s.heap.push (set0 w)).IsList l its := ⟨_, eo', rfl, nl, rfl⟩
        unfold Builtin.«set.__init__» noKeywords Builtin.Frozenset.updateFrom
        generalize hPI : pyIter = PI
        wp_walk
        subst hPI

        refine wpAny_pyIter_list hl1 (wpAny_bind (wpAny_runValue ?_))
        have ls : l < s.heap.objs.size := Heap.lt_size eo
        have h3' : A.in1.in1.in1.handled = none := by simp [hh]
        have zp : (s.heap.push (set0 w)).objs.size = s.heap.objs.size + 1 := Heap.size_push ..
        have nI : l ≠ (s.heap.push (set0 w)).objs.size := by
          rw [zp]
          exact Nat.ne_of_lt (Nat.lt_succ_of_lt ls)
        have nS : s.heap.objs.size ∉ [(s.heap.push (set0 w)).objs.size, l] := by
          rw [zp]
          simp only [List.mem_cons, List.not_mem_nil, or_false, not_or]
          exact ⟨Nat.ne_of_lt (Nat.lt_succ_self _), Nat.ne_of_gt ls⟩
        have val : ∀ (i : Nat) (v : Value), its[i]? = some v → ∃ q, ks[i]? = some q ∧ v = .ref q.1 := fun i v e => by
          rw [← Array.getElem?_toList, ei, List.getElem?_map] at e
          obtain ⟨q, e1, e2⟩ := Option.map_eq_some_iff.mp e
          exact ⟨q, e1, e2.symm⟩
        have non : ∀ b, s.heap.objs.size ≤ b → s.heap.get? b = none := fun b hb => by
          cases q : s.heap.get? b with
          | none => rfl
          | some o =>
            exact absurd (Nat.lt_of_lt_of_le (Heap.lt_size q) hb) (Nat.lt_irrefl _)
        refine fill ((Walks.list h3' _ l nI its).toS) s.heap.objs.size nS ks zi few val s.heap hk (non _ (Nat.le_refl _)) (fun b hb => non b ?_) hu (its.size - 0) 0 _ rfl (Nat.zero_le _)
          ⟨⟨_, Heap.get?_push_size _ rfl, rfl, rfl⟩, (hl1.push _)⟩ (fun b o e => Heap.get?_push_of_some _ (Heap.get?_push_of_some _ e)) ?_ ?_
        · rw [List.mem_singleton.mp hb, zp]
          exact Nat.le_succ _
        · exact ⟨[], #[], 0, _, SK.zero (Heap.get?_push_of_some _ gS), Took.nil⟩
        · rintro ⟨h', g2, d2, tk, o2⟩ L es ep t mv R g kp
          obtain rfl : g2 = s.gens := mv.gens
          obtain rfl : d2 = s.drawn := mv.drawn
          obtain rfl : o2 = s.os := mv.os
          show wpAny _ _ _ _ _ _
          refine wpAny_pure ?_
          show wpAny _ _ (ret Value.none) _ _ _
          exact wpAny_pure ⟨rfl, h', tk, L, es, ep, t, rfl, R, g, kp⟩

      · cases r2 with
        | error e => exact hr2
        | ok fl2 =>
          cases fl2 with
          | ret r =>
            obtain ⟨rfl, h', tk, L, es, ep, t, rfl, R, g, kp⟩ := hr2
            repeat (any_goals (first | assumption | wp_step))
            exact h _ _ _ _ _ _ R g kp
          | _ => exact hr2.elim
    | _ => exact hr.elim
end
end WL
end L2
set_option Elab.async false
set_option linter.all false
set_option maxRecDepth 100000
set_option maxHeartbeats 4000000
namespace L2
namespace WL
open PySem PySem.Spec PyProof.Rows K1
/-! sorting tuples, the empty one among them or not -/
section
open PySem.W PySem.SeqAt PySem.Calls
variable {prog : Program} {w : World} {A : Around} {E : Value → Shared → Prop} {s : Shared}
theorem lt_tups {xs ys : List PyData} {a b : Value} {as bs : List Addr} {f : Bool} {Q : Bool → Shared → Prop} (ra : Reads s.heap a (.tuple xs) as) (rb : Reads s.heap b (.tuple ys) bs) (hal : alike (.tuple xs) (.tuple ys) = true)
    (hu : A.units + min (PyData.tuple xs).depth (PyData.tuple ys).depth < cLine) (hq : Q (dataLt (.tuple xs) (.tuple ys)) s) : wpAny (model prog w) A (oneLt' f a b) Q E s := by
  cases f with
  | false => exact oneLt_alike (fun z => nomatch z) ra rb hal (fun z => nomatch z) hu hq
  | true =>
    have al : alikeAll xs ys = true := by simpa [alike] using hal
    cases ra with
    | @tuple l o vs n _ as₁ h1 h2 h3 h4 =>
      cases rb with
      | @tuple l' o' vs' n' _ bs₁ k1 k2 k3 k4 =>
        have n1 : vs.size = xs.length := by simpa using ReadsAll.length _ _ _ h4
        have n2 : vs'.size = ys.length := by simpa using ReadsAll.length _ _ _ k4
        rw [dataLt_tuple, ← firstLt_toks xs ys al, ← n1, ← n2] at hq
        obtain ⟨cls, dd, data, sl⟩ := o
        obtain ⟨cls', dd', data', sl'⟩ := o'
        simp only at h2 h3 k2 k3
        subst h2 h3 k2 k3
        rw [oneLt'_eq]
        simp only [if_true]
        refine wpAny_bind (wpAny_cRoomFor (room_here hu) ?_)
        refine wpAny_bind (wpAny_callSpecialIfBound?_slot ⟨_, h1, rfl⟩ F.slot_tuple_lt (call_meets F.slot_tuple_lt ⟨_, h1, rfl⟩ F.entry_tuple_lt (F.args_tuple_lt_2 _ _)
          (tuple_ltAt l l' vs vs' n n' dd dd' sl sl' (pairEq xs ys) (fun j => dataLt (xs.getD j .none) (ys.getD j .none))) ⟨h1, k1, fun j j1 j2 => ?_, fun j j1 j2 hj => ?_, ?_⟩))
        · have := eqAt_alikeAll xs ys A.in1 s vs.toList vs'.toList _ _ h4 k4 al (room_in hu) j (by simpa using j1) (by simpa using j2)
          simpa using this
        · have := rcLt_alikeAll xs ys A.in1 s vs.toList vs'.toList _ _ h4 k4 al (room_in hu) j (by simpa using j1) (by simpa using j2) hj
          simpa using this
        · exact wpAny_truthy_bool hq
/-- a tuple with an item -/
def hasOne : PyData → Bool
  | .tuple (_ :: _) => true
  | _ => false
theorem firsts_run : ∀ {vs : List Value} {ds : List PyData} {Q : List (Option Value) → Shared → Prop}, EachIs (fun v d => ∃ as, Reads s.heap v d as) vs ds → (∀ d ∈ ds, ∃ xs, d = .tuple xs) →
    (∀ fs : List (Option Value), fs.map Option.isSome = ds.map hasOne → Q fs s) → wpAny (model prog w) A (vs.mapM firstOfTuple') Q E s
  | _, _, Q, .nil, _, h => by
    rw [List.mapM_nil]
    exact wpAny_pure (h [] rfl)
  | v :: vs, d :: ds, Q, .cons ⟨as, r⟩ e, ht, h => by
    obtain ⟨xs, rfl⟩ := ht d (List.mem_cons_self ..)
    rw [List.mapM_cons]
    refine wpAny_bind ?_
    cases r with
    | @tuple l o us n _ as₁ h1 h2 h3 h4 =>
      rw [kas_first_eq]
      refine wpAny_bind (Looks.here (show Looks (model prog w) s.heap (typeOf (.ref l)) o.cls from (Looks.ld h1).andThen .now) ?_)
      rw [h2, if_neg (by first | decide | simp)]
      refine wpAny_bind (listItems_at h1 h3 (wpAny_pure ?_))
      refine wpAny_bind (firsts_run e (fun d m => ht d (List.mem_cons_of_mem _ m)) fun fs hf => wpAny_pure (h _ ?_))
      rw [List.map_cons, List.map_cons, hf]
      refine congrArg (· :: _) ?_
      have n1 : us.size = xs.length := by simpa using ReadsAll.length _ _ _ h4
      cases xs with
      | nil =>
        have : us = #[] := Array.eq_empty_of_size_eq_zero n1
        rw [this]
        rfl
      | cons x xs =>
        have : 0 < us.size := by
          rw [n1]
          exact Nat.succ_pos _
        rw [Array.getElem?_eq_getElem this]
        rfl
theorem types_tup {vs : List Value} {ds : List PyData} (e : EachIs (fun v d => ∃ as, Reads s.heap v d as) vs ds) (ht : ∀ d ∈ ds, ∃ xs, d = .tuple xs) : ∀ v ∈ vs, Looks (model prog w) s.heap (typeOf v) (.type "tuple") := fun v m => by
  obtain ⟨d, md, as, r⟩ := e.left v m
  obtain ⟨xs, rfl⟩ := ht d md
  exact looks_reads r
/-- what a sort of tuples goes by, the empty one being among them -/
theorem kind_tups {vs : List Value} {d : PyData} {ds : List PyData} (e : EachIs (fun v d => ∃ as, Reads s.heap v d as) vs (d :: ds)) (ht : ∀ d' ∈ d :: ds, ∃ xs, d' = .tuple xs) (hn : ∃ d' ∈ d :: ds, hasOne d' = false) {Q : SortKind → Shared → Prop}
    (h : Q (if hasOne d = true then general' else oneType') s) : wpAny (model prog w) A (keyKind' vs.toArray) Q E s := by
  rw [kat_kind_eq, List.mapM_toArray, map_eq_pure_bind]
  refine wpAny_bind (wpAny_bind (firsts_run e ht fun fs hf => wpAny_pure ?_))
  have na : ¬ (fs.toArray.all fun x => x.isSome) = true := fun z => by
    rw [List.all_toArray, List.all_eq_true] at z
    obtain ⟨d', m, hd⟩ := hn
    have : hasOne d' ∈ fs.map Option.isSome := by
      rw [hf]
      exact List.mem_map.mpr ⟨d', m, rfl⟩
    obtain ⟨f, mf, ef⟩ := List.mem_map.mp this
    rw [z f mf, hd] at ef
    cases ef
  rw [if_neg na]
  obtain ⟨f, fr, rfl⟩ : ∃ f fr, fs = f :: fr := by
    cases fs with
    | nil => cases hf
    | cons f fr => exact ⟨f, fr, rfl⟩
  have ef : f.isSome = hasOne d := (List.cons.inj hf).1
  have e0 : (((f :: fr).toArray[0]?).bind id).isSome = hasOne d := by
    rw [← ef]
    rfl
  by_cases hd : hasOne d = true
  · rw [if_pos (by rw [e0]; exact hd)]
    rw [if_pos hd] at h
    exact wpAny_pure h
  · rw [if_neg (by rw [e0]; exact hd)]
    rw [if_neg hd] at h
    rw [oneTypeOnly'_eq, List.mapM_toArray, map_eq_pure_bind]
    refine wpAny_bind (wpAny_bind (wpAny_bind (kas_mapM (r := Value.type "tuple") _ (fun v hv Q' hq => (types_tup e ht v hv).here hq) (wpAny_pure ?_))))
    obtain ⟨v0, vr, rfl⟩ : ∃ v0 vr, vs = v0 :: vr := by
      cases e
      exact ⟨_, _, rfl⟩
    have a2 : ((List.map (fun _ => Value.type "tuple") (v0 :: vr)).toArray.all fun x => x == Value.type "tuple") = true := by
      simp only [List.all_toArray, List.all_map, List.all_eq_true]
      intro _ _
      exact beq_self_eq_true (Value.type "tuple")
    have z0 : (List.map (fun _ => Value.type "tuple") (v0 :: vr)).toArray[0]? = some (Value.type "tuple") := by simp
    rw [z0]
    simp only [a2, if_true]
    exact wpAny_pure (wpAny_pure h)
theorem sorts_tups {vs : List Value} {ds : List PyData} (e : EachIs (fun v d => ∃ as, Reads s.heap v d as) vs ds) (hal : AllAlike ds) (ht : ∀ d ∈ ds, ∃ xs, d = .tuple xs) (hu : ∀ d ∈ ds, A.units + d.depth < cLine) : SortsAt prog w A s (dataKind s.heap ds) vs := by
  by_cases hn : ∃ d' ∈ ds, hasOne d' = false
  · refine ⟨fun v hv => ?_, ?_⟩
    · obtain ⟨d, hd, as, r⟩ := e.left v hv
      exact ⟨_, dataKind_some hal hd r⟩
    · cases ds with
      | nil =>
        obtain ⟨_, m, _⟩ := hn
        cases m
      | cons d0 ds =>
        refine ⟨if hasOne d0 = true then general' else oneType', ?_, fun _ E Q hq => kind_tups e ht hn hq⟩
        intro E x y a b Q ha hb hq
        obtain ⟨d, as, hd, ra, rfl⟩ := dataKind_inv ha
        obtain ⟨d', as', hd', rb, rfl⟩ := dataKind_inv hb
        have hdd := hal d hd d' hd'
        have room : A.units + min d.depth d'.depth < cLine := Nat.lt_of_le_of_lt (Nat.add_le_add_left (Nat.min_le_left _ _) _) (hu d hd)
        obtain ⟨xs, rfl⟩ := ht d hd
        obtain ⟨ys, rfl⟩ := ht d' hd'
        by_cases z : hasOne d0 = true
        · rw [if_pos z]
          exact lt_tups (f := false) ra rb hdd room hq
        · rw [if_neg z]
          exact lt_tups (f := true) ra rb hdd room hq
  · refine SortsAt.data e hal (.inl fun d hd => ?_) hu
    obtain ⟨xs, rfl⟩ := ht d hd
    cases xs with
    | nil => exact absurd ⟨_, hd, rfl⟩ hn
    | cons x r => exact ⟨x, r, rfl⟩
end
end WL
end L2
set_option Elab.async false
set_option linter.all false
set_option maxRecDepth 100000
set_option maxHeartbeats 4000000
namespace L2
namespace WL
open PySem PySem.Spec PyProof.Rows K1
/-! the set of tuples as a known object; set(list of tuples), sorted(set) -/
structure S0 (P : Program) (w : World) (h : Heap) (a : Addr) (L : List Mb) : Prop where
  ex : ∃ (es : Array (Int × Value)) (ep : Nat) (t : SetTable), (∃ o, h.get? a = some o ∧ o.ExactSet ∧ o.data = .set es ep t) ∧ es.toList = ents P w L ∧ TabOk t (hss P w L) ∧ (w.params.followText "set-order" = true ∨ t.led = true) ∧ L.length * 5 < t.mask * 3
  nd : (L.map Prod.snd).Nodup
  lt : L.length < 64
def SO (P : Program) (w : World) (a : Addr) (L : List Mb) : HO := .ext fun h => S0 P w h a L
theorem SK.s0 {P : Program} {w : World} {h : Heap} {a : Addr} {L : List Mb} {es : Array (Int × Value)} {ep : Nat} {t : SetTable} (R : SK P w h a L es ep t) : S0 P w h a L := ⟨⟨es, ep, t, R.obj, R.es_, R.tb, R.led, R.rm⟩, R.nd, R.lt⟩
theorem S0.full {P : Program} {w : World} {h : Heap} {a : Addr} {L : List Mb} (R : S0 P w h a L) (mem : ∀ q ∈ L, TAt P w h q.2 q.1) : ∃ es ep t, SK P w h a L es ep t := by
  obtain ⟨es, ep, t, h1, h2, h3, h4, h5⟩ := R.ex
  exact ⟨es, ep, t, h1, h2, h3, R.nd, mem, h4, h5, R.lt⟩
theorem SO_new {P : Program} {w : World} {H : Hp} {h : Heap} {a : Addr} {L : List Mb} (R : S0 P w h a L) : ObjOk P w H h a (SO P w a L) := by
  obtain ⟨es, ep, t, ⟨o, ho, r⟩, -⟩ := id R.ex
  refine ⟨R, ⟨o, ho⟩, fun h1 h2 p k => ?_⟩
  have p : S0 P w h1 a L := p
  obtain ⟨es', ep', t', ⟨o', ho', r'⟩, q'⟩ := p.ex
  exact ⟨⟨es', ep', t', ⟨o', k o' ho', r'⟩, q'⟩, p.nd, p.lt⟩
theorem perm_back {α β : Type} {f : α → β} {vs m : List β} (p : vs.Perm m) : ∀ L : List α, m = L.map f → ∃ L1 : List α, L1.Perm L ∧ vs = L1.map f := by
  induction p with
  | nil =>
    intro L e
    cases L with
    | nil => exact ⟨[], .refl _, rfl⟩
    | cons _ _ => cases e
  | cons x _ ih =>
    intro L e
    cases L with
    | nil => cases e
    | cons a L =>
      obtain ⟨e1, e2⟩ := List.cons.inj e
      obtain ⟨L1, h1, h2⟩ := ih L e2
      exact ⟨a :: L1, h1.cons a, by rw [h2, e1]; rfl⟩
  | swap x y l =>
    intro L e
    match L, e with
    | a :: b :: L, e =>
      obtain ⟨e1, e2⟩ := List.cons.inj e
      obtain ⟨e2, e3⟩ := List.cons.inj e2
      exact ⟨b :: a :: L, .swap a b L, by rw [e1, e2, e3]; rfl⟩
  | trans _ _ ih1 ih2 =>
    intro L e
    obtain ⟨L2, h2, e2⟩ := ih2 L e
    obtain ⟨L1, h1, e1⟩ := ih1 L2 e2
    exact ⟨L1, h1.trans h2, e1⟩
/-- a key as data -/
def kD : Key → PySem.PyData
  | .inl n => .int n
  | .inr x => .str x
def kDs (k : KL) : PySem.PyData := .tuple (k.map kD)
theorem reads_keys {P : Program} {w : World} {h : Heap} {k : KL} {vs : List Value} (x : ItemsAre (mixKind P w) k vs) : ∃ as, PySem.ReadsAll h vs (k.map kD) as := by
  induction x with
  | nil => exact ⟨[], .nil⟩
  | cons r _ ih =>
    obtain ⟨as, ih⟩ := ih
    rcases keyIs_shape r with ⟨n, t, e, rfl⟩ | ⟨z, t, e, rfl⟩
    · subst e
      exact ⟨_, .cons (.int _ _) ih⟩
    · subst e
      exact ⟨_, .cons (.str _ _) ih⟩
theorem TAt.reads {P : Program} {w : World} {h : Heap} {k : KL} {b : Addr} (x : TAt P w h k b) : ∃ as, PySem.Reads h (.ref b) (kDs k) as := by
  obtain ⟨o, its, n, e, c, d, r⟩ := x
  obtain ⟨as, r⟩ := reads_keys (h := h) r
  exact ⟨as, .tuple e c d r⟩
theorem depth_keys : ∀ k : KL, PySem.PyData.depthAll (k.map kD) = 0
  | [] => by simp [PySem.PyData.depthAll]
  | x :: k => by
    show PySem.PyData.depthAll (kD x :: k.map kD) = 0
    rw [PySem.PyData.depthAll, depth_keys k]
    cases x <;> simp [kD, PySem.PyData.depth]
theorem depth_kDs (k : KL) : (kDs k).depth = 1 := by
  unfold kDs
  rw [PySem.PyData.depth, depth_keys]
theorem alike_texts : ∀ k k' : List Str, PySem.W.alikeAll ((k.map Sum.inr : KL).map kD) ((k'.map Sum.inr : KL).map kD) = true
  | [], _ => by simp [PySem.W.alikeAll]
  | _ :: _, [] => by simp [PySem.W.alikeAll]
  | x :: k, y :: k' => by
    show PySem.W.alikeAll (.str x :: _) (.str y :: _) = true
    rw [PySem.W.alikeAll, alike_texts k k']
    simp [PySem.W.alike]
theorem reads_each {P : Program} {w : World} {h : Heap} : ∀ {L : List Mb}, (∀ q ∈ L, TAt P w h q.2 q.1) → PySem.W.EachIs (fun v d => ∃ as, PySem.Reads h v d as) (L.map fun q => Value.ref q.1) (L.map fun q => kDs q.2)
  | [], _ => .nil
  | q :: L, m => .cons (m q (List.mem_cons_self ..)).reads (reads_each fun q' h' => m q' (List.mem_cons_of_mem _ h'))
theorem sortVals_perm (κ : PyProof.Rows.KeyKind) (vs : List Value) : (PySem.W.sortVals κ false vs vs).Perm vs := by
  unfold PySem.W.sortVals
  refine ((List.mergeSort_perm _ _).map Prod.snd).trans ?_
  rw [List.map_snd_zip (Nat.le_refl _)]
def mbV (q : Mb) : V := .ref q.1
theorem mbs_vals : ∀ {ks : List Mb} {us : List Value}, Vals (ks.map mbV) us → us = ks.map fun q => Value.ref q.1
  | [], _, .nil => rfl
  | q :: ks, _, .cons r t => by
    have r : _ = Value.ref q.1 := r
    rw [r, mbs_vals t]
    rfl
theorem vals_mbs : ∀ ks : List Mb, Vals (ks.map mbV) (ks.map fun q => Value.ref q.1)
  | [] => .nil
  | q :: ks => .cons rfl (vals_mbs ks)
section
variable {X : Cx}
/-- set(xs), xs a list of tuples of ints and texts -/
def rSetT (K : PySem.W.Frag) (P : Program) (w : World) : List V → Hp → VK → Prop := fun xs H Q => ∃ (l : Addr) (ks : List Mb), xs = [.ref l] ∧ SqL K H l (ks.map mbV) ∧ (∀ q ∈ ks, H q.1 = some (.tup (q.2.map kV))) ∧ Few ks ∧
  ∀ a L, H a = none → Took ks L → (L.map Prod.snd).Nodup → L.length < 64 → Q (.ref a) (upd H a (SO P w a L))
theorem cr_setT (hc : X.calm = true) (hu : X.A.units + 64 < cLine) : CallR X (.type "set") (rSetT X.K X.prog X.w) := by
  intro pins s σ H xs us Q I r h
  obtain ⟨l, ks, rfl, hl, hk, few, q⟩ := h
  rw [Vals.ref1 r]
  obtain ⟨its, rv, pl, -⟩ := I.list hl
  refine set_of (P := X.prog) (w := X.w) ks (I.ok.hd hc) pl.isList (by simpa using mbs_vals rv) (fun q m => key_of I.hok (hk q m)) few (by omega) fun h' tk L es ep t R g k => ?_
  exact ⟨.ref s.heap.objs.size, _, I.laid (t' := tk) k (Nat.le_refl _) (SO_new R.s0), rfl, q _ L (I.hok.fresh (Nat.le_refl _)) g R.nd R.lt⟩
/-- sorted(a set of tuples of texts) -/
def rSortS (P : Program) (w : World) : List V → Hp → VK → Prop := fun xs H Q => ∃ (a : Addr) (L : List Mb), xs = [.ref a] ∧ H a = some (SO P w a L) ∧ (∀ q ∈ L, H q.1 = some (.tup (q.2.map kV))) ∧ (∀ q ∈ L, ∃ ts : List Str, q.2 = ts.map Sum.inr) ∧
  ∀ (L' : List Mb) (p : Addr), L'.Perm L → H p = none → Q (.ref p) (upd H p (.lst (L'.map mbV)))
theorem cr_sortS (hc : X.calm = true) (hu : X.A.units + 64 < cLine) : CallR X (.builtin "sorted") (rSortS X.prog X.w) := by
  intro pins s σ H xs us Q I r h
  obtain ⟨a, L, rfl, ha, hk, ht, q⟩ := h
  have R0 : S0 X.prog X.w s.heap a L := (I.hok a _ ha).1
  obtain ⟨es, ep, t, R⟩ := R0.full fun q m => key_of I.hok (hk q m)
  obtain ⟨o, ho, hex, hd⟩ := R.obj
  have sz := R.sz
  have lt := R.lt
  rw [Vals.ref1 r]
  refine Calls.call_function_entry kind_sorted plain_sorted entry_sorted (args_sorted1 _) ?_
  unfold Builtin.«sorted»
  refine wpAny_bind (m := checkCount "sorted" 1 1 _) (wpAny_pure ?_)
  refine wpAny_bind (collect_set (A := X.A.in1) (I.ok.hd hc) ⟨o, ho, hex.1, hd⟩ R.fit (by unfold scanBound; omega) R.tb.ris R.led fun s1 vs k1 hz g1 o1 pm => ?_)
  have pm' : vs.Perm (L.map fun q => Value.ref q.1) := by
    rw [R.es_] at pm
    unfold ents at pm
    rw [List.map_map] at pm
    exact pm
  obtain ⟨L1, p1, rfl⟩ := perm_back pm' L rfl
  have l1 : L1.length < 64 := by
    rw [p1.length_eq]
    exact lt
  refine wpAny_bind (wpAny_newList ?_ (by rw [List.length_map, sizeLine_eq]; omega))
  have oL : (s1.heap.push (seqObj "list" (L1.map fun q => Value.ref q.1).toArray 0)).get? s1.heap.objs.size = some (seqObj "list" (L1.map fun q => Value.ref q.1).toArray 0) := Heap.get?_push_size _ rfl
  have big : ∀ b o, s1.heap.get? b = some o → (s1.heap.push (seqObj "list" (L1.map fun q => Value.ref q.1).toArray 0)).get? b = some o := fun b o e => Heap.get?_push_of_some _ e
  show wpAny _ _ _ _ _ { s1 with heap := s1.heap.push (seqObj "list" (L1.map fun q => Value.ref q.1).toArray 0) }
  generalize s1.heap.push (seqObj "list" (L1.map fun q => Value.ref q.1).toArray 0) = h2 at oL big ⊢
  have mem2 : ∀ q ∈ L1, TAt X.prog X.w (PySem.W.sortingHeap h2 s1.heap.objs.size (L1.map fun q => Value.ref q.1)) q.2 q.1 := fun q m => by
    have kq : TAt X.prog X.w s.heap q.2 q.1 := key_of I.hok (hk q (p1.mem_iff.mp m))
    refine kq.grow fun b o e => ?_
    have e1 := k1 b o e
    exact PySem.W.sortingHeap_old (Nat.ne_of_lt (Heap.lt_size e1)) (big b o e1)
  refine wpAny_bind (wpAny_holding (wpAny_call_entry slot_list_sort ⟨_, oL, rfl⟩ entry_list_sort (PySem.W.list_sort_vals (s := { s1 with heap := h2 }) (κ := PySem.W.dataKind (PySem.W.sortingHeap h2 s1.heap.objs.size (L1.map fun q => Value.ref q.1)) (L1.map fun q => kDs q.2)) oL
    (sorts_tups (s := { s1 with heap := PySem.W.sortingHeap h2 s1.heap.objs.size (L1.map fun q => Value.ref q.1) }) (reads_each mem2) (fun d m d' m' => ?_) (fun d m => ?_) fun d m => ?_) (by rw [List.length_map, sizeLine_eq]; omega) ⟨.none, rfl, ?_⟩) (args_list_sort _)))
  · obtain ⟨q, mq, rfl⟩ := List.mem_map.mp m
    obtain ⟨q', mq', rfl⟩ := List.mem_map.mp m'
    obtain ⟨ts, e⟩ := ht q (p1.mem_iff.mp mq)
    obtain ⟨ts', e'⟩ := ht q' (p1.mem_iff.mp mq')
    rw [e, e']
    have := alike_texts ts ts'
    simpa [kDs, PySem.W.alike] using this
  · obtain ⟨q, mq, rfl⟩ := List.mem_map.mp m
    exact ⟨_, rfl⟩
  · obtain ⟨q, mq, rfl⟩ := List.mem_map.mp m
    rw [depth_kDs]
    show X.A.units + 1 + 1 + 1 < cLine
    omega
  · have sp := sortVals_perm (PySem.W.dataKind (PySem.W.sortingHeap h2 s1.heap.objs.size (L1.map fun q => Value.ref q.1)) (L1.map fun q => kDs q.2)) (L1.map fun q => Value.ref q.1)
    obtain ⟨L2, p2, e2⟩ := perm_back sp L1 rfl
    rw [e2]
    obtain ⟨c, hc'⟩ := sortedHeap_at (vs := L1.map fun q => Value.ref q.1) (out := (L2.map fun q => Value.ref q.1).toArray) oL
    have pf := p2.trans p1
    have up : ∀ b o, s.heap.get? b = some o → (sortedHeap h2 s1.heap.objs.size (L1.map fun q => Value.ref q.1) (L2.map fun q => Value.ref q.1).toArray).get? b = some o := fun b o e => by
      have e1 := k1 b o e
      have e3 := big b o e1
      rw [sortedHeap_old (Nat.ne_of_lt (Heap.lt_size e1)) (Heap.lt_size e3)]
      exact e3
    have hn : H s1.heap.objs.size = none := I.hok.fresh hz
    have len : (L2.map mbV).length ≤ sizeLine := by
      rw [List.length_map, pf.length_eq, sizeLine_eq]
      omega
    generalize sortedHeap h2 s1.heap.objs.size (L1.map fun q => Value.ref q.1) (L2.map fun q => Value.ref q.1).toArray = hF at hc' up ⊢
    have J : Inv X pins σ (upd H s1.heap.objs.size (.lst (L2.map mbV))) { s with heap := hF, gens := s1.gens, drawn := s1.drawn, toks := s1.toks } :=
      I.call (ch := []) (Un.laid up hz hn) (I.hok.laid up hz ⟨len, _, c, vals_mbs L2, hc'⟩) (by rw [g1]; exact I.bare) (fun _ z => nomatch z)
    have e : ({ s1 with heap := hF } : Shared) = { s with heap := hF, gens := s1.gens, drawn := s1.drawn, toks := s1.toks } := by
      cases s1
      cases s
      cases o1
      rfl
    refine wpAny_pure ⟨_, rfl, ?_⟩
    show EP X pins σ Q (.ref s1.heap.objs.size) { s1 with heap := hF }
    rw [e]
    exact ⟨.ref s1.heap.objs.size, _, J, rfl, q L2 _ pf hn⟩
end
end WL
end L2
set_option Elab.async false
set_option linter.all false
set_option maxRecDepth 100000
set_option maxHeartbeats 4000000
namespace L2
namespace WL
open PySem PySem.Spec PyProof.Rows K1
/-! ### comprehensions whose items are new things; lots -/
theorem getD_snoc {ys : List V} {y z : V} {j n : Nat} (l : ys.length = n) (h : (ys ++ [y])[j]? = some z) : (ys[j]? = some z ∧ j < n) ∨ (j = n ∧ z = y) := by
  rcases Nat.lt_or_ge j ys.length with c | c
  · rw [List.getElem?_append_left c] at h
    exact .inl ⟨h, by omega⟩
  · rw [List.getElem?_append_right c] at h
    cases e : j - ys.length with
    | zero =>
      rw [e] at h
      exact .inr ⟨by omega, (Option.some.inj h).symm⟩
    | succ k =>
      rw [e] at h
      cases h
/-- [f(x) for x in either]: the i-th item stands in Rl i to what is told for it -/
theorem lc_rel {K : PySem.W.Frag} {v : V} {xs : List V} {g : TG} {te tl : TE} {vs : List Nat} {σ : St} {H : Hp} {Q : VK} (hq : Seq K H v xs) (he : ∀ Q : VK, Q v H → tl σ H Q) (hn : xs.length ≤ 1000) (Rl : Nat → V → Hp → Prop)
    (mono : ∀ (i : Nat) y H1 H2, Rl i y H1 → Same H1 H2 → Rl i y H2)
    (hs : ∀ i x H' D zs (Q' : VK), xs[i]? = some x → Same H H' → H D = none → H' D = some (.lst zs) → (∀ y H'', Same H' H'' → Rl i y (hide D H'') → Q' y H'') → g x (wipe σ vs) H' fun σ2 H2 => wipe σ2 vs = wipe σ vs ∧ te σ2 H2 Q')
    (hd : ∀ D H' ys, Same H H' → H D = none → H' D = some (.lst ys) → ys.length = xs.length → (∀ (i : Nat) y, ys[i]? = some y → Rl i y (hide D H')) → Q (.ref D) H') : tLc (iSeq K tl) g tYes te vs σ H Q := by
  have key : ∀ (J : It) (G : Hp → Prop) (w : Walk J xs.length G (YAt xs)) (hG : ∀ H', Same H H' → G H') (D : Addr), H D = none → ∃ W : Nat → Nat → Hp → Prop, (∃ m, W 0 m (upd H D (.lst []))) ∧ ∀ i m H, W i m H →
      (J.stop i H ∧ Q (.ref D) H) ∨ (J.go i H ∧ ∃ Nx : Hp → Prop, (∀ H', Nx H' → ∃ m', m' < m ∧ W (i + 1) m' H') ∧ ∀ x H', J.yld i H x H' → g x (wipe σ vs) H' fun σ2 H2 => wipe σ2 vs = wipe σ vs ∧ tYes σ2 H2 fun b H3 =>
        if b = true then te σ2 H3 fun y H4 => ∃ acc, H4 D = some (.lst acc) ∧ acc.length < sizeLine ∧ Nx (upd H4 D (.lst (acc ++ [y]))) else Nx H3) := by
    intro J G w hG D nD
    refine lc_it w (fun i H' => Same H H' ∧ ∃ ys, H' D = some (.lst ys) ∧ ys.length = i ∧ ∀ (j : Nat) y, ys[j]? = some y → Rl j y (hide D H')) ⟨same_upd nD, [], upd_same, rfl, fun j y h => by cases h⟩ (fun i H' _ p => hG H' p.1) (fun i x H' H'' hi p y => ?_) (fun H' p => ?_)
    · obtain ⟨rfl, hx⟩ := y
      obtain ⟨s1, ys, eD, ly, hy⟩ := p
      refine hs i x _ D ys _ hx s1 nD eD fun y H2 s2 ry => ?_
      refine ⟨ys, s2 _ _ eD, ?_, ?_, ys ++ [y], upd_same, ?_, fun j z hz => ?_⟩
      · rw [sizeLine_eq]
        omega
      · exact fun b u e => by
          rw [upd_ne (ne_of_none e nD)]
          exact s2 _ _ (s1 _ _ e)
      · rw [List.length_append, ly]
        rfl
      · rw [hide_updp]
        rcases getD_snoc ly hz with ⟨h, _⟩ | ⟨rfl, rfl⟩
        · exact mono _ _ _ _ (hy j z h) (hide_same s2)
        · exact ry
    · obtain ⟨s1, ys, eD, ly, hy⟩ := p
      exact hd D H' ys s1 nD eD ly hy
  obtain ⟨a, rfl, hq⟩ := hq
  rcases hq with hq | hq
  · exact he _ ⟨a, xs, rfl, .inl ⟨hq, key _ _ (walk_list (xs := xs)) fun H' s => s.seq hq⟩⟩
  · exact he _ ⟨a, xs, rfl, .inr ⟨hq, key _ _ (walk_tup (xs := xs)) fun H' s => SqT.same hq s⟩⟩
/-- some of the items, walked in any way -/
theorem lc_some {J : It} {n : Nat} {G : Hp → Prop} {Y : Nat → Hp → V → Hp → Prop} (w : Walk J n G Y) {g : TG} {tt : TT} {te : TE} {vs : List Nat} {σ : St} {H : Hp} {Q : VK} (hn : n ≤ 1000) (hG : ∀ H', Same H H' → G H') (kp : ∀ (i : Nat) H' x H'', Y i H' x H'' → Same H' H'') (p : Nat → Bool) (f : Nat → V)
    (hs : ∀ (i : Nat) x H' H'' (Z : V → Hp → Prop) (N : Hp → Prop), i < n → Same H H' → Y i H' x H'' → (p i = false → ∀ H3, Same H'' H3 → N H3) → (p i = true → ∀ H3, Same H'' H3 → Z (f i) H3) →
      g x (wipe σ vs) H'' fun σ2 H2 => wipe σ2 vs = wipe σ vs ∧ tt σ2 H2 fun b H3 => if b = true then te σ2 H3 Z else N H3)
    (hd : ∀ D H', Same H H' → H D = none → H' D = some (.lst (((List.range n).filter p).map f)) → Q (.ref D) H') (D : Addr) (nD : H D = none) :
    ∃ W : Nat → Nat → Hp → Prop, (∃ m, W 0 m (upd H D (.lst []))) ∧ ∀ i m H, W i m H →
      (J.stop i H ∧ Q (.ref D) H) ∨ (J.go i H ∧ ∃ Nx : Hp → Prop, (∀ H', Nx H' → ∃ m', m' < m ∧ W (i + 1) m' H') ∧ ∀ x H', J.yld i H x H' → g x (wipe σ vs) H' fun σ2 H2 => wipe σ2 vs = wipe σ vs ∧ tt σ2 H2 fun b H3 =>
        if b = true then te σ2 H3 fun y H4 => ∃ acc, H4 D = some (.lst acc) ∧ acc.length < sizeLine ∧ Nx (upd H4 D (.lst (acc ++ [y]))) else Nx H3) := by
  have step : ∀ i, ((List.range (i + 1)).filter p).map f = ((List.range i).filter p).map f ++ if p i = true then [f i] else [] := fun i => by
    rw [List.range_succ, List.filter_append, List.map_append]
    by_cases e : p i = true
    · rw [if_pos e, List.filter_cons_of_pos e]
      rfl
    · rw [if_neg e, List.filter_cons_of_neg e]
      rfl
  refine lc_it w (fun i H' => Same H H' ∧ H' D = some (.lst (((List.range i).filter p).map f))) ⟨same_upd nD, upd_same⟩ (fun i H' _ q => hG H' q.1) (fun i x H' H'' hi q y => ?_) (fun H' q => hd D H' q.1 nD q.2)
  obtain ⟨s1, eD⟩ := q
  have s2 := kp _ _ _ _ y
  refine hs i x H' H'' _ _ hi s1 y (fun e H3 s3 => ⟨s1.trans (s2.trans s3), ?_⟩) fun e H3 s3 => ⟨_, s3 _ _ (s2 _ _ eD), ?_, ?_, ?_⟩
  · rw [s3 _ _ (s2 _ _ eD), step, if_neg (by rw [e]; decide), List.append_nil]
  · rw [List.length_map, sizeLine_eq]
    have := List.length_filter_le p (List.range i)
    rw [List.length_range] at this
    omega
  · exact fun b u e => by
      rw [upd_ne (ne_of_none e nD)]
      exact s3 _ _ (s2 _ _ (s1 _ _ e))
  · rw [upd_same, step, if_pos e]
theorem lc_filt {K : PySem.W.Frag} {v : V} {xs : List V} {g : TG} {tt : TT} {te tl : TE} {vs : List Nat} {σ : St} {H : Hp} {Q : VK} (hq : Seq K H v xs) (he : ∀ Q : VK, Q v H → tl σ H Q) (hn : xs.length ≤ 1000) (p : Nat → Bool) (f : Nat → V)
    (hs : ∀ (i : Nat) x H' (Z : V → Hp → Prop) (N : Hp → Prop), xs[i]? = some x → Same H H' → (p i = false → ∀ H3, Same H' H3 → N H3) → (p i = true → ∀ H3, Same H' H3 → Z (f i) H3) →
      g x (wipe σ vs) H' fun σ2 H2 => wipe σ2 vs = wipe σ vs ∧ tt σ2 H2 fun b H3 => if b = true then te σ2 H3 Z else N H3)
    (hd : ∀ D H', Same H H' → H D = none → H' D = some (.lst (((List.range xs.length).filter p).map f)) → Q (.ref D) H') : tLc (iSeq K tl) g tt te vs σ H Q := by
  obtain ⟨a, rfl, hq⟩ := hq
  rcases hq with hq | hq
  · exact he _ ⟨a, xs, rfl, .inl ⟨hq, lc_some (walk_list (xs := xs)) hn (fun H' s => s.seq hq) (fun i H' x H'' y => y.1 ▸ Same.refl _) p f (fun i x H' H'' Z N _ s y n z => by
      obtain ⟨rfl, hx⟩ := y
      exact hs i x _ Z N hx s n z) hd⟩⟩
  · exact he _ ⟨a, xs, rfl, .inr ⟨hq, lc_some (walk_tup (xs := xs)) hn (fun H' s => SqT.same hq s) (fun i H' x H'' y => y.1 ▸ Same.refl _) p f (fun i x H' H'' Z N _ s y n z => by
      obtain ⟨rfl, hx⟩ := y
      exact hs i x _ Z N hx s n z) hd⟩⟩
/-- the same, numbered -/
theorem lc_enum {K : PySem.W.Frag} {v : V} {xs : List V} {g : TG} {tt : TT} {te : TE} {ta : TA} {vs : List Nat} {σ : St} {H : Hp} {Q : VK} (hq : Seq K H v xs) (he : ∀ Q : List V → Hp → Prop, Q [v] H → ta σ H Q) (hn : xs.length ≤ 1000) (p : Nat → Bool) (f : Nat → V)
    (hs : ∀ (i : Nat) x H' T (Z : V → Hp → Prop) (N : Hp → Prop), xs[i]? = some x → Same H H' → H' T = none → (p i = false → ∀ H3, Same (upd H' T (.tup [.int (i : Nat), x])) H3 → N H3) → (p i = true → ∀ H3, Same (upd H' T (.tup [.int (i : Nat), x])) H3 → Z (f i) H3) →
      g (.ref T) (wipe σ vs) (upd H' T (.tup [.int (i : Nat), x])) fun σ2 H2 => wipe σ2 vs = wipe σ vs ∧ tt σ2 H2 fun b H3 => if b = true then te σ2 H3 Z else N H3)
    (hd : ∀ D H', Same H H' → H D = none → H' D = some (.lst (((List.range xs.length).filter p).map f)) → Q (.ref D) H') : tLc (iEnumS K ta) g tt te vs σ H Q := by
  obtain ⟨a, rfl, hq⟩ := hq
  rcases hq with hq | hq
  · exact he _ ⟨a, xs, rfl, .inl ⟨hq, lc_some (walk_enum (xs := xs)) hn (fun H' s => s.seq hq) (fun i H' x H'' y => by
      obtain ⟨T, u, z, _, nT, rfl, _⟩ := y
      exact same_upd nT) p f (fun i x H' H'' Z N _ s y n z => by
      obtain ⟨T, u, z', rfl, nT, rfl, eu, ey⟩ := y
      obtain rfl : V.int (i : Nat) = u := Option.some.inj eu
      exact hs i z' _ T Z N ey s nT n z) hd⟩⟩
  · exact he _ ⟨a, xs, rfl, .inr ⟨hq, lc_some (walk_enumT (xs := xs)) hn (fun H' s => SqT.same hq s) (fun i H' x H'' y => by
      obtain ⟨T, u, z, _, nT, rfl, _⟩ := y
      exact same_upd nT) p f (fun i x H' H'' Z N _ s y n z => by
      obtain ⟨T, u, z', rfl, nT, rfl, eu, ey⟩ := y
      obtain rfl : V.int (i : Nat) = u := Option.some.inj eu
      exact hs i z' _ T Z N ey s nT n z) hd⟩⟩
/-- a tuple of texts, known as an object of its own -/
def TupT (H : Hp) (v : V) (ts : List Str) : Prop := ∃ p, v = .ref p ∧ H p = some (.tup (ts.map .str))
theorem TupT.same {H H' : Hp} {v : V} {ts : List Str} (h : TupT H v ts) (s : Same H H') : TupT H' v ts := let ⟨p, e, a⟩ := h; ⟨p, e, s _ _ a⟩
theorem TupT.hide {H : Hp} {D : Addr} {zs : List V} {v : V} {ts : List Str} (h : TupT H v ts) (e : H D = some (.lst zs)) : TupT (hide D H) v ts := by
  obtain ⟨p, rfl, a⟩ := h
  refine ⟨p, rfl, ?_⟩
  rw [hide_ne fun z => ?_]
  · exact a
  · rw [z, e] at a
    cases a
theorem TupT.seq {K : PySem.W.Frag} {H : Hp} {v : V} {ts : List Str} (h : TupT H v ts) : Seq K H v (ts.map .str) := by
  obtain ⟨p, rfl, a⟩ := h
  exact ⟨p, rfl, .inr (SqT.of a)⟩
theorem tupTs_of {H : Hp} : ∀ {ys : List V} {ls : List (List Str)}, ys.length = ls.length → (∀ (i : Nat) y l, ys[i]? = some y → ls[i]? = some l → TupT H y l) → Paired (TupT H) ys ls
  | [], [], _, _ => .nil
  | y :: ys, l :: ls, n, h => .cons (h 0 y l rfl rfl) (tupTs_of (by simpa using n) fun i y' l' a b => h (i + 1) y' l' a b)
theorem tupTs_same {H H' : Hp} {ys : List V} {ls : List (List Str)} (h : Paired (TupT H) ys ls) (s : Same H H') : Paired (TupT H') ys ls := Paired.imp (fun _ _ r => r.same s) h
/-- a text, or something else -/
def StrIs (K : PySem.W.Frag) (H : Hp) (x : V) (b : Bool) : Prop := (∃ z, x = .str z ∧ z.length ≤ sizeLine ∧ sOk [z] ∧ b = true) ∨ ∃ t, TyX K H x t ∧ PySem.W.kitOne K t (.type "str") = some false ∧ b = false
theorem StrIs.same {K : PySem.W.Frag} {H H' : Hp} {x : V} {b : Bool} (h : StrIs K H x b) (s : Same H H') : StrIs K H' x b := by
  rcases h with h | ⟨t, a, r⟩
  · exact .inl h
  · exact .inr ⟨t, TyX.same a s, r⟩
/-- a list of texts, or something else -/
def LotIs (K : PySem.W.Frag) (H : Hp) (v : V) (l : Option (List Str)) : Prop := (∃ t, TyX K H v t ∧ PySem.W.kitAny K t LT = some false ∧ l = none) ∨
  ∃ (xs : List V) (bs : List Bool), Seq K H v xs ∧ xs.length ≤ 900 ∧ bs.length = xs.length ∧ (∀ (i : Nat) x b, xs[i]? = some x → bs[i]? = some b → StrIs K H x b) ∧ l = if bs.all id = true then some (strsOf xs) else none
theorem LotIs.same {K : PySem.W.Frag} {H H' : Hp} {v : V} {l : Option (List Str)} (h : LotIs K H v l) (s : Same H H') : LotIs K H' v l := by
  rcases h with ⟨t, a, r⟩ | ⟨xs, bs, a, n, m, h, e⟩
  · exact .inl ⟨t, TyX.same a s, r⟩
  · exact .inr ⟨xs, bs, a.same s, n, m, fun i x b h1 h2 => (h i x b h1 h2).same s, e⟩
/-- the ascending texts -/
noncomputable def asc : Option (List Str) → List Str
  | some ts => sortS ts
  | none => []
theorem strIs_all {K : PySem.W.Frag} {H : Hp} : ∀ {xs : List V} {bs : List Bool}, bs.length = xs.length → (∀ (i : Nat) x b, xs[i]? = some x → bs[i]? = some b → StrIs K H x b) → bs.all id = true → xs = (strsOf xs).map .str ∧ ∀ z ∈ strsOf xs, z.length ≤ sizeLine ∧ sOk [z]
  | [], [], _, _, _ => ⟨rfl, fun z m => (by cases m)⟩
  | x :: xs, b :: bs, l, h, a => by
    have l' : bs.length = xs.length := by simpa using l
    rw [List.all_cons, Bool.and_eq_true] at a
    obtain ⟨e, r⟩ := strIs_all (K := K) (H := H) l' (fun i x b h1 h2 => h (i + 1) x b h1 h2) a.2
    rcases h 0 x b rfl rfl with ⟨z, rfl, z1, z2, rfl⟩ | ⟨t, _, _, rfl⟩
    · have e' : strsOf (.str z :: xs) = z :: strsOf xs := rfl
      rw [e']
      refine ⟨by rw [List.map_cons, ← e], fun y m => ?_⟩
      rcases List.mem_cons.mp m with rfl | m
      · exact ⟨z1, z2⟩
      · exact r y m
    · exact absurd a.1 (by decide)
theorem lot_strs {K : PySem.W.Frag} {H : Hp} {v : V} {ts : List Str} (h : Seq K H v (ts.map .str)) (l : ts.length ≤ 900) (ok : ∀ z ∈ ts, z.length ≤ sizeLine ∧ sOk [z]) : LotIs K H v (some ts) := by
  refine .inr ⟨_, ts.map fun _ => true, h, by rw [List.length_map]; exact l, by simp, fun i x b h1 h2 => ?_, ?_⟩
  · rw [List.getElem?_map] at h1 h2
    obtain ⟨z, hz, rfl⟩ := Option.map_eq_some_iff.mp h1
    obtain ⟨_, _, rfl⟩ := Option.map_eq_some_iff.mp h2
    have := ok z (List.mem_of_getElem? hz)
    exact .inl ⟨z, rfl, this.1, this.2, rfl⟩
  · rw [if_pos (by simp), strsOf_map]
def spAscT (K : PySem.W.Frag) : Sp := fun vs H Q _ => ∃ v l, vs = [v] ∧ LotIs K H v l ∧ ∀ H' p, Same H H' → H' p = some (.tup ((asc l).map .str)) → Q (.ref p) H'
def spAscL (K : PySem.W.Frag) : Sp := fun vs H Q _ => ∃ (v : V) (xs : List V) (ls : List (Option (List Str))), vs = [v] ∧ Seq K H v xs ∧ xs.length ≤ 900 ∧ Paired (LotIs K H) xs ls ∧ ∀ H' D ys, Same H H' → H D = none → H' D = some (.lst ys) → Paired (TupT (hide D H')) ys (ls.map asc) → Q (.ref D) H'
/-- a lot: names, at least one, none twice -/
def lotOk (ts : List Str) : Bool := decide (ts ≠ []) && (ts.all isNm && decide ts.Nodup)
def spIsLot (K : PySem.W.Frag) : Sp := fun vs H Q _ => ∃ v ts, vs = [v] ∧ TupT H v ts ∧ ts.length ≤ 900 ∧ (∀ z ∈ ts, z.length ≤ sizeLine) ∧ ∀ H', Same H H' → Q (.bl (lotOk ts)) H'
end WL
end L2
set_option Elab.async false
set_option linter.all false
set_option maxRecDepth 100000
set_option maxHeartbeats 4000000
namespace L2
namespace WL
open PySem PySem.Spec PyProof.Rows K1
/-- raise C(e), e anything -/
def tRaiseE (C : Addr) (f : Str) (W : WX) (te : TE) : TS := fun _ σ H => tMkO C (spI C f) [] (tCons te tNil) σ H fun cls d H' => W cls d σ H'
theorem ps_raiseE {X : Cx} {W : WX} {C fI : Addr} {k : Nat} {fd : FuncData} {ps : List Str} {x f : Str} {e : Expr} {te : TE} {p pos pos2 : Pos} (hc : X.calm = true) (tk : Takes X W) (T : XC X.K C) (iC : PySem.W.findIn X.K (.ref C) "__init__" = some (some (.ref fI))) (tI : PySem.W.typeIn X.K (.ref fI) = some (.type "function"))
    (F1 : FnOk X.prog X.w X.K X.mg X.base CX0 k fI fd ps (spI C f)) (hr : Room (k + 1) X.A) (hb : Binds X.K fd ps []) (hg : Gl X x) (hm : X.mg x = some (.ref C)) (ha : PE X e te)
    (hdb : (x == ("__debug__" : Str)) = false := by decide) (he : starEach [e] X.env = (false, eval e X.env) :: starEach [] X.env := by rfl) (hpl : (backTo pos (starEach [] X.env)).any (·.1) = false := by rfl) :
    PS X (.Raise (some (.Call (.Name x p) [e] [] pos)) none pos2) (tRaiseE C f W te) :=
  ps_raise hc tk (pmk_oex T.ox iC tI F1 hr hb .nil (fun _ _ _ _ _ _ _ z => z.elim) hg hm (pa_cons ha pa_nil he) hdb he hpl)
/-- behind the thing -/
theorem raiseE_end {C : Addr} {f : Str} {W : WX} {σ : St} {H : Hp} {v : V} (h : ∀ H2 d, Same H H2 → H d = none → H2 d = some (.xd [(f, v)]) → W (.ref C) (some d) σ H2) : tMkO C (spI C f) [] (fun _ H Q => Q [v] H) σ H fun cls d H' => W cls d σ H' := by
  refine ⟨(show 1 ≤ 1000 by decide), fun a na => ⟨a, v, rfl, upd_same, fun d hd hda => ⟨rfl, d, [(f, v)], upd_same, ?_, ?_, ?_⟩⟩⟩
  · rw [upd_ne hda, upd_same]
  · rw [upd_ne hda] at hd
    exact hd
  · rw [upd_ne hda] at hd
    refine h _ d (fun b o z => ?_) hd upd_same
    have hb : b ≠ a := ne_of_none z na
    have hb2 : b ≠ d := ne_of_none z hd
    rw [upd_ne hb2, del_ne hb, upd_ne hb, upd_ne hb2, upd_ne hb]
    exact z
theorem raiseE_mk {C : Addr} {f : Str} {W : WX} {te : TE} {σ : St} {H : Hp} {D : Ends} (h : te σ H fun v H1 => tMkO C (spI C f) [] (fun _ H Q => Q [v] H) σ H1 fun cls d H' => W cls d σ H') : tRaiseE C f W te D σ H := h
end WL
end L2
namespace L2
namespace WL
open PySem PySem.Spec PyProof.Rows K1
section
variable {X : Cx} {CX : CXT} {k : Nat} {C f : Addr} {fd : FuncData} {ps : List Str} {sp : Sp} {E : XK}
/-- x + y, both of the class at C, which has __add__ -/
def rAddO (C : Addr) (sp : Sp) (E : XK) : R2 := fun x y H Q => ∃ a dx fs b dy gs, x = .ref a ∧ y = .ref b ∧ H a = some (.ins C dx fs) ∧ H b = some (.ins C dy gs) ∧ sp [x, y] H Q E
theorem op_addO (M : Spc X.K C "__add__" f) (sf : PySem.W.selfFirst X.K C = true) (F : FnOk X.prog X.w X.K X.mg X.base CX k f fd ps sp) (hr : Room k X.A) (hb : Binds X.K fd ps []) (hx : Passes CX X E) : OpR X (binaryOp .Add) (rAddO C sp E) := by
  intro pins s σ H x y v u Q I rx ry h
  obtain ⟨a, dx, fs, b, dy, gs, rfl, rfl, ha, hb', hsp⟩ := h
  cases rx
  cases ry
  obtain ⟨mA, J, _⟩ := ins_get I.hok ha
  obtain ⟨od, J, _⟩ := J.look
  obtain ⟨mB, J2, _⟩ := ins_get I.hok hb'
  obtain ⟨od2, J2, _⟩ := J2.look
  obtain ⟨m, hF⟩ := I.fr
  refine PySem.W.binop_K (op := .Add) hF I.ok.mod.kin J J2.type sf M.at_ M.fn ?_
  refine wpAny_mono (run_fn (us := [.ref a, .ref b]) (vs := [.ref a, .ref b]) F hr hb .nil hx I (.cons rfl (.cons rfl .nil)) hsp) (fun r s' q => ?_) fun _ _ z => z
  obtain ⟨z, H', I', rz, q⟩ := q
  cases z with
  | non =>
    cases rz
    exact ⟨.non, H', I', rfl, q⟩
  | bl c =>
    cases rz
    exact ⟨.bl c, H', I', rfl, q⟩
  | int i =>
    obtain ⟨t, rfl⟩ := rz
    exact ⟨.int i, H', I', ⟨t, rfl⟩, q⟩
  | str i =>
    obtain ⟨t, rfl⟩ := rz
    exact ⟨.str i, H', I', ⟨t, rfl⟩, q⟩
  | byt i =>
    obtain ⟨t, rfl⟩ := rz
    exact ⟨.byt i, H', I', ⟨t, rfl⟩, q⟩
  | flt i =>
    obtain ⟨t, rfl⟩ := rz
    exact ⟨.flt i, H', I', ⟨t, rfl⟩, q⟩
  | ref c =>
    cases rz
    exact ⟨.ref c, H', I', rfl, q⟩
  | ty c =>
    cases rz
    exact ⟨.ty c, H', I', rfl, q⟩
end
end WL
end L2
set_option Elab.async false
set_option linter.all false
set_option maxRecDepth 100000
set_option maxHeartbeats 4000000
namespace L2
namespace WL
open PySem PySem.Spec PyProof.Rows K1
/-! ### a tuple, a list so many times -/
theorem tup_same (l : Addr) (its : Array Value) (n : Nat) (dd : Option Addr) (sl : Array (Option Value)) (x : Int) (u : Tok) (c0 : (decide (x < -(2 ^ 63)) || decide (x ≥ 2 ^ 63)) = false) (c1 : (its.isEmpty || x == 1) = true) :
    Meets (Builtin.«tuple.__mul__» ⟨[.ref l, .int x u], []⟩) (fun _ R s => s.heap.get? l = some { cls := .type "tuple", dict := dd, data := .seq its n, slots := sl } ∧ R (.ok (.ret (Value.ref l))) s) :=
  .of_wp fun prog w A R s h => by
    obtain ⟨hp, g, d, tk, os⟩ := s
    obtain ⟨hl, h⟩ := h
    have f1 := AutoSeq1.idx_int
    wp_walk using wpAny_loadPart' hl
    repeat (first
      | (refine wpAny_ite_false (decide_eq_false (by rw [c0]; exact Bool.false_ne_true)) ?_; wp_walk using wpAny_loadPart' hl)
      | (refine wpAny_ite_true (decide_eq_true c1) ?_; wp_walk using wpAny_loadPart' hl))
    first | exact ⟨_, rfl, h⟩ | exact h
theorem tup_none (l : Addr) (its : Array Value) (n : Nat) (dd : Option Addr) (sl : Array (Option Value)) (x : Int) (u : Tok) (c0 : (decide (x < -(2 ^ 63)) || decide (x ≥ 2 ^ 63)) = false) (c1 : (its.isEmpty || x == 1) = false) (c2 : (decide (x ≤ 0) || its.isEmpty) = true) :
    Meets (Builtin.«tuple.__mul__» ⟨[.ref l, .int x u], []⟩) (fun _ R s => s.heap.get? l = some { cls := .type "tuple", dict := dd, data := .seq its n, slots := sl } ∧ R (.ok (.ret (Value.ref s.heap.objs.size))) { s with heap := s.heap.push { cls := Value.type "tuple", data := Data.seq #[] }, toks := s.toks }) :=
  .of_wp fun prog w A R s h => by
    obtain ⟨hp, g, d, tk, os⟩ := s
    obtain ⟨hl, h⟩ := h
    have f1 := AutoSeq1.idx_int
    wp_walk using wpAny_loadPart' hl
    repeat (first
      | (refine wpAny_ite_false (decide_eq_false (by rw [c0]; exact Bool.false_ne_true)) ?_; wp_walk using wpAny_loadPart' hl)
      | (refine wpAny_ite_false (decide_eq_false (by rw [c1]; exact Bool.false_ne_true)) ?_; wp_walk using wpAny_loadPart' hl)
      | (refine wpAny_ite_true (decide_eq_true c2) ?_; wp_walk using wpAny_loadPart' hl))
    first | exact ⟨_, rfl, h⟩ | exact h
def rRepA (K : PySem.W.Frag) : R2 := fun x y H Q => ∃ (l : Addr) (n : Nat) (xs : List V), x = .ref l ∧ y = .int (n : Nat) ∧ SqT K H l xs ∧ n ≤ 900 ∧ xs.length ≤ 900 ∧ ∀ H' p, Same H H' → SqT K H' p (List.replicate n xs).flatten → Q (.ref p) H'
def rRepL (K : PySem.W.Frag) : R2 := fun x y H Q => ∃ (l : Addr) (n : Nat) (xs : List V), x = .ref l ∧ y = .int (n : Nat) ∧ SqL K H l xs ∧ n ≤ 900 ∧ xs.length ≤ 900 ∧ ∀ p, H p = none → Q (.ref p) (upd H p (.lst (List.replicate n xs).flatten))
theorem rep_nil {α : Type} (n : Nat) : (List.replicate n ([] : List α)).flatten = [] := by
  induction n with
  | zero => rfl
  | succ n ih =>
    rw [List.replicate_succ, List.flatten_cons, ih]
    rfl
section
variable {X : Cx}
theorem op_repA : OpR X (binaryOp .Mult) (rRepA X.K) := by
  intro pins s σ H x y v u Q I rx ry h
  obtain ⟨l, n, xs, rfl, rfl, hT, hn, hz, q⟩ := h
  by_cases big : xs ≠ [] ∧ 2 ≤ n
  · refine op_repT pins s σ H _ _ v u Q I rx ry ⟨l, (n : Nat), xs, rfl, rfl, hT, big.1, by omega, by omega, by omega, fun p np => q _ p (same_upd np) (SqT.of ?_)⟩
    rw [Int.toNat_natCast]
    exact upd_same
  cases rx
  obtain ⟨t, rfl⟩ := ry
  obtain ⟨its, r, ⟨⟨cls, dd, data, sl⟩, ho, hc, k, hd⟩, hs⟩ := I.tuple hT
  simp only at hc hd
  subst hc hd
  have le : its.length = xs.length := r.length.symm
  have c0 : (decide (((n : Nat) : Int) < -(2 ^ 63)) || decide (((n : Nat) : Int) ≥ 2 ^ 63)) = false := by
    rw [decide_eq_false (by omega), decide_eq_false (by omega)]
    rfl
  refine wpAny_binaryOp_repeat_ref (T := "tuple") (U := "int") (by decide) ⟨_, ho, rfl⟩ (fun s' => typeIs_int s' (n : Nat) t) noFill_tuple_mul F.fills_int_mul F.slot_int_rmul repeat_tuple F.slot_int_index.lookup
    (call_meets F.slot_int_rmul (typeIs_int s (n : Nat) t) F.entry_int_rmul (F.args_int_rmul_2 _ _) (int_rmul_tuple (n : Nat) t l its.toArray k dd sl) ⟨ho, rfl, ⟨_, ho, rfl⟩, ?_⟩)
  by_cases e1 : xs = [] ∨ n = 1
  · refine call_meets F.slot_tuple_mul ⟨_, ho, rfl⟩ F.entry_tuple_mul (F.args_tuple_mul_2 _ _) (tup_same l its.toArray k dd sl (n : Nat) t c0 ?_) ⟨ho, ?_⟩
    · rcases e1 with e | e
      · subst e
        have : its = [] := List.eq_nil_of_length_eq_zero le
        subst this
        rfl
      · subst e
        rw [Bool.or_eq_true]
        exact .inr rfl
    · refine ⟨.ref l, H, I, rfl, q H l (Same.refl H) ?_⟩
      rcases e1 with e | e
      · subst e
        rw [rep_nil]
        exact hT
      · subst e
        rw [List.replicate_one, List.flatten_singleton]
        exact hT
  · have ne : xs ≠ [] := fun e => e1 (.inl e)
    have n0 : n = 0 := by
      have h1 : n ≠ 1 := fun e => e1 (.inr e)
      have h2 : ¬ 2 ≤ n := fun e => big ⟨ne, e⟩
      omega
    subst n0
    have hi : its.toArray.isEmpty = false := by
      cases its with
      | nil => exact absurd (List.eq_nil_of_length_eq_zero le.symm) ne
      | cons a b => rfl
    refine call_meets F.slot_tuple_mul ⟨_, ho, rfl⟩ F.entry_tuple_mul (F.args_tuple_mul_2 _ _) (tup_none l its.toArray k dd sl ((0 : Nat) : Int) t c0 (by rw [hi]; rfl) (by rw [Bool.or_eq_true]; exact .inl rfl)) ⟨ho, ?_⟩
    have hf := I.hok.fresh (Nat.le_refl s.heap.objs.size)
    refine ⟨.ref s.heap.objs.size, _, I.laid (t' := s.toks) (o := .tup []) (fun b ob e => Heap.get?_push_of_some _ e) (Nat.le_refl _) ?_, rfl, q _ _ (same_upd hf) (SqT.of upd_same)⟩
    exact ⟨Nat.zero_le _, [], .nil, IsTup.new _ _⟩
theorem op_repL : OpR X (binaryOp .Mult) (rRepL X.K) := by
  intro pins s σ H x y v u Q I rx ry h
  obtain ⟨l, n, xs, rfl, rfl, hs, hn, hz, q⟩ := h
  cases rx
  obtain ⟨t, rfl⟩ := ry
  obtain ⟨its, rv, ⟨⟨cls, dd, data, sl⟩, k, ho, hc, hdn, hd⟩, hlen⟩ := I.list hs
  have hc1 : cls = Value.type "list" := hc
  have hd1 : data = Data.seq its.toArray k := hd
  subst hc1 hd1
  have le : its.length = xs.length := rv.length.symm
  have hm : its.toArray.size * ((n : Nat) : Int).toNat ≤ 900 * 900 := by
    rw [List.size_toArray, Int.toNat_natCast, le]
    exact Nat.mul_le_mul hz hn
  have hsl := sizeLine_eq
  obtain ⟨z, ez⟩ : ∃ z : Int, z = ((n : Nat) : Int) := ⟨_, rfl⟩
  rw [← ez] at hm ⊢
  have d0 : ¬(!Builtin.List.listFitsIndex z) = true := by
    unfold Builtin.List.listFitsIndex
    rw [decide_eq_true (by omega), decide_eq_true (by omega)]
    decide
  have d1 : ¬its.toArray.size * z.toNat > (2 ^ 63 - 1) / 8 := by omega
  have d2 : ¬Builtin.List.listTooLong (its.toArray.size * z.toNat) = true := by
    simp only [Builtin.List.listTooLong, decide_eq_true_eq]
    omega
  refine wpAny_binaryOp_repeat_ref (T := "list") (U := "int") (by decide) ⟨_, ho, rfl⟩ (fun s' => typeIs_int s' z t) noFill_list_mul F.fills_int_mul F.slot_int_rmul repeat_list F.slot_int_index.lookup
    (call_meets F.slot_int_rmul (typeIs_int s z t) F.entry_int_rmul (F.args_int_rmul_2 _ _) (lm_int_rmul_list_any z t l its.toArray k dd sl)
      ⟨ho, rfl, ⟨_, ho, rfl⟩, call_meets F.slot_list_mul ⟨_, ho, rfl⟩ F.entry_list_mul (F.args_list_mul_2 _ _)
        (lm_list_mul_any l its.toArray k dd sl z t d0 d1 d2) ⟨ho, ?_⟩⟩)
  have e : List.foldl (fun x1 x2 => x1 ++ x2) #[] (List.replicate (if its.toArray.isEmpty = true then 0 else z.toNat) its.toArray) = (List.replicate n its).flatten.toArray := by
    rw [listMul_foldl_if, ez, Int.toNat_natCast]
  rw [e]
  have len : (List.replicate n xs).flatten.length ≤ sizeLine := by
    rw [PyProof.Rows.lm_len_rep_flat]
    exact Nat.le_trans (Nat.mul_le_mul hn hz) (by rw [hsl]; omega)
  exact ⟨.ref s.heap.objs.size, upd H s.heap.objs.size (.lst (List.replicate n xs).flatten), I.laid (t' := s.toks) (fun b o e => Heap.get?_push_of_some _ e) (Nat.le_refl _) ⟨len, _, 0, rv.rep n, Heap.get?_push_size _ rfl⟩, rfl, q _ (I.hok.fresh (Nat.le_refl _))⟩
end
end WL
end L2
set_option Elab.async false
set_option linter.all false
set_option maxRecDepth 100000
set_option maxHeartbeats 4000000
namespace L2
namespace WL
open PySem PySem.Spec PyProof.Rows K1
/-! ### what a program is in the heap -/
abbrev Lots : Type := List (List Str)
def prFld (u t : Addr) : List (Str × V) := [("unlike_lots", .ref u), ("lots", .ref t)]
structure PrAt (H : Hp) (C p : Addr) (ls : Lots) (dx u t : Addr) (us ts : List V) (uls : Lots) : Prop where
  ob : H p = some (.ins C dx (prFld u t))
  hu : H u = some (.tup us)
  ht : H t = some (.tup ts)
  du : Paired (TupT H) us uls
  dt : Paired (TupT H) ts ls
  mu : ∀ l, l ∈ uls ↔ l ∈ ls
  nu : uls.Nodup
  lu : uls.length < 64
def IsPr (H : Hp) (C p : Addr) (ls : Lots) : Prop := ∃ dx u t us ts uls, PrAt H C p ls dx u t us ts uls
theorem PrAt.same {H H' : Hp} {C p : Addr} {ls : Lots} {dx u t : Addr} {us ts : List V} {uls : Lots} (h : PrAt H C p ls dx u t us ts uls) (s : Same H H') : PrAt H' C p ls dx u t us ts uls :=
  ⟨s _ _ h.ob, s _ _ h.hu, s _ _ h.ht, tupTs_same h.du s, tupTs_same h.dt s, h.mu, h.nu, h.lu⟩
theorem IsPr.same {H H' : Hp} {C p : Addr} {ls : Lots} (h : IsPr H C p ls) (s : Same H H') : IsPr H' C p ls := let ⟨dx, u, t, us, ts, uls, w⟩ := h; ⟨dx, u, t, us, ts, uls, w.same s⟩
/-- what lots a program has -/
structure GoodP (ls : Lots) : Prop where
  ok : ∀ l ∈ ls, lotOk l = true
  up : ∀ l ∈ ls, sortS l = l
  ln : ls.length ≤ 900
  l9 : ∀ l ∈ ls, l.length ≤ 900
/-- what the head tells of the class Program -/
structure Pt' (K : PySem.W.Frag) (mg : Str → Option Value) (C : Addr) : Prop where
  cl : Cls K C
  nu : NoAttr K C "unlike_lots"
  nl : NoAttr K C "lots"
  mg : mg "Program" = some (.ref C)
def spInitP (K : PySem.W.Frag) (C CB : Addr) : Sp := fun vs H Q E => ∃ (p dx : Addr) (v : V), vs = [.ref p, v] ∧ H p = some (.ins C dx []) ∧
  ((∃ t, TyX K (hide p H) v t ∧ PySem.W.kitAny K t LT = some false ∧ Rz (hide p H) E CB "index" (.int 0)) ∨
  ∃ (xs : List V) (ls : List (Option (List Str))), Seq K (hide p H) v xs ∧ xs.length ≤ 900 ∧ Paired (LotIs K (hide p H)) xs ls ∧ (∃ U : Lots, U.length < 64 ∧ ∀ l ∈ ls, asc l ∈ U) ∧
    (((∀ l ∈ ls, lotOk (asc l) = true) ∧ ∀ H', Same (hide p H) H' → IsPr H' C p (ls.map asc) → Q .non H') ∨
     ∃ i l, ls[i]? = some l ∧ lotOk (asc l) = false ∧ (∀ (j : Nat) l', j < i → ls[j]? = some l' → lotOk (asc l') = true) ∧ Rz (hide p H) E CB "index" (.int (i : Nat))))
theorem LotIs.len {K : PySem.W.Frag} {H : Hp} {v : V} {l : Option (List Str)} (h : LotIs K H v l) : (asc l).length ≤ 900 ∧ ∀ z ∈ asc l, z.length ≤ sizeLine ∧ sOk [z] := by
  rcases h with ⟨t, _, _, rfl⟩ | ⟨xs, bs, a, n, m, h, rfl⟩
  · exact ⟨Nat.zero_le _, fun z m => (by cases m)⟩
  · by_cases e : bs.all id = true
    · rw [if_pos e]
      obtain ⟨e1, e2⟩ := strIs_all m h e
      show (sortS (strsOf xs)).length ≤ 900 ∧ ∀ z ∈ sortS (strsOf xs), _
      rw [sortS_len]
      have l1 := congrArg List.length e1
      rw [List.length_map] at l1
      exact ⟨by omega, fun z mz => e2 z ((sortS_pm _).mem_iff.mp mz)⟩
    · rw [if_neg e]
      exact ⟨Nat.zero_le _, fun z m => (by cases m)⟩
theorem sortS_idem (ts : List Str) : sortS (sortS ts) = sortS ts := sortS_perm (sortS_pm ts)
theorem asc_up (l : Option (List Str)) : sortS (asc l) = asc l := by
  cases l with
  | none => exact (sortS_uniq (List.Perm.refl _) .nil).symm
  | some ts => exact sortS_perm (sortS_pm ts)
/-! members of the set -/
def keysOf (ts : List Str) : KL := ts.map Sum.inr
theorem keysOf_inj {a b : List Str} (h : keysOf a = keysOf b) : a = b := by
  induction a generalizing b with
  | nil =>
    cases b with
    | nil => rfl
    | cons _ _ => cases h
  | cons x a ih =>
    cases b with
    | nil => cases h
    | cons y b =>
      obtain ⟨h1, h2⟩ := List.cons.inj h
      rw [Sum.inr.inj h1, ih h2]
theorem keysOf_kV (ts : List Str) : (keysOf ts).map kV = ts.map V.str := by
  unfold keysOf
  rw [List.map_map]
  rfl
/-- tuples of texts as members -/
theorem mbs_of {H : Hp} : ∀ {ys : List V} {ls : Lots}, Paired (TupT H) ys ls → ∃ ks : List Mb, ys = ks.map mbV ∧ ks.map Prod.snd = ls.map keysOf ∧ ∀ q ∈ ks, H q.1 = some (.tup (q.2.map kV))
  | _, _, .nil => ⟨[], rfl, rfl, fun _ m => (by cases m)⟩
  | _, _, .cons (a := y) (b := l) ⟨p, e, hp⟩ t => by
    obtain ⟨ks, e1, e2, h⟩ := mbs_of t
    refine ⟨(p, keysOf l) :: ks, by rw [e, e1]; rfl, by rw [List.map_cons, e2]; rfl, fun q m => ?_⟩
    rcases List.mem_cons.mp m with rfl | m
    · show H p = some (.tup ((keysOf l).map kV))
      rw [keysOf_kV]
      exact hp
    · exact h q m
theorem mbs_back {H : Hp} : ∀ {ks : List Mb}, (∀ q ∈ ks, H q.1 = some (.tup (q.2.map kV)) ∧ ∃ ts : List Str, q.2 = keysOf ts) → ∃ ls : Lots, ks.map Prod.snd = ls.map keysOf ∧ Paired (TupT H) (ks.map mbV) ls
  | [], _ => ⟨[], rfl, .nil⟩
  | q :: ks, h => by
    obtain ⟨ls, e, t⟩ := mbs_back fun q' m => h q' (List.mem_cons_of_mem _ m)
    obtain ⟨hq, ts, e2⟩ := h q (List.mem_cons_self ..)
    refine ⟨ts :: ls, by rw [List.map_cons, List.map_cons, e, e2], .cons ⟨q.1, rfl, ?_⟩ t⟩
    rw [hq, e2, keysOf_kV]
end WL
end L2
namespace L2
namespace WL
open PySem PySem.Spec PyProof.Rows K1
theorem some_pairs {β : Type} {R : V → β → Prop} (q : β → Bool) (d : β) : ∀ {us : List V} {ls : List β}, Paired R us ls → Paired R (((List.range us.length).filter fun i => q (ls.getD i d)).map fun i => us.getD i .non) (ls.filter q)
  | _, _, .nil => .nil
  | _, _, @Paired.cons _ _ _ u l us ls h t => by
    have ih := some_pairs q d t
    have e : ((List.range (u :: us).length).filter fun i => q ((l :: ls).getD i d)).map (fun i => (u :: us).getD i .non) = (if q l = true then [u] else []) ++ ((List.range us.length).filter fun i => q (ls.getD i d)).map fun i => us.getD i .non := by
      rw [List.length_cons, List.range_succ_eq_map, List.filter_cons]
      have e1 : ((List.range us.length).map Nat.succ).filter (fun i => q ((l :: ls).getD i d)) = ((List.range us.length).filter fun i => q (ls.getD i d)).map Nat.succ := by
        rw [List.filter_map]
        rfl
      rw [e1]
      by_cases c : q l = true
      · have c' : q ((l :: ls).getD 0 d) = true := c
        rw [if_pos c', if_pos c, List.map_cons, List.map_map]
        rfl
      · have c' : ¬ q ((l :: ls).getD 0 d) = true := c
        rw [if_neg c', if_neg c, List.map_map]
        rfl
    rw [e, List.filter_cons]
    by_cases c : q l = true
    · rw [if_pos c, if_pos c]
      exact .cons h ih
    · rw [if_neg c, if_neg c]
      exact ih
theorem first_in {n i : Nat} {p : Nat → Bool} (h : i < n) (hi : p i = true) (hb : ∀ j, j < i → p j = false) : ∃ rest, (List.range n).filter p = i :: rest := by
  have e := find_range p h hi hb
  rw [← List.head?_filter] at e
  cases z : (List.range n).filter p with
  | nil =>
    rw [z] at e
    cases e
  | cons a r =>
    rw [z] at e
    exact ⟨r, by rw [Option.some.inj e]⟩
def lotD (l : List Str) : PyData := .tuple (dS l)
theorem lotD_eqv (a b : List Str) : PyData.eqv (lotD a) (lotD b) = decide (a = b) := eqv_strs a b
theorem lots_any (l : List Str) : ∀ bs : Lots, ((bs.map lotD).any fun z => PyData.eqv z (lotD l)) = decide (l ∈ bs)
  | [] => rfl
  | b :: bs => by
    rw [List.map_cons, List.any_cons, lots_any l bs, lotD_eqv]
    by_cases e : b = l
    · rw [decide_eq_true e, Bool.true_or, decide_eq_true (by rw [e]; exact List.mem_cons_self ..)]
    · rw [decide_eq_false e, Bool.false_or]
      exact decide_eq_decide.mpr ⟨fun m => List.mem_cons_of_mem _ m, fun m => (List.mem_cons.mp m).resolve_left fun z => e z.symm⟩
theorem lots_lay : ∀ {bs : Lots}, (∀ l ∈ bs, sOk l) → PyData.canLayAll0 (bs.map lotD) = true
  | [], _ => by simp [PyData.canLayAll0]
  | b :: bs, h => by
    have h1 := lay_strs (h b (List.mem_cons_self ..))
    have h2 := lots_lay fun l m => h l (List.mem_cons_of_mem _ m)
    simp only [List.map_cons, PyData.canLayAll0, lotD, PyData.canLay0, h1, Bool.true_and]
    exact h2
theorem lots_dep : ∀ bs : Lots, PyData.depthAll (bs.map lotD) ≤ 1
  | [] => by simp [PyData.depthAll]
  | b :: bs => by
    have h1 := lots_dep bs
    have h2 := dep_strs b
    simp only [List.map_cons, PyData.depthAll, lotD, PyData.depth]
    omega
theorem lots_shape {bs : Lots} (h : ∀ l ∈ bs, sOk l) : SeqAt.shaped (.list (bs.map lotD)) = true := by
  have h1 := lots_dep bs
  have h2 : PyData.depth (.list (bs.map lotD)) ≤ 64 := by
    simp only [PyData.depth]
    omega
  show (PyData.canLay0 (.list (bs.map lotD)) && decide (PyData.depth (.list (bs.map lotD)) ≤ 64)) = true
  rw [Bool.and_eq_true]
  exact ⟨by simp only [PyData.canLay0]; exact lots_lay h, decide_eq_true h2⟩
theorem tupT_dp {K : PySem.W.Frag} {H : Hp} {v : V} {l : List Str} (h : TupT H v l) : Dp K H v (lotD l) := by
  obtain ⟨p, rfl, a⟩ := h
  exact .tup (SqT.of a) (dp_strs l)
theorem tupTs_dp {K : PySem.W.Frag} {H : Hp} : ∀ {vs : List V} {ls : Lots}, Paired (TupT H) vs ls → DpAll K H vs (ls.map lotD)
  | _, _, .nil => .nil
  | _, _, .cons h t => .cons (tupT_dp h) (tupTs_dp t)
theorem sOk_of {l : List Str} (h : ∀ z ∈ l, sOk [z]) : sOk l := fun x m => h x m x (List.mem_singleton.mpr rfl)
end WL
end L2
namespace L2
namespace WL
open PySem PySem.Spec PyProof.Rows K1
theorem lot_z {l : List Str} (h : lotOk l = true) : ∀ z ∈ l, z.length ≤ sizeLine ∧ sOk [z] := fun z m => by
  unfold lotOk at h
  rw [Bool.and_eq_true, Bool.and_eq_true] at h
  have e := List.all_eq_true.mp h.2.1 z m
  exact ⟨isNm_len e, sOk_lit (by
    rw [List.all_eq_true]
    exact fun c mc => decide_eq_true (isNm_ok e c mc))⟩
theorem lots_is {K : PySem.W.Frag} {H : Hp} : ∀ {ts : List V} {ls : Lots}, Paired (TupT H) ts ls → (∀ l ∈ ls, lotOk l = true ∧ l.length ≤ 900) → Paired (LotIs K H) ts (ls.map some)
  | _, _, .nil, _ => .nil
  | _, _, @Paired.cons _ _ _ t l ts ls h r, g => .cons (lot_strs h.seq (g l (List.mem_cons_self ..)).2 (lot_z (g l (List.mem_cons_self ..)).1)) (lots_is r fun l' m => g l' (List.mem_cons_of_mem _ m))
theorem up_asc {ls : Lots} (h : ∀ l ∈ ls, sortS l = l) : (ls.map some).map asc = ls := by
  rw [List.map_map]
  induction ls with
  | nil => rfl
  | cons l ls ih =>
    rw [List.map_cons, ih fun l' m => h l' (List.mem_cons_of_mem _ m)]
    exact congrArg (· :: ls) (h l (List.mem_cons_self ..))
/-- the heap with a thing that is being made -/
theorem mk_up {H : Hp} {C x dx : Addr} (nx : H x = none) (nd : H dx = none) : Same H (hide x (upd (upd H dx (.own x)) x (.ins C dx []))) := fun b o e => by
  rw [hide_ne (ne_of_none e nx), upd_ne (ne_of_none e nx), upd_ne (ne_of_none e nd)]
  exact e
/-- a program of lots that may be -/
theorem prog_mk {K : PySem.W.Frag} {H : Hp} {C CB x dx : Addr} {v : V} {xs : List V} {ls : List (Option (List Str))} {Q : VK} {E : XK} (nx : H x = none) (nd : H dx = none) (hs : Seq K H v xs) (l9 : xs.length ≤ 900) (hl : Paired (LotIs K H) xs ls) (few : ∃ U : Lots, U.length < 64 ∧ ∀ l ∈ ls, asc l ∈ U)
    (ok : ∀ l ∈ ls, lotOk (asc l) = true) (q : ∀ H', Same H H' → IsPr H' C x (ls.map asc) → Q (.ref x) H') : spInitP K C CB [.ref x, v] (upd (upd H dx (.own x)) x (.ins C dx [])) (fun v H2 => v = .non ∧ Q (.ref x) H2) E := by
  have s := mk_up (C := C) nx nd
  exact ⟨x, dx, v, rfl, upd_same, .inr ⟨xs, ls, hs.same s, l9, Paired.imp (fun _ _ r => r.same s) hl, few, .inl ⟨ok, fun H' s' w => ⟨rfl, q H' (s.trans s') w⟩⟩⟩⟩
theorem progs_mk {K : PySem.W.Frag} {H : Hp} {C CB x dx : Addr} {v : V} {ts : List V} {ls : Lots} {Q : VK} {E : XK} (nx : H x = none) (nd : H dx = none) (hs : Seq K H v ts) (ht : Paired (TupT H) ts ls) (g : GoodP ls) (few : ∃ U : Lots, U.length < 64 ∧ ∀ l ∈ ls, l ∈ U)
    (q : ∀ H', Same H H' → IsPr H' C x ls → Q (.ref x) H') : spInitP K C CB [.ref x, v] (upd (upd H dx (.own x)) x (.ins C dx [])) (fun v H2 => v = .non ∧ Q (.ref x) H2) E := by
  obtain ⟨U, lU, hU⟩ := few
  have ea : ∀ l' ∈ ls.map some, ∃ l ∈ ls, asc l' = l := fun l' m => by
    obtain ⟨l, ml, rfl⟩ := List.mem_map.mp m
    exact ⟨l, ml, g.up l ml⟩
  refine prog_mk nx nd hs (by have := g.ln; have := Paired.length ht; omega) (lots_is ht fun l m => ⟨g.ok l m, g.l9 l m⟩) ⟨U, lU, fun l m => ?_⟩ (fun l m => ?_) fun H' s w => q H' s ?_
  · obtain ⟨l', ml, e⟩ := ea l m
    rw [e]
    exact hU l' ml
  · obtain ⟨l', ml, e⟩ := ea l m
    rw [e]
    exact g.ok l' ml
  · rw [up_asc g.up] at w
    exact w
theorem PrAt.few {H : Hp} {C p : Addr} {ls : Lots} {dx u t : Addr} {us ts : List V} {uls : Lots} (h : PrAt H C p ls dx u t us ts uls) : ∃ U : Lots, U.length < 64 ∧ ∀ l ∈ ls, l ∈ U := ⟨uls, h.lu, fun l m => (h.mu l).mpr m⟩
/-! ### the methods -/
def repP (n : Nat) (ls : Lots) : Lots := (List.replicate n ls).flatten
theorem mem_rep {α : Type} {n : Nat} {ls : List α} {l : α} (h : l ∈ (List.replicate n ls).flatten) : l ∈ ls := by
  obtain ⟨xs, m, h⟩ := List.mem_flatten.mp h
  rw [(List.mem_replicate.mp m).2] at h
  exact h
theorem GoodP.rep {ls : Lots} (g : GoodP ls) {n : Nat} (h : ls.length * n ≤ 900) : GoodP (repP n ls) :=
  ⟨fun l m => g.ok l (mem_rep m), fun l m => g.up l (mem_rep m), by
    unfold repP
    rw [PyProof.Rows.lm_len_rep_flat, Nat.mul_comm]
    exact h, fun l m => g.l9 l (mem_rep m)⟩
theorem GoodP.app {ls qs : Lots} (g : GoodP ls) (g' : GoodP qs) (h : ls.length + qs.length ≤ 900) : GoodP (ls ++ qs) :=
  ⟨fun l m => (List.mem_append.mp m).elim (g.ok l) (g'.ok l), fun l m => (List.mem_append.mp m).elim (g.up l) (g'.up l), by rw [List.length_append]; exact h, fun l m => (List.mem_append.mp m).elim (g.l9 l) (g'.l9 l)⟩
theorem paired_app {α β : Type} {R : α → β → Prop} {us : List α} {bs : List β} (h : Paired R us bs) : ∀ {xs : List α} {ys : List β}, Paired R xs ys → Paired R (xs ++ us) (ys ++ bs)
  | _, _, .nil => h
  | _, _, .cons r t => .cons r (paired_app h t)
theorem paired_rep {α β : Type} {R : α → β → Prop} {xs : List α} {ys : List β} (h : Paired R xs ys) : ∀ n, Paired R (List.replicate n xs).flatten (List.replicate n ys).flatten
  | 0 => .nil
  | n + 1 => by
    rw [List.replicate_succ, List.replicate_succ, List.flatten_cons, List.flatten_cons]
    exact paired_app (paired_rep h n) h
def totP (ls : Lots) : Nat := (ls.map List.length).sum
def spTimes (K : PySem.W.Frag) (C CN : Addr) : Sp := fun vs H Q E => ∃ (p : Addr) (v : V) (o : Option Int) (ls : Lots), vs = [.ref p, v] ∧ IsPr H C p ls ∧ GoodP ls ∧ IntV K H v o ∧
  ((cntB o = false ∧ Rz H E CN "number" v) ∨ ∃ n : Nat, o = some (n : Int) ∧ n ≤ 900 ∧ ls.length * n ≤ 900 ∧ ∀ H' q, Same H H' → IsPr H' C q (repP n ls) → Q (.ref q) H')
def spTot (C : Addr) : Sp := fun vs H Q _ => ∃ (p : Addr) (ls : Lots), vs = [.ref p] ∧ IsPr H C p ls ∧ GoodP ls ∧ ∀ H', Same H H' → Q (.int (totP ls : Nat)) H'
def spRenewed (C : Addr) : Sp := fun vs H Q _ => ∃ (p : Addr) (ls : Lots) (ds0 : List Str), vs = [.ref p] ∧ IsPr H C p ls ∧ GoodP ls ∧ ds0.length ≤ 900 ∧ (∀ l ∈ ls, ∀ z ∈ l, z ∈ ds0) ∧
  ∀ H' q ds, Same H H' → ds.Nodup → (∀ z, z ∈ ds ↔ z ∈ ls.flatten) → H' q = some (.tup ((sortS ds).map .str)) → Q (.ref q) H'
def spAddP (C : Addr) : Sp := fun vs H Q _ => ∃ (p r : Addr) (ls qs : Lots), vs = [.ref p, .ref r] ∧ IsPr H C p ls ∧ IsPr H C r qs ∧ GoodP ls ∧ GoodP qs ∧ ls.length + qs.length ≤ 900 ∧ (∃ U : Lots, U.length < 64 ∧ ∀ l ∈ ls ++ qs, l ∈ U) ∧ ∀ H' q, Same H H' → IsPr H' C q (ls ++ qs) → Q (.ref q) H'
def spLenP (C : Addr) : Sp := fun vs H Q _ => ∃ (p : Addr) (ls : Lots), vs = [.ref p] ∧ IsPr H C p ls ∧ Q (.int (ls.length : Nat)) H
def spEqP (K : PySem.W.Frag) (C : Addr) : Sp := fun vs H Q _ => ∃ (p : Addr) (y : V) (ls : Lots), vs = [.ref p, y] ∧ IsPr H C p ls ∧ GoodP ls ∧
  ((∃ t, TyX K H y t ∧ PySem.W.kitOne K t (.ref C) = some false ∧ Q (.bl false) H) ∨ ∃ r qs, y = .ref r ∧ IsPr H C r qs ∧ GoodP qs ∧ Q (.bl (decide (ls = qs))) H)
theorem lots_eqv : ∀ as bs : Lots, PyData.eqvAll (as.map lotD) (bs.map lotD) = decide (as = bs)
  | [], [] => rfl
  | [], _ :: _ => rfl
  | _ :: _, [] => rfl
  | a :: as, b :: bs => by
    have e : PyData.eqvAll ((a :: as).map lotD) ((b :: bs).map lotD) = (PyData.eqv (lotD a) (lotD b) && PyData.eqvAll (as.map lotD) (bs.map lotD)) := rfl
    rw [e, lotD_eqv, lots_eqv as bs]
    by_cases h1 : a = b
    · by_cases h2 : as = bs
      · rw [decide_eq_true h1, decide_eq_true h2, decide_eq_true (by rw [h1, h2])]
        rfl
      · rw [decide_eq_true h1, decide_eq_false h2, decide_eq_false fun z => h2 (List.cons.inj z).2]
        rfl
    · rw [decide_eq_false h1, decide_eq_false fun z => h1 (List.cons.inj z).1]
      rfl
theorem lots_shapeT {bs : Lots} (h : ∀ l ∈ bs, sOk l) : SeqAt.shaped (.tuple (bs.map lotD)) = true := by
  have h1 := lots_dep bs
  have h2 : PyData.depth (.tuple (bs.map lotD)) ≤ 64 := by
    simp only [PyData.depth]
    omega
  show (PyData.canLay0 (.tuple (bs.map lotD)) && decide (PyData.depth (.tuple (bs.map lotD)) ≤ 64)) = true
  rw [Bool.and_eq_true]
  exact ⟨by simp only [PyData.canLay0]; exact lots_lay h, decide_eq_true h2⟩
theorem GoodP.sok {ls : Lots} (g : GoodP ls) : ∀ l ∈ ls, sOk l := fun l m => sOk_of fun z mz => (lot_z (g.ok l m) z mz).2
theorem sum_int (ns : List Nat) : (ns.map fun n : Nat => (n : Int)).sum = ((ns.sum : Nat) : Int) := by
  induction ns with
  | nil => rfl
  | cons n ns ih =>
    rw [List.map_cons, List.sum_cons, List.sum_cons, ih]
    omega
theorem mem_addX {D : List Str} {x z : Str} : z ∈ addX D x ↔ z ∈ D ∨ z = x := by
  unfold addX
  by_cases h : x ∈ D
  · rw [if_pos h]
    exact ⟨.inl, fun e => e.elim id fun e => e ▸ h⟩
  · rw [if_neg h, List.mem_cons]
    exact Or.comm
theorem nd_addX {D : List Str} {x : Str} (h : D.Nodup) : (addX D x).Nodup := by
  unfold addX
  by_cases e : x ∈ D
  · rw [if_pos e]
    exact h
  · rw [if_neg e]
    exact List.nodup_cons.mpr ⟨e, h⟩
end WL
end L2
namespace L2
namespace WL
open PySem PySem.Spec PyProof.Rows K1
/-- the first cell that the web lacks -/
def firstS (cells : List Str) (ls : Lots) : Option Str := ls.flatten.find? fun z => decide (z ∉ cells)
def spCkP (K : PySem.W.Frag) (CW CP CU : Addr) : Sp := fun vs H Q E => ∃ (wb p : Addr) (rs : Rws) (ls : Lots), vs = [.ref wb, .ref p] ∧ IsWeb K H CW wb rs ∧ Good rs ∧ IsPr H CP p ls ∧ GoodP ls ∧
  (((∀ l ∈ ls, ∀ z ∈ l, z ∈ rs.map Prod.fst) ∧ ∀ H', Same H H' → Q .non H') ∨ ∃ z, firstS (rs.map Prod.fst) ls = some z ∧ Rz H E CU "cell" (.str z))
def spIsSw (K : PySem.W.Frag) (CW CP CU : Addr) : Sp := fun vs H Q E => ∃ (wb p : Addr) (rs : Rws) (ls : Lots), vs = [.ref wb, .ref p] ∧ IsWeb K H CW wb rs ∧ Good rs ∧ IsPr H CP p ls ∧ GoodP ls ∧
  (((∀ l ∈ ls, ∀ z ∈ l, z ∈ rs.map Prod.fst) ∧ ∀ H' (ds : List Str), Same H H' → ds.Nodup → (∀ z, z ∈ ds ↔ z ∈ ls.flatten) → Q (.bl (decide (totP ls = rs.length) && decide (ds.length = rs.length))) H') ∨ ∃ z, firstS (rs.map Prod.fst) ls = some z ∧ Rz H E CU "cell" (.str z))
theorem firstS_at {cells : List Str} {ls : Lots} {i : Nat} {l : List Str} (e : ls[i]? = some l) (h : ∀ l' ∈ ls.take i, ∀ z ∈ l', z ∈ cells) : firstS cells ls = (l.find? fun z => decide (z ∉ cells)).or ((ls.drop (i + 1)).flatten.find? fun z => decide (z ∉ cells)) := by
  have lt : i < ls.length := (List.getElem?_eq_some_iff.mp e).1
  have split : ls = ls.take i ++ l :: ls.drop (i + 1) := by
    conv => lhs; rw [← List.take_append_drop i ls, List.drop_eq_getElem_cons lt]
    rw [List.getElem?_eq_getElem lt] at e
    rw [Option.some.inj e]
  unfold firstS
  conv => lhs; rw [split]
  rw [List.flatten_append, List.find?_append, List.flatten_cons, List.find?_append]
  have e0 : (ls.take i).flatten.find? (fun z => decide (z ∉ cells)) = none := by
    rw [List.find?_eq_none]
    intro z m
    obtain ⟨l', ml, m⟩ := List.mem_flatten.mp m
    simp [h l' ml z m]
  rw [e0, Option.none_or]
theorem firstS_none {cells : List Str} {ls : Lots} (h : ∀ l' ∈ ls, ∀ z ∈ l', z ∈ cells) : firstS cells ls = none := by
  unfold firstS
  rw [List.find?_eq_none]
  intro z m
  obtain ⟨l', ml, m⟩ := List.mem_flatten.mp m
  simp [h l' ml z m]
theorem find_strs (rs : Rws) (l : List Str) : (l.map V.str).find? (fun x => !inWeb rs x) = (l.find? fun z => decide (z ∉ rs.map Prod.fst)).map V.str := by
  rw [List.find?_map]
  refine congrArg (Option.map V.str) (congrArg (fun f => l.find? f) (funext fun z => ?_))
  show (!inWeb rs (.str z)) = decide (z ∉ rs.map Prod.fst)
  have : inWeb rs (.str z) = decide (z ∈ rs.map Prod.fst) := rfl
  rw [this]
  by_cases h : z ∈ rs.map Prod.fst
  · rw [decide_eq_true h, decide_eq_false fun n => n h]
    rfl
  · rw [decide_eq_false h, decide_eq_true h]
    rfl
end WL
end L2
namespace L2
namespace WL
theorem ex_nodup : ∀ l : List PySem.Str, ∃ ds : List PySem.Str, ds.Nodup ∧ ∀ z, z ∈ ds ↔ z ∈ l
  | [] => ⟨[], .nil, fun z => Iff.rfl⟩
  | x :: l => by
    obtain ⟨ds, n, h⟩ := ex_nodup l
    refine ⟨addX ds x, nd_addX n, fun z => ?_⟩
    rw [mem_addX, h z, List.mem_cons]
    exact Or.comm
end WL
end L2
namespace L2
namespace WL
open PySem PySem.Spec PyProof.Rows K1
/-! ### the law's lots -/
structure LotsOk (names : List Str) (ls : Lots) (m : Nat) : Prop where
  ln : ls.length ≤ m
  ne : ∀ l ∈ ls, l ≠ []
  l12 : ∀ l ∈ ls, l.length ≤ 12
  nd : ∀ l ∈ ls, l.Nodup
  sub : ∀ l ∈ ls, ∀ z ∈ l, z ∈ names
def spLProg (K : PySem.W.Frag) : Sp := fun vs H Q _ => ∃ (p a : Addr) (names : List Str) (most n : Nat), vs = [.ref p, .ref a, .int (most : Nat)] ∧ SqL K (hide p H) a (names.map .str) ∧ 1 ≤ names.length ∧ names.length ≤ 12 ∧ names.Nodup ∧ most ≤ 12 ∧ Pl H p n ∧ n ≤ 700000000 ∧
  ∀ (ls : Lots) H' q, Same (hide p H) (hide p H') → Pl H' p (n + 200) → LotsOk names ls most → hide p H q = none → PathsAt (hide p H') q ls → Q (.ref q) H'
end WL
end L2
set_option Elab.async false
set_option linter.all false
set_option maxRecDepth 100000
set_option maxHeartbeats 4000000
namespace L2
namespace WL
open PySem PySem.Spec PyProof.Rows K1
/-! ### versions: a beginning, or a renewing with what it read -/
inductive Tm where
  | beg (c : Str)
  | ren (c : Str) (rd : List Tm)
noncomputable instance : DecidableEq Tm := fun _ _ => Classical.propDecidable _
def srcL (rs : Rws) (z : Str) : List Str := (srcs rs z).getD []
/-- one lot -/
noncomputable def lotT (rs : Rws) (v : Str → Tm) (l : List Str) : Str → Tm := fun z => if z ∈ l then .ren z ((srcL rs z).map v) else v z
noncomputable def runT (rs : Rws) (v : Str → Tm) (ls : Lots) : Str → Tm := ls.foldl (lotT rs) v
/-- what all cells are behind a program -/
noncomputable def nowT (rs : Rws) (ls : Lots) : Str → Tm := runT rs .beg ls
theorem runT_app (rs : Rws) (v : Str → Tm) (a b : Lots) : runT rs v (a ++ b) = runT rs (runT rs v a) b := List.foldl_append ..
theorem nowT_snoc (rs : Rws) (ls : Lots) (l : List Str) : nowT rs (ls ++ [l]) = lotT rs (nowT rs ls) l := by
  unfold nowT
  rw [runT_app]
  rfl
theorem nowT_app (rs : Rws) (a b : Lots) : nowT rs (a ++ b) = runT rs (nowT rs a) b := runT_app ..
/-- behind the first k lots -/
noncomputable def atT (rs : Rws) (ls : Lots) (k : Nat) : Str → Tm := nowT rs (ls.take k)
theorem atT_zero (rs : Rws) (ls : Lots) : atT rs ls 0 = .beg := rfl
theorem atT_succ (rs : Rws) (ls : Lots) (k : Nat) : atT rs ls (k + 1) = lotT rs (atT rs ls k) (ls.getD k []) := by
  unfold atT
  by_cases h : k < ls.length
  · rw [show ls.take (k + 1) = ls.take k ++ [ls.getD k []] from by rw [List.take_succ, List.getD_eq_getElem?_getD, List.getElem?_eq_getElem h]; rfl, nowT_snoc]
  · rw [List.take_of_length_le (by omega), List.take_of_length_le (by omega)]
    have e : ls.getD k [] = [] := by rw [List.getD_eq_getElem?_getD, List.getElem?_eq_none (by omega)]; rfl
    rw [e]
    funext z
    show _ = if z ∈ ([] : List Str) then _ else _
    rw [if_neg (by simp)]
theorem atT_all (rs : Rws) (ls : Lots) : atT rs ls ls.length = nowT rs ls := by unfold atT; rw [List.take_length]
/-- the last renewing ahead of lot k -/
theorem lastr (rs : Rws) (ls : Lots) (z : Str) (k : Nat) : ((∀ m, m < k → z ∉ ls.getD m []) ∧ atT rs ls k z = .beg z) ∨
    ∃ k', k' < k ∧ z ∈ ls.getD k' [] ∧ (∀ m, k' < m → m < k → z ∉ ls.getD m []) ∧ atT rs ls k z = .ren z ((srcL rs z).map (atT rs ls k')) := by
  induction k with
  | zero => exact .inl ⟨fun m h => absurd h (Nat.not_lt_zero m), rfl⟩
  | succ k ih =>
    have e : atT rs ls (k + 1) z = if z ∈ ls.getD k [] then .ren z ((srcL rs z).map (atT rs ls k)) else atT rs ls k z := by rw [atT_succ]; rfl
    by_cases h : z ∈ ls.getD k []
    · exact .inr ⟨k, Nat.lt_succ_self k, h, fun m h1 h2 => by omega, by rw [e, if_pos h]⟩
    · rw [if_neg h] at e
      rw [e]
      rcases ih with ⟨h1, h2⟩ | ⟨k', h1, h2, h3, h4⟩
      · exact .inl ⟨fun m hm => by
          rcases Nat.lt_succ_iff_lt_or_eq.mp hm with hm | rfl
          · exact h1 m hm
          · exact h, h2⟩
      · exact .inr ⟨k', by omega, h2, fun m a b => by
          rcases Nat.lt_succ_iff_lt_or_eq.mp b with hm | rfl
          · exact h3 m a hm
          · exact h, h4⟩
theorem map_same {α β : Type} {f g : α → β} : ∀ {l : List α}, l.map f = l.map g → ∀ x ∈ l, f x = g x
  | [], _, x, m => nomatch m
  | y :: l, h, x, m => by
    obtain ⟨h1, h2⟩ := List.cons.inj h
    rcases List.mem_cons.mp m with rfl | m
    · exact h1
    · exact map_same h2 x m
/-- what has changed never comes back -/
theorem never_back (rs : Rws) (ls : Lots) : ∀ (k : Nat) (z : Str) (i j : Nat), i ≤ j → j ≤ k → atT rs ls i z = atT rs ls k z → atT rs ls j z = atT rs ls i z := by
  intro k
  induction k using Nat.strongRecOn with
  | ind k ih =>
    intro z i j hij hjk e
    rcases lastr rs ls z i with ⟨_, ei⟩ | ⟨i', i1, i2, i3, ei⟩
    · rcases lastr rs ls z k with ⟨k1, _⟩ | ⟨k', _, _, _, ek⟩
      · rcases lastr rs ls z j with ⟨_, ej⟩ | ⟨j', j1, j2, _, _⟩
        · rw [ej, ei]
        · exact absurd j2 (k1 j' (by omega))
      · rw [ei, ek] at e
        cases e
    · rcases lastr rs ls z k with ⟨_, ek⟩ | ⟨k', k1, k2, k3, ek⟩
      · rw [ei, ek] at e
        cases e
      · rcases lastr rs ls z j with ⟨j1, _⟩ | ⟨j', j1, j2, j3, ej⟩
        · exact absurd i2 (j1 i' (by omega))
        · have a1 : i' ≤ j' := Classical.byContradiction fun n => j3 i' (by omega) (by omega) i2
          have a2 : j' ≤ k' := Classical.byContradiction fun n => k3 j' (by omega) (by omega) j2
          rw [ei, ek] at e
          have e2 := map_same (Tm.ren.inj e).2
          rw [ej, ei]
          congr 1
          exact List.map_congr_left fun s ms => ih k' k1 s i' j' a1 a2 (e2 s ms)
/-! ### the list of a cell's versions -/
noncomputable def lastT (h : List Tm) : Tm := h.getLast?.getD (.beg Str.empty)
noncomputable def lotH (rs : Rws) (h : Str → List Tm) (l : List Str) : Str → List Tm := fun z => if z ∈ l then h z ++ [.ren z ((srcL rs z).map fun s => lastT (h s))] else h z
noncomputable def histT (rs : Rws) (ls : Lots) : Str → List Tm := ls.foldl (lotH rs) fun z => [.beg z]
theorem histT_snoc' (rs : Rws) (ls : Lots) (l : List Str) : histT rs (ls ++ [l]) = lotH rs (histT rs ls) l := by
  unfold histT
  rw [List.foldl_append]
  rfl
theorem snoc_ind {α : Type} {P : List α → Prop} (h0 : P []) (hs : ∀ l x, P l → P (l ++ [x])) (l : List α) : P l := by
  have key : ∀ m : List α, P m.reverse := by
    intro m
    induction m with
    | nil => exact h0
    | cons x m ih =>
      rw [List.reverse_cons]
      exact hs _ _ ih
  have := key l.reverse
  rwa [List.reverse_reverse] at this
theorem last_snoc (h : List Tm) (t : Tm) : lastT (h ++ [t]) = t := by
  unfold lastT
  rw [List.getLast?_append, List.getLast?_singleton]
  rfl
theorem histT_last (rs : Rws) (ls : Lots) : ∀ z, lastT (histT rs ls z) = nowT rs ls z := by
  induction ls using snoc_ind with
  | h0 => intro z; rfl
  | hs ls l ih =>
    intro z
    rw [histT_snoc', nowT_snoc]
    unfold lotH lotT
    by_cases h : z ∈ l
    · rw [if_pos h, if_pos h, last_snoc]
      congr 1
      exact List.map_congr_left fun s _ => ih s
    · rw [if_neg h, if_neg h]
      exact ih z
theorem histT_snoc (rs : Rws) (ls : Lots) (l : List Str) (z : Str) : histT rs (ls ++ [l]) z = if z ∈ l then histT rs ls z ++ [nowT rs (ls ++ [l]) z] else histT rs ls z := by
  rw [histT_snoc', nowT_snoc]
  unfold lotH lotT
  by_cases h : z ∈ l
  · rw [if_pos h, if_pos h, if_pos h]
    congr 3
    exact List.map_congr_left fun s _ => histT_last rs ls s
  · rw [if_neg h, if_neg h]
/-- how often a cell has been renewed -/
def cntT (ls : Lots) (z : Str) : Nat := (ls.filter fun l => decide (z ∈ l)).length
theorem cntT_snoc (ls : Lots) (l : List Str) (z : Str) : cntT (ls ++ [l]) z = cntT ls z + if z ∈ l then 1 else 0 := by
  unfold cntT
  rw [List.filter_append, List.length_append]
  by_cases h : z ∈ l
  · rw [if_pos h, List.filter_cons, if_pos (decide_eq_true h)]
    rfl
  · rw [if_neg h, List.filter_cons, if_neg (by simpa using h)]
    rfl
theorem histT_len (rs : Rws) (ls : Lots) (z : Str) : (histT rs ls z).length = cntT ls z + 1 := by
  induction ls using snoc_ind with
  | h0 => rfl
  | hs ls l ih =>
    rw [histT_snoc, cntT_snoc]
    by_cases h : z ∈ l
    · rw [if_pos h, if_pos h, List.length_append, ih]
      rfl
    · rw [if_neg h, if_neg h, ih]
theorem histT_ne (rs : Rws) (ls : Lots) (z : Str) : histT rs ls z ≠ [] := fun e => by
  have := histT_len rs ls z
  rw [e] at this
  cases this
theorem last_mem {h : List Tm} (n : h ≠ []) : lastT h ∈ h := by
  unfold lastT
  rw [List.getLast?_eq_some_getLast n]
  exact List.getLast_mem n
theorem now_mem (rs : Rws) (ls : Lots) (z : Str) : nowT rs ls z ∈ histT rs ls z := by
  rw [← histT_last]
  exact last_mem (histT_ne rs ls z)
theorem histT_at (rs : Rws) (ls : Lots) (z : Str) (t : Tm) (h : t ∈ histT rs ls z) : ∃ i, i ≤ ls.length ∧ t = atT rs ls i z := by
  induction ls using snoc_ind with
  | h0 => exact ⟨0, Nat.le_refl 0, List.mem_singleton.mp h⟩
  | hs ls l ih =>
    have old : t ∈ histT rs ls z → ∃ i, i ≤ (ls ++ [l]).length ∧ t = atT rs (ls ++ [l]) i z := fun h => by
      obtain ⟨i, hi, e⟩ := ih h
      refine ⟨i, by rw [List.length_append]; omega, ?_⟩
      rw [e]
      unfold atT
      rw [List.take_append_of_le_length hi]
    rw [histT_snoc] at h
    by_cases hz : z ∈ l
    · rw [if_pos hz] at h
      rcases List.mem_append.mp h with h | h
      · exact old h
      · exact ⟨(ls ++ [l]).length, Nat.le_refl _, by rw [atT_all]; exact List.mem_singleton.mp h⟩
    · rw [if_neg hz] at h
      exact old h
/-- a version that is not alike to the last one is alike to none -/
theorem fresh_now (rs : Rws) (ls : Lots) (l : List Str) (z : Str) (h : nowT rs (ls ++ [l]) z ≠ nowT rs ls z) : nowT rs (ls ++ [l]) z ∉ histT rs ls z := fun m => by
  obtain ⟨i, hi, e⟩ := histT_at rs ls z _ m
  have a1 : atT rs (ls ++ [l]) i z = atT rs ls i z := by
    unfold atT
    rw [List.take_append_of_le_length hi]
  have a2 : atT rs (ls ++ [l]) (ls ++ [l]).length z = nowT rs (ls ++ [l]) z := by rw [atT_all]
  have a3 : atT rs (ls ++ [l]) ls.length z = nowT rs ls z := by
    unfold atT
    rw [List.take_append_of_le_length (Nat.le_refl _), List.take_length]
  have := never_back rs (ls ++ [l]) (ls ++ [l]).length z i ls.length hi (by rw [List.length_append]; omega) (by rw [a1, a2, ← e])
  rw [a1, a3, ← e] at this
  exact h this.symm
/-! ### the first alike ones -/
noncomputable def fal (h : List Tm) : List Nat := h.map fun t => h.idxOf t
theorem idx_app {h : List Tm} {t : Tm} (m : t ∈ h) (g : List Tm) : (h ++ g).idxOf t = h.idxOf t := by rw [List.idxOf_append, if_pos m]
theorem idx_new {h : List Tm} {t : Tm} (m : t ∉ h) : (h ++ [t]).idxOf t = h.length := by
  rw [List.idxOf_append, if_neg m, List.idxOf_cons_self]
  exact Nat.zero_add _
theorem fal_len (h : List Tm) : (fal h).length = h.length := List.length_map ..
theorem fal_snoc (h : List Tm) (t : Tm) : fal (h ++ [t]) = fal h ++ [if t ∈ h then h.idxOf t else h.length] := by
  unfold fal
  rw [List.map_append]
  congr 1
  · exact List.map_congr_left fun x m => idx_app m [t]
  · show [(h ++ [t]).idxOf t] = _
    by_cases m : t ∈ h
    · rw [if_pos m, idx_app m]
    · rw [if_neg m, idx_new m]
theorem fal_get (h : List Tm) (i : Nat) (t : Tm) (e : h[i]? = some t) : (fal h)[i]? = some (h.idxOf t) := by
  unfold fal
  rw [List.getElem?_map, e]
  rfl
theorem idx_inj {h : List Tm} {s t : Tm} (hs : s ∈ h) (e : h.idxOf s = h.idxOf t) : s = t := by
  have l1 := List.idxOf_lt_length_of_mem hs
  have a := List.getElem_idxOf l1
  have l2 : h.idxOf t < h.length := by omega
  have b := List.getElem_idxOf l2
  rw [← a, ← b]
  simp only [e]
theorem last_get {h : List Tm} {n : Nat} (e : h.length = n + 1) : h[n]? = some (lastT h) := by
  unfold lastT
  rw [List.getLast?_eq_getElem?, e, Nat.add_sub_cancel]
  rw [List.getElem?_eq_getElem (by omega)]
  rfl
theorem nowT_cell (rs : Rws) (ls : Lots) (z : Str) : nowT rs ls z = .beg z ∨ ∃ k, nowT rs ls z = .ren z ((srcL rs z).map (atT rs ls k)) ∧ k < ls.length := by
  rw [← atT_all]
  rcases lastr rs ls z ls.length with ⟨_, e⟩ | ⟨k, h1, _, _, e⟩
  · exact .inl e
  · exact .inr ⟨k, e, h1⟩
theorem at_mem (rs : Rws) (ls : Lots) (z : Str) (k : Nat) (h : k ≤ ls.length) : atT rs ls k z ∈ histT rs ls z := by
  induction ls using snoc_ind with
  | h0 =>
    obtain rfl : k = 0 := by simpa using h
    exact List.mem_singleton.mpr rfl
  | hs ls l ih =>
    rw [List.length_append] at h
    by_cases hk : k ≤ ls.length
    · have a1 : atT rs (ls ++ [l]) k z = atT rs ls k z := by
        unfold atT
        rw [List.take_append_of_le_length hk]
      rw [a1, histT_snoc]
      split
      · exact List.mem_append_left _ (ih hk)
      · exact ih hk
    · have : k = (ls ++ [l]).length := by
        rw [List.length_append]
        have : [l].length = 1 := rfl
        omega
      rw [this, atT_all]
      exact now_mem ..
/-- the list never falls -/
theorem fal_up (rs : Rws) (ls : Lots) (z : Str) : (fal (histT rs ls z)).Pairwise (· ≤ ·) := by
  induction ls using snoc_ind with
  | h0 => exact List.pairwise_singleton _ _
  | hs ls l ih =>
    rw [histT_snoc]
    split
    · rw [fal_snoc, List.pairwise_append]
      refine ⟨ih, List.pairwise_singleton _ _, fun a ha b hb => ?_⟩
      rw [List.mem_singleton.mp hb]
      split
      · rename_i m
        have e : nowT rs (ls ++ [l]) z = nowT rs ls z := Classical.byContradiction fun n => fresh_now rs ls l z n m
        rw [e]
        have hl := histT_len rs ls z
        have g := fal_get _ _ _ (last_get hl)
        rw [histT_last] at g
        obtain ⟨i, hi⟩ := List.mem_iff_getElem?.mp ha
        have li : i < (fal (histT rs ls z)).length := (List.getElem?_eq_some_iff.mp hi).1
        rw [fal_len, hl] at li
        by_cases hie : i = cntT ls z
        · subst hie
          rw [g] at hi
          rw [Option.some.inj hi]
          exact Nat.le_refl _
        · have := List.pairwise_iff_getElem.mp ih i (cntT ls z) (by rw [fal_len]; omega) (by rw [fal_len]; omega) (by omega)
          obtain ⟨_, e1⟩ := List.getElem?_eq_some_iff.mp hi
          obtain ⟨_, e2⟩ := List.getElem?_eq_some_iff.mp g
          rw [e1, e2] at this
          exact this
      · unfold fal at ha
        obtain ⟨t, mt, rfl⟩ := List.mem_map.mp ha
        exact Nat.le_of_lt (List.idxOf_lt_length_of_mem mt)
    · exact ih
end WL
end L2
set_option Elab.async false
set_option linter.all false
set_option maxRecDepth 100000
set_option maxHeartbeats 4000000
namespace L2
namespace WL
open PySem PySem.Spec PyProof.Rows K1
/-! ### the list of renewings -/
abbrev Rn : Type := Nat × Str × Nat × List Nat
def cellsIn (rs : Rws) (l : List Str) : List Str := (rs.map Prod.fst).filter fun z => decide (z ∈ l)
def rnAt (rs : Rws) (ls : Lots) (z : Str) : Rn := (ls.length, z, cntT ls z + 1, (srcL rs z).map (cntT ls))
def rdG (rs : Rws) (b : Lots) : Lots → List Rn
  | [] => []
  | l :: ls => (cellsIn rs l).map (rnAt rs b) ++ rdG rs (b ++ [l]) ls
def rdl (rs : Rws) (ls : Lots) : List Rn := rdG rs [] ls
theorem rdG_snoc (rs : Rws) : ∀ (ls : Lots) (b : Lots) (l : List Str), rdG rs b (ls ++ [l]) = rdG rs b ls ++ (cellsIn rs l).map (rnAt rs (b ++ ls))
  | [], b, l => by
    show (cellsIn rs l).map (rnAt rs b) ++ [] = [] ++ (cellsIn rs l).map (rnAt rs (b ++ []))
    rw [List.append_nil, List.append_nil, List.nil_append]
  | m :: ls, b, l => by
    show (cellsIn rs m).map (rnAt rs b) ++ rdG rs (b ++ [m]) (ls ++ [l]) = ((cellsIn rs m).map (rnAt rs b) ++ rdG rs (b ++ [m]) ls) ++ _
    rw [rdG_snoc rs ls (b ++ [m]) l, List.append_assoc, List.append_assoc]
    rfl
theorem rdl_snoc (rs : Rws) (ls : Lots) (l : List Str) : rdl rs (ls ++ [l]) = rdl rs ls ++ (cellsIn rs l).map (rnAt rs ls) := rdG_snoc rs ls [] l
/-! ### first_alike -/
abbrev FA : Type := (Str → List Nat) × (Str → Option (List Nat))
def putS {α : Type} (f : Str → α) (z : Str) (x : α) : Str → α := fun y => if y = z then x else f y
theorem putS_same {α : Type} (f : Str → α) (z : Str) (x : α) : putS f z x z = x := if_pos rfl
theorem putS_ne {α : Type} (f : Str → α) {z y : Str} (x : α) (h : y ≠ z) : putS f z x y = f y := if_neg h
def lastN (l : List Nat) : Nat := l.getLast?.getD 0
def rdFA (rs : Rws) (s : FA) (z : Str) (vs : List Nat) : List Nat := ((srcL rs z).zip vs).map fun p => (s.1 p.1).getD p.2 0
def fa1 (rs : Rws) (s : FA) (r : Rn) : FA := (putS s.1 r.2.1 (s.1 r.2.1 ++ [if s.2 r.2.1 = some (rdFA rs s r.2.1 r.2.2.2) then lastN (s.1 r.2.1) else r.2.2.1]), putS s.2 r.2.1 (some (rdFA rs s r.2.1 r.2.2.2)))
def fa0 : FA := (fun _ => [0], fun _ => none)
/-- the numbers that a cell has read last -/
noncomputable def rdN (rs : Rws) (ls : Lots) (z : Str) : Option (List Nat) := match nowT rs ls z with
  | .beg _ => none
  | .ren _ rd => some (((srcL rs z).zip rd).map fun p => (histT rs ls p.1).idxOf p.2)
structure FaOk (rs : Rws) (ls : Lots) (s : FA) : Prop where
  f : ∀ z, s.1 z = fal (histT rs ls z)
  r : ∀ z, s.2 z = rdN rs ls z
theorem zip_maps {α β γ : Type} (f : α → β) (g : α × β → γ) (l : List α) : (l.zip (l.map f)).map g = l.map fun x => g (x, f x) := by
  induction l with
  | nil => rfl
  | cons x l ih =>
    show g (x, f x) :: ((l.zip (l.map f)).map g) = _
    rw [ih]
    rfl
theorem rdN_ren {rs : Rws} {ls : Lots} {z c : Str} {f : Str → Tm} (e : nowT rs ls z = .ren c ((srcL rs z).map f)) : rdN rs ls z = some ((srcL rs z).map fun s => (histT rs ls s).idxOf (f s)) := by
  unfold rdN
  rw [e]
  show some (((srcL rs z).zip ((srcL rs z).map f)).map fun p => (histT rs ls p.1).idxOf p.2) = _
  rw [zip_maps]
theorem histT_grow (rs : Rws) (ls : Lots) (l : List Str) (z : Str) : ∃ g, histT rs (ls ++ [l]) z = histT rs ls z ++ g := by
  rw [histT_snoc]
  split
  · exact ⟨_, rfl⟩
  · exact ⟨[], (List.append_nil _).symm⟩
theorem rdN_grow {rs : Rws} {ls : Lots} {l : List Str} {z : Str} (h : z ∉ l) : rdN rs (ls ++ [l]) z = rdN rs ls z := by
  have e : nowT rs (ls ++ [l]) z = nowT rs ls z := by
    rw [nowT_snoc]
    exact if_neg h
  rcases nowT_cell rs ls z with e1 | ⟨k, e1, hk⟩
  · unfold rdN
    rw [e, e1]
  · rw [rdN_ren (e.trans e1), rdN_ren e1]
    congr 1
    refine List.map_congr_left fun s _ => ?_
    obtain ⟨g, hg⟩ := histT_grow rs ls l s
    rw [hg, idx_app (at_mem rs ls s k (Nat.le_of_lt hk))]
theorem fa_last (h : List Tm) (n : h ≠ []) : lastN (fal h) = h.idxOf (lastT h) := by
  unfold lastN fal lastT
  rw [List.getLast?_map, List.getLast?_eq_some_getLast n]
  rfl
/-- a lot, cell by cell -/
theorem fa_lot {rs : Rws} {ls : Lots} {l : List Str} {s0 : FA} (h0 : FaOk rs ls s0) : ∀ (todo done : List Str) (s : FA), (done ++ todo).Nodup → (∀ z ∈ todo, z ∈ l) →
    (∀ z, s.1 z = if z ∈ done then fal (histT rs (ls ++ [l]) z) else fal (histT rs ls z)) → (∀ z, s.2 z = if z ∈ done then rdN rs (ls ++ [l]) z else rdN rs ls z) →
    (∀ z ∈ done, z ∈ l) → (∀ z, ((todo.map (rnAt rs ls)).foldl (fa1 rs) s).1 z = if z ∈ done ++ todo then fal (histT rs (ls ++ [l]) z) else fal (histT rs ls z)) ∧
      ∀ z, ((todo.map (rnAt rs ls)).foldl (fa1 rs) s).2 z = if z ∈ done ++ todo then rdN rs (ls ++ [l]) z else rdN rs ls z
  | [], done, s, _, _, hF, hR, _ => by
    rw [List.append_nil]
    exact ⟨hF, hR⟩
  | z :: todo, done, s, nd, ht, hF, hR, hd => by
    have zl : z ∈ l := ht z (List.mem_cons_self ..)
    have zd : z ∉ done := fun m => (List.nodup_append.mp nd).2.2 z m z (List.mem_cons_self ..) rfl
    have e1 : nowT rs (ls ++ [l]) z = .ren z ((srcL rs z).map (nowT rs ls)) := by
      rw [nowT_snoc]
      exact if_pos zl
    have eh : histT rs (ls ++ [l]) z = histT rs ls z ++ [nowT rs (ls ++ [l]) z] := by
      rw [histT_snoc]
      exact if_pos zl
    have rd : rdFA rs s z ((srcL rs z).map (cntT ls)) = (srcL rs z).map fun y => (histT rs ls y).idxOf (nowT rs ls y) := by
      unfold rdFA
      rw [zip_maps]
      refine List.map_congr_left fun y _ => ?_
      show (s.1 y).getD (cntT ls y) 0 = _
      have g := fal_get _ _ _ (last_get (histT_len rs ls y))
      rw [histT_last] at g
      rw [hF y]
      split
      · obtain ⟨gr, hg⟩ := histT_grow rs ls l y
        have l1 : cntT ls y < (histT rs ls y).length := by
          rw [histT_len]
          omega
        have g2 : (fal (histT rs (ls ++ [l]) y))[cntT ls y]? = some ((histT rs (ls ++ [l]) y).idxOf (nowT rs ls y)) := by
          refine fal_get _ _ _ ?_
          rw [hg, List.getElem?_append_left l1, last_get (histT_len rs ls y), histT_last]
        rw [List.getD_eq_getElem?_getD, g2, hg, idx_app (now_mem rs ls y)]
        rfl
      · rw [List.getD_eq_getElem?_getD, g]
        rfl
    have rN : rdN rs (ls ++ [l]) z = some ((srcL rs z).map fun y => (histT rs ls y).idxOf (nowT rs ls y)) := by
      rw [rdN_ren e1]
      congr 1
      refine List.map_congr_left fun y _ => ?_
      obtain ⟨g, hg⟩ := histT_grow rs ls l y
      rw [hg, idx_app (now_mem rs ls y)]
    have cmp : s.2 z = some (rdFA rs s z ((srcL rs z).map (cntT ls))) ↔ nowT rs (ls ++ [l]) z = nowT rs ls z := by
      rw [hR z, if_neg zd, rd, e1]
      constructor
      · intro h
        rcases nowT_cell rs ls z with e2 | ⟨k, e2, hk⟩
        · unfold rdN at h
          rw [e2] at h
          cases h
        · rw [rdN_ren e2] at h
          have h2 := map_same (Option.some.inj h)
          rw [e2]
          congr 1
          exact List.map_congr_left fun y my => (idx_inj (at_mem rs ls y k (Nat.le_of_lt hk)) (h2 y my)).symm
      · intro h
        exact rdN_ren h.symm
    have new : s.1 z ++ [if s.2 z = some (rdFA rs s z ((srcL rs z).map (cntT ls))) then lastN (s.1 z) else cntT ls z + 1] = fal (histT rs (ls ++ [l]) z) := by
      rw [hF z, if_neg zd, eh, fal_snoc]
      congr 2
      by_cases c : nowT rs (ls ++ [l]) z = nowT rs ls z
      · rw [if_pos (cmp.mpr c), c, if_pos (now_mem rs ls z), fa_last _ (histT_ne rs ls z), histT_last]
      · rw [if_neg (fun h => c (cmp.mp h)), if_neg (fresh_now rs ls l z c), histT_len]
    have go := fa_lot h0 todo (done ++ [z]) (fa1 rs s (rnAt rs ls z)) (by rw [List.append_assoc]; exact nd) (fun y m => ht y (List.mem_cons_of_mem _ m)) (fun y => ?_) (fun y => ?_) (fun y m => ?_)
    · rw [List.append_assoc] at go
      exact go
    · show putS s.1 z _ y = _
      by_cases hy : y = z
      · subst hy
        rw [putS_same, if_pos (List.mem_append_right _ (List.mem_singleton.mpr rfl))]
        exact new
      · rw [putS_ne _ _ hy, hF y]
        by_cases hm : y ∈ done
        · rw [if_pos hm, if_pos (List.mem_append_left _ hm)]
        · rw [if_neg hm, if_neg (fun m => (List.mem_append.mp m).elim hm fun m => hy (List.mem_singleton.mp m))]
    · show putS s.2 z _ y = _
      by_cases hy : y = z
      · subst hy
        rw [putS_same, if_pos (List.mem_append_right _ (List.mem_singleton.mpr rfl)), rN]
        exact congrArg some rd
      · rw [putS_ne _ _ hy, hR y]
        by_cases hm : y ∈ done
        · rw [if_pos hm, if_pos (List.mem_append_left _ hm)]
        · rw [if_neg hm, if_neg (fun m => (List.mem_append.mp m).elim hm fun m => hy (List.mem_singleton.mp m))]
    · rcases List.mem_append.mp m with m | m
      · exact hd y m
      · rw [List.mem_singleton.mp m]
        exact zl
/-- first_alike of all renewings -/
theorem fa_all {rs : Rws} (nd : (rs.map Prod.fst).Nodup) (ls : Lots) (sub : ∀ l ∈ ls, ∀ z ∈ l, z ∈ rs.map Prod.fst) : FaOk rs ls ((rdl rs ls).foldl (fa1 rs) fa0) := by
  induction ls using snoc_ind with
  | h0 =>
    refine ⟨fun z => ?_, fun z => rfl⟩
    show [0] = [List.idxOf (Tm.beg z) [Tm.beg z]]
    rw [List.idxOf_cons_self]
  | hs ls l ih =>
    have ih := ih fun m hm => sub m (List.mem_append_left _ hm)
    rw [rdl_snoc, List.foldl_append]
    have nc : (cellsIn rs l).Nodup := nd.sublist (List.filter_sublist)
    have mc : ∀ z, z ∈ cellsIn rs l ↔ z ∈ l := fun z => by
      unfold cellsIn
      rw [List.mem_filter]
      exact ⟨fun h => of_decide_eq_true h.2, fun h => ⟨sub l (List.mem_append_right _ (List.mem_singleton.mpr rfl)) z h, decide_eq_true h⟩⟩
    obtain ⟨h1, h2⟩ := fa_lot ih (cellsIn rs l) [] _ nc (fun z m => (mc z).mp m) (fun z => by rw [if_neg (by simp)]; exact ih.f z) (fun z => by rw [if_neg (by simp)]; exact ih.r z) (fun z m => nomatch m)
    rw [List.nil_append] at h1 h2
    refine ⟨fun z => ?_, fun z => ?_⟩
    · rw [h1 z]
      by_cases hz : z ∈ l
      · rw [if_pos ((mc z).mpr hz)]
      · rw [if_neg (fun m => hz ((mc z).mp m)), histT_snoc, if_neg hz]
    · rw [h2 z]
      by_cases hz : z ∈ l
      · rw [if_pos ((mc z).mpr hz)]
      · rw [if_neg (fun m => hz ((mc z).mp m)), rdN_grow hz]
end WL
end L2
set_option Elab.async false
set_option linter.all false
set_option maxRecDepth 100000
set_option maxHeartbeats 4000000
namespace L2
namespace WL
open PySem PySem.Spec PyProof.Rows K1
/-! ### dicts with the cells as keys, in their order -/
def dC (cs : List Str) (f : Str → V) : List (Key × V) := cs.map fun c => (kS c, f c)
theorem kS_inj {a b : Str} (h : kS a = kS b) : a = b := Sum.inr.inj h
theorem dC_len (cs : List Str) (f : Str → V) : (dC cs f).length = cs.length := List.length_map ..
theorem dC_val {f : Str → V} {z : Str} : ∀ {cs : List Str}, z ∈ cs → valV (dC cs f) (kS z) = some (f z)
  | c :: cs, h => by
    show ((List.find? (fun kv => decide (kv.1 = kS z)) ((kS c, f c) :: dC cs f)).map (·.2)) = _
    by_cases e : c = z
    · subst e
      rw [List.find?_cons, decide_eq_true (rfl : (kS c, f c).1 = kS c)]
      rfl
    · rw [List.find?_cons, decide_eq_false (fun h : (kS c, f c).1 = kS z => e (kS_inj h))]
      exact dC_val ((List.mem_cons.mp h).resolve_left fun h => e h.symm)
theorem dC_none {f : Str → V} {z : Str} {cs : List Str} (h : z ∉ cs) : valV (dC cs f) (kS z) = none := by
  unfold valV dC
  rw [List.find?_eq_none.mpr fun kv m => by
    obtain ⟨c, mc, rfl⟩ := List.mem_map.mp m
    simpa using fun e : kS c = kS z => h (by rw [← kS_inj e]; exact mc)]
  rfl
theorem dC_any {f : Str → V} {z : Str} {cs : List Str} : ((dC cs f).any fun kv => decide (kv.1 = kS z)) = decide (z ∈ cs) := by
  unfold dC
  rw [List.any_map]
  by_cases h : z ∈ cs
  · rw [decide_eq_true h, List.any_eq_true]
    exact ⟨z, h, decide_eq_true rfl⟩
  · rw [decide_eq_false h, List.any_eq_false]
    exact fun c m => by simpa using fun e : kS c = kS z => h (by rw [← kS_inj e]; exact m)
theorem dC_put {f : Str → V} {z : Str} {v : V} {cs : List Str} (h : z ∈ cs) : putK (dC cs f) (kS z) v = dC cs (putS f z v) := by
  unfold putK
  rw [if_pos (by rw [dC_any]; exact decide_eq_true h)]
  unfold dC
  rw [List.map_map]
  refine List.map_congr_left fun c _ => ?_
  show (if kS c = kS z then (kS c, v) else (kS c, f c)) = (kS c, putS f z v c)
  by_cases e : c = z
  · subst e
    rw [if_pos rfl, putS_same]
  · rw [if_neg fun h => e (kS_inj h), putS_ne _ _ e]
theorem dC_snoc {f : Str → V} {z : Str} {cs : List Str} (h : z ∉ cs) : putK (dC cs f) (kS z) (f z) = dC (cs ++ [z]) f := by
  unfold putK
  rw [if_neg (by rw [dC_any]; simpa using h)]
  unfold dC
  rw [List.map_append]
  rfl
theorem dC_congr {f g : Str → V} {cs : List Str} (h : ∀ z ∈ cs, f z = g z) : dC cs f = dC cs g := List.map_congr_left fun z m => by rw [h z m]
theorem dC_get {H : Hp} {d : Addr} {cs : List Str} {f : Str → V} {z : Str} (e : H d = some (.dK (dC cs f))) (h : z ∈ cs) : DGet H d (.str z) (some (f z)) := by
  rw [← dC_val (f := f) h]
  exact DGet.k (k := kS z) e
theorem dC_dput {H : Hp} {d : Addr} {cs : List Str} {f : Str → V} {z : Str} {v : V} (e : H d = some (.dK (dC cs f))) (h : z ∈ cs) (l : cs.length ≤ 900) : DPut H d (.str z) v (upd H d (.dK (dC cs (putS f z v)))) := by
  rw [← dC_put h]
  exact DPut.k (k := kS z) e (by rw [dC_len, sizeLine_eq]; omega)
/-! ### the sources of a cell in the web -/
theorem web_src {K : PySem.W.Frag} {H : Hp} {s : Addr} {ks : List (Key × V)} {rs : Rws} (e : H s = some (.dK ks)) (d : DTup K H ks rs) {z : Str} (m : z ∈ rs.map Prod.fst) : ∃ a, DGet H s (.str z) (some (.ref a)) ∧ SqT K H a ((srcL rs z).map .str) := by
  rcases d.get (z := z) with ⟨xs, a, g1, g2, g3⟩ | ⟨g1, _⟩
  · refine ⟨a, ?_, ?_⟩
    · rw [← g2]
      exact DGet.k (k := kS z) e
    · unfold srcL
      rw [g1]
      exact g3
  · exact absurd m (srcs_none.mp g1)
theorem srcL_sub {rs : Rws} (g : Good rs) {z y : Str} (h : y ∈ srcL rs z) : y ∈ rs.map Prod.fst := by
  unfold srcL at h
  cases e : srcs rs z with
  | none =>
    rw [e] at h
    exact nomatch h
  | some xs =>
    rw [e] at h
    obtain ⟨p, hp, _, rfl⟩ := srcs_mem e
    exact (g.sr p hp).2.2 y h
theorem srcL_len {rs : Rws} (g : Good rs) (z : Str) : (srcL rs z).length ≤ 900 := by
  unfold srcL
  cases e : srcs rs z with
  | none => exact Nat.zero_le _
  | some xs =>
    obtain ⟨p, hp, _, rfl⟩ := srcs_mem e
    exact (g.sr p hp).1
theorem srcL_nd {rs : Rws} (g : Good rs) (z : Str) : (srcL rs z).Nodup := by
  unfold srcL
  cases e : srcs rs z with
  | none => exact List.nodup_nil
  | some xs =>
    obtain ⟨p, hp, _, rfl⟩ := srcs_mem e
    exact (g.sr p hp).2.1
/-! ### renewings in the heap -/
def nV (n : Nat) : V := .int (n : Nat)
theorem tup_over {H : Hp} {D q : Addr} {o o' : HO} {xs : List V} (e : H q = some (.tup xs)) (d : H D = some o) (no : ∀ ys, o ≠ .tup ys) : upd H D o' q = some (.tup xs) := by
  rw [upd_ne fun z => by
    rw [z, d] at e
    exact no _ (Option.some.inj e)]
  exact e
def RnT (H : Hp) (v : V) (r : Rn) : Prop := ∃ q t, v = .ref q ∧ H q = some (.tup [nV r.1, .str r.2.1, nV r.2.2.1, .ref t]) ∧ H t = some (.tup (r.2.2.2.map nV))
theorem RnT.same {H H' : Hp} {v : V} {r : Rn} (h : RnT H v r) (s : Same H H') : RnT H' v r := let ⟨q, t, e, a, b⟩ := h; ⟨q, t, e, s _ _ a, s _ _ b⟩
theorem RnT.over {H : Hp} {v : V} {r : Rn} {D : Addr} {o o' : HO} (h : RnT H v r) (d : H D = some o) (no : ∀ ys, o ≠ .tup ys) : RnT (upd H D o') v r := let ⟨q, t, e, a, b⟩ := h; ⟨q, t, e, tup_over a d no, tup_over b d no⟩
def RdAt (H : Hp) (D : Addr) (R : List Rn) : Prop := ∃ vl, H D = some (.lst vl) ∧ Paired (RnT H) vl R
theorem RdAt.same {H H' : Hp} {D : Addr} {R : List Rn} (h : RdAt H D R) (s : Same H H') : RdAt H' D R := let ⟨vl, e, a⟩ := h; ⟨vl, s _ _ e, Paired.imp (fun _ _ r => r.same s) a⟩
theorem rnTs_same {H H' : Hp} {vl : List V} {R : List Rn} (h : Paired (RnT H) vl R) (s : Same H H') : Paired (RnT H') vl R := Paired.imp (fun _ _ r => r.same s) h
theorem rnTs_over {H : Hp} {vl : List V} {R : List Rn} {D : Addr} {o o' : HO} (h : Paired (RnT H) vl R) (d : H D = some o) (no : ∀ ys, o ≠ .tup ys) : Paired (RnT (upd H D o')) vl R := Paired.imp (fun _ _ r => r.over d no) h
theorem nVs {l : List Nat} : l.map nV = (l.map fun n : Nat => (n : Int)).map V.int := by
  rw [List.map_map]
  rfl
theorem tup_hide {H : Hp} {D q : Addr} {o : HO} {xs : List V} (e : H q = some (.tup xs)) (d : H D = some o) (no : ∀ ys, o ≠ .tup ys) : hide D H q = some (.tup xs) := by
  rw [hide_ne fun z => by
    rw [z, d] at e
    exact no _ (Option.some.inj e)]
  exact e
theorem RnT.hide {H : Hp} {v : V} {r : Rn} {D : Addr} {o : HO} (h : RnT H v r) (d : H D = some o) (no : ∀ ys, o ≠ .tup ys) : RnT (hide D H) v r := let ⟨q, t, e, a, b⟩ := h; ⟨q, t, e, tup_hide a d no, tup_hide b d no⟩
theorem RdAt.hide {H : Hp} {N D : Addr} {R : List Rn} {o : HO} (h : RdAt H D R) (d : H N = some o) (no : ∀ ys, o ≠ .tup ys) (nl : ∀ ys, o ≠ .lst ys) : RdAt (hide N H) D R := by
  obtain ⟨vl, e, a⟩ := h
  refine ⟨vl, ?_, Paired.imp (fun _ _ r => r.hide d no) a⟩
  rw [hide_ne fun z => by
    rw [z, d] at e
    exact nl _ (Option.some.inj e)]
  exact e
theorem TupT.hideO {H : Hp} {D : Addr} {o : HO} {v : V} {ts : List Str} (h : TupT H v ts) (d : H D = some o) (no : ∀ ys, o ≠ .tup ys) : TupT (WL.hide D H) v ts := let ⟨p, e, a⟩ := h; ⟨p, e, tup_hide a d no⟩
theorem rd_hideN {H : Hp} {b D : Addr} {u : HO} (h : Rd H b u) (n : b ≠ D) : Rd (hide D H) b u := by
  rcases h with h | ⟨o, h⟩
  · exact .inl (by rw [hide_ne n]; exact h)
  · exact .inr ⟨o, by rw [hide_ne n]; exact h⟩
/-- what is not one of ours is not hidden -/
theorem Seq.hideN {K : PySem.W.Frag} {H : Hp} {b D : Addr} {xs : List V} (h : Seq K H (.ref b) xs) (n : b ≠ D) : Seq K (hide D H) (.ref b) xs := by
  obtain ⟨a, e, h⟩ := h
  cases e
  refine ⟨b, rfl, ?_⟩
  rcases h with (h | h) | (h | h)
  · exact .inl (.inl (rd_hideN h n))
  · exact .inl (.inr h)
  · exact .inr (.inl (rd_hideN h n))
  · exact .inr (.inr h)
theorem same_hideB {B H : Hp} {D : Addr} (s : Same B H) (n : B D = none) : Same B (hide D H) := fun b o e => by
  rw [hide_ne (ne_of_none e n)]
  exact s _ _ e
/-! ### zip of two tuples in a comprehension -/
theorem walk_zipT {K : PySem.W.Frag} {a b : Addr} {xs ys : List V} {n : Nat} (hn : n = min xs.length ys.length) : Walk (RZ.ItzT K a b) n (fun H => SqT K H a xs ∧ SqT K H b ys) (YPair (fun i => xs[i]?) (fun i => ys[i]?)) := by
  subst hn
  refine ⟨fun i _ hi q => ?_, fun _ q => ⟨xs, ys, q.1, q.2, by omega⟩, fun i H v H' _ q y => ?_⟩
  · have h1 : i < xs.length := by omega
    have h2 : i < ys.length := by omega
    exact ⟨xs, ys, xs[i], ys[i], q.1, q.2, by simp [h1], by simp [h2]⟩
  · obtain ⟨T, x, y', rfl, hT, rfl, f1, f2⟩ := y
    exact ⟨T, x, y', rfl, hT, rfl, f1 xs q.1, f2 ys q.2⟩
/-! ### promises -/
def spInOrd (K : PySem.W.Frag) (C : Addr) : Sp := fun vs H Q _ => ∃ (wb : Addr) (v : V) (rs : Rws) (l : List Str), vs = [.ref wb, v] ∧ IsWeb K H C wb rs ∧ Good rs ∧ TupT H v l ∧ (∀ z ∈ l, z ∈ rs.map Prod.fst) ∧ l.length ≤ 900 ∧ ∀ H' u, Same H H' → Seq K H' u ((cellsIn rs l).map .str) → (u = v ∨ ∃ b, u = .ref b ∧ H b = none) → Q u H'
def spReads (K : PySem.W.Frag) (CW CP CU : Addr) : Sp := fun vs H Q E => ∃ (wb p : Addr) (rs : Rws) (ls : Lots), vs = [.ref wb, .ref p] ∧ IsWeb K H CW wb rs ∧ Good rs ∧ IsPr H CP p ls ∧ GoodP ls ∧
  (((∀ l ∈ ls, ∀ z ∈ l, z ∈ rs.map Prod.fst) ∧ ∀ H' D, Same H H' → H D = none → RdAt H' D (rdl rs ls) → Q (.ref D) H') ∨ ∃ z, firstS (rs.map Prod.fst) ls = some z ∧ Rz H E CU "cell" (.str z))
theorem cin_one {rs : Rws} (nd : (rs.map Prod.fst).Nodup) {z : Str} (h : z ∈ rs.map Prod.fst) : cellsIn rs [z] = [z] := by
  unfold cellsIn
  have key : ∀ {cs : List Str}, cs.Nodup → z ∈ cs → cs.filter (fun y => decide (y ∈ [z])) = [z] := by
    intro cs
    induction cs with
    | nil => intro _ h; exact nomatch h
    | cons c cs ih =>
      intro nd h
      obtain ⟨n1, n2⟩ := List.nodup_cons.mp nd
      by_cases e : c = z
      · subst e
        rw [List.filter_cons_of_pos (by simp)]
        congr 1
        exact List.filter_eq_nil_iff.mpr fun y my => by
          simpa using fun e : y = c => n1 (e ▸ my)
      · rw [List.filter_cons_of_neg (by simpa using e)]
        exact ih n2 ((List.mem_cons.mp h).resolve_left fun h => e h.symm)
  exact key nd h
theorem cin_len (rs : Rws) (l : List Str) : (cellsIn rs l).length ≤ rs.length := by
  unfold cellsIn
  have := List.length_filter_le (fun z => decide (z ∈ l)) (rs.map Prod.fst)
  rw [List.length_map] at this
  exact this
theorem rdl_len (rs : Rws) (ls : Lots) : (rdl rs ls).length ≤ ls.length * rs.length := by
  induction ls using snoc_ind with
  | h0 => exact Nat.zero_le _
  | hs ls l ih =>
    rw [rdl_snoc, List.length_append, List.length_map, List.length_append]
    have := cin_len rs l
    have e : (ls.length + [l].length) * rs.length = ls.length * rs.length + rs.length := by
      show (ls.length + 1) * _ = _
      rw [Nat.add_mul, Nat.one_mul]
    omega
theorem cin_mem {rs : Rws} {l : List Str} {z : Str} (h : z ∈ cellsIn rs l) : z ∈ rs.map Prod.fst ∧ z ∈ l := by
  unfold cellsIn at h
  obtain ⟨a, b⟩ := List.mem_filter.mp h
  exact ⟨a, of_decide_eq_true b⟩
theorem rngP {α β : Type} (d : α) (p : α → Bool) (f : α → β) (xs : List α) : ((List.range xs.length).filter fun i => p (xs.getD i d)).map (fun i => f (xs.getD i d)) = (xs.filter p).map f := by
  induction xs using snoc_ind with
  | h0 => rfl
  | hs l x ih =>
    have e : ∀ i, i < l.length → (l ++ [x]).getD i d = l.getD i d := fun i hi => by
      rw [List.getD_eq_getElem?_getD, List.getD_eq_getElem?_getD, List.getElem?_append_left hi]
    have en : (l ++ [x]).getD l.length d = x := by
      rw [List.getD_eq_getElem?_getD, List.getElem?_append_right (Nat.le_refl _), Nat.sub_self]
      rfl
    rw [List.length_append, show l.length + [x].length = l.length + 1 from rfl, List.range_succ, List.filter_append, List.map_append, List.filter_append, List.map_append]
    congr 1
    · rw [← ih]
      have h1 : (List.range l.length).filter (fun i => p ((l ++ [x]).getD i d)) = (List.range l.length).filter fun i => p (l.getD i d) := List.filter_congr fun i hi => by rw [e i (List.mem_range.mp hi)]
      rw [h1]
      exact List.map_congr_left fun i hi => by rw [e i (List.mem_range.mp (List.mem_filter.mp hi).1)]
    · rw [List.filter_cons, List.filter_cons, en]
      split
      · show [f ((l ++ [x]).getD l.length d)] = [f x]
        rw [en]
      · rfl
/-- for x in e: e first -/
theorem t_forE {K : PySem.W.Frag} {te : TE} {g : TG} {tb : TS} {D : Ends} {σ : St} {H : Hp} (h : te σ H fun u H1 => tFor (iSeq K fun _ H2 Q => Q u H2) g tb D σ H1) : tFor (iSeq K te) g tb D σ H := h
theorem t_arg {te : TE} {ta : TA} {σ : St} {H : Hp} {Q : List V → Hp → Prop} (h : te σ H fun x H1 => ta σ H1 fun xs H2 => Q (x :: xs) H2) : tCons te ta σ H Q := h
theorem take_nin {cs : List Str} (nd : cs.Nodup) {i : Nat} {z : Str} (hz : cs[i]? = some z) : z ∉ cs.take i := fun m => by
  obtain ⟨j, hj⟩ := List.mem_iff_getElem?.mp m
  have lj : j < i := by
    have := (List.getElem?_eq_some_iff.mp hj).1
    rw [List.length_take] at this
    omega
  rw [List.getElem?_take_of_lt lj] at hj
  have := (List.getElem?_inj (List.getElem?_eq_some_iff.mp hj).1 nd).mp (hj.trans hz.symm)
  omega
end WL
end L2
set_option Elab.async false
set_option linter.all false
set_option maxRecDepth 100000
set_option maxHeartbeats 4000000
/-! which lines stand, as mathematics -/
namespace L2
namespace WL
open PySem PySem.Spec PyProof.Rows K1 TL TX
abbrev wds (l : Str) : List Str := Txt.split l " "
abbrev WEB : Str := "web"
abbrev PRG : Str := "program"
/-- different names -/
def nlS (ws : List Str) : Bool := ws.all isNm && decide ws.Nodup
def hd0 (l : Str) : Str := (wds l).headD ""
/-- whether the line i stands behind those ahead of it -/
noncomputable def lineOk (ls : List Str) (i : Nat) : Bool :=
  if i = 0 then decide (ls.getD 0 "" = WEB) || decide (ls.getD 0 "" = PRG)
  else if ls.getD 0 "" = WEB then !decide (hd0 (ls.getD i "") ∈ ((ls.take i).drop 1).map hd0) && (nlS ((wds (ls.getD i "")).take 1) && nlS ((wds (ls.getD i "")).drop 1))
  else nlS (wds (ls.getD i "")) && decide (wds (ls.getD i "") = sortS (wds (ls.getD i "")))
noncomputable def badLine (ls : List Str) : Option Nat := (List.range ls.length).find? fun i => !lineOk ls i
/-- the first row that names what is no row's head -/
def unkRow (rows : List (List Str)) : Option Nat := (List.range rows.length).find? fun i => !((rows.getD i []).all fun z => decide (z ∈ rows.map fun r => r.headD ""))
noncomputable def rdB (ls : List Str) (rest : Str) : Option Nat :=
  match badLine ls with
  | some i => some (i + 1)
  | none => if rest ≠ "" ∨ ls = [] ∨ ls = [WEB] then some (ls.length + 1) else if ls.getD 0 "" = WEB then (unkRow (ls.tail.map wds)).map (· + 2) else none
def rowOf (ws : List Str) : Str × List Str := (ws.headD "", ws.drop 1)
theorem nlS_nl (ws : List Str) : nlB (ws.map .str) (ws.map isNm) = nlS ws := by
  unfold nlB nlS
  rw [strsOf_map, List.all_map]
  rfl
theorem spS_ne (l : Str) : wds l ≠ [] := split_ne tl_sp kind_sp l
theorem hd_cons {ws : List Str} (h : ws ≠ []) : ws.headD "" :: ws.drop 1 = ws := by
  cases ws with
  | nil => exact absurd rfl h
  | cons a b => rfl
theorem find_none_iff {n : Nat} {f : Nat → Bool} : (List.range n).find? (fun i => !f i) = none ↔ ∀ i, i < n → f i = true := by
  rw [List.find?_eq_none]
  constructor
  · intro h i hi
    have := h i (List.mem_range.mpr hi)
    simpa using this
  · intro h i hi
    simp [h i (List.mem_range.mp hi)]
/-- which rows a text of a web has -/
def wRows (rs : Rws) : List (List Str) := rs.map fun r => r.1 :: r.2
theorem getD_ne {ls : List Str} {i : Nat} {z : Str} (h : ls[i]? = some z) : ls.getD i "" = z := by
  rw [List.getD_eq_getElem?_getD, h]
  rfl
/-- what a good text of a web says -/
theorem rdB_web {ls : List Str} {rest : Str} (h : rdB ls rest = none) (hw : ls.getD 0 "" = WEB) (l9 : ls.length ≤ 900) (w9 : ∀ l ∈ ls, (wds l).length ≤ 900) :
    rest = "" ∧ (∀ i, 1 ≤ i → i < ls.length → lineOk ls i = true) ∧ Good ((ls.tail.map wds).map rowOf) ∧ unkRow (ls.tail.map wds) = none ∧ ls = WEB :: ls.tail := by
  unfold rdB at h
  cases hb : badLine ls with
  | some i => rw [hb] at h; cases h
  | none =>
    rw [hb] at h
    dsimp only at h
    by_cases hc : rest ≠ "" ∨ ls = [] ∨ ls = [WEB]
    · rw [if_pos hc] at h
      cases h
    · rw [if_neg hc, if_pos hw] at h
      have hu : unkRow (ls.tail.map wds) = none := by
        cases z : unkRow (ls.tail.map wds) with
        | none => rfl
        | some i => rw [z] at h; cases h
      have hr : rest = "" := Classical.not_not.mp fun n => hc (.inl n)
      have n1 : ls ≠ [] := fun e => hc (.inr (.inl e))
      have n2 : ls ≠ [WEB] := fun e => hc (.inr (.inr e))
      have ok : ∀ i, i < ls.length → lineOk ls i = true := find_none_iff.mp hb
      cases ls with
      | nil => exact absurd rfl n1
      | cons a t =>
        have ea : a = WEB := hw
        subst ea
        show _ ∧ _ ∧ Good ((t.map wds).map rowOf) ∧ unkRow (t.map wds) = none ∧ _
        have ht : t ≠ [] := fun e => n2 (by rw [e])
        have okt : ∀ j z, t[j]? = some z → isNm (hd0 z) = true ∧ hd0 z ∉ (t.take j).map hd0 ∧ nlS ((wds z).drop 1) = true := fun j z hj => by
          have lt : j < t.length := (List.getElem?_eq_some_iff.mp hj).1
          have := ok (j + 1) (by rw [List.length_cons]; omega)
          unfold lineOk at this
          rw [if_neg (Nat.succ_ne_zero j), if_pos (show (WEB :: t).getD 0 "" = WEB from rfl)] at this
          have e1 : (WEB :: t).getD (j + 1) "" = z := getD_ne (by rw [List.getElem?_cons_succ]; exact hj)
          rw [e1, Bool.and_eq_true, Bool.and_eq_true] at this
          obtain ⟨a1, a2, a3⟩ := this
          refine ⟨?_, ?_, a3⟩
          · have e2 : (wds z).take 1 = [hd0 z] := by
              unfold hd0
              cases e : wds z with
              | nil => exact absurd e (spS_ne z)
              | cons x y => rfl
            rw [e2] at a2
            unfold nlS at a2
            rw [Bool.and_eq_true] at a2
            simpa using a2.1
          · have e3 : ((WEB :: t).take (j + 1)).drop 1 = t.take j := rfl
            rw [e3] at a1
            simpa using a1
        have hd : ((t.map wds).map rowOf).map Prod.fst = t.map hd0 := by
          rw [List.map_map, List.map_map]
          rfl
        have unk : ∀ z ∈ t, ∀ x ∈ wds z, x ∈ t.map hd0 := fun z mz x mx => by
          have q := find_none_iff.mp hu
          obtain ⟨j, hj⟩ := List.getElem?_of_mem mz
          have lt : j < t.length := (List.getElem?_eq_some_iff.mp hj).1
          have := q j (by rw [List.tail_cons, List.length_map]; exact lt)
          have e1 : (((WEB :: t).tail.map wds).getD j []) = wds z := by
            rw [List.tail_cons, List.getD_eq_getElem?_getD, List.getElem?_map, hj]
            rfl
          rw [e1] at this
          have := List.all_eq_true.mp this x mx
          have := of_decide_eq_true this
          rw [List.tail_cons, List.map_map] at this
          exact this
        refine ⟨hr, fun i _ hi => ok i hi, ⟨?_, ?_, ?_, fun r mr => ?_, fun r mr => ?_⟩, hu, rfl⟩
        · rw [hd]
          refine List.pairwise_iff_getElem.mpr fun i j hi0 hj hij e => ?_
          rw [List.length_map] at hj
          rw [List.getElem_map, List.getElem_map] at e
          refine (okt j t[j] (List.getElem?_eq_getElem hj)).2.1 (List.mem_map.mpr ⟨t[i], ?_, e⟩)
          exact List.mem_iff_getElem?.mpr ⟨i, by rw [List.getElem?_take_of_lt hij, List.getElem?_eq_getElem (Nat.lt_trans hij hj)]⟩
        · rw [List.length_map, List.length_map]
          exact List.length_pos_iff.mpr ht
        · rw [List.length_map, List.length_map]
          rw [List.length_cons] at l9
          omega
        · obtain ⟨ws, mw, rfl⟩ := List.mem_map.mp mr
          obtain ⟨z, mz, rfl⟩ := List.mem_map.mp mw
          obtain ⟨j, hj⟩ := List.getElem?_of_mem mz
          have k := (okt j z hj).2.2
          unfold nlS at k
          rw [Bool.and_eq_true] at k
          refine ⟨?_, of_decide_eq_true k.2, fun x mx => ?_⟩
          · have := w9 z (List.mem_cons_of_mem _ mz)
            show ((wds z).drop 1).length ≤ 900
            rw [List.length_drop]
            omega
          · rw [hd]
            exact unk z mz x (List.mem_of_mem_drop mx)
        · obtain ⟨ws, mw, rfl⟩ := List.mem_map.mp mr
          obtain ⟨z, mz, rfl⟩ := List.mem_map.mp mw
          obtain ⟨j, hj⟩ := List.getElem?_of_mem mz
          exact (okt j z hj).1
theorem wRows_of {ls : List Str} : wRows ((ls.map wds).map rowOf) = ls.map wds := by
  unfold wRows
  rw [List.map_map]
  conv => rhs; rw [← List.map_id (ls.map wds)]
  refine List.map_congr_left fun ws m => ?_
  obtain ⟨z, mz, rfl⟩ := List.mem_map.mp m
  exact hd_cons (spS_ne z)
theorem prg_ne : PRG ≠ WEB := by decide +kernel
/-- what a good text of a program says -/
theorem rdB_prog {ls : List Str} {rest : Str} (h : rdB ls rest = none) (hw : ls.getD 0 "" ≠ WEB) (l9 : ls.length ≤ 900) (w9 : ∀ l ∈ ls, (wds l).length ≤ 900) :
    rest = "" ∧ GoodP (ls.tail.map wds) ∧ ls = PRG :: ls.tail := by
  unfold rdB at h
  cases hb : badLine ls with
  | some i => rw [hb] at h; cases h
  | none =>
    rw [hb] at h
    dsimp only at h
    by_cases hc : rest ≠ "" ∨ ls = [] ∨ ls = [WEB]
    · rw [if_pos hc] at h
      cases h
    · have hr : rest = "" := Classical.not_not.mp fun n => hc (.inl n)
      have n1 : ls ≠ [] := fun e => hc (.inr (.inl e))
      have ok : ∀ i, i < ls.length → lineOk ls i = true := find_none_iff.mp hb
      cases ls with
      | nil => exact absurd rfl n1
      | cons a t =>
        have h0 := ok 0 (by rw [List.length_cons]; omega)
        unfold lineOk at h0
        rw [if_pos rfl, Bool.or_eq_true] at h0
        have ea : a = PRG := by
          rcases h0 with h0 | h0
          · exact absurd (of_decide_eq_true h0) hw
          · exact of_decide_eq_true h0
        subst ea
        have okt : ∀ z ∈ t, nlS (wds z) = true ∧ wds z = sortS (wds z) := fun z mz => by
          obtain ⟨j, hj⟩ := List.getElem?_of_mem mz
          have lt : j < t.length := (List.getElem?_eq_some_iff.mp hj).1
          have := ok (j + 1) (by rw [List.length_cons]; omega)
          unfold lineOk at this
          rw [if_neg (Nat.succ_ne_zero j), if_neg (show ¬ (PRG :: t).getD 0 "" = WEB from prg_ne)] at this
          have e1 : (PRG :: t).getD (j + 1) "" = z := getD_ne (by rw [List.getElem?_cons_succ]; exact hj)
          rw [e1, Bool.and_eq_true] at this
          exact ⟨this.1, of_decide_eq_true this.2⟩
        refine ⟨hr, ⟨fun l m => ?_, fun l m => ?_, ?_, fun l m => ?_⟩, rfl⟩
        · obtain ⟨z, mz, rfl⟩ := List.mem_map.mp m
          have k := (okt z mz).1
          unfold lotOk
          rw [decide_eq_true (spS_ne z), Bool.true_and]
          exact k
        · obtain ⟨z, mz, rfl⟩ := List.mem_map.mp m
          exact (okt z mz).2.symm
        · rw [List.length_map, List.tail_cons]
          rw [List.length_cons] at l9
          omega
        · obtain ⟨z, mz, rfl⟩ := List.mem_map.mp m
          exact w9 z (List.mem_cons_of_mem _ mz)
/-! ### names have no blanks, no line feeds -/
theorem nm_free {z : Str} (h : isNm z = true) : 32 ∉ tl z ∧ 10 ∉ tl z := by
  unfold isNm at h
  rw [Bool.and_eq_true, Bool.and_eq_true] at h
  have k := List.all_eq_true.mp h.2.2
  refine ⟨fun m => ?_, fun m => ?_⟩
  · exact absurd (k _ m) (by decide)
  · exact absurd (k _ m) (by decide)
theorem isNm_len8 {z : Str} (h : isNm z = true) : z.length ≤ 8 := by
  unfold isNm at h
  rw [Bool.and_eq_true, Bool.and_eq_true] at h
  exact of_decide_eq_true h.2.1
/-- the text of good rows is good -/
theorem web_good {rs : Rws} (g : Good rs) (hn : ∀ r ∈ rs, ∀ z ∈ r.2, isNm z = true) : rdB (WEB :: (wRows rs).map (Txt.join " ")) "" = none ∧ (((wRows rs).map (Txt.join " ")).map wds) = wRows rs ∧ (wRows rs).map rowOf = rs := by
  have nmr : ∀ r ∈ wRows rs, r ≠ [] ∧ ∀ z ∈ r, isNm z = true := fun r m => by
    obtain ⟨p, mp, rfl⟩ := List.mem_map.mp m
    refine ⟨by simp, fun z mz => ?_⟩
    rcases List.mem_cons.mp mz with rfl | mz
    · exact g.nm p mp
    · exact hn p mp z mz
  have e1 : (((wRows rs).map (Txt.join " ")).map wds) = wRows rs := split_rows fun r m => ⟨(nmr r m).1, fun z mz => (nm_free ((nmr r m).2 z mz)).1⟩
  have e2 : (wRows rs).map rowOf = rs := by
    unfold wRows
    rw [List.map_map]
    conv => rhs; rw [← List.map_id rs]
    rfl
  refine ⟨?_, e1, e2⟩
  have eh : ((wRows rs).map (Txt.join " ")).map hd0 = rs.map Prod.fst := by
    have : ((wRows rs).map (Txt.join " ")).map hd0 = (((wRows rs).map (Txt.join " ")).map wds).map fun ws => ws.headD "" := by rw [List.map_map, List.map_map, List.map_map]; rfl
    rw [this, e1]
    unfold wRows
    rw [List.map_map]
    rfl
  have hb : badLine (WEB :: (wRows rs).map (Txt.join " ")) = none := by
    refine find_none_iff.mpr fun i hi => ?_
    cases i with
    | zero => unfold lineOk; rw [if_pos rfl]; rfl
    | succ j =>
      rw [List.length_cons, List.length_map] at hi
      have lr : j < rs.length := by
        unfold wRows at hi
        rw [List.length_map] at hi
        omega
      have hj : rs[j]? = some rs[j] := List.getElem?_eq_getElem lr
      have hz : ((wRows rs).map (Txt.join " "))[j]? = some (Txt.join " " (rs[j].1 :: rs[j].2)) := by
        unfold wRows
        rw [List.getElem?_map, List.getElem?_map, hj]
        rfl
      have mr : rs[j] ∈ rs := List.getElem_mem lr
      have es : wds (Txt.join " " (rs[j].1 :: rs[j].2)) = rs[j].1 :: rs[j].2 := split_row (by simp) fun z mz => (nm_free ((nmr _ (List.mem_map.mpr ⟨_, mr, rfl⟩)).2 z mz)).1
      unfold lineOk
      rw [if_neg (Nat.succ_ne_zero j), if_pos (show (WEB :: (wRows rs).map (Txt.join " ")).getD 0 "" = WEB from rfl)]
      have e1' : (WEB :: (wRows rs).map (Txt.join " ")).getD (j + 1) "" = Txt.join " " (rs[j].1 :: rs[j].2) := getD_ne (by rw [List.getElem?_cons_succ]; exact hz)
      have e3 : ((WEB :: (wRows rs).map (Txt.join " ")).take (j + 1)).drop 1 = ((wRows rs).map (Txt.join " ")).take j := rfl
      rw [e1', e3, es]
      have eh0 : hd0 (Txt.join " " (rs[j].1 :: rs[j].2)) = rs[j].1 := by
        unfold hd0
        rw [es]
        rfl
      rw [eh0, List.map_take, eh]
      have nin : rs[j].1 ∉ (rs.map Prod.fst).take j := take_nin g.nd (by rw [List.getElem?_map, hj]; rfl)
      rw [decide_eq_false nin]
      have n1 := g.nm _ mr
      have n2 := (g.sr _ mr).2.1
      have n3 := hn _ mr
      show (true && (nlS [rs[j].1] && nlS rs[j].2)) = true
      unfold nlS
      simp only [List.all_cons, List.all_nil, n1, Bool.true_and, Bool.and_eq_true, List.all_eq_true, decide_eq_true_eq]
      exact ⟨by simp, n3, n2⟩
  unfold rdB
  rw [hb]
  dsimp only
  have nc : ¬ (("" : Str) ≠ "" ∨ WEB :: (wRows rs).map (Txt.join " ") = [] ∨ WEB :: (wRows rs).map (Txt.join " ") = [WEB]) := by
    rintro (h | h | h)
    · exact h rfl
    · cases h
    · have h2 := congrArg List.length h
      rw [List.length_cons, List.length_map] at h2
      unfold wRows at h2
      rw [List.length_map] at h2
      have h3 := g.l1
      have h4 : rs.length + 1 = 1 := h2
      omega
  rw [if_neg nc, if_pos (show (WEB :: (wRows rs).map (Txt.join " ")).getD 0 "" = WEB from rfl), List.tail_cons, e1]
  have hu : unkRow (wRows rs) = none := by
    refine find_none_iff.mpr fun i hi => ?_
    have lr : i < rs.length := by
      unfold wRows at hi
      rw [List.length_map] at hi
      exact hi
    have mr : rs[i] ∈ rs := List.getElem_mem lr
    have e : (wRows rs).getD i [] = rs[i].1 :: rs[i].2 := by
      unfold wRows
      rw [List.getD_eq_getElem?_getD, List.getElem?_map, List.getElem?_eq_getElem lr]
      rfl
    have e4 : (wRows rs).map (fun r => r.headD "") = rs.map Prod.fst := by
      unfold wRows
      rw [List.map_map]
      rfl
    rw [e, e4, List.all_eq_true]
    intro z mz
    refine decide_eq_true ?_
    rcases List.mem_cons.mp mz with rfl | mz
    · exact List.mem_map.mpr ⟨_, mr, rfl⟩
    · exact (g.sr _ mr).2.2 z mz
  rw [hu]
  rfl
theorem prog_good {ls : Lots} (g : GoodP ls) : rdB (PRG :: ls.map (Txt.join " ")) "" = none ∧ (ls.map (Txt.join " ")).map wds = ls := by
  have nml : ∀ l ∈ ls, l ≠ [] ∧ nlS l = true := fun l m => by
    have := g.ok l m
    unfold lotOk at this
    rw [Bool.and_eq_true] at this
    exact ⟨of_decide_eq_true this.1, this.2⟩
  have nmz : ∀ l ∈ ls, ∀ z ∈ l, isNm z = true := fun l m z mz => by
    have := (nml l m).2
    unfold nlS at this
    rw [Bool.and_eq_true] at this
    exact List.all_eq_true.mp this.1 z mz
  have es : ∀ l ∈ ls, wds (Txt.join " " l) = l := fun l m => split_row (nml l m).1 fun z mz => (nm_free (nmz l m z mz)).1
  have e1 : (ls.map (Txt.join " ")).map wds = ls := split_rows fun l m => ⟨(nml l m).1, fun z mz => (nm_free (nmz l m z mz)).1⟩
  refine ⟨?_, e1⟩
  have hb : badLine (PRG :: ls.map (Txt.join " ")) = none := by
    refine find_none_iff.mpr fun i hi => ?_
    cases i with
    | zero => unfold lineOk; rw [if_pos rfl]; rfl
    | succ j =>
      rw [List.length_cons, List.length_map] at hi
      have lr : j < ls.length := by omega
      have mr : ls[j] ∈ ls := List.getElem_mem lr
      unfold lineOk
      rw [if_neg (Nat.succ_ne_zero j), if_neg (show ¬ (PRG :: ls.map (Txt.join " ")).getD 0 "" = WEB from prg_ne)]
      have e1' : (PRG :: ls.map (Txt.join " ")).getD (j + 1) "" = Txt.join " " ls[j] := getD_ne (by rw [List.getElem?_cons_succ, List.getElem?_map, List.getElem?_eq_getElem lr]; rfl)
      rw [e1', es _ mr, (nml _ mr).2, g.up _ mr, decide_eq_true rfl]
      rfl
  unfold rdB
  rw [hb]
  dsimp only
  have nc : ¬ (("" : Str) ≠ "" ∨ PRG :: ls.map (Txt.join " ") = [] ∨ PRG :: ls.map (Txt.join " ") = [WEB]) := by
    rintro (h | h | h)
    · exact h rfl
    · cases h
    · exact absurd (List.cons.inj h).1 prg_ne
  rw [if_neg nc, if_neg (show ¬ (PRG :: ls.map (Txt.join " ")).getD 0 "" = WEB from prg_ne)]
end WL
end L2
set_option Elab.async false
set_option linter.all false
set_option maxRecDepth 100000
set_option maxHeartbeats 4000000
/-! `*names, last = a list` -/
namespace L2
namespace TS
open PySem PySem.Spec PySem.Calls PyProof.Rows PySem.W
section
variable {prog : PySem.Program} {w : World} {A : Around} {E : Value → Shared → Prop} {s : Shared}
theorem unpack_star {l : Addr} {items : Array Value} {n : Nat} {Q : List Value → Shared → Prop} (hl : s.heap.IsList l items) (hh : A.handled = none) (h1 : 1 ≤ n) (hn : n ≤ items.size + 1) (hz : items.size ≤ 16384)
    (h : ∀ (h' : Heap) (tk : Nat), (∀ b o, s.heap.get? b = some o → h'.get? b = some o) → Q (.ref h'.objs.size :: items.toList.drop (items.size + 1 - n)) { s with heap := h'.push { cls := .type "list", data := .seq (items.toList.take (items.size + 1 - n)).toArray }, toks := tk }) :
    wpAny (model prog w) A (unpackItems (.ref l) n (some 0)) Q E s := by
  have hlt : l ≠ s.heap.objs.size := by obtain ⟨o, ho, _⟩ := hl; exact Nat.ne_of_lt (Heap.lt_size ho)
  unfold unpackItems
  refine wpAny_bind ?_
  unfold notIterableAtAll
  refine wpAny_bind (wpAny_specialOf hl.typeIs slot_list_iter.lookup ?_)
  refine wpAny_pure ?_
  simp only [Bool.false_eq_true, if_false]
  refine wpAny_bind (wpAny_holding (wpAny_pyIter_list hl ?_))
  refine wpAny_bind (wpAny_holding (kun_draw hlt 0 0 _ _ ⟨_, Heap.get?_push_size _ rfl, rfl, rfl⟩ (hl.push _) (by omega) fun h₁ hit₁ hs₁ => ?_))
  have hl₁ : h₁.IsList l items := (hl.push _).extBut hs₁.extBut hlt
  rw [Nat.zero_add] at hit₁
  have hit₁' := hit₁
  obtain ⟨oi, hoi, _⟩ := hit₁'
  have hl₁' := hl₁
  obtain ⟨ol, hol, _⟩ := hl₁'
  rw [List.drop_zero]
  rw [if_neg (show ¬ ((items.toList.take 0).length < 0) by omega)]
  refine wpAny_bind (wpAny_holding (kun_collect (s := { s with heap := h₁ }) (T := "list_iterator") (.inr (.inr (.inl rfl))) (Walks.list (A := A.in1) hh s.heap.objs.size l hlt items) (fun j u st => st.1.typeIs) (k := 0) (by omega) ⟨hit₁, hl₁⟩ (Heap.lt_size hoi) (Heap.lt_size hol) (fun h₂ tk hk => ?_) (by rw [sizeLine_eq]; omega)))
  rw [List.drop_zero]
  have hmid : items.toList.length - (n - 1 - 0) = items.size + 1 - n := by rw [Array.length_toList]; omega
  show wpAny _ _ (if items.toList.length < n - 1 - 0 then _ else _) _ _ _
  rw [if_neg (by rw [Array.length_toList]; omega)]
  show wpAny _ _ (newList (items.toList.take (items.toList.length - (n - 1 - 0))) >>= fun d => pure (items.toList.take 0 ++ [d] ++ items.toList.drop (items.toList.length - (n - 1 - 0)))) _ _ _
  rw [hmid]
  refine wpAny_bind (wpAny_newObj_type (wpAny_pure ?_) (by
    show (items.toList.take (items.size + 1 - n)).toArray.size ≤ sizeLine
    rw [List.size_toArray, List.length_take, Array.length_toList, sizeLine_eq]
    omega))
  exact h h₂ tk fun b o e => hk b o (Nat.ne_of_lt (Heap.lt_size e)) (hs₁.extBut b o (Nat.ne_of_lt (Heap.lt_size e)) (Heap.get?_push_of_some _ e))
end
section
variable {X : Cx} {pos : Pos}
/-- the first target is starred -/
def gStar (K : PySem.W.Frag) (n : Nat) (t : TGs) : TG := fun v σ H Q => ∃ a xs ys, v = .ref a ∧ SqL K H a (xs ++ ys) ∧ ys.length + 1 = n ∧ (xs ++ ys).length ≤ 16384 ∧ ∀ D, H D = none → t (.ref D :: ys) σ (upd H D (.lst xs)) Q
theorem pgs_star {e : Expr} {es : List Expr} {t : TG} {u : TGs} {p : Pos} (h1 : PG X e t) (h2 : PGs X es u)
    (hs : (assignEach (.Starred e p :: es) X.env).map (·.2) = assign e X.env :: (assignEach es X.env).map (·.2) := by rfl) : PGs X (.Starred e p :: es) (gCons t u) := by
  refine ⟨fun pins s σ H vs us Q I r h => ?_⟩
  obtain ⟨v, vr, e1, h⟩ := h
  subst e1
  cases r with
  | cons r rr =>
    rw [hs]
    refine assignInOrder_cons (thn (h1.run pins s σ H _ _ _ I r h) fun _ s1 ⟨σ1, H1, I1, q1⟩ => ?_)
    exact h2.run pins s1 σ1 H1 _ _ Q I1 rr q1
theorem vals_app : ∀ {xs ys : List V} {us : List Value}, Vals (xs ++ ys) us → Vals xs (us.take xs.length) ∧ Vals ys (us.drop xs.length)
  | [], _, _, r => ⟨.nil, r⟩
  | _ :: xs, ys, _ :: us, .cons a r => let ⟨h1, h2⟩ := vals_app (xs := xs) (ys := ys) r; ⟨.cons a h1, h2⟩
theorem pg_star {es : List Expr} {k : Nat} {t : TGs} {n : Nat} (hc : X.calm = true) (h : PGs X es t)
    (hn : (assignEach es X.env).length = n := by rfl) (hst : (assignEach es X.env).findIdx? (·.1) = some 0 := by rfl) : PG X (.Tuple es k pos) (gStar X.K n t) := by
  refine ⟨fun pins s σ H v u Q I r hw => ?_⟩
  obtain ⟨a, xs, ys, e1, hq, hl, hz, hw⟩ := hw
  subst e1
  cases r
  obtain ⟨its, rv, p, hz2⟩ := I.list hq
  have ll := rv.length
  rw [PyProof.Rows.assign_Tuple]
  refine wpAny_bind (wpAny_standAt ?_)
  unfold unpack
  rw [hn, hst]
  have el : its.toArray.size = xs.length + ys.length := by rw [List.size_toArray, ← ll, List.length_append]
  refine wpAny_bind (wpAny_holding (unpack_star p.isList (I.ok.hd hc) (by omega) (by omega) (by rw [el, ← List.length_append]; exact hz) fun h' tk hk => ?_))
  have e2 : its.toArray.size + 1 - n = xs.length := by omega
  obtain ⟨r1, r2⟩ := vals_app rv
  have e3 : its.toArray.toList = its := by simp
  rw [e2, e3]
  have I1 : Inv X pins σ H { s with heap := h', toks := tk } := I.kept (t' := tk) hk
  have hf : H h'.objs.size = none := I1.hok.fresh (Nat.le_refl _)
  have I2 : Inv X pins σ (upd H h'.objs.size (.lst xs)) { s with heap := h'.push { cls := .type "list", data := .seq (its.take xs.length).toArray }, toks := tk } := I1.laid (t' := tk) (fun b u e => Heap.get?_push_of_some _ e) (Nat.le_refl _) ⟨by rw [List.length_append] at hz; rw [sizeLine_eq]; omega, its.take xs.length, 0, r1, Heap.get?_push_size _ rfl⟩
  exact h.run pins _ σ _ _ _ Q I2 (.cons (show RelV (.ref h'.objs.size) (.ref h'.objs.size) from rfl) r2) (hw _ hf)
end
end TS
end L2
set_option Elab.async false
set_option linter.all false
set_option maxRecDepth 100000
set_option maxHeartbeats 4000000
namespace L2
namespace WL
open PySem PySem.Spec PyProof.Rows K1 SrtR
section
variable {M : Model} {A : Around} {E : Value → Shared → Prop} {s : Shared} {env : Env}
theorem callWith_type_kwT {pos : Pos} {T : String} {first : List Value} {args : List (Bool × Sem Value)} {keywords : List (Option Str × Sem Value)} {Q : Value → Shared → Prop}
    (hplain : args.any (·.1) = false) (hkw : keywords.any (·.1.isNone) = false)
    (h : wpAny M A (evalArgs (.type T) true args keywords) (fun a s₁ => wpAny M A (call (.type T) (first ++ a.pos) a.kw) Q E s₁) E s) :
    wpAny M A (callWith pos (.type T) first args keywords) Q E s := by
  unfold callWith
  refine wpAny_bind (wpAny_holding (wpAny_mono h (fun a s₁ h₁ => wpAny_bind (wpAny_standAt ?_)) fun _ _ x => x))
  simp only [hplain, hkw, Bool.or_false]
  refine wpAny_bind (wpAny_pure ?_)
  exact wpAny_bind (wpAny_mono h₁ (fun r s₂ hr => wpAny_bind (wpAny_holding (wpAny_point (wpAny_pure hr)))) fun _ _ x => x)
theorem callWith_kwT {pos : Pos} {T : String} {e : Expr} {rest : List Expr} {kws : List Keyword} {Q : Value → Shared → Prop}
    (h : wpAny M A (spliced (backTo pos (starEach (e :: rest) env))) (fun vs s₁ => wpAny M A (evalAll ((backToKw pos (keywordEach kws env)).map (·.2)))
      (fun kvs s₂ => wpAny M A (call (.type T) vs (((backToKw pos (keywordEach kws env)).filterMap (·.1)).zip kvs)) Q E s₂) E s₁) E s)
    (he : backTo pos (starEach (e :: rest) env) = (false, eval e env) :: backTo pos (starEach rest env) := by rfl)
    (hplain : (backTo pos (starEach (e :: rest) env)).any (·.1) = false := by rfl)
    (hall : (backToKw pos (keywordEach kws env)).all (·.1.isSome) = true := by rfl)
    (hkw : (backToKw pos (keywordEach kws env)).any (·.1.isNone) = false := by rfl) :
    wpAny M A (callWith pos (.type T) [] (backTo pos (starEach (e :: rest) env)) (backToKw pos (keywordEach kws env))) Q E s := by
  refine callWith_type_kwT hplain hkw ?_
  rw [he] at h ⊢
  exact evalArgs_kwB hall h
end
/-- the tuple at a as it stands at each turn, each item in a new pair with c and the turn's number -/
def IteC (K : PySem.W.Frag) (a : Addr) (c : Nat) : It :=
  ⟨fun i H => ∃ (xs : List V) (x : V), SqT K H a xs ∧ xs[i]? = some x, fun i H v H' => ∃ T x, v = .ref T ∧ H T = none ∧ H' = upd H T (.tup [.int ((c + i : Nat) : Int), x]) ∧ ∀ xs, SqT K H a xs → xs[i]? = some x, fun i H => ∃ xs : List V, SqT K H a xs ∧ xs.length ≤ i⟩
theorem turn_enumC {P : Program} {w : World} {K : PySem.W.Frag} {elts : List Expr} {kk : Nat} {tpos : Pos} (a e it : Addr) (c : Nat) :
    Turn P w K (.Tuple elts kk tpos) (IteC K a c) [e, it] e (fun i h => (∃ old, IsEnum h e it ((c + i : Nat) : Int) old) ∧ h.IsTupleIter it a i ∧ e ≠ it ∧ a ≠ e ∧ a ≠ it) where
  mem := by simp
  obj := fun i h st b hb => by
    obtain ⟨⟨old, he⟩, ⟨o, ho, hc, hd⟩, _⟩ := st
    have e' : b = e ∨ b = it := by simpa using hb
    rcases e' with z | z
    · rw [z]; exact ⟨_, he, fun v q => nomatch q⟩
    · rw [z]; exact ⟨o, ho, fun v q => by rw [hd] at q; cases q⟩
  keep := fun i h h' st k => let ⟨⟨old, he⟩, hi, hne⟩ := st; ⟨⟨old, k e (by simp) _ he⟩, hi.at fun o q => k it (by simp) o q, hne⟩
  item := by
    intro X hP hw hK hc i pins s σ H E I hf st hg
    subst hP hw hK
    obtain ⟨⟨old, he⟩, hit, hne, hae, hai⟩ := st
    obtain ⟨xs, x, hq, hx⟩ := hg
    obtain ⟨its, rv, p, hz⟩ := I.tuple hq
    obtain ⟨u, hu, ru⟩ := rv.get hx
    have hel : e < s.heap.objs.size := Heap.lt_size he
    have hil : it < s.heap.objs.size := by obtain ⟨_, q, _⟩ := hit; exact Heap.lt_size q
    have hT : s.heap.IsTuple a its.toArray := p
    have il : i < its.toArray.size := by
      have := (List.getElem?_eq_some_iff.mp hu).1
      simpa using this
    refine wpAny_pyNext_enum_itemC (Draws.tuple (A := X.A.in1) (I.ok.hd hc) it a hai its.toArray) he ⟨hit, hT⟩ il hne (by simp [hne, Ne.symm hae]) fun x' h' tk hx' ho hit' hT hsz hk => ?_
    obtain rfl : u = x' := by
      have z : its[i]? = some x' := by simpa using hx'
      rw [hu] at z
      exact Option.some.inj z
    refine ⟨_, rfl, wpAny_letOwnedTupleGo_enum (s := { s with heap := h', toks := tk + 1 }) ho fun h'' he' sb => ?_⟩
    have hT2 : h''.get? s.heap.objs.size = some { cls := .type "tuple", data := .seq #[.int ((c + i : Nat) : Int) tk, u] } := (sb.2 _ (Nat.ne_of_gt hel)).trans hT
    have new : ObjOk X.prog X.w (upd H s.heap.objs.size (.tup [.int ((c + i : Nat) : Int), x])) h'' s.heap.objs.size (.tup [.int ((c + i : Nat) : Int), x]) :=
      ⟨by show 2 ≤ sizeLine; decide, [.int ((c + i : Nat) : Int) tk, u], .cons ⟨_, rfl⟩ (.cons ru .nil), ⟨_, hT2, rfl, _, rfl⟩⟩
    have I1 : Inv X pins σ (upd H s.heap.objs.size (.tup [.int ((c + i : Nat) : Int), x])) { s with heap := h'', toks := tk + 1 } :=
      I.turnedNew (ch := [e, it]) (fun b ob hb q => (sb.2 b (fun z => hb (by simp [z]))).trans (hk b ob (fun z => hb (by simp [z])) (fun z => hb (by simp [z])) q)) hf (Nat.le_refl _) new
    refine ⟨.ref s.heap.objs.size, _, I1, rfl, ⟨_, x, rfl, I.hok.fresh (Nat.le_refl _), rfl, fun ys hy => by rw [I.tuple_inj hy hq]; exact hx⟩, ⟨⟨u, ?_⟩, hit'.1.at fun o q => (sb.2 it (Ne.symm hne)).trans q, hne, hae, hai⟩, fun b hb => ?_⟩
    · have e1 : ((c + (i + 1) : Nat) : Int) = ((c + i : Nat) : Int) + 1 := by omega
      rw [e1]; exact he'
    · have hb' : b < s.heap.objs.size := by
        have e' : b = e ∨ b = it := by simpa using hb
        rcases e' with z | z
        · rw [z]; exact hel
        · rw [z]; exact hil
      rw [upd_ne (Nat.ne_of_lt hb')]
      exact (hf b hb).1
  done := by
    intro X hP hw hK hc i pins s σ H E I hf st hg
    subst hP hw hK
    obtain ⟨⟨old, he⟩, hit, hne, hae, hai⟩ := st
    obtain ⟨xs, hq, hx⟩ := hg
    obtain ⟨its, rv, p, hz⟩ := I.tuple hq
    obtain ⟨f0, f1, f2, f3, f4, f5⟩ := hf it (by simp)
    have hl := rv.length
    exact wpAny_pyNext_enum_endT (I.ok.hd hc) he hit p (by simp; omega) fun h' eb => ⟨rfl, I.turned (t' := s.toks) (fun b o hb q => eb b o hb q) f0 f1 f3 f4 f5⟩
  self := fun A i s Q E st h => let ⟨⟨_, he⟩, _⟩ := st; wpAny_pyIter_enum he h
theorem walk_enumC {K : PySem.W.Frag} {a : Addr} {c : Nat} {xs : List V} : Walk (IteC K a c) xs.length (fun H => SqT K H a xs) (YPair (fun i => some (.int ((c + i : Nat) : Int))) (fun i => xs[i]?)) := by
  refine ⟨fun i _ hi q => ⟨xs, xs[i], q, by simp [hi]⟩, fun _ q => ⟨xs, q, Nat.le_refl _⟩, fun i H v H' _ q y => ?_⟩
  obtain ⟨T, x, h1, h2, h3, h4⟩ := y
  exact ⟨T, .int ((c + i : Nat) : Int), x, h1, h2, h3, rfl, h4 xs q⟩
/-- enumerate of a tuple from a count on -/
def iEnumC (K : PySem.W.Frag) (ta tk : TA) : TI := fun σ H R => ta σ H fun vs H1 => tk σ H1 fun zs H2 => ∃ a xs, ∃ c : Nat, vs = [.ref a] ∧ zs = [.int (c : Int)] ∧ c < 2 ^ 60 ∧ SqT K H2 a xs ∧ R (IteC K a c) H2
theorem pi_enumC {X : Cx} {e e2 : Expr} {ta tk : TA} {p pos tpos kp : Pos} {elts : List Expr} {kk : Nat} (hg : Gl X "enumerate") (hm : X.mg "enumerate" = none) (ha : PA X [e] ta) (hk : PK X [⟨some (Str.ofString "start"), e2, kp⟩] tk)
    (he : backTo pos (starEach [e] X.env) = (false, eval e X.env) :: backTo pos (starEach [] X.env) := by rfl) (hpl : (backTo pos (starEach [e] X.env)).any (·.1) = false := by rfl) :
    PI X (.Tuple elts kk tpos) (.Call (.Name "enumerate" p) [e] [⟨some (Str.ofString "start"), e2, kp⟩] pos) (iEnumC X.K ta tk) := by
  refine ⟨fun pins s σ H R I h => ?_⟩
  refine wpAny_Call_Name_kw (ld_blt I hg hm boot_enumerate ?_)
  refine callWith_kwT (thn (ha.run pos pins s σ H _ I h) fun us s1 ⟨vs, H1, I1, r1, q1⟩ => thn (hk.run pos pins s1 σ H1 _ I1 q1) fun ws s2 ⟨zs, H2, I2, r2, q2⟩ => ?_) he hpl
  obtain ⟨a, xs, c, ex, ez, h9, hq, q⟩ := q2
  subst ex ez
  cases r1 with
  | cons r rr =>
    cases rr
    cases r
    cases r2 with
    | cons r' rr' =>
      cases rr'
      obtain ⟨t, rfl⟩ := r'
      have hle : ∀ b, b = s2.heap.objs.size + 1 ∨ b = s2.heap.objs.size → s2.heap.objs.size ≤ b := fun b e' => by
        rcases e' with z | z
        · rw [z]; exact Nat.le_add_right _ _
        · rw [z]; exact Nat.le_refl _
      obtain ⟨its, rv, p', hz⟩ := I2.tuple hq
      have hT : s2.heap.IsTuple a its.toArray := p'
      have hal : a < s2.heap.objs.size := by obtain ⟨o, ho, _⟩ := hT; exact Heap.lt_size ho
      refine enum_begins_start (begins_tuple a its.toArray) hT (by omega) (by omega) fun h' he hit hsz hk => wpAny_pyIter_enum he ?_
      have I3 : Inv X pins σ H2 { s2 with heap := h' } := I2.kept (t' := s2.toks) hk
      refine ⟨s2.heap.objs.size + 1, [s2.heap.objs.size + 1, s2.heap.objs.size], _, _, H2, rfl, I3, turn_enumC a (s2.heap.objs.size + 1) s2.heap.objs.size c, ⟨⟨.none, he⟩, ⟨_, hit, rfl, rfl⟩, Nat.succ_ne_self _, Nat.ne_of_lt (Nat.lt_succ_of_lt hal), Nat.ne_of_lt hal⟩, fun b hb => ?_, q⟩
      have e' := hle b (by simpa using hb)
      exact I2.fpOk e' (I2.hok.fresh e')
/-- for i, x in enumerate(a tuple, start=c) -/
theorem for_enumC {K : PySem.W.Frag} {a : Addr} {xs : List V} {c : Nat} {g : TG} {tb : TS} {D : Ends} {σ : St} {H0 H : Hp} {ta tk : TA} (hq : SqT K H0 a xs) (h9 : c < 2 ^ 60) (he : ∀ Q : List V → Hp → Prop, Q [.ref a] H → ta σ H Q) (hk : ∀ Q : List V → Hp → Prop, Q [.int (c : Int)] H → tk σ H Q) (Pv : Nat → St → Hp → Prop) (h0 : Pv 0 σ H) (hl : ∀ i σ' H', Pv i σ' H' → Same H0 H')
    (hs : ∀ i x σ' H' T, xs[i]? = some x → Pv i σ' H' → H' T = none → g (.ref T) σ' (upd H' T (.tup [.int ((c + i : Nat) : Int), x])) fun σ2 H2 => tb { D with nx := Pv (i + 1), ct := Pv (i + 1), bk := D.nx } σ2 H2) (hd : ∀ σ' H', Pv xs.length σ' H' → D.nx σ' H') :
    tFor (iEnumC K ta tk) g tb D σ H := by
  refine he _ (hk _ ⟨a, xs, c, rfl, rfl, h9, SqT.same hq (hl _ _ _ h0), for_it (walk_enumC (xs := xs)) Pv h0 (fun i σ' H' _ p => SqT.same hq (hl i σ' H' p)) (fun i x σ' H' H'' _ p y => by
      obtain ⟨T, u, z, rfl, nT, rfl, eu, ey⟩ := y
      obtain rfl : V.int ((c + i : Nat) : Int) = u := Option.some.inj eu
      exact hs i z σ' _ T ey p nT) hd⟩)
end WL
end L2
set_option Elab.async false
set_option linter.all false
set_option maxRecDepth 100000
set_option maxHeartbeats 4000000

namespace PySem
open Sem (wp)
section
variable {prog : Program} {w : World} {A : Around} {E : Value → Shared → Prop} {s : Shared}
theorem wpAny_pyNext_enum_endL {e it t : Addr} {j : Nat} {i : Int} {items : Array Value} {old : Value} {Q : Option Value → Shared → Prop}
    (hh : A.in1.handled = none) (he : IsEnum s.heap e it i old) (hit : s.heap.IsListIter it t j) (ht : s.heap.IsList t items) (hx : items[j]? = none)
    (hQ : ∀ h', Heap.ExtBut it s.heap h' → Q none { s with heap := h' }) : wpAny (model prog w) A (pyNext (.ref e)) Q E s := by
  have hT : s.TypeIs (.ref e) "enumerate" := ⟨_, he, rfl⟩
  unfold pyNext
  refine wpAny_bind (wpAny_attempt (wpAny_callSpecial?_slot (name := Str.ofString "__next__") hT F.slot_enumerate_next
    (wpAny_call_entry F.slot_enumerate_next hT F.entry_enumerate_next ?_ (F.args_enumerate_next_1 _))))
  show wpAny _ _ (field (.ref e) 2 >>= _) _ _ _
  refine wpAny_bind (wpAny_field he rfl (x := .ref it) rfl ?_)
  refine wpAny_bind (wpAny_nextOf_list_end hh hit ht hx fun h' x he' hx' => ?_)
  obtain ⟨o, ho, hc⟩ := hx'
  refine wpAny_bind (wpAny_isInstance (T := "StopIteration") (b := true) ⟨o, ho, hc⟩ isSubtype_stop ?_)
  exact wpAny_pure (hQ _ he')
end
end PySem
namespace L2
namespace WL
open PySem PySem.Spec PyProof.Rows K1 SrtR
/-- the list at a as it stands at each turn, each item in a new pair with c and the turn's number -/
def IteCL (K : PySem.W.Frag) (a : Addr) (c : Nat) : It :=
  ⟨fun i H => ∃ (xs : List V) (x : V), SqL K H a xs ∧ xs[i]? = some x, fun i H v H' => ∃ T x, v = .ref T ∧ H T = none ∧ H' = upd H T (.tup [.int ((c + i : Nat) : Int), x]) ∧ ∀ xs, SqL K H a xs → xs[i]? = some x, fun i H => ∃ xs : List V, SqL K H a xs ∧ xs.length ≤ i⟩
theorem turn_enumCL {P : Program} {w : World} {K : PySem.W.Frag} {elts : List Expr} {kk : Nat} {tpos : Pos} (a e it : Addr) (c : Nat) :
    Turn P w K (.Tuple elts kk tpos) (IteCL K a c) [e, it] e (fun i h => (∃ old, IsEnum h e it ((c + i : Nat) : Int) old) ∧ h.IsListIter it a i ∧ e ≠ it ∧ a ≠ e ∧ a ≠ it) where
  mem := by simp
  obj := fun i h st b hb => by
    obtain ⟨⟨old, he⟩, ⟨o, ho, hc, hd⟩, _⟩ := st
    have e' : b = e ∨ b = it := by simpa using hb
    rcases e' with z | z
    · rw [z]; exact ⟨_, he, fun v q => nomatch q⟩
    · rw [z]; exact ⟨o, ho, fun v q => by rw [hd] at q; cases q⟩
  keep := fun i h h' st k => let ⟨⟨old, he⟩, hi, hne⟩ := st; ⟨⟨old, k e (by simp) _ he⟩, hi.at fun o q => k it (by simp) o q, hne⟩
  item := by
    intro X hP hw hK hc i pins s σ H E I hf st hg
    subst hP hw hK
    obtain ⟨⟨old, he⟩, hit, hne, hae, hai⟩ := st
    obtain ⟨xs, x, hq, hx⟩ := hg
    obtain ⟨its, rv, p, hz⟩ := I.list hq
    obtain ⟨u, hu, ru⟩ := rv.get hx
    have hel : e < s.heap.objs.size := Heap.lt_size he
    have hil : it < s.heap.objs.size := by obtain ⟨_, q, _⟩ := hit; exact Heap.lt_size q
    have hT : s.heap.IsList a its.toArray := p.isList
    have il : i < its.toArray.size := by
      have := (List.getElem?_eq_some_iff.mp hu).1
      simpa using this
    refine wpAny_pyNext_enum_itemC (Draws.list (A := X.A.in1) (I.ok.hd hc) it a hai its.toArray) he ⟨hit, hT⟩ il hne (by simp [hne, Ne.symm hae]) fun x' h' tk hx' ho hit' hT hsz hk => ?_
    obtain rfl : u = x' := by
      have z : its[i]? = some x' := by simpa using hx'
      rw [hu] at z
      exact Option.some.inj z
    refine ⟨_, rfl, wpAny_letOwnedTupleGo_enum (s := { s with heap := h', toks := tk + 1 }) ho fun h'' he' sb => ?_⟩
    have hT2 : h''.get? s.heap.objs.size = some { cls := .type "tuple", data := .seq #[.int ((c + i : Nat) : Int) tk, u] } := (sb.2 _ (Nat.ne_of_gt hel)).trans hT
    have new : ObjOk X.prog X.w (upd H s.heap.objs.size (.tup [.int ((c + i : Nat) : Int), x])) h'' s.heap.objs.size (.tup [.int ((c + i : Nat) : Int), x]) :=
      ⟨by show 2 ≤ sizeLine; decide, [.int ((c + i : Nat) : Int) tk, u], .cons ⟨_, rfl⟩ (.cons ru .nil), ⟨_, hT2, rfl, _, rfl⟩⟩
    have I1 : Inv X pins σ (upd H s.heap.objs.size (.tup [.int ((c + i : Nat) : Int), x])) { s with heap := h'', toks := tk + 1 } :=
      I.turnedNew (ch := [e, it]) (fun b ob hb q => (sb.2 b (fun z => hb (by simp [z]))).trans (hk b ob (fun z => hb (by simp [z])) (fun z => hb (by simp [z])) q)) hf (Nat.le_refl _) new
    refine ⟨.ref s.heap.objs.size, _, I1, rfl, ⟨_, x, rfl, I.hok.fresh (Nat.le_refl _), rfl, fun ys hy => by rw [I.list_inj hy hq]; exact hx⟩, ⟨⟨u, ?_⟩, hit'.1.at fun o q => (sb.2 it (Ne.symm hne)).trans q, hne, hae, hai⟩, fun b hb => ?_⟩
    · have e1 : ((c + (i + 1) : Nat) : Int) = ((c + i : Nat) : Int) + 1 := by omega
      rw [e1]; exact he'
    · have hb' : b < s.heap.objs.size := by
        have e' : b = e ∨ b = it := by simpa using hb
        rcases e' with z | z
        · rw [z]; exact hel
        · rw [z]; exact hil
      rw [upd_ne (Nat.ne_of_lt hb')]
      exact (hf b hb).1
  done := by
    intro X hP hw hK hc i pins s σ H E I hf st hg
    subst hP hw hK
    obtain ⟨⟨old, he⟩, hit, hne, hae, hai⟩ := st
    obtain ⟨xs, hq, hx⟩ := hg
    obtain ⟨its, rv, p, hz⟩ := I.list hq
    obtain ⟨f0, f1, f2, f3, f4, f5⟩ := hf it (by simp)
    have hl := rv.length
    exact wpAny_pyNext_enum_endL (I.ok.hd hc) he hit p.isList (by simp; omega) fun h' eb => ⟨rfl, I.turned (t' := s.toks) (fun b o hb q => eb b o hb q) f0 f1 f3 f4 f5⟩
  self := fun A i s Q E st h => let ⟨⟨_, he⟩, _⟩ := st; wpAny_pyIter_enum he h
theorem walk_enumCL {K : PySem.W.Frag} {a : Addr} {c : Nat} {xs : List V} : Walk (IteCL K a c) xs.length (fun H => SqL K H a xs) (YPair (fun i => some (.int ((c + i : Nat) : Int))) (fun i => xs[i]?)) := by
  refine ⟨fun i _ hi q => ⟨xs, xs[i], q, by simp [hi]⟩, fun _ q => ⟨xs, q, Nat.le_refl _⟩, fun i H v H' _ q y => ?_⟩
  obtain ⟨T, x, h1, h2, h3, h4⟩ := y
  exact ⟨T, .int ((c + i : Nat) : Int), x, h1, h2, h3, rfl, h4 xs q⟩
/-- enumerate of a list from a count on -/
def iEnumCL (K : PySem.W.Frag) (ta tk : TA) : TI := fun σ H R => ta σ H fun vs H1 => tk σ H1 fun zs H2 => ∃ a xs, ∃ c : Nat, vs = [.ref a] ∧ zs = [.int (c : Int)] ∧ c < 2 ^ 60 ∧ SqL K H2 a xs ∧ R (IteCL K a c) H2
theorem pi_enumCL {X : Cx} {e e2 : Expr} {ta tk : TA} {p pos tpos kp : Pos} {elts : List Expr} {kk : Nat} (hg : Gl X "enumerate") (hm : X.mg "enumerate" = none) (ha : PA X [e] ta) (hk : PK X [⟨some (Str.ofString "start"), e2, kp⟩] tk)
    (he : backTo pos (starEach [e] X.env) = (false, eval e X.env) :: backTo pos (starEach [] X.env) := by rfl) (hpl : (backTo pos (starEach [e] X.env)).any (·.1) = false := by rfl) :
    PI X (.Tuple elts kk tpos) (.Call (.Name "enumerate" p) [e] [⟨some (Str.ofString "start"), e2, kp⟩] pos) (iEnumCL X.K ta tk) := by
  refine ⟨fun pins s σ H R I h => ?_⟩
  refine wpAny_Call_Name_kw (ld_blt I hg hm boot_enumerate ?_)
  refine callWith_kwT (thn (ha.run pos pins s σ H _ I h) fun us s1 ⟨vs, H1, I1, r1, q1⟩ => thn (hk.run pos pins s1 σ H1 _ I1 q1) fun ws s2 ⟨zs, H2, I2, r2, q2⟩ => ?_) he hpl
  obtain ⟨a, xs, c, ex, ez, h9, hq, q⟩ := q2
  subst ex ez
  cases r1 with
  | cons r rr =>
    cases rr
    cases r
    cases r2 with
    | cons r' rr' =>
      cases rr'
      obtain ⟨t, rfl⟩ := r'
      have hle : ∀ b, b = s2.heap.objs.size + 1 ∨ b = s2.heap.objs.size → s2.heap.objs.size ≤ b := fun b e' => by
        rcases e' with z | z
        · rw [z]; exact Nat.le_add_right _ _
        · rw [z]; exact Nat.le_refl _
      obtain ⟨its, rv, p', hz⟩ := I2.list hq
      have hT : s2.heap.IsList a its.toArray := p'.isList
      have hal : a < s2.heap.objs.size := by obtain ⟨o, ho, _⟩ := hT; exact Heap.lt_size ho
      refine enum_begins_start (begins_list a its.toArray) hT (by omega) (by omega) fun h' he hit hsz hk => wpAny_pyIter_enum he ?_
      have I3 : Inv X pins σ H2 { s2 with heap := h' } := I2.kept (t' := s2.toks) hk
      refine ⟨s2.heap.objs.size + 1, [s2.heap.objs.size + 1, s2.heap.objs.size], _, _, H2, rfl, I3, turn_enumCL a (s2.heap.objs.size + 1) s2.heap.objs.size c, ⟨⟨.none, he⟩, ⟨_, hit, rfl, rfl⟩, Nat.succ_ne_self _, Nat.ne_of_lt (Nat.lt_succ_of_lt hal), Nat.ne_of_lt hal⟩, fun b hb => ?_, q⟩
      have e' := hle b (by simpa using hb)
      exact I2.fpOk e' (I2.hok.fresh e')
/-- for i, x in enumerate(a list, start=c) -/
theorem for_enumCL {K : PySem.W.Frag} {a : Addr} {xs : List V} {c : Nat} {g : TG} {tb : TS} {D : Ends} {σ : St} {H0 H : Hp} {ta tk : TA} (hq : SqL K H0 a xs) (h9 : c < 2 ^ 60) (he : ∀ Q : List V → Hp → Prop, Q [.ref a] H → ta σ H Q) (hk : ∀ Q : List V → Hp → Prop, Q [.int (c : Int)] H → tk σ H Q) (Pv : Nat → St → Hp → Prop) (h0 : Pv 0 σ H) (hl : ∀ i σ' H', Pv i σ' H' → Same H0 H')
    (hs : ∀ i x σ' H' T, xs[i]? = some x → Pv i σ' H' → H' T = none → g (.ref T) σ' (upd H' T (.tup [.int ((c + i : Nat) : Int), x])) fun σ2 H2 => tb { D with nx := Pv (i + 1), ct := Pv (i + 1), bk := D.nx } σ2 H2) (hd : ∀ σ' H', Pv xs.length σ' H' → D.nx σ' H') :
    tFor (iEnumCL K ta tk) g tb D σ H := by
  refine he _ (hk _ ⟨a, xs, c, rfl, rfl, h9, (hl _ _ _ h0).seq hq, for_it (walk_enumCL (xs := xs)) Pv h0 (fun i σ' H' _ p => (hl i σ' H' p).seq hq) (fun i x σ' H' H'' _ p y => by
      obtain ⟨T, u, z, rfl, nT, rfl, eu, ey⟩ := y
      obtain rfl : V.int ((c + i : Nat) : Int) = u := Option.some.inj eu
      exact hs i z σ' _ T ey p nT) hd⟩)
end WL
end L2
set_option Elab.async false
set_option linter.all false
set_option maxRecDepth 100000
set_option maxHeartbeats 4000000
namespace L2
namespace WL
open PySem PySem.Spec PyProof.Rows K1
/-! ### lists of numbers compared -/
abbrev iDs (l : List Nat) : List PyData := l.map fun n : Nat => .int (n : Int)
abbrev iD (l : List Nat) : PyData := .list (iDs l)
theorem eqv_nats : ∀ xs ys : List Nat, PyData.eqvAll (iDs xs) (iDs ys) = decide (xs = ys)
  | [], [] => rfl
  | [], y :: ys => rfl
  | x :: xs, [] => rfl
  | x :: xs, y :: ys => by
    show (((x : Int) == (y : Int)) && PyData.eqvAll (iDs xs) (iDs ys)) = _
    rw [eqv_nats xs ys]
    by_cases e : x = y
    · subst e
      by_cases f : xs = ys
      · subst f
        simp
      · rw [decide_eq_false f, decide_eq_false (fun z => f (List.cons.inj z).2), Bool.and_false]
    · have e2 : ((x : Int) == (y : Int)) = false := by
        rw [beq_eq_false_iff_ne]
        omega
      rw [e2, Bool.false_and, decide_eq_false (fun z => e (List.cons.inj z).1)]
theorem eqv_iD (xs ys : List Nat) : PyData.eqv (iD xs) (iD ys) = decide (xs = ys) := eqv_nats xs ys
theorem dp_iD {K : PySem.W.Frag} {H : Hp} {a : Addr} {l : List Nat} (h : SqL K H a (l.map nV)) : Dp K H (.ref a) (iD l) := .lst h (dp_ints l)
/-! ### what first_alike may be asked -/
def cntR (R : List Rn) (y : Str) : Nat := (R.filter fun r => decide (r.2.1 = y)).length
theorem cntR_app (R S : List Rn) (y : Str) : cntR (R ++ S) y = cntR R y + cntR S y := by
  unfold cntR
  rw [List.filter_append, List.length_append]
theorem fa_len (rs : Rws) (y : Str) : ∀ (R : List Rn) (s : FA), ((R.foldl (fa1 rs) s).1 y).length = (s.1 y).length + cntR R y
  | [], s => rfl
  | r :: R, s => by
    show ((R.foldl (fa1 rs) (fa1 rs s r)).1 y).length = _
    rw [fa_len rs y R]
    have e : cntR (r :: R) y = cntR [r] y + cntR R y := cntR_app [r] R y
    rw [e, ← Nat.add_assoc]
    congr 1
    show (putS s.1 r.2.1 _ y).length = _
    unfold cntR
    by_cases h : y = r.2.1
    · subst h
      rw [putS_same, List.length_append, List.filter_cons, if_pos (decide_eq_true rfl)]
      rfl
    · rw [putS_ne _ _ h, List.filter_cons, if_neg (by simpa using fun e : r.2.1 = y => h e.symm)]
      rfl
theorem cntR_rdl {rs : Rws} (nd : (rs.map Prod.fst).Nodup) (ls : Lots) (sub : ∀ l ∈ ls, ∀ z ∈ l, z ∈ rs.map Prod.fst) (y : Str) : cntR (rdl rs ls) y = cntT ls y := by
  induction ls using snoc_ind with
  | h0 => rfl
  | hs ls l ih =>
    rw [rdl_snoc, cntR_app, cntT_snoc, ih fun m hm => sub m (List.mem_append_left _ hm)]
    congr 1
    have nc : (cellsIn rs l).Nodup := nd.sublist List.filter_sublist
    have mc : y ∈ cellsIn rs l ↔ y ∈ l := ⟨fun h => (cin_mem h).2, fun h => List.mem_filter.mpr ⟨sub l (List.mem_append_right _ (List.mem_singleton.mpr rfl)) y h, decide_eq_true h⟩⟩
    have key : ∀ cs : List Str, cs.Nodup → cntR (cs.map (rnAt rs ls)) y = if y ∈ cs then 1 else 0 := by
      intro cs
      induction cs with
      | nil => intro _; rfl
      | cons c cs ih2 =>
        intro n
        obtain ⟨n1, n2⟩ := List.nodup_cons.mp n
        have e : cntR ((c :: cs).map (rnAt rs ls)) y = cntR [rnAt rs ls c] y + cntR (cs.map (rnAt rs ls)) y := cntR_app [_] _ y
        rw [e, ih2 n2]
        by_cases h : c = y
        · subst h
          rw [if_neg n1, if_pos (List.mem_cons_self ..)]
          unfold cntR
          have e0 : decide ((rnAt rs ls c).2.1 = c) = true := decide_eq_true rfl
          rw [List.filter_cons, e0]
          rfl
        · have : cntR [rnAt rs ls c] y = 0 := by
            unfold cntR
            rw [List.filter_cons, show decide ((rnAt rs ls c).2.1 = y) = false from decide_eq_false h]
            rfl
          rw [this, Nat.zero_add]
          by_cases m : y ∈ cs
          · rw [if_pos m, if_pos (List.mem_cons_of_mem _ m)]
          · rw [if_neg m, if_neg fun hm => (List.mem_cons.mp hm).elim (fun e => h e.symm) m]
    rw [key _ nc]
    by_cases h : y ∈ l
    · rw [if_pos h, if_pos (mc.mpr h)]
    · rw [if_neg h, if_neg fun m => h (mc.mp m)]
structure RdGood (rs : Rws) (R : List Rn) : Prop where
  ln : R.length ≤ 820000
  cell : ∀ r ∈ R, r.2.1 ∈ rs.map Prod.fst
  vl : ∀ r ∈ R, r.2.2.2.length = (srcL rs r.2.1).length
  lt : ∀ (i : Nat) r, R[i]? = some r → ∀ q ∈ (srcL rs r.2.1).zip r.2.2.2, q.2 < (((R.take i).foldl (fa1 rs) fa0).1 q.1).length
theorem rdGood {rs : Rws} (g : Good rs) (ls : Lots) (ll : ls.length ≤ 900) (sub : ∀ l ∈ ls, ∀ z ∈ l, z ∈ rs.map Prod.fst) : RdGood rs (rdl rs ls) := by
  refine ⟨?_, ?_, ?_, ?_⟩
  · have h1 := rdl_len rs ls
    have h2 : ls.length * rs.length ≤ 900 * 900 := Nat.mul_le_mul ll g.ln
    omega
  · clear ll
    induction ls using snoc_ind with
    | h0 => exact fun r m => nomatch m
    | hs ls l ih =>
      intro r m
      rw [rdl_snoc] at m
      rcases List.mem_append.mp m with m | m
      · exact ih (fun m hm => sub m (List.mem_append_left _ hm)) r m
      · obtain ⟨z, mz, rfl⟩ := List.mem_map.mp m
        exact (cin_mem mz).1
  · clear ll sub
    induction ls using snoc_ind with
    | h0 => exact fun r m => nomatch m
    | hs ls l ih =>
      intro r m
      rw [rdl_snoc] at m
      rcases List.mem_append.mp m with m | m
      · exact ih r m
      · obtain ⟨z, mz, rfl⟩ := List.mem_map.mp m
        exact List.length_map ..
  · clear ll
    induction ls using snoc_ind with
    | h0 => exact fun i r h => nomatch h
    | hs ls l ih =>
      intro i r h
      have sub0 : ∀ m ∈ ls, ∀ z ∈ m, z ∈ rs.map Prod.fst := fun m hm => sub m (List.mem_append_left _ hm)
      rw [rdl_snoc] at h ⊢
      by_cases hi : i < (rdl rs ls).length
      · rw [List.getElem?_append_left hi] at h
        rw [List.take_append_of_le_length (Nat.le_of_lt hi)]
        exact ih sub0 i r h
      · intro q mq
        have m := List.mem_of_getElem? h
        rw [List.getElem?_append_right (by omega)] at h
        obtain ⟨z, mz, rfl⟩ := List.mem_map.mp (List.mem_of_getElem? h)
        have eq : q.2 = cntT ls q.1 := by
          have key : ∀ (xs : List Str), q ∈ xs.zip (xs.map (cntT ls)) → q.2 = cntT ls q.1 := by
            intro xs
            induction xs with
            | nil => exact fun m => nomatch m
            | cons x xs ih =>
              intro m
              rcases List.mem_cons.mp m with rfl | m
              · rfl
              · exact ih m
          exact key _ mq
        rw [fa_len, eq]
        have e : (rdl rs ls ++ (cellsIn rs l).map (rnAt rs ls)).take i = rdl rs ls ++ ((cellsIn rs l).map (rnAt rs ls)).take (i - (rdl rs ls).length) := by
          rw [List.take_append, List.take_of_length_le (by omega)]
        rw [e, cntR_app, cntR_rdl g.nd ls sub0]
        show cntT ls q.1 < 1 + _
        omega
theorem fold_snoc {rs : Rws} {R : List Rn} {i : Nat} {r : Rn} (h : R[i]? = some r) : (R.take (i + 1)).foldl (fa1 rs) fa0 = fa1 rs ((R.take i).foldl (fa1 rs) fa0) r := by
  rw [take_at h, List.foldl_append]
  rfl
/-! ### lists under the cells -/
/-- D is a dict from the cells to lists of numbers of its own, all new to B -/
structure KdAt (B H : Hp) (D : Addr) (cs : List Str) (A : Str → Addr) (F : Str → List Nat) : Prop where
  d : H D = some (.dK (dC cs fun z => .ref (A z)))
  l : ∀ z ∈ cs, H (A z) = some (.lst ((F z).map nV))
  inj : ∀ z ∈ cs, ∀ y ∈ cs, A z = A y → z = y
  nD : B D = none
  nA : ∀ z ∈ cs, B (A z) = none
theorem KdAt.same {B H H' : Hp} {D : Addr} {cs : List Str} {A : Str → Addr} {F : Str → List Nat} (h : KdAt B H D cs A F) (s : Same H H') : KdAt B H' D cs A F := ⟨s _ _ h.d, fun z m => s _ _ (h.l z m), h.inj, h.nD, h.nA⟩
theorem KdAt.sub {B B' H : Hp} {D : Addr} {cs : List Str} {A : Str → Addr} {F : Str → List Nat} (h : KdAt B' H D cs A F) (s : Same B B') : KdAt B H D cs A F := ⟨h.d, h.l, h.inj, s.free h.nD, fun z m => s.free (h.nA z m)⟩
theorem KdAt.neD {B H : Hp} {D : Addr} {cs : List Str} {A : Str → Addr} {F : Str → List Nat} (h : KdAt B H D cs A F) {z : Str} (m : z ∈ cs) : A z ≠ D := fun e => by
  have h1 := h.l z m
  rw [e, h.d] at h1
  cases h1
/-- another thing is written -/
theorem KdAt.over {B H : Hp} {D : Addr} {cs : List Str} {A : Str → Addr} {F : Str → List Nat} (h : KdAt B H D cs A F) {b : Addr} {o : HO} (n1 : b ≠ D) (n2 : ∀ z ∈ cs, A z ≠ b) : KdAt B (upd H b o) D cs A F :=
  ⟨by rw [upd_ne n1.symm]; exact h.d, fun z m => by rw [upd_ne (n2 z m)]; exact h.l z m, h.inj, h.nD, h.nA⟩
/-- one of its lists is written -/
theorem KdAt.put {B H : Hp} {D : Addr} {cs : List Str} {A : Str → Addr} {F : Str → List Nat} (h : KdAt B H D cs A F) {z : Str} (m : z ∈ cs) {l : List Nat} : KdAt B (upd H (A z) (.lst (l.map nV))) D cs A (putS F z l) :=
  ⟨by rw [upd_ne (h.neD m).symm]; exact h.d, fun y my => by
    by_cases e : y = z
    · subst e
      rw [upd_same, putS_same]
    · rw [upd_ne fun q => e (h.inj y my z m q), putS_ne _ _ e]
      exact h.l y my, h.inj, h.nD, h.nA⟩
theorem KdAt.get {B H : Hp} {D : Addr} {cs : List Str} {A : Str → Addr} {F : Str → List Nat} (h : KdAt B H D cs A F) {z : Str} (m : z ∈ cs) : DGet H D (.str z) (some (.ref (A z))) := dC_get (f := fun z => .ref (A z)) h.d m
/-- one more -/
theorem KdAt.snoc {B H : Hp} {D l : Addr} {cs : List Str} {A : Str → Addr} {F : Str → List Nat} {z : Str} (h : KdAt B H D cs A F) (nz : z ∉ cs) (nl : H l = none) (s : Same B H) : KdAt B (upd (upd H l (.lst ((F z).map nV))) D (.dK (putK (dC cs fun z => .ref (A z)) (kS z) (.ref l)))) D (cs ++ [z]) (putS A z l) F := by
  have lD : l ≠ D := fun e => by
    rw [e, h.d] at nl
    cases nl
  have ne : ∀ y ∈ cs, y ≠ z := fun y my e => nz (e ▸ my)
  refine ⟨?_, fun y my => ?_, fun y my x mx e => ?_, h.nD, fun y my => ?_⟩
  · rw [upd_same]
    congr 2
    have e1 : dC cs (fun z => .ref (A z)) = dC cs fun y => .ref (putS A z l y) := dC_congr fun y my => by rw [putS_ne _ _ (ne y my)]
    have e2 : V.ref l = (fun y => V.ref (putS A z l y)) z := by
      show _ = V.ref (putS A z l z)
      rw [putS_same]
    rw [e1, e2, dC_snoc nz]
  · rcases List.mem_append.mp my with my | my
    · rw [putS_ne _ _ (ne y my), upd_ne (h.neD my), upd_ne fun e => by
        have := h.l y my
        rw [e, nl] at this
        cases this]
      exact h.l y my
    · rw [List.mem_singleton.mp my, putS_same, upd_ne lD, upd_same]
  · have old : ∀ y ∈ cs, A y ≠ l := fun y my e => by
      have := h.l y my
      rw [e, nl] at this
      cases this
    rcases List.mem_append.mp my with my | my <;> rcases List.mem_append.mp mx with mx | mx
    · rw [putS_ne _ _ (ne y my), putS_ne _ _ (ne x mx)] at e
      exact h.inj y my x mx e
    · rw [putS_ne _ _ (ne y my), List.mem_singleton.mp mx, putS_same] at e
      exact absurd e (old y my)
    · rw [putS_ne _ _ (ne x mx), List.mem_singleton.mp my, putS_same] at e
      exact absurd e.symm (old x mx)
    · rw [List.mem_singleton.mp my, List.mem_singleton.mp mx]
  · rcases List.mem_append.mp my with my | my
    · rw [putS_ne _ _ (ne y my)]
      exact h.nA y my
    · rw [List.mem_singleton.mp my, putS_same]
      exact s.free nl
/-! ### name = {k: v for ..}, the name a local -/
section
variable {X : Cx}
theorem ps_setDc {i : Nat} {y : Str} {py : Pos} {kx vx tg iter : Expr} {ifs : List Expr} {scope : Scope} {own : List (Str × Nat)} {pos spos : Pos} {wi : TI} {g : TG} {tt : TT} {tk tv : TE} (calm : X.calm = true) (nd : X.N.Nodup) (hy : X.N[i]? = some y) (yl : X.env.scope.names.lookup y = some .local)
    (sw : swapsWith (.DictComp kx vx [⟨tg, iter, ifs, 0⟩] scope pos) (some (.Name y py)) spos.line X.env = pure true) (hi : PI X tg iter wi) (ok : BlkOk X.N X.env.scope scope own)
    (hg : ∀ s H C cl fp, PG (X.blk s H scope (compEnvC scope cl C X.env) fp) tg g) (ht : ∀ s H C cl fp, PTs (X.blk s H scope (compEnvC scope cl C X.env) fp) ifs tt)
    (hk : ∀ s H C cl fp, PE (X.blk s H scope (compEnvC scope cl C X.env) fp) kx tk) (hv : ∀ s H C cl fp, PE (X.blk s H scope (compEnvC scope cl C X.env) fp) vx tv) (fs : ∀ x, foldedSetIterable iter X.env x = pure x := by intro _; rfl) :
    PS X (.Assign [.Name y py] (.DictComp kx vx [⟨tg, iter, ifs, 0⟩] scope pos) spos) (tAsg (tDc wi g tt tk tv (own.map (·.2))) (gName i)) := by
  refine ⟨fun pins s σ H D I h => ?_⟩
  rw [exec_Assign_Name_used _ _ _ _ sw]
  refine wpAny_bind (wpAny_standAt (wpAny_bind ?_))
  show wpAny _ X.A (do let _ ← comprehension (.DictComp kx vx [⟨tg, iter, ifs, 0⟩] scope pos) scope X.env (firstIterPos [⟨tg, iter, ifs, 0⟩] pos) newDict false (eval iter X.env) (some (assign (.Name y py) X.env))) _ _ s
  have h' : tDc wi g tt tk tv (own.map (·.2)) σ H (fun x H1 => gName i x σ H1 D.nx) := h
  refine wpAny_bind (thn (dc_core (Qf := fun _ s' => SP X pins D .next s') calm nd I hi ok hg ht hk hv fs h' fun L C s' m H' I' q hn f => ?_) fun _ s' hq => wpAny_pure (wpAny_pure hq))
  show wpAny _ _ (assign (.Name y py) X.env (.ref L)) _ _ _
  refine wpAny_assign_Name (store_ok2 (v := V.ref L) I' nd hy (.inl yl) rfl (fun s2 I2 ⟨a, sb, ha⟩ => ?_) (.inr yl))
  obtain ⟨z0, z1, z2, z3, z4, z5⟩ := f
  have na : C ≠ a := by
    rcases ha with e | e
    · rw [e]
      exact z1
    · exact fun q => z4 y a e q.symm
  exact ⟨m, hn.sameBut sb na, fun h3 sb3 => ⟨_, H', I2.turned (t' := s2.toks) (fun b o hb e => (sb3.2 b hb).trans e) z0 z1 z3 z4 z5, q⟩⟩
theorem sw_dict {kx vx : Expr} {gs : List Comprehension} {scope : Scope} {pos py : Pos} {y : Str} {l : Nat} {env : Env} (k : env.scope.kind = .function) (yl : env.scope.names.lookup y = some .local) (hl : (py.line == pos.line) = true)
    (na : (scope.names.any fun (n, k) => n == y && (k == .local || k == .cell)) = false) : swapsWith (.DictComp kx vx gs scope pos) (some (.Name y py)) l env = pure true := by
  have e1 : env.kindOf y = some .local := yl
  have e2 : env.blockKind = .function := by
    unfold Env.blockKind
    rw [k]
    rfl
  unfold swapsWith
  simp only [e1, e2, na, Expr.pos, hl]
  rfl
end
theorem at_lastN {l : List Nat} (n : l ≠ []) : atI (l.map nV) (-1) = some (nV (lastN l)) := by
  have e : l.dropLast ++ [lastN l] = l := by
    unfold lastN
    rw [List.getLast?_eq_some_getLast n]
    exact List.dropLast_concat_getLast n
  have e2 : l.map nV = l.dropLast.map nV ++ [nV (lastN l)] := by
    have := congrArg (List.map nV) e
    rw [List.map_append] at this
    exact this.symm
  rw [e2]
  exact atI_last ..
/-- what was read last -/
def LrAt (H : Hp) (cs : List Str) (A : Str → Addr) (v : V) (o : Option (List Nat)) : Prop := match o with
  | none => v = .non
  | some l => ∃ b, v = .ref b ∧ H b = some (.lst (l.map nV)) ∧ ∀ y ∈ cs, A y ≠ b
theorem LrAt.same {H H' : Hp} {cs : List Str} {A : Str → Addr} {v : V} {o : Option (List Nat)} (h : LrAt H cs A v o) (s : Same H H') : LrAt H' cs A v o := by
  cases o with
  | none => exact h
  | some l =>
    obtain ⟨b, e, a, n⟩ := h
    exact ⟨b, e, s _ _ a, n⟩
theorem LrAt.put {H : Hp} {cs : List Str} {A : Str → Addr} {v : V} {o : Option (List Nat)} {z : Str} {u : HO} (h : LrAt H cs A v o) (m : z ∈ cs) : LrAt (upd H (A z) u) cs A v o := by
  cases o with
  | none => exact h
  | some l =>
    obtain ⟨b, e, a, n⟩ := h
    exact ⟨b, e, by rw [upd_ne (n z m).symm]; exact a, n⟩
theorem LrAt.over {H : Hp} {cs : List Str} {A : Str → Addr} {v : V} {o : Option (List Nat)} {D : Addr} {k : List (Key × V)} {u : HO} (h : LrAt H cs A v o) (e : H D = some (.dK k)) : LrAt (upd H D u) cs A v o := by
  cases o with
  | none => exact h
  | some l =>
    obtain ⟨b, e2, a, n⟩ := h
    exact ⟨b, e2, by
      rw [upd_ne fun z => by
        rw [z, e] at a
        cases a]
      exact a, n⟩
theorem LrAt.eq {K : PySem.W.Frag} {H : Hp} {cs : List Str} {A : Str → Addr} {v : V} {o : Option (List Nat)} (h : LrAt H cs A v o) (l : List Nat) : ∃ d, Dp K H v d ∧ SeqAt.shaped d = true ∧ PyData.eqv (iD l) d = decide (o = some l) := by
  cases o with
  | none =>
    subst h
    exact ⟨.none, .non, rfl, by rw [decide_eq_false (fun e => by cases e)]; rfl⟩
  | some m =>
    obtain ⟨b, rfl, a, _⟩ := h
    refine ⟨iD m, dp_iD (SqL.of a), shape_ints m, ?_⟩
    rw [eqv_iD]
    exact decide_eq_decide.mpr ⟨fun e => by rw [e], fun e => (Option.some.inj e).symm⟩
/-! ### promises -/
def spFirstA (K : PySem.W.Frag) (CW : Addr) : Sp := fun vs H Q _ => ∃ (wb D : Addr) (rs : Rws) (R : List Rn), vs = [.ref wb, .ref D] ∧ IsWeb K H CW wb rs ∧ Good rs ∧ RdAt H D R ∧ RdGood rs R ∧
  ∀ H' D' A, Same H H' → KdAt H H' D' (rs.map Prod.fst) A (R.foldl (fa1 rs) fa0).1 → Q (.ref D') H'
def spKinds (K : PySem.W.Frag) (CW CP CU : Addr) : Sp := fun vs H Q E => ∃ (wb p : Addr) (rs : Rws) (ls : Lots), vs = [.ref wb, .ref p] ∧ IsWeb K H CW wb rs ∧ Good rs ∧ IsPr H CP p ls ∧ GoodP ls ∧
  (((∀ l ∈ ls, ∀ z ∈ l, z ∈ rs.map Prod.fst) ∧ ∀ H' D A, Same H H' → KdAt H H' D (rs.map Prod.fst) A (fun z => fal (histT rs ls z)) → Q (.ref D) H') ∨ ∃ z, firstS (rs.map Prod.fst) ls = some z ∧ Rz H E CU "cell" (.str z))
end WL
end L2
set_option Elab.async false
set_option linter.all false
set_option maxRecDepth 100000
set_option maxHeartbeats 4000000
namespace L2
namespace WL
open PySem PySem.Spec PyProof.Rows K1
/-! ### tables: kinds of versions, numbered as they come -/
abbrev KK : Type := Str × Option (List Nat)
abbrev nkNs (l : List Nat) : List NestedKey := l.map fun n : Nat => .num (n : Int)
def nkOf : KK → NestedKey
  | (c, none) => .tup [.text c]
  | (c, some l) => .tup [.text c, .tup (nkNs l)]
theorem nkNs_inj : ∀ {a b : List Nat}, nkNs a = nkNs b → a = b
  | [], [], _ => rfl
  | [], _ :: _, h => nomatch h
  | _ :: _, [], h => nomatch h
  | x :: a, y :: b, h => by
    obtain ⟨h1, h2⟩ := List.cons.inj h
    have := NestedKey.num.inj h1
    rw [nkNs_inj h2, show x = y by omega]
theorem nk_inj : ∀ {a b : KK}, nkOf a = nkOf b → a = b
  | (c, none), (d, none), h => by
    have := NestedKey.text.inj (List.cons.inj (NestedKey.tup.inj h)).1
    rw [this]
  | (c, none), (d, some m), h => nomatch (List.cons.inj (NestedKey.tup.inj h)).2
  | (c, some l), (d, none), h => nomatch (List.cons.inj (NestedKey.tup.inj h)).2
  | (c, some l), (d, some m), h => by
    obtain ⟨h1, h2⟩ := List.cons.inj (NestedKey.tup.inj h)
    rw [NestedKey.text.inj h1, nkNs_inj (NestedKey.tup.inj (List.cons.inj h2).1)]
def KyT (H : Hp) (b : Addr) : KK → Prop
  | (c, none) => H b = some (.tup [.str c])
  | (c, some l) => ∃ t, H b = some (.tup [.str c, .ref t]) ∧ H t = some (.tup (l.map nV))
theorem KyT.same {H H' : Hp} {b : Addr} {k : KK} (h : KyT H b k) (s : Same H H') : KyT H' b k := by
  match k, h with
  | (c, none), h => exact s _ _ h
  | (c, some l), ⟨t, h1, h2⟩ => exact ⟨t, s _ _ h1, s _ _ h2⟩
theorem KyT.over {H : Hp} {b D : Addr} {k : KK} {o o' : HO} (h : KyT H b k) (d : H D = some o) (no : ∀ ys, o ≠ .tup ys) : KyT (upd H D o') b k := by
  match k, h with
  | (c, none), h => exact tup_over h d no
  | (c, some l), ⟨t, h1, h2⟩ => exact ⟨t, tup_over h1 d no, tup_over h2 d no⟩
theorem KyT.hide {H : Hp} {b D : Addr} {k : KK} {o : HO} (h : KyT H b k) (d : H D = some o) (no : ∀ ys, o ≠ .tup ys) : KyT (WL.hide D H) b k := by
  match k, h with
  | (c, none), h => exact tup_hide h d no
  | (c, some l), ⟨t, h1, h2⟩ => exact ⟨t, tup_hide h1 d no, tup_hide h2 d no⟩
theorem nums_all {h : Heap} : ∀ {l : List Nat} {us : List Value}, Vals (l.map nV) us → NestedAll h (nkNs l) us
  | [], _, .nil => .nil
  | x :: l, _, .cons r t => by
    obtain ⟨k, rfl⟩ := r
    exact .cons (.int _ _) (nums_all t)
theorem nkNs_depth : ∀ l : List Nat, NestedKey.depthAll (nkNs l) = 0
  | [] => rfl
  | x :: l => by
    show max 0 (NestedKey.depthAll (nkNs l)) = 0
    rw [nkNs_depth l]
    rfl
section
variable {P : Program} {w : World} {H : Hp} {h : Heap} {b : Addr}
theorem tup_key {xs : List V} (ok : HOk P w H h) (e : H b = some (.tup xs)) : ∃ us, Vals xs us ∧ ∀ {ks : List NestedKey}, NestedAll h ks us → NestedIs h (.tup ks) (.ref b) := by
  obtain ⟨_, its, rv, o, h1, h2, n, h3⟩ := (show ObjOk P w H h b (.tup xs) from ok b _ e)
  exact ⟨its, rv, fun a => .tup h1 h2 h3 (by simpa using a)⟩
theorem ky_is {k : KK} (ok : HOk P w H h) (y : KyT H b k) : (nestedKind P w).is h (nkOf k) b := by
  match k, y with
  | (c, none), y =>
    obtain ⟨us, rv, g⟩ := tup_key ok y
    cases rv with
    | cons r t =>
      cases t
      obtain ⟨k, rfl⟩ := r
      exact ⟨g (.cons (.text _ _) .nil), by show max 0 0 + 1 ≤ 8; decide⟩
  | (c, some l), ⟨t, h1, h2⟩ =>
    obtain ⟨us, rv, g⟩ := tup_key ok h1
    obtain ⟨us2, rv2, g2⟩ := tup_key ok h2
    cases rv with
    | cons r t' =>
      cases t' with
      | cons r2 t2 =>
        cases t2
        obtain ⟨k, rfl⟩ := r
        cases r2
        refine ⟨g (.cons (.text _ _) (.cons (g2 (nums_all rv2)) .nil)), ?_⟩
        show max 0 (max (NestedKey.depthAll (nkNs l) + 1) 0) + 1 ≤ 8
        rw [nkNs_depth]
        decide
end
/-- the dict at a has these keys, each numbered by its place -/
def Tb0 (P : Program) (w : World) (a : Addr) (L : List (KK × Addr)) (h : Heap) : Prop := (a == sysModules) = false ∧ (L.map Prod.fst).Nodup ∧ L.length ≤ 1000000 ∧
  ∃ xs : List (NestedKey × Addr × Value), xs.map (fun x => (x.1, x.2.1)) = L.map (fun q => (nkOf q.1, q.2)) ∧ (∀ (i : Nat) x, xs[i]? = some x → ∃ t, x.2.2 = .int (i : Nat) t) ∧
    ∃ o es ep, h.get? a = some o ∧ o.ExactDict ∧ o.data = .dict es ep ∧ es.toList = xs.map (entryOfKey (nestedKind P w))
def TbO (P : Program) (w : World) (a : Addr) (L : List (KK × Addr)) : HO := .ext (Tb0 P w a L)
theorem tb_nt {P : Program} {w : World} {a : Addr} {L : List (KK × Addr)} : ∀ ys, TbO P w a L ≠ .tup ys := fun ys z => by
  unfold TbO at z
  cases z
theorem tb_new {P : Program} {w : World} {H : Hp} {h : Heap} {a : Addr} {L : List (KK × Addr)} (x : Tb0 P w a L h) : ObjOk P w H h a (TbO P w a L) := by
  refine ⟨x, ?_, fun h1 h2 y k => ?_⟩
  · obtain ⟨_, _, _, xs, _, _, o, es, ep, e, _⟩ := x
    exact ⟨o, e⟩
  · obtain ⟨z1, z2, z2', xs, z3, z4, o, es, ep, e, z5⟩ := y
    exact ⟨z1, z2, z2', xs, z3, z4, o, es, ep, k _ e, z5⟩
def MemT (H : Hp) (L : List (KK × Addr)) : Prop := ∀ q ∈ L, KyT H q.2 q.1
theorem MemT.same {H H' : Hp} {L : List (KK × Addr)} (h : MemT H L) (s : Same H H') : MemT H' L := fun q m => (h q m).same s
theorem MemT.over {H : Hp} {D : Addr} {L : List (KK × Addr)} {o o' : HO} (h : MemT H L) (d : H D = some o) (no : ∀ ys, o ≠ .tup ys) : MemT (upd H D o') L := fun q m => (h q m).over d no
theorem MemT.hide {H : Hp} {D : Addr} {L : List (KK × Addr)} {o : HO} (h : MemT H L) (d : H D = some o) (no : ∀ ys, o ≠ .tup ys) : MemT (WL.hide D H) L := fun q m => (h q m).hide d no
section
variable {P : Program} {w : World} {H : Hp} {h : Heap} {a : Addr} {L : List (KK × Addr)}
theorem tb_full (ok : HOk P w H h) (e : H a = some (TbO P w a L)) (m : MemT H L) : (a == sysModules) = false ∧ (L.map Prod.fst).Nodup ∧ L.length ≤ 1000000 ∧
    ∃ xs : List (NestedKey × Addr × Value), xs.map (fun x => (x.1, x.2.1)) = L.map (fun q => (nkOf q.1, q.2)) ∧ (∀ (i : Nat) x, xs[i]? = some x → ∃ t, x.2.2 = .int (i : Nat) t) ∧ h.DictOfH (nestedKind P w) a xs := by
  obtain ⟨⟨z1, z2, z2', xs, z3, z4, o, es, ep, z5, z6, z7, z8⟩, _, _⟩ := (show ObjOk P w H h a (TbO P w a L) from ok a _ e)
  refine ⟨z1, z2, z2', xs, z3, z4, o, es, ep, z5, z6, z7, z8, fun x mx => ?_, ?_⟩
  · have mm : (x.1, x.2.1) ∈ xs.map (fun x => (x.1, x.2.1)) := List.mem_map.mpr ⟨x, mx, rfl⟩
    rw [z3] at mm
    obtain ⟨q, mq, eq⟩ := List.mem_map.mp mm
    obtain ⟨e1, e2⟩ := Prod.mk.inj eq
    rw [← e1, ← e2]
    exact ky_is ok (m q mq)
  · have e1 : xs.map (·.1) = (L.map Prod.fst).map nkOf := by
      have := congrArg (List.map Prod.fst) z3
      rw [List.map_map, List.map_map] at this
      rw [List.map_map]
      exact this
    rw [e1]
    exact (List.pairwise_map.mpr (z2.imp fun ne he => ne (nk_inj he)))
theorem tb_at {xs : List (NestedKey × Addr × Value)} (e : xs.map (fun x => (x.1, x.2.1)) = L.map (fun q => (nkOf q.1, q.2))) (nd : (L.map Prod.fst).Nodup) (v : ∀ (i : Nat) x, xs[i]? = some x → ∃ t, x.2.2 = .int (i : Nat) t) (k : KK) :
    (atKey xs (nkOf k)).isSome = decide (k ∈ L.map Prod.fst) ∧ (k ∈ L.map Prod.fst → ∃ b t, atKey xs (nkOf k) = some (b, .int ((L.map Prod.fst).idxOf k : Nat) t)) := by
  have ek : xs.map (·.1) = (L.map Prod.fst).map nkOf := by
    have := congrArg (List.map Prod.fst) e
    rw [List.map_map, List.map_map] at this
    rw [List.map_map]
    exact this
  have there : k ∈ L.map Prod.fst → ∃ b t, atKey xs (nkOf k) = some (b, .int ((L.map Prod.fst).idxOf k : Nat) t) := fun m => by
    have l1 := List.idxOf_lt_length_of_mem m
    have g := List.getElem_idxOf l1
    have l2 : (L.map Prod.fst).idxOf k < xs.length := by
      have := congrArg List.length ek
      rw [List.length_map, List.length_map, List.length_map] at this
      rw [List.length_map] at l1
      omega
    have hx : xs[(L.map Prod.fst).idxOf k]? = some xs[(L.map Prod.fst).idxOf k] := List.getElem?_eq_getElem l2
    have hk : xs[(L.map Prod.fst).idxOf k].1 = nkOf k := by
      have h1 : (xs.map (·.1))[(L.map Prod.fst).idxOf k]? = some xs[(L.map Prod.fst).idxOf k].1 := by rw [List.getElem?_map, hx]; rfl
      rw [ek, List.getElem?_map, List.getElem?_eq_getElem l1, g] at h1
      exact (Option.some.inj h1).symm
    obtain ⟨t, ht⟩ := v _ _ hx
    refine ⟨xs[(L.map Prod.fst).idxOf k].2.1, t, ?_⟩
    unfold atKey
    have nd2 : (xs.map (·.1)).Nodup := by
      rw [ek]
      exact (List.pairwise_map.mpr (nd.imp fun ne he => ne (nk_inj he)))
    have key : ∀ {ys : List (NestedKey × Addr × Value)} {i : Nat} {x : NestedKey × Addr × Value}, (ys.map (·.1)).Nodup → ys[i]? = some x → ys.find? (fun y => decide (y.1 = x.1)) = some x := by
      intro ys
      induction ys with
      | nil => intro i x _ h; cases h
      | cons y ys ih =>
        intro i x n hi
        obtain ⟨n1, n2⟩ := List.nodup_cons.mp n
        cases i with
        | zero =>
          cases hi
          rw [List.find?_cons, decide_eq_true rfl]
        | succ i =>
          have ne : ¬ y.1 = x.1 := fun q => n1 (List.mem_map.mpr ⟨x, List.mem_of_getElem? hi, q.symm⟩)
          rw [List.find?_cons, decide_eq_false ne]
          exact ih n2 hi
    have := key nd2 hx
    rw [hk] at this
    rw [this, ← ht]
    rfl
  refine ⟨?_, there⟩
  by_cases m : k ∈ L.map Prod.fst
  · obtain ⟨b, t, q⟩ := there m
    rw [q, decide_eq_true m]
    rfl
  · rw [decide_eq_false m]
    unfold atKey
    rw [List.find?_eq_none.mpr fun x mx => by
      refine fun q => m ?_
      have : x.1 ∈ xs.map (·.1) := List.mem_map.mpr ⟨x, mx, rfl⟩
      rw [ek] at this
      obtain ⟨k', mk, ek'⟩ := List.mem_map.mp this
      have := nk_inj (ek'.trans (of_decide_eq_true q))
      rw [← this]
      exact mk]
    rfl
end
section
variable {X : Cx}
/-- k not in the table -/
def rNotInTb (P : Program) (w : World) : R2 := fun x y H Q => ∃ b k a L, x = .ref b ∧ y = .ref a ∧ KyT H b k ∧ H a = some (TbO P w a L) ∧ MemT H L ∧ Q (.bl (!decide (k ∈ L.map Prod.fst))) H
theorem op_notInTb (hu : X.A.units + 64 < cLine) : OpR X (compareOp .NotIn) (rNotInTb X.prog X.w) := by
  intro pins s σ H x y v u Q I rx ry h
  obtain ⟨b, k, a, L, rfl, rfl, hk, ha, hm, q⟩ := h
  cases rx
  cases ry
  obtain ⟨hd, nd, l9, xs, e1, e2, dd⟩ := tb_full I.hok ha hm
  refine wpAny_notIn_heap (knd := nestedKind X.prog X.w) (by show X.A.units + 1 + 8 < cLine; omega) (ky_is I.hok hk) hd dd ?_
  rw [(tb_at e1 nd e2 k).1]
  exact ⟨.bl _, H, I.tok _, rfl, q⟩
/-- the number of a key -/
def rIxTb (P : Program) (w : World) : R2 := fun x y H Q => ∃ b k a L, x = .ref a ∧ y = .ref b ∧ KyT H b k ∧ H a = some (TbO P w a L) ∧ MemT H L ∧ k ∈ L.map Prod.fst ∧ Q (nV ((L.map Prod.fst).idxOf k)) H
theorem ix_tb (hu : X.A.units + 64 < cLine) : IxR X (rIxTb X.prog X.w) := by
  intro value slice pins s σ H x y v u Q I rx ry h hs
  obtain ⟨b, k, a, L, rfl, rfl, hk, ha, hm, mk, q⟩ := h
  cases rx
  cases ry
  obtain ⟨hd, nd, l9, xs, e1, e2, dd⟩ := tb_full I.hok ha hm
  obtain ⟨b', t, e⟩ := (tb_at e1 nd e2 k).2 mk
  exact tail_any dd.typeIs slot_dict_getitem.lookup (wpAny_getItem_heap (knd := nestedKind X.prog X.w) (by show X.A.units + 1 + 8 < cLine; omega) (ky_is I.hok hk) dd e ⟨nV _, H, I.tok _, ⟨t, rfl⟩, q⟩) hs
/-- how many keys -/
def rLenTb (P : Program) (w : World) : List V → Hp → VK → Prop := fun xs H Q => ∃ a L, xs = [.ref a] ∧ H a = some (TbO P w a L) ∧ MemT H L ∧ Q (nV L.length) H
theorem call_lenTb : CallR X (.builtin "len") (rLenTb X.prog X.w) := by
  intro pins s σ H xs us Q I r h
  obtain ⟨a, L, rfl, ha, hm, q⟩ := h
  obtain ⟨u, rfl, rx⟩ := vals1 r
  cases rx
  obtain ⟨hd, nd, l9, xs, e1, e2, dd⟩ := tb_full I.hok ha hm
  have hl : xs.length = L.length := by
    have := congrArg List.length e1
    rwa [List.length_map, List.length_map] at this
  refine call_len_dictH (knd := nestedKind X.prog X.w) hd dd (by omega) ?_
  rw [hl]
  exact ⟨nV L.length, H, I.tok _, ⟨_, rfl⟩, q⟩
/-- a new key -/
def rSetTb (P : Program) (w : World) : TSet := fun o i v H Q => ∃ a b k L, o = .ref a ∧ i = .ref b ∧ v = nV L.length ∧ KyT H b k ∧ H a = some (TbO P w a L) ∧ MemT H L ∧ k ∉ L.map Prod.fst ∧ L.length < 1000000 ∧ Q (upd H a (TbO P w a (L ++ [(k, b)])))
theorem set_tb (hu : X.A.units + 64 < cLine) : PSet X (rSetTb X.prog X.w) := by
  intro pins s σ H o i v ov iv u Q I ro ri rv h
  obtain ⟨a, b, k, L, rfl, rfl, rfl, hk, ha, hm, nk, l6, q⟩ := h
  cases ro
  cases ri
  obtain ⟨t, rfl⟩ := rv
  obtain ⟨hd, nd, l9, xs, e1, e2, dd⟩ := tb_full I.hok ha hm
  have hl : xs.length = L.length := by
    have := congrArg List.length e1
    rwa [List.length_map, List.length_map] at this
  refine wpAny_setItem_heap (knd := nestedKind X.prog X.w) (hsz := by rw [sizeLine_eq]; omega) (by show X.A.units + 1 + 8 < cLine; omega) (ky_is I.hok hk) dd fun h' dd' hs => ?_
  have none : atKey xs (nkOf k) = none := by
    have := (tb_at e1 nd e2 k).1
    rw [decide_eq_false nk] at this
    cases e : atKey xs (nkOf k) with
    | none => rfl
    | some p => rw [e] at this; cases this
  rw [storedH_new none] at dd'
  obtain ⟨o, es, ep, z1, z2, z3, z4, _, _⟩ := dd'
  refine ⟨_, d_write I (by rw [ha]; exact True.intro) hs ⟨o, z1⟩ (tb_new ⟨hd, ?_, by rw [List.length_append]; show L.length + 1 ≤ _; omega, xs ++ [(nkOf k, b, .int (L.length : Nat) t)], ?_, ?_, o, es, ep, z1, z2, z3, z4⟩), q⟩
  · rw [List.map_append]
    exact List.nodup_append.mpr ⟨nd, List.nodup_cons.mpr ⟨(fun m => nomatch m), List.nodup_nil⟩, fun x mx y my e => nk (by
      rw [List.mem_singleton.mp my] at e
      rw [e] at mx
      exact mx)⟩
  · rw [List.map_append, List.map_append, e1]
    rfl
  · intro j x hj
    by_cases hjl : j < xs.length
    · rw [List.getElem?_append_left hjl] at hj
      exact e2 j x hj
    · rw [List.getElem?_append_right (by omega)] at hj
      have ej : j - xs.length = 0 := by
        have := (List.getElem?_eq_some_iff.mp hj).1
        have l1 : [(nkOf k, b, Value.int (L.length : Nat) t)].length = 1 := rfl
        omega
      rw [ej] at hj
      cases hj
      exact ⟨t, by rw [show j = L.length by omega]⟩
/-- {} -/
def tNewTb (P : Program) (w : World) : TE := fun σ H Q => ∀ d, H d = none → Q (.ref d) (upd H d (TbO P w d []))
theorem pe_newTb {pos : Pos} : PE X (.Dict [] [] pos) (tNewTb X.prog X.w) := ⟨fun pins s σ H Q I h => by
  have big := I.big
  have ne : (s.heap.objs.size == sysModules) = false := by
    rw [beq_eq_false_iff_ne]
    exact fun e => by
      rw [e] at big
      exact Nat.lt_irrefl _ big
  refine wpAny_Dict_empty ⟨.ref s.heap.objs.size, _, I.laid (a := s.heap.objs.size) (o := TbO X.prog X.w s.heap.objs.size []) (t' := s.toks) (fun _ _ q => Heap.get?_push_of_some _ q) (Nat.le_refl _) (tb_new ⟨ne, List.nodup_nil, Nat.zero_le _, [], rfl, (fun i x e => nomatch e), _, _, _, Heap.get?_push_size _ rfl, ⟨rfl, rfl, rfl⟩, rfl, rfl⟩), rfl, h _ (I.hok.fresh (Nat.le_refl _))⟩⟩
end
end WL
end L2
set_option Elab.async false
set_option linter.all false
set_option maxRecDepth 100000
set_option maxHeartbeats 4000000
namespace L2
namespace WL
open PySem PySem.Spec PyProof.Rows K1
/-! ### numbers for versions -/
def numL (T : List KK) (k : KK) : List KK := if k ∈ T then T else T ++ [k]
theorem numL_mem (T : List KK) (k : KK) : k ∈ numL T k := by
  unfold numL
  split
  · assumption
  · exact List.mem_append_right _ (List.mem_singleton.mpr rfl)
theorem numL_pre (T : List KK) (k : KK) : ∃ g, numL T k = T ++ g := by
  unfold numL
  split
  · exact ⟨[], (List.append_nil _).symm⟩
  · exact ⟨[k], rfl⟩
theorem numL_nd {T : List KK} {k : KK} (h : T.Nodup) : (numL T k).Nodup := by
  unfold numL
  split
  · exact h
  · rename_i n
    exact List.nodup_append.mpr ⟨h, List.nodup_cons.mpr ⟨(fun m => nomatch m), List.nodup_nil⟩, fun x mx y my e => n (by
      rw [List.mem_singleton.mp my] at e
      rw [e] at mx
      exact mx)⟩
theorem numL_len (T : List KK) (k : KK) : (numL T k).length ≤ T.length + 1 := by
  unfold numL
  split
  · omega
  · rw [List.length_append]
    exact Nat.le_refl _
theorem numL_at (T : List KK) (k : KK) : (numL T k)[(numL T k).idxOf k]? = some k := by
  have l := List.idxOf_lt_length_of_mem (numL_mem T k)
  rw [List.getElem?_eq_getElem l, List.getElem_idxOf l]
mutual
inductive Rep (T : List KK) : Nat → Tm → Prop
  | beg {n : Nat} {c : Str} : T[n]? = some (c, none) → Rep T n (.beg c)
  | ren {n : Nat} {c : Str} {l : List Nat} {rd : List Tm} : T[n]? = some (c, some l) → RepL T l rd → Rep T n (.ren c rd)
inductive RepL (T : List KK) : List Nat → List Tm → Prop
  | nil : RepL T [] []
  | cons {n : Nat} {t : Tm} {l : List Nat} {rd : List Tm} : Rep T n t → RepL T l rd → RepL T (n :: l) (t :: rd)
end
mutual
theorem Rep.fn {T : List KK} : ∀ (t u : Tm) (n : Nat), Rep T n t → Rep T n u → t = u
  | .beg c, u, n, h, h' => by
    cases h with
    | beg e =>
      cases h' with
      | beg e' =>
        rw [e] at e'
        cases e'
        rfl
      | ren e' _ =>
        rw [e] at e'
        cases e'
  | .ren c rd, u, n, h, h' => by
    cases h with
    | ren e hl =>
      cases h' with
      | beg e' =>
        rw [e] at e'
        cases e'
      | ren e' hl' =>
        rw [e] at e'
        cases e'
        rw [RepL.fn rd _ _ hl hl']
theorem RepL.fn {T : List KK} : ∀ (ts us : List Tm) (l : List Nat), RepL T l ts → RepL T l us → ts = us
  | [], us, l, h, h' => by
    cases h
    cases h'
    rfl
  | t :: ts, us, l, h, h' => by
    cases h with
    | cons r hl =>
      cases h' with
      | cons r' hl' => rw [Rep.fn t _ _ r r', RepL.fn ts _ _ hl hl']
end
theorem at_inj {α : Type} {T : List α} (nd : T.Nodup) {n m : Nat} {k : α} (h : T[n]? = some k) (h' : T[m]? = some k) : n = m :=
  (List.getElem?_inj (List.getElem?_eq_some_iff.mp h).1 nd).mp (h.trans h'.symm)
mutual
theorem Rep.inj {T : List KK} (nd : T.Nodup) : ∀ (t : Tm) (n m : Nat), Rep T n t → Rep T m t → n = m
  | .beg c, n, m, h, h' => by
    cases h with
    | beg e =>
      cases h' with
      | beg e' => exact at_inj nd e e'
  | .ren c rd, n, m, h, h' => by
    cases h with
    | ren e hl =>
      cases h' with
      | ren e' hl' =>
        rw [RepL.inj nd rd _ _ hl hl'] at e
        exact at_inj nd e e'
theorem RepL.inj {T : List KK} (nd : T.Nodup) : ∀ (ts : List Tm) (l l' : List Nat), RepL T l ts → RepL T l' ts → l = l'
  | [], l, l', h, h' => by
    cases h
    cases h'
    rfl
  | t :: ts, l, l', h, h' => by
    cases h with
    | cons r hl =>
      cases h' with
      | cons r' hl' => rw [Rep.inj nd t _ _ r r', RepL.inj nd ts _ _ hl hl']
end
mutual
theorem Rep.grow {T : List KK} (g : List KK) : ∀ (t : Tm) (n : Nat), Rep T n t → Rep (T ++ g) n t
  | .beg c, n, h => by
    cases h with
    | beg e => exact .beg (by rw [List.getElem?_append_left (List.getElem?_eq_some_iff.mp e).1]; exact e)
  | .ren c rd, n, h => by
    cases h with
    | ren e hl => exact .ren (by rw [List.getElem?_append_left (List.getElem?_eq_some_iff.mp e).1]; exact e) (RepL.grow g rd _ hl)
theorem RepL.grow {T : List KK} (g : List KK) : ∀ (ts : List Tm) (l : List Nat), RepL T l ts → RepL (T ++ g) l ts
  | [], l, h => by
    cases h
    exact .nil
  | t :: ts, l, h => by
    cases h with
    | cons r hl => exact .cons (Rep.grow g t _ r) (RepL.grow g ts _ hl)
end
/-- a table that another one goes on -/
def TExt (T T' : List KK) : Prop := ∃ g, T' = T ++ g
theorem TExt.refl (T : List KK) : TExt T T := ⟨[], (List.append_nil _).symm⟩
theorem TExt.trans {A B C : List KK} (h : TExt A B) (h' : TExt B C) : TExt A C := by
  obtain ⟨g, rfl⟩ := h
  obtain ⟨g', rfl⟩ := h'
  exact ⟨g ++ g', List.append_assoc ..⟩
theorem TExt.num (T : List KK) (k : KK) : TExt T (numL T k) := numL_pre T k
theorem Rep.ext {T T' : List KK} {n : Nat} {t : Tm} (h : Rep T n t) (e : TExt T T') : Rep T' n t := by
  obtain ⟨g, rfl⟩ := e
  exact Rep.grow g t n h
theorem RepL.ext {T T' : List KK} {l : List Nat} {ts : List Tm} (h : RepL T l ts) (e : TExt T T') : RepL T' l ts := by
  obtain ⟨g, rfl⟩ := e
  exact RepL.grow g ts l h
theorem RepL.len {T : List KK} : ∀ {ts : List Tm} {l : List Nat}, RepL T l ts → l.length = ts.length
  | [], l, h => by
    cases h
    rfl
  | t :: ts, l, h => by
    cases h with
    | cons r hl => rw [List.length_cons, List.length_cons, hl.len]
theorem RepL.snoc {T : List KK} {n : Nat} {t : Tm} (r : Rep T n t) : ∀ {ts : List Tm} {l : List Nat}, RepL T l ts → RepL T (l ++ [n]) (ts ++ [t])
  | [], l, h => by
    cases h
    exact .cons r .nil
  | u :: ts, l, h => by
    cases h with
    | cons r' hl => exact .cons r' (RepL.snoc r hl)
theorem RepL.get {T : List KK} : ∀ {ts : List Tm} {l : List Nat} {i : Nat} {t : Tm}, RepL T l ts → ts[i]? = some t → ∃ n, l[i]? = some n ∧ Rep T n t
  | [], l, i, t, h, e => nomatch e
  | u :: ts, l, i, t, h, e => by
    cases h with
    | cons r hl =>
      cases i with
      | zero =>
        cases e
        exact ⟨_, rfl, r⟩
      | succ i =>
        obtain ⟨n, e', r'⟩ := RepL.get (i := i) (t := t) hl (by simpa using e)
        exact ⟨n, by simpa using e', r'⟩
theorem RepL.getL {T : List KK} : ∀ {ts : List Tm} {l : List Nat} {i n : Nat}, RepL T l ts → l[i]? = some n → ∃ t, ts[i]? = some t ∧ Rep T n t
  | [], l, i, n, h, e => by
    cases h
    cases e
  | u :: ts, l, i, n, h, e => by
    cases h with
    | cons r hl =>
      cases i with
      | zero =>
        cases e
        exact ⟨_, rfl, r⟩
      | succ i =>
        obtain ⟨t, e', r'⟩ := RepL.getL (i := i) (n := n) hl (by simpa using e)
        exact ⟨t, by simpa using e', r'⟩
/-- the place of a number is that of its version -/
theorem RepL.idx {T : List KK} (nd : T.Nodup) {n : Nat} {t : Tm} (r : Rep T n t) : ∀ {ts : List Tm} {l : List Nat}, RepL T l ts → l.idxOf n = ts.idxOf t
  | [], l, h => by
    cases h
    rfl
  | u :: ts, l, h => by
    cases h with
    | cons r' hl =>
      rename_i m l'
      by_cases e : u = t
      · subst e
        rw [Rep.inj nd u _ _ r' r, List.idxOf_cons_self, List.idxOf_cons_self]
      · have e2 : ¬ m = n := fun q => e (by
          subst q
          exact Rep.fn _ _ _ r' r)
        rw [List.idxOf_cons, List.idxOf_cons, beq_eq_false_iff_ne.mpr e, beq_eq_false_iff_ne.mpr e2, RepL.idx nd r hl]
def falN (l : List Nat) : List Nat := l.map fun n => l.idxOf n
theorem falN_eq {T : List KK} (nd : T.Nodup) {l : List Nat} {h : List Tm} (r : RepL T l h) : falN l = fal h := by
  unfold falN fal
  apply List.ext_getElem?
  intro i
  rw [List.getElem?_map, List.getElem?_map]
  cases e : l[i]? with
  | none =>
    have : h[i]? = none := by
      rw [List.getElem?_eq_none_iff, ← r.len]
      exact List.getElem?_eq_none_iff.mp e
    rw [this]
    rfl
  | some n =>
    obtain ⟨t, et, rt⟩ := r.getL e
    rw [et]
    show some (l.idxOf n) = some (h.idxOf t)
    rw [RepL.idx nd rt r]
theorem repL_map {T : List KK} {f : Str → Nat} {g : Str → Tm} : ∀ {xs : List Str}, (∀ x ∈ xs, Rep T (f x) (g x)) → RepL T (xs.map f) (xs.map g)
  | [], _ => .nil
  | x :: xs, h => .cons (h x (List.mem_cons_self ..)) (repL_map fun y m => h y (List.mem_cons_of_mem _ m))
theorem rep_last {T : List KK} {l : List Nat} {h : List Tm} (r : RepL T l h) (n : h ≠ []) : Rep T (lastN l) (lastT h) := by
  have hl := r.len
  have h0 : 0 < h.length := List.length_pos_iff.mpr n
  have e1 : h[h.length - 1]? = some (lastT h) := last_get (by omega)
  obtain ⟨m, em, rm⟩ := r.get e1
  have e2 : lastN l = m := by
    unfold lastN
    rw [List.getLast?_eq_getElem?, hl, em]
    rfl
  rw [e2]
  exact rm
theorem rep_beg {T : List KK} (c : Str) : Rep (numL T (c, none)) ((numL T (c, none)).idxOf (c, none)) (.beg c) := .beg (numL_at ..)
theorem rep_ren {T : List KK} {c : Str} {l : List Nat} {rd : List Tm} (r : RepL T l rd) : Rep (numL T (c, some l)) ((numL T (c, some l)).idxOf (c, some l)) (.ren c rd) := .ren (numL_at ..) (r.ext (TExt.num _ _))
theorem upd_self {H : Hp} {a : Addr} {o : HO} (e : H a = some o) : upd H a o = H := by
  funext b
  by_cases h : b = a
  · rw [h, upd_same, e]
  · rw [upd_ne h]
theorem KdAt.congr {B H : Hp} {D : Addr} {cs : List Str} {A : Str → Addr} {F G : Str → List Nat} (h : KdAt B H D cs A F) (e : ∀ z ∈ cs, F z = G z) : KdAt B H D cs A G := ⟨h.d, fun z m => by rw [← e z m]; exact h.l z m, h.inj, h.nD, h.nA⟩
/-- a thing of another kind is written -/
theorem KdAt.overE {B H : Hp} {D : Addr} {cs : List Str} {A : Str → Addr} {F : Str → List Nat} (h : KdAt B H D cs A F) {b : Addr} {o o' : HO} (e : H b = some o) (n1 : ∀ k, o ≠ .dK k) (n2 : ∀ l, o ≠ .lst l) : KdAt B (upd H b o') D cs A F :=
  h.over (fun z => by
    rw [z, h.d] at e
    exact n1 _ (Option.some.inj e).symm) fun z m q => by
    have := h.l z m
    rw [q, e] at this
    exact n2 _ (Option.some.inj this)
theorem tb_nd {P : PySem.Program} {w : World} {a : Addr} {L : List (KK × Addr)} : ∀ k, TbO P w a L ≠ .dK k := fun ys z => by
  unfold TbO at z
  cases z
theorem tb_nl {P : PySem.Program} {w : World} {a : Addr} {L : List (KK × Addr)} : ∀ k, TbO P w a L ≠ .lst k := fun ys z => by
  unfold TbO at z
  cases z
theorem RdAt.overO {H : Hp} {D b : Addr} {R : List Rn} {o o' : HO} (h : RdAt H D R) (n : b ≠ D) (e : H b = some o) (nt : ∀ ys, o ≠ .tup ys) : RdAt (upd H b o') D R := by
  obtain ⟨vl, eD, hv⟩ := h
  exact ⟨vl, by rw [upd_ne n.symm]; exact eD, rnTs_over hv e nt⟩
theorem RdAt.overE {H : Hp} {D b : Addr} {R : List Rn} {o o' : HO} (h : RdAt H D R) (e : H b = some o) (nt : ∀ ys, o ≠ .tup ys) (nl : ∀ ys, o ≠ .lst ys) : RdAt (upd H b o') D R := h.overO (fun z => by
  obtain ⟨vl, eD, _⟩ := h
  rw [z, eD] at e
  exact nl _ (Option.some.inj e).symm) e nt
/-- a new kind of a cell -/
def FrT (H : Hp) (T : List KK) (g : Str → Tm) (v : V) (z : Str) : Prop := ∃ q n, v = .ref q ∧ H q = some (.tup [.str z, nV n]) ∧ Rep T n (g z)
theorem FrT.same {H H' : Hp} {T : List KK} {g : Str → Tm} {v : V} {z : Str} (h : FrT H T g v z) (s : Same H H') : FrT H' T g v z := let ⟨q, n, e, a, r⟩ := h; ⟨q, n, e, s _ _ a, r⟩
theorem FrT.over {H : Hp} {T : List KK} {g : Str → Tm} {v : V} {z : Str} {D : Addr} {o o' : HO} (h : FrT H T g v z) (d : H D = some o) (no : ∀ ys, o ≠ .tup ys) : FrT (upd H D o') T g v z := let ⟨q, n, e, a, r⟩ := h; ⟨q, n, e, tup_over a d no, r⟩
theorem FrT.ext {H : Hp} {T T' : List KK} {g : Str → Tm} {v : V} {z : Str} (h : FrT H T g v z) (e : TExt T T') : FrT H T' g v z := let ⟨q, n, e', a, r⟩ := h; ⟨q, n, e', a, r.ext e⟩
theorem frs_imp {H H' : Hp} {T T' : List KK} {g : Str → Tm} {vl : List V} {zs : List Str} (h : Paired (FrT H T g) vl zs) (f : ∀ v z, FrT H T g v z → FrT H' T' g v z) : Paired (FrT H' T' g) vl zs := Paired.imp f h
theorem cells_step {rs : Rws} {l : List Str} {j : Nat} {r : Str × List Str} (h : rs[j]? = some r) : cellsIn (rs.take (j + 1)) l = cellsIn (rs.take j) l ++ if r.1 ∈ l then [r.1] else [] := by
  unfold cellsIn
  rw [take_at h, List.map_append, List.filter_append]
  congr 1
  show List.filter _ [r.1] = _
  by_cases m : r.1 ∈ l
  · rw [if_pos m, List.filter_cons, decide_eq_true m]
    rfl
  · rw [if_neg m, List.filter_cons, decide_eq_false m]
    rfl
/-! ### promises -/
def spNum (P : PySem.Program) (w : World) : Sp := fun vs H Q _ => ∃ (a b : Addr) (k : KK) (L : List (KK × Addr)), vs = [.ref a, .ref b] ∧ H a = some (TbO P w a L) ∧ MemT H L ∧ KyT H b k ∧ L.length < 1000000 ∧
  ∀ L', L'.map Prod.fst = numL (L.map Prod.fst) k → MemT H L' → Q (nV ((numL (L.map Prod.fst) k).idxOf k)) (upd H a (TbO P w a L'))
/-- what the law knows of all versions -/
structure HiOk (T : List KK) (rs : Rws) (ls : Lots) (F : Str → List Nat) : Prop where
  r : ∀ z ∈ rs.map Prod.fst, RepL T (F z) (histT rs ls z)
theorem HiOk.ext {T T' : List KK} {rs : Rws} {ls : Lots} {F : Str → List Nat} (h : HiOk T rs ls F) (e : TExt T T') : HiOk T' rs ls F := ⟨fun z m => (h.r z m).ext e⟩
def spHist (P : PySem.Program) (w : World) : Sp := fun vs H Q _ => ∃ (r q a : Addr) (rs : Rws) (ls : Lots) (L : List (KK × Addr)), vs = [.ref r, .ref q, .ref a] ∧ RowsAt (hide a H) r rs ∧ PathsAt (hide a H) q ls ∧ Good rs ∧ rs.length ≤ 100 ∧ ls.length ≤ 100 ∧
  (∀ l ∈ ls, ∀ z ∈ l, z ∈ rs.map Prod.fst) ∧ H a = some (TbO P w a L) ∧ MemT H L ∧ (L.map Prod.fst).Nodup ∧ L.length ≤ 900000 ∧
  ∀ (H' : Hp) (t D S : Addr) (A : Str → Addr) (F : Str → List Nat) (L' : List (KK × Addr)), Same (hide a H) (hide a H') → H' t = some (.tup [.ref D, .ref S]) → KdAt (hide a H) H' D (rs.map Prod.fst) A F → RdAt H' S (rdl rs ls) → H' a = some (TbO P w a L') → MemT H' L' →
    (L'.map Prod.fst).Nodup → TExt (L.map Prod.fst) (L'.map Prod.fst) → L'.length ≤ L.length + rs.length * (ls.length + 1) → HiOk (L'.map Prod.fst) rs ls F → Q (.ref t) H'
end WL
end L2
set_option Elab.async false
set_option linter.all false
set_option maxRecDepth 100000
set_option maxHeartbeats 4000000
namespace L2
namespace WL
open PySem PySem.Spec PyProof.Rows K1
/-! ### programs of the law's lots -/
theorem lotP_pm {as bs : List Str} (h : as.Perm bs) : lotOk as = lotOk bs := by
  unfold lotOk
  have e1 : decide (as ≠ []) = decide (bs ≠ []) := decide_eq_decide.mpr ⟨fun n e => n (by rw [e] at h; exact h.eq_nil), fun n e => n (by rw [e] at h; exact h.symm.eq_nil)⟩
  have e2 : as.all isNm = bs.all isNm := by
    rw [Bool.eq_iff_iff, List.all_eq_true, List.all_eq_true]
    exact ⟨fun g z m => g z (h.mem_iff.mpr m), fun g z m => g z (h.mem_iff.mp m)⟩
  have e3 : decide as.Nodup = decide bs.Nodup := decide_eq_decide.mpr h.nodup_iff
  rw [e1, e2, e3]
theorem lotP_of {l : List Str} (h1 : l ≠ []) (h2 : ∀ z ∈ l, isNm z = true) (h3 : l.Nodup) : lotOk l = true := by
  unfold lotOk
  rw [decide_eq_true h1, decide_eq_true h3, List.all_eq_true.mpr h2]
  rfl
theorem nmP {z : Str} (h : isNm z = true) : z.length ≤ sizeLine ∧ sOk [z] := ⟨isNm_len h, fun x m c mc => by
  rw [List.mem_singleton.mp m] at mc
  exact isNm_ok h c mc⟩
/-- lots that the law may hand in -/
structure LawLots (ls : Lots) : Prop where
  ln : ls.length ≤ 63
  ne : ∀ l ∈ ls, l ≠ []
  l9 : ∀ l ∈ ls, l.length ≤ 900
  nd : ∀ l ∈ ls, l.Nodup
  nm : ∀ l ∈ ls, ∀ z ∈ l, isNm z = true
theorem LawLots.is {K : PySem.W.Frag} {H : Hp} : ∀ {vl : List V} {ls : Lots}, Paired (PthV H) vl ls → (∀ l ∈ ls, l.length ≤ 900 ∧ ∀ z ∈ l, isNm z = true) → Paired (LotIs K H) vl (ls.map some)
  | _, _, .nil, _ => .nil
  | _, _, .cons r t, g => by
    obtain ⟨a, rfl, e⟩ := r
    have g0 := g _ (List.mem_cons_self ..)
    exact .cons (lot_strs ⟨a, rfl, .inl (SqL.of e)⟩ g0.1 fun z m => nmP (g0.2 z m)) (LawLots.is t fun l m => g l (List.mem_cons_of_mem _ m))
theorem LawLots.good {ls : Lots} (h : LawLots ls) : GoodP (ls.map sortS) := by
  refine ⟨fun l m => ?_, fun l m => ?_, by rw [List.length_map]; have := h.ln; omega, fun l m => ?_⟩ <;> obtain ⟨l', ml, rfl⟩ := List.mem_map.mp m
  · exact (lotP_pm (sortS_pm l')).trans (lotP_of (h.ne l' ml) (h.nm l' ml) (h.nd l' ml))
  · exact sortS_idem l'
  · rw [sortS_len]
    exact h.l9 l' ml
theorem prog_law {K : PySem.W.Frag} {H : Hp} {C CB x dx : Addr} {v : V} {vl : List V} {ls : Lots} {Q : VK} {E : XK} (nx : H x = none) (nd : H dx = none) (hs : Seq K H v vl) (hp : Paired (PthV H) vl ls) (g : LawLots ls)
    (q : ∀ H', Same H H' → IsPr H' C x (ls.map sortS) → Q .non H') : spInitP K C CB [.ref x, v] (upd (upd H dx (.own x)) x (.ins C dx [])) Q E := by
  have ln := Paired.length hp
  have e : (ls.map some).map asc = ls.map sortS := by
    rw [List.map_map]
    rfl
  have s := mk_up (C := C) nx nd
  refine ⟨x, dx, v, rfl, upd_same, .inr ⟨vl, ls.map some, hs.same s, by have := g.ln; omega, Paired.imp (fun _ _ r => r.same s) (LawLots.is hp fun l m => ⟨g.l9 l m, g.nm l m⟩), ⟨ls.map sortS, by rw [List.length_map]; have := g.ln; omega, fun l m => ?_⟩, .inl ⟨fun l m => ?_, fun H' s' w => q H' (s.trans s') (by rw [← e]; exact w)⟩⟩⟩
  · obtain ⟨l', ml, rfl⟩ := List.mem_map.mp m
    exact List.mem_map_of_mem ml
  · obtain ⟨l', ml, rfl⟩ := List.mem_map.mp m
    exact (lotP_pm (sortS_pm l')).trans (lotP_of (g.ne l' ml) (g.nm l' ml) (g.nd l' ml))
theorem sort_sub {ls : Lots} {cs : List Str} (h : ∀ l ∈ ls, ∀ z ∈ l, z ∈ cs) : ∀ l ∈ ls.map sortS, ∀ z ∈ l, z ∈ cs := fun l m z mz => by
  obtain ⟨l', ml, rfl⟩ := List.mem_map.mp m
  exact h l' ml z ((sortS_pm l').mem_iff.mp mz)
theorem lotH_sort (rs : Rws) (h : Str → List Tm) (l : List Str) : lotH rs h (sortS l) = lotH rs h l := by
  funext z
  unfold lotH
  by_cases m : z ∈ l
  · rw [if_pos m, if_pos ((sortS_pm l).mem_iff.mpr m)]
  · rw [if_neg m, if_neg fun q => m ((sortS_pm l).mem_iff.mp q)]
theorem histT_sort (rs : Rws) (ls : Lots) : histT rs (ls.map sortS) = histT rs ls := by
  unfold histT
  rw [List.foldl_map]
  congr 1
  funext h l
  exact lotH_sort rs h l
theorem lotT_sort (rs : Rws) (h : Str → Tm) (l : List Str) : lotT rs h (sortS l) = lotT rs h l := by
  funext z
  unfold lotT
  by_cases m : z ∈ l
  · rw [if_pos m, if_pos ((sortS_pm l).mem_iff.mpr m)]
  · rw [if_neg m, if_neg fun q => m ((sortS_pm l).mem_iff.mp q)]
theorem nowT_sort (rs : Rws) (ls : Lots) : nowT rs (ls.map sortS) = nowT rs ls := by
  unfold nowT runT
  rw [List.foldl_map]
  congr 1
  funext h l
  exact lotT_sort rs h l
theorem lawLots_of {names : List Str} {ls : Lots} {m : Nat} (h : LotsOk names ls m) (hm : m ≤ 63) (hn : ∀ z ∈ names, lawNm z) : LawLots ls := ⟨Nat.le_trans h.ln hm, h.ne, fun l m => Nat.le_trans (h.l12 l m) (by decide), h.nd, fun l m z mz => (hn z (h.sub l m z mz)).1⟩
theorem LawLots.app {as bs : Lots} (h : LawLots as) (g : LawLots bs) (l : as.length + bs.length ≤ 63) : LawLots (as ++ bs) :=
  ⟨by rw [List.length_append]; exact l, fun l m => (List.mem_append.mp m).elim (h.ne l) (g.ne l), fun l m => (List.mem_append.mp m).elim (h.l9 l) (g.l9 l), fun l m => (List.mem_append.mp m).elim (h.nd l) (g.nd l), fun l m => (List.mem_append.mp m).elim (h.nm l) (g.nm l)⟩
theorem lawLots_one {z : Str} (h : isNm z = true) : LawLots [[z]] := ⟨by show 1 ≤ 63; decide, fun l m => by rw [List.mem_singleton.mp m]; simp, fun l m => by rw [List.mem_singleton.mp m]; show 1 ≤ 900; decide, fun l m => by rw [List.mem_singleton.mp m]; simp, fun l m y my => by
  rw [List.mem_singleton.mp m] at my
  rw [List.mem_singleton.mp my]
  exact h⟩
theorem web_law {K : PySem.W.Frag} {H : Hp} {C q x dx : Addr} {rs : Rws} {Q : VK} {E : XK} (nx : H x = none) (nd : H dx = none) (hr : RowsAt H q rs) (g : Good rs) (k : ∀ H', Same H H' → IsWeb K H' C x rs → Q .non H') :
    spInit K C [.ref x, .ref q] (upd (upd H dx (.own x)) x (.ins C dx [])) Q E := by
  have s := mk_up (C := C) nx nd
  obtain ⟨vs, e, hv⟩ := hr
  exact ⟨x, dx, .ref q, rfl, upd_same, .inr ⟨vs, rs, ⟨q, rfl, .inl (SqL.of (s _ _ e))⟩, Paired.imp (fun _ _ r => (r.same s).g) hv, g, fun H' s' w => k H' ((s.trans s').trans hide_le) w⟩⟩
theorem rows_names {H : Hp} {vs : List V} {rs : Rws} (h : Paired (RowT H) vs rs) {j : Nat} {y : V} (e : vs[j]? = some y) : ∃ r t u, rs[j]? = some r ∧ y = .ref t ∧ H t = some (.tup [.str r.1, .ref u]) ∧ H u = some (.lst (r.2.map .str)) ∧ (rs.map Prod.fst).getD j Str.empty = r.1 := by
  obtain ⟨r, er, t, u, rfl, et, eu⟩ := Paired.getL h e
  exact ⟨r, t, u, er, rfl, et, eu, by rw [List.getD_eq_getElem?_getD, List.getElem?_map, er]; rfl⟩
theorem flat_nums (l : List Nat) : (l.map nV).all flatV = true := by
  rw [List.all_map, List.all_eq_true]
  exact fun _ _ => rfl
theorem eqV_num (a b : Nat) : eqV (nV a) (nV b) = decide (a = b) := by
  show ((a : Int) == (b : Int)) = _
  by_cases h : a = b
  · rw [h]
    simp
  · rw [decide_eq_false h, beq_eq_false_iff_ne]
    omega
theorem idx_first {l : List Nat} {n : Nat} (h : n ∈ l) : (l.map nV)[l.idxOf n]? = some (nV n) ∧ ∀ (m : Nat) z', m < l.idxOf n → (l.map nV)[m]? = some z' → eqV z' (nV n) = false := by
  have l1 := List.idxOf_lt_length_of_mem h
  refine ⟨by rw [List.getElem?_map, List.getElem?_eq_getElem l1, List.getElem_idxOf l1]; rfl, fun m z' hm e => ?_⟩
  rw [List.getElem?_map] at e
  obtain ⟨k, ek, rfl⟩ := Option.map_eq_some_iff.mp e
  rw [eqV_num]
  refine decide_eq_false fun q => ?_
  subst q
  have := List.not_of_lt_findIdx (p := (· == k)) hm
  obtain ⟨hm', e2⟩ := List.getElem?_eq_some_iff.mp ek
  rw [e2] at this
  simp at this
theorem t_seqI {c : TT} {t e u : TS} {D : Ends} {σ : St} {H : Hp} (h : c σ H fun b H1 => if b = true then t { D with nx := u D } σ H1 else e { D with nx := u D } σ H1) : tSeq (tIfS c t e) u D σ H := h
theorem t_oneI {c : TT} {t e : TS} {D : Ends} {σ : St} {H : Hp} (h : c σ H fun b H1 => if b = true then t D σ H1 else e D σ H1) : tIfS c t e D σ H := h
theorem at_m1 {l : List Nat} {a b : Nat} : atI ((l ++ [a] ++ [b]).map nV) (-1) = some (nV b) := by
  rw [List.map_append]
  exact atI_last ..
theorem at_m2 {l : List Nat} {a b : Nat} : atI ((l ++ [a] ++ [b]).map nV) (-2) = some (nV a) := by
  unfold atI ixN
  have e : ((l ++ [a] ++ [b]).map nV).length = l.length + 2 := by
    rw [List.length_map, List.length_append, List.length_append]
    rfl
  rw [e]
  have h2 : -((l.length + 2 : Nat) : Int) ≤ -2 := by omega
  rw [if_neg (by decide), if_pos h2]
  show ((l ++ [a] ++ [b]).map nV)[(-2 + ((l.length + 2 : Nat) : Int)).toNat]? = _
  rw [show (-2 + ((l.length + 2 : Nat) : Int)).toNat = l.length by omega, List.getElem?_map, List.append_assoc, List.getElem?_append_right (Nat.le_refl _), Nat.sub_self]
  rfl
/-! ### the end of a program once more -/
/-- a cell that is renewed twice: alike without a loop, unlike with one -/
theorem twice_same {rs : Rws} {ls : Lots} {z : Str} (h : z ∉ srcL rs z) : nowT rs (ls ++ [[z], [z]]) z = nowT rs (ls ++ [[z]]) z := by
  have e : ls ++ [[z], [z]] = (ls ++ [[z]]) ++ [[z]] := by rw [List.append_assoc]; rfl
  have m : z ∈ [z] := List.mem_singleton.mpr rfl
  rw [e, nowT_snoc, nowT_snoc]
  unfold lotT
  rw [if_pos m, if_pos m]
  congr 1
  refine List.map_congr_left fun y my => ?_
  rw [if_neg fun q => h (by rw [List.mem_singleton.mp q] at my; exact my)]
theorem ren_mem {c : Str} {rd : List Tm} {t : Tm} (h : t ∈ rd) : t ≠ .ren c rd := fun e => by
  have h1 := List.sizeOf_lt_of_mem h
  have h2 := congrArg sizeOf e
  simp only [Tm.ren.sizeOf_spec] at h2
  omega
theorem twice_new {rs : Rws} {ls : Lots} {z : Str} (h : z ∈ srcL rs z) : nowT rs (ls ++ [[z], [z]]) z ≠ nowT rs (ls ++ [[z]]) z := by
  have e : ls ++ [[z], [z]] = (ls ++ [[z]]) ++ [[z]] := by rw [List.append_assoc]; rfl
  have m : z ∈ [z] := List.mem_singleton.mpr rfl
  have e2 : nowT rs (ls ++ [[z], [z]]) z = .ren z ((srcL rs z).map (nowT rs (ls ++ [[z]]))) := by
    rw [e, nowT_snoc]
    exact if_pos m
  rw [e2]
  exact fun q => ren_mem (List.mem_map.mpr ⟨z, h, rfl⟩) q.symm
theorem hist_twice (rs : Rws) (ls : Lots) (z : Str) : histT rs (ls ++ [[z], [z]]) z = histT rs ls z ++ [nowT rs (ls ++ [[z]]) z] ++ [nowT rs (ls ++ [[z], [z]]) z] := by
  have e : ls ++ [[z], [z]] = (ls ++ [[z]]) ++ [[z]] := by rw [List.append_assoc]; rfl
  have m : z ∈ [z] := List.mem_singleton.mpr rfl
  rw [e, histT_snoc, if_pos m, histT_snoc, if_pos m]
theorem twice_fal (rs : Rws) (ls : Lots) (z : Str) : ∃ l a b, fal (histT rs (ls ++ [[z], [z]]) z) = l ++ [a] ++ [b] ∧ (z ∉ srcL rs z → a = b) ∧ (z ∈ srcL rs z → b = l.length + 1) := by
  rw [hist_twice, fal_snoc, fal_snoc]
  refine ⟨_, _, _, rfl, fun h => ?_, fun h => ?_⟩
  · rw [twice_same h, if_pos (List.mem_append_right _ (List.mem_singleton.mpr rfl))]
    by_cases m : nowT rs (ls ++ [[z]]) z ∈ histT rs ls z
    · rw [if_pos m, idx_app m]
    · rw [if_neg m, idx_new m]
  · have e : ls ++ [[z], [z]] = (ls ++ [[z]]) ++ [[z]] := by rw [List.append_assoc]; rfl
    have e2 : histT rs (ls ++ [[z]]) z = histT rs ls z ++ [nowT rs (ls ++ [[z]]) z] := by
      rw [histT_snoc]
      exact if_pos (List.mem_singleton.mpr rfl)
    have n := fresh_now rs (ls ++ [[z]]) [z] z (by rw [← e]; exact twice_new h)
    rw [← e, e2] at n
    rw [if_neg n, List.length_append, fal_len]
    rfl
theorem sorted_eq {l : List Nat} (h : l.Pairwise (· ≤ ·)) {ns : List Int} (p : ns.Perm (l.map fun n : Nat => (n : Int))) (s : ns.Pairwise (· ≤ ·)) : ns = l.map fun n : Nat => (n : Int) :=
  p.eq_of_pairwise (fun a b _ _ h1 h2 => Int.le_antisymm h1 h2) s (List.pairwise_map.mpr (h.imp fun h => Int.ofNat_le.mpr h))
end WL
end L2
set_option Elab.async false
set_option linter.all false
set_option maxRecDepth 100000
set_option maxHeartbeats 4000000
/-! promises of lotmarks.texts -/
namespace L2
namespace WL
open PySem PySem.Spec PyProof.Rows K1 TL TX
/-- [f(x) for x in an object with cells]: the i-th item stands in Rl i to what is told for it -/
theorem lc_own_rel {K : PySem.W.Frag} {C c : Addr} {fld : Str} {xs : List V} {g : TG} {te tl : TE} {vs : List Nat} {σ : St} {H : Hp} {Q : VK} (hq : SqT K H c xs) (hp : ∃ p dx fs, H p = some (.ins C dx fs) ∧ fs.lookup fld = some (.ref c) ∧ ∀ R' : VK, R' (.ref p) H → tl σ H R') (hn : xs.length ≤ 1000) (Rl : Nat → V → Hp → Prop)
    (mono : ∀ (i : Nat) y H1 H2, Rl i y H1 → Same H1 H2 → Rl i y H2)
    (hs : ∀ i x H' D zs (Q' : VK), xs[i]? = some x → Same H H' → H D = none → H' D = some (.lst zs) → (∀ y H'', Same H' H'' → Rl i y (hide D H'') → Q' y H'') → g x (wipe σ vs) H' fun σ2 H2 => wipe σ2 vs = wipe σ vs ∧ te σ2 H2 Q')
    (hd : ∀ D H' ys, Same H H' → H D = none → H' D = some (.lst ys) → ys.length = xs.length → (∀ (i : Nat) y, ys[i]? = some y → Rl i y (hide D H')) → Q (.ref D) H') : tLc (iOwn K C fld tl) g tYes te vs σ H Q := by
  obtain ⟨a, dx, fs, ea, ef, ht⟩ := hp
  refine ht _ ⟨a, dx, fs, c, xs, rfl, ea, ef, hq, ?_⟩
  intro D nD
  refine lc_it (walk_tup (xs := xs)) (fun i H' => Same H H' ∧ ∃ ys, H' D = some (.lst ys) ∧ ys.length = i ∧ ∀ (j : Nat) y, ys[j]? = some y → Rl j y (hide D H')) ⟨same_upd nD, [], upd_same, rfl, fun j y h => by cases h⟩ (fun i H' _ p => SqT.same hq p.1) (fun i x H' H'' hi p y => ?_) (fun H' p => ?_)
  · obtain ⟨rfl, hx⟩ := y
    obtain ⟨s1, ys, eD, ly, hy⟩ := p
    refine hs i x _ D ys _ hx s1 nD eD fun y H2 s2 ry => ?_
    refine ⟨ys, s2 _ _ eD, ?_, ?_, ys ++ [y], upd_same, ?_, fun j z hz => ?_⟩
    · rw [sizeLine_eq]
      omega
    · exact fun b u e => by
        rw [upd_ne (ne_of_none e nD)]
        exact s2 _ _ (s1 _ _ e)
    · rw [List.length_append, ly]
      rfl
    · rw [hide_updp]
      rcases getD_snoc ly hz with ⟨h, _⟩ | ⟨rfl, rfl⟩
      · exact mono _ _ _ _ (hy j z h) (hide_same s2)
      · exact ry
  · obtain ⟨s1, ys, eD, ly, hy⟩ := p
    exact hd D H' ys s1 nD eD ly hy
theorem good_src {rs : Rws} (g : Good rs) : ∀ r ∈ rs, ∀ z ∈ r.2, isNm z = true := fun r mr z mz => by
  obtain ⟨r', mr', rfl⟩ := List.mem_map.mp ((g.sr r mr).2.2 z mz)
  exact g.nm r' mr'
/-- a written thing: the text of a web or of a program -/
def spWr (K : PySem.W.Frag) (CW CP : Addr) : Sp := fun vs H Q _ =>
  (∃ p rs, vs = [.ref p] ∧ IsWeb K H CW p rs ∧ Good rs ∧ rs.length ≤ 62 ∧ (∀ r ∈ rs, r.2.length ≤ 900) ∧ ∀ H', Same H H' → Q (.str (txt ([WEB] :: wRows rs))) H') ∨
  (∃ p ls, vs = [.ref p] ∧ IsPr H CP p ls ∧ GoodP ls ∧ ls.length ≤ 62 ∧ (∀ l ∈ ls, l.length ≤ 900) ∧ ∀ H', Same H H' → Q (.str (txt ([PRG] :: ls))) H')
def spFwl (K : PySem.W.Frag) : Sp := fun vs H Q _ => ∃ a ls, vs = [.ref a] ∧ SqL K H a (ls.map .str) ∧ ls.length ≤ 400 ∧ (∀ l ∈ ls, l.length ≤ 800 ∧ sOk [l]) ∧ ∀ H', Same H H' → Q (optV ((badLine ls).map (· + 1))) H'
/-- rows of words, as lists -/
def RowsL (K : PySem.W.Frag) (H : Hp) (a : Addr) (rows : List (List Str)) : Prop := ∃ vs, SqL K H a vs ∧ Paired (PthV H) vs rows
def spWof (K : PySem.W.Frag) (CW CB : Addr) : Sp := fun vs H Q E => ∃ a rows, vs = [.ref a] ∧ RowsL K H a rows ∧ rows.length ≤ 400 ∧ (∀ r ∈ rows, r ≠ [] ∧ r.length ≤ 900) ∧
  ((∃ i, unkRow rows = some i ∧ Rz H E CB "line" (.int ((i + 2 : Nat) : Int))) ∨ (unkRow rows = none ∧ Good (rows.map rowOf) ∧ ∀ H' q, Same H H' → IsWeb K H' CW q (rows.map rowOf) → Q (.ref q) H'))
/-- a text read: what line is wrong, or the thing -/
def spRead (K : PySem.W.Frag) (CW CP CB : Addr) : Sp := fun vs H Q E => ∃ z ls rest, vs = [.str z] ∧ Txt.split z "\n" = ls ++ [rest] ∧ z.length ≤ 800 ∧ ls.length ≤ 62 ∧ sOk [z] ∧
  ((∃ n, rdB ls rest = some n ∧ Rz H E CB "line" (.int ((n : Nat) : Int))) ∨
   (rdB ls rest = none ∧ ls.getD 0 "" = WEB ∧ ∀ H' q, Same H H' → IsWeb K H' CW q ((ls.tail.map wds).map rowOf) → Good ((ls.tail.map wds).map rowOf) → Q (.ref q) H') ∨
   (rdB ls rest = none ∧ ls.getD 0 "" ≠ WEB ∧ ∀ H' q, Same H H' → IsPr H' CP q (ls.tail.map wds) → GoodP (ls.tail.map wds) → Q (.ref q) H'))
/-- text of lines told as lists of words -/
def spTxL (K : PySem.W.Frag) : Sp := fun vs H Q _ => ∃ a rows, vs = [.ref a] ∧ RowsL K H a rows ∧ rows.length ≤ 60 ∧ (∀ r ∈ rows, r.length ≤ 60 ∧ ∀ z ∈ r, z.length ≤ 8) ∧ ∀ H', Same H H' → Q (.str (txt rows)) H'
theorem RowsL.same {K : PySem.W.Frag} {H H' : Hp} {a : Addr} {rows : List (List Str)} (h : RowsL K H a rows) (s : Same H H') : RowsL K H' a rows := by
  obtain ⟨vs, e, p⟩ := h
  exact ⟨vs, s.seq e, Paired.imp (fun _ _ ⟨a, e, h⟩ => ⟨a, e, s _ _ h⟩) p⟩
theorem rows_size {rows : List (List Str)} {n b c : Nat} (hn : rows.length ≤ n) (h : ∀ r ∈ rows, r.length ≤ c ∧ ∀ z ∈ r, z.length ≤ b) : ((rows.map ln).map (·.length)).sum ≤ n * (c * (b + 1) + 1) := by
  refine Nat.le_trans (sum_le (b := c * (b + 1) + 1) fun x m => ?_) ?_
  · obtain ⟨r, mr, rfl⟩ := List.mem_map.mp m
    exact Nat.le_trans (ln_len (h r mr).2) (Nat.add_le_add_right (Nat.mul_le_mul_right _ (h r mr).1) _)
  · rw [List.length_map]
    exact Nat.mul_le_mul_right _ hn
theorem row_size {r : List Str} {n b : Nat} (hn : r.length ≤ n) (h : ∀ z ∈ r, z.length ≤ b) : (r.map (·.length)).sum ≤ n * b := Nat.le_trans (sum_le h) (Nat.mul_le_mul_right _ hn)
end WL
end L2
namespace L2
namespace WL
open PySem PySem.Spec PyProof.Rows K1 TL TX
/-- lc_rel over a list that is made for the walk -/
theorem lc_relS {K : PySem.W.Frag} {xs : List V} {g : TG} {te tl : TE} {vs : List Nat} {σ : St} {H : Hp} {Q : VK} (he : ∀ R : VK, (∀ H' a, Same H H' → H' a = some (.lst xs) → R (.ref a) H') → tl σ H R) (hn : xs.length ≤ 1000) (Rl : Nat → V → Hp → Prop)
    (mono : ∀ (i : Nat) y H1 H2, Rl i y H1 → Same H1 H2 → Rl i y H2)
    (hs : ∀ i x H' D zs (Q' : VK), xs[i]? = some x → Same H H' → H' D = some (.lst zs) → (∀ y H'', Same H' H'' → Rl i y (hide D H'') → Q' y H'') → g x (wipe σ vs) H' fun σ2 H2 => wipe σ2 vs = wipe σ vs ∧ te σ2 H2 Q')
    (hd : ∀ D H' ys, Same H H' → H' D = some (.lst ys) → ys.length = xs.length → (∀ (i : Nat) y, ys[i]? = some y → Rl i y (hide D H')) → Q (.ref D) H') : tLc (iSeq K tl) g tYes te vs σ H Q := by
  refine he _ fun H1 a s1 ea => ⟨a, xs, rfl, .inl ⟨SqL.of ea, fun D nD => ?_⟩⟩
  refine lc_it (walk_list (xs := xs)) (fun i H' => Same H1 H' ∧ ∃ ys, H' D = some (.lst ys) ∧ ys.length = i ∧ ∀ (j : Nat) y, ys[j]? = some y → Rl j y (hide D H')) ⟨same_upd nD, [], upd_same, rfl, fun j y h => by cases h⟩ (fun i H' _ p => SqL.of (p.1 _ _ ea)) (fun i x H' H'' hi p y => ?_) (fun H' p => ?_)
  · obtain ⟨rfl, hx⟩ := y
    obtain ⟨s2, ys, eD, ly, hy⟩ := p
    refine hs i x _ D ys _ hx (s1.trans s2) eD fun y H2 s3 ry => ?_
    refine ⟨ys, s3 _ _ eD, ?_, ?_, ys ++ [y], upd_same, ?_, fun j z hz => ?_⟩
    · rw [sizeLine_eq]
      omega
    · exact fun b u e => by
        rw [upd_ne (ne_of_none e nD)]
        exact s3 _ _ (s2 _ _ e)
    · rw [List.length_append, ly]
      rfl
    · rw [hide_updp]
      rcases getD_snoc ly hz with ⟨h, _⟩ | ⟨rfl, rfl⟩
      · exact mono _ _ _ _ (hy j z h) (hide_same s3)
      · exact ry
  · obtain ⟨s2, ys, eD, ly, hy⟩ := p
    exact hd D H' ys (s1.trans s2) eD ly hy
end WL
end L2
set_option Elab.async false
set_option linter.all false
set_option maxRecDepth 100000
set_option maxHeartbeats 4000000
/-! good texts read -/
namespace L2
namespace WL
open PySem PySem.Spec PyProof.Rows K1 TL TX
theorem txt_ok {rows : List (List Str)} (h : ∀ r ∈ rows, ∀ z ∈ r, sOk [z]) : sOk [txt rows] := fun x mx c mc => by
  rw [List.mem_singleton.mp mx, txt_eq] at mc
  have mc : c ∈ tl (Txt.join ("" : Str) ((rows.map (Txt.join " ")).map (· ++ ("\n" : Str)))) := mc
  rw [join_eq, tl_join] at mc
  rcases joinL_mem mc with ⟨p, mp, hc⟩ | hc
  · obtain ⟨y, my, rfl⟩ := List.mem_map.mp mp
    obtain ⟨l, ml, rfl⟩ := List.mem_map.mp my
    obtain ⟨r, mr, rfl⟩ := List.mem_map.mp ml
    rw [tl_append, tl_nl, join_eq, tl_join, tl_sp] at hc
    rcases List.mem_append.mp hc with hc | hc
    · rcases joinL_mem hc with ⟨p, mp, hc⟩ | hc
      · obtain ⟨z, mz, rfl⟩ := List.mem_map.mp mp
        exact h r mr z mz z (List.mem_singleton.mpr rfl) c hc
      · rw [List.mem_singleton.mp hc]
        decide
    · rw [List.mem_singleton.mp hc]
      decide
  · rw [tl_emp] at hc
    cases hc
theorem nm_sok {z : Str} (h : isNm z = true) : sOk [z] := fun x m c mc => by
  rw [List.mem_singleton.mp m] at mc
  exact isNm_ok h c mc
theorem web_sok : sOk [WEB] := sOk_lit (by decide +kernel)
theorem prg_sok : sOk [PRG] := sOk_lit (by decide +kernel)
theorem wRow_nm {rs : Rws} (g : Good rs) : ∀ r ∈ wRows rs, ∀ z ∈ r, isNm z = true := fun r m z mz => by
  obtain ⟨p, mp, rfl⟩ := List.mem_map.mp m
  rcases List.mem_cons.mp mz with rfl | mz
  · exact g.nm p mp
  · exact good_src g p mp z mz
theorem wRow_rows {rs : Rws} {n : Nat} (g : Good rs) (h : ∀ r ∈ rs, r.2.length ≤ n) : ∀ r ∈ [WEB] :: wRows rs, r.length ≤ n + 1 ∧ ∀ z ∈ r, z.length ≤ 8 := fun r m => by
  rcases List.mem_cons.mp m with rfl | m
  · exact ⟨by show 1 ≤ n + 1; omega, fun z mz => by rw [List.mem_singleton.mp mz]; decide +kernel⟩
  · refine ⟨?_, fun z mz => isNm_len8 (wRow_nm g r m z mz)⟩
    obtain ⟨p, mp, rfl⟩ := List.mem_map.mp m
    rw [List.length_cons]
    have := h p mp
    omega
theorem lot_nm {ls : Lots} (g : GoodP ls) : ∀ l ∈ ls, ∀ z ∈ l, isNm z = true := fun l m z mz => by
  have := g.ok l m
  unfold lotOk at this
  rw [Bool.and_eq_true, Bool.and_eq_true] at this
  exact List.all_eq_true.mp this.2.1 z mz
theorem lot_rows {ls : Lots} {n : Nat} (g : GoodP ls) (hn : 1 ≤ n) (h : ∀ l ∈ ls, l.length ≤ n) : ∀ r ∈ [PRG] :: ls, r.length ≤ n ∧ ∀ z ∈ r, z.length ≤ 8 := fun r m => by
  rcases List.mem_cons.mp m with rfl | m
  · exact ⟨hn, fun z mz => by rw [List.mem_singleton.mp mz]; decide +kernel⟩
  · exact ⟨h r m, fun z mz => isNm_len8 (lot_nm g r m z mz)⟩
theorem web_nl {z : Str} (h : z ∈ [WEB]) : 10 ∉ tl z := by
  rw [List.mem_singleton.mp h]
  decide +kernel
theorem prg_nl {z : Str} (h : z ∈ [PRG]) : 10 ∉ tl z := by
  rw [List.mem_singleton.mp h]
  decide +kernel
theorem web_sp {z : Str} (h : z ∈ [WEB]) : 32 ∉ tl z := by
  rw [List.mem_singleton.mp h]
  decide +kernel
theorem prg_sp {z : Str} (h : z ∈ [PRG]) : 32 ∉ tl z := by
  rw [List.mem_singleton.mp h]
  decide +kernel
theorem split_web {rs : Rws} (g : Good rs) : Txt.split (txt ([WEB] :: wRows rs)) "\n" = (WEB :: (wRows rs).map (Txt.join " ")) ++ [("" : Str)] := by
  rw [split_txt fun r m z mz => ?_]
  · rfl
  · rcases List.mem_cons.mp m with rfl | m
    · exact web_nl mz
    · exact (nm_free (wRow_nm g r m z mz)).2
theorem split_prog {ls : Lots} (g : GoodP ls) : Txt.split (txt ([PRG] :: ls)) "\n" = (PRG :: ls.map (Txt.join " ")) ++ [("" : Str)] := by
  rw [split_txt fun r m z mz => ?_]
  · rfl
  · rcases List.mem_cons.mp m with rfl | m
    · exact prg_nl mz
    · exact (nm_free (lot_nm g r m z mz)).2
theorem read_web {K : PySem.W.Frag} {CW CP CB : Addr} {H : Hp} {Q : VK} {E : XK} {rs : Rws} (g : Good rs) (h8 : rs.length ≤ 8) (h5 : ∀ r ∈ rs, r.2.length ≤ 7) (q : ∀ H' p, Same H H' → IsWeb K H' CW p rs → Q (.ref p) H') : spRead K CW CP CB [.str (txt ([WEB] :: wRows rs))] H Q E := by
  obtain ⟨e1, e2, e3⟩ := web_good g (good_src g)
  have lw : (wRows rs).length = rs.length := by unfold wRows; rw [List.length_map]
  refine ⟨_, WEB :: (wRows rs).map (Txt.join " "), "", rfl, split_web g, ?_, ?_, txt_ok fun r m z mz => ?_, .inr (.inl ⟨e1, rfl, fun H' p s w _ => q H' p s ?_⟩)⟩
  · refine Nat.le_trans (txt_len (wRow_rows g h5)) ?_
    rw [List.length_cons, lw]
    have := Nat.mul_le_mul_right (((7 + 1) * (8 + 1)) + 1) (show rs.length + 1 ≤ 9 by omega)
    omega
  · rw [List.length_cons, List.length_map, lw]
    omega
  · rcases List.mem_cons.mp m with rfl | m
    · rw [List.mem_singleton.mp mz]
      exact web_sok
    · exact nm_sok (wRow_nm g r m z mz)
  · rw [List.tail_cons, e2, e3] at w
    exact w
theorem read_prog {K : PySem.W.Frag} {CW CP CB : Addr} {H : Hp} {Q : VK} {E : XK} {ls : Lots} (g : GoodP ls) (h8 : ls.length ≤ 8) (h5 : ∀ l ∈ ls, l.length ≤ 8) (q : ∀ H' p, Same H H' → IsPr H' CP p ls → Q (.ref p) H') : spRead K CW CP CB [.str (txt ([PRG] :: ls))] H Q E := by
  obtain ⟨e1, e2⟩ := prog_good g
  refine ⟨_, PRG :: ls.map (Txt.join " "), "", rfl, split_prog g, ?_, ?_, txt_ok fun r m z mz => ?_, .inr (.inr ⟨e1, prg_ne, fun H' p s w _ => q H' p s ?_⟩)⟩
  · refine Nat.le_trans (txt_len (lot_rows g (by decide) h5)) ?_
    rw [List.length_cons]
    have := Nat.mul_le_mul_right ((8 * (8 + 1)) + 1) (show ls.length + 1 ≤ 9 by omega)
    omega
  · rw [List.length_cons, List.length_map]
    omega
  · rcases List.mem_cons.mp m with rfl | m
    · rw [List.mem_singleton.mp mz]
      exact prg_sok
    · exact nm_sok (lot_nm g r m z mz)
  · rw [List.tail_cons, e2] at w
    exact w
theorem prog_txt_inj {a b : Lots} (ga : GoodP a) (gb : GoodP b) : decide (txt ([PRG] :: a) = txt ([PRG] :: b)) = decide (a = b) := by
  refine decide_eq_decide.mpr ⟨fun h => ?_, fun h => by rw [h]⟩
  have k : ∀ {l : Lots}, GoodP l → ∀ r ∈ [PRG] :: l, r ≠ [] ∧ ∀ z ∈ r, 32 ∉ tl z ∧ 10 ∉ tl z := fun {l} g r m => by
    rcases List.mem_cons.mp m with rfl | m
    · exact ⟨by simp, fun z mz => ⟨prg_sp mz, prg_nl mz⟩⟩
    · refine ⟨fun e => ?_, fun z mz => nm_free (lot_nm g r m z mz)⟩
      have := g.ok r m
      rw [e] at this
      cases this
  exact (List.cons.inj (txt_inj (k ga) (k gb) h)).2
theorem lots_short {names : List Str} {ls : Lots} {m n : Nat} (h : LotsOk names ls m) (hn : names.length ≤ n) : ∀ l ∈ ls, l.length ≤ n := fun l ml => Nat.le_trans (pig (h.nd l ml) (h.sub l ml)) hn
theorem sort_short {ls : Lots} {n : Nat} (h : ∀ l ∈ ls, l.length ≤ n) : ∀ l ∈ ls.map sortS, l.length ≤ n := fun l m => by
  obtain ⟨x, mx, rfl⟩ := List.mem_map.mp m
  rw [(sortS_pm x).length_eq]
  exact h x mx
end WL
end L2
set_option Elab.async false
set_option linter.all false
set_option maxRecDepth 100000
set_option maxHeartbeats 4000000
/-! texts of any kind: what k21's law asks -/
namespace L2
namespace WL
open PySem PySem.Spec PyProof.Rows K1 TL TX
abbrev AZ : Str := "abcdefghijklmnopqrstuvwxyz"
theorem az_list : AZ.cps.toList = (List.range 26).map (97 + ·) := by decide +kernel
theorem az_ok (c : Nat) : decide (c ∈ AZ.cps.toList) = okc c := by
  rw [az_list]
  unfold okc
  by_cases h : 97 ≤ c ∧ c ≤ 122
  · rw [decide_eq_true h.1, decide_eq_true h.2, decide_eq_true]
    · rfl
    · exact List.mem_map.mpr ⟨c - 97, List.mem_range.mpr (by omega), by omega⟩
  · rw [decide_eq_false]
    · by_cases h1 : 97 ≤ c
      · rw [decide_eq_true h1, decide_eq_false (by omega)]
        rfl
      · rw [decide_eq_false h1]
        rfl
    · intro m
      obtain ⟨i, mi, rfl⟩ := List.mem_map.mp m
      have := List.mem_range.mp mi
      omega
theorem nlS_all {ws : List Str} (h : ∀ j z, ws[j]? = some z → isNm z = true ∧ z ∉ ws.take j) : nlS ws = true := by
  unfold nlS
  rw [Bool.and_eq_true]
  refine ⟨List.all_eq_true.mpr fun z m => ?_, decide_eq_true (List.pairwise_iff_getElem.mpr fun i j hi hj hij e => ?_)⟩
  · obtain ⟨j, hj⟩ := List.getElem?_of_mem m
    exact (h j z hj).1
  · refine (h j _ (List.getElem?_eq_getElem hj)).2 ?_
    rw [← e]
    exact List.mem_iff_getElem?.mpr ⟨i, by rw [List.getElem?_take_of_lt hij, List.getElem?_eq_getElem hi]⟩
theorem nlS_bad {ws : List Str} {j : Nat} {z : Str} (e : ws[j]? = some z) (h : isNm z = false ∨ z ∈ ws.take j) : nlS ws = false := by
  cases hn : nlS ws with
  | false => rfl
  | true =>
    exfalso
    unfold nlS at hn
    rw [Bool.and_eq_true] at hn
    rcases h with h | h
    · rw [List.all_eq_true.mp hn.1 z (List.mem_of_getElem? e)] at h
      cases h
    · exact take_nin (of_decide_eq_true hn.2) e h
/-- [f(x) for x in a text] -/
theorem lc_strF {z : Str} {g : TG} {te tl : TE} {vs : List Nat} {σ : St} {H : Hp} {Q : VK} (he : ∀ R : VK, R (.str z) H → tl σ H R) (hn : z.length ≤ 1000) (f : Nat → V)
    (hs : ∀ i c H' (Q' : VK), z.cps.toList[i]? = some c → Same H H' → (∀ H'', Same H' H'' → Q' (f i) H'') → g (.str ⟨#[c]⟩) (wipe σ vs) H' fun σ2 H2 => wipe σ2 vs = wipe σ vs ∧ te σ2 H2 Q')
    (hd : ∀ D H', Same H H' → H' D = some (.lst ((List.range z.length).map f)) → Q (.ref D) H') : tLc (iStr tl) g tYes te vs σ H Q := by
  refine he _ ⟨z, rfl, fun D nD => ?_⟩
  refine lc_it (walk_str (z := z)) (fun i H' => Same H H' ∧ H' D = some (.lst ((List.range i).map f))) ⟨same_upd nD, upd_same⟩ (fun _ _ _ _ => trivial) (fun i x H' H'' hi p y => ?_) (fun H' p => hd D H' p.1 p.2)
  obtain ⟨rfl, c, hc, rfl⟩ := y
  have hi' : i < z.length := hi
  refine hs i c _ _ (by rw [Array.getElem?_toList]; exact hc) p.1 fun H2 s2 => ?_
  refine ⟨_, s2 _ _ p.2, ?_, ?_, ?_⟩
  · rw [List.length_map, List.length_range, sizeLine_eq]
    omega
  · exact fun b u e => by
      rw [upd_ne (ne_of_none e nD)]
      exact s2 _ _ (p.1 _ _ e)
  · rw [upd_same, List.range_succ, List.map_append, List.map_singleton]
theorem spl_count (s : Nat) : ∀ (l acc : List Nat), (spl [s] 0 acc l).length = l.count s + 1
  | [], acc => by rw [spl_nil]; rfl
  | c :: r, acc => by
    by_cases h : c = s
    · subst h
      have e : pre [c] (c :: r) = true := pre_self [c] r
      rw [spl_hit e, List.length_cons, List.count_cons_self]
      have := spl_count c r []
      exact congrArg (· + 1) this
    · rw [spl_miss (pre_of_head [] r h), spl_count s r _, List.count_cons_of_ne h]
def nls (z : Str) : Nat := (tl z).count 10
theorem split_count (z : Str) : (Txt.split z "\n").length = nls z + 1 := by
  have e := congrArg List.length (split_spl z "\n" (by rw [tl_nl]; simp) (kind_ok kind_nl))
  rw [List.length_map, tl_nl, spl_count] at e
  exact e
/-- a text that may be asked about -/
structure TOk (z : Str) : Prop where
  ln : z.length ≤ 700
  nl : nls z ≤ 60
  ok : sOk [z]
theorem split_last (z : Str) : ∃ ls rest, Txt.split z "\n" = ls ++ [rest] ∧ ls.length = nls z := by
  have e := split_count z
  obtain ⟨ls, rest, h⟩ : ∃ ls rest, Txt.split z "\n" = ls ++ [rest] := ⟨_, _, (List.dropLast_concat_getLast (split_ne tl_nl kind_nl z)).symm⟩
  refine ⟨ls, rest, h, ?_⟩
  rw [h, List.length_append, List.length_singleton] at e
  omega
theorem TOk.lines {z : Str} (h : TOk z) {ls : List Str} {rest : Str} (e : Txt.split z "\n" = ls ++ [rest]) : ls.length ≤ 60 ∧ ∀ l ∈ ls ++ [rest], l.length ≤ 700 ∧ sOk [l] := by
  refine ⟨?_, fun l m => ?_⟩
  · have := split_count z
    rw [e, List.length_append, List.length_singleton] at this
    have := h.nl
    omega
  · have mm : l ∈ Txt.split z "\n" := by rw [e]; exact m
    refine ⟨?_, fun x mx c mc => ?_⟩
    · have k := len_join_mem (y := "\n") mm
      rw [join_split tl_nl kind_nl] at k
      have := h.ln
      omega
    · rw [List.mem_singleton.mp mx] at mc
      exact h.ok z (List.mem_singleton.mpr rfl) c ((split_sub tl_nl kind_nl mm).1 c mc)
theorem rdB_pos {ls : List Str} {rest : Str} {n : Nat} (h : rdB ls rest = some n) : 1 ≤ n := by
  unfold rdB at h
  cases hb : badLine ls with
  | some i => rw [hb] at h; cases h; omega
  | none =>
    rw [hb] at h
    dsimp only at h
    by_cases hc : rest ≠ "" ∨ ls = [] ∨ ls = [WEB]
    · rw [if_pos hc] at h
      cases h
      omega
    · rw [if_neg hc] at h
      by_cases hw : ls.getD 0 "" = WEB
      · rw [if_pos hw] at h
        obtain ⟨i, _, rfl⟩ := Option.map_eq_some_iff.mp h
        omega
      · rw [if_neg hw] at h
        cases h
/-! promises of the law's helpers -/
def spAre (K : PySem.W.Frag) : Sp := fun vs H Q _ => ∃ a ws, vs = [.ref a] ∧ SqL K H a (ws.map .str) ∧ ws.length ≤ 900 ∧ (∀ z ∈ ws, z.length ≤ 900) ∧ ∀ H', Same H H' → Q (.bl (nlS ws)) H'
def spStands (K : PySem.W.Frag) : Sp := fun vs H Q _ => ∃ (a : Addr) (ls : List Str) (rest : Str) (i : Nat), vs = [.ref a, .int (i : Nat)] ∧ SqL K H a ((ls ++ [rest]).map .str) ∧ i < ls.length ∧ ls.length ≤ 60 ∧ (∀ l ∈ ls ++ [rest], l.length ≤ 700 ∧ sOk [l]) ∧ (1 ≤ i → lineOk ls 0 = true) ∧ ∀ H', Same H H' → Q (.bl (lineOk ls i)) H'
def spDue21 : Sp := fun vs H Q _ => ∃ z ls rest, vs = [.str z] ∧ TOk z ∧ Txt.split z "\n" = ls ++ [rest] ∧ ∀ H', Same H H' → Q (.int (((rdB ls rest).getD 0 : Nat) : Int)) H'
def spMet21 : Sp := fun vs H Q _ => ∃ z ls rest, vs = [.str z] ∧ TOk z ∧ Txt.split z "\n" = ls ++ [rest] ∧ (∀ n, rdB ls rest = some n → ∀ H', Same H H' → Q (.int (n : Nat)) H') ∧ (rdB ls rest = none → ∀ H', Same H H' → Q (.str z) H')
def spBent21 : Sp := fun vs H Q _ => ∃ (p : Addr) (z : Str) (n : Nat), vs = [.ref p, .str z] ∧ z.length ≤ 600 ∧ nls z ≤ 50 ∧ sOk [z] ∧ Pl H p n ∧ n ≤ 700000000 ∧ ∀ z' H', TOk z' → Same (hide p H) (hide p H') → Pl H' p (n + 10) → Q (.str z') H'
def spMix21 (K : PySem.W.Frag) : Sp := fun vs H Q _ => ∃ (p a : Addr) (ls : List Str) (n : Nat), vs = [.ref p, .ref a] ∧ SqL K (hide p H) a (ls.map .str) ∧ ls.length ≤ 20 ∧ Pl H p n ∧ n ≤ 700000000 ∧ ∀ (ys : List Str) H' D, (∀ y ∈ ys, y ∈ ls ∨ (y.length ≤ 9 ∧ 10 ∉ tl y ∧ sOk [y])) → ys.length ≤ ls.length + 1 → Same (hide p H) (hide p H') → hide p H D = none → hide p H' D = some (.lst (ys.map .str)) → Pl H' p (n + 10) → Q (.ref D) H'
end WL
end L2
set_option Elab.async false
set_option linter.all false
set_option maxRecDepth 100000
set_option maxHeartbeats 4000000
/-! x in a tuple of data -/
namespace L2
namespace WL
open PySem PySem.Spec PyProof.Rows K1 TL TX
def rInDT (K : PySem.W.Frag) : R2 := fun x y H Q => ∃ d ds, Dp K H x d ∧ Dp K H y (.tuple ds) ∧ SeqAt.shaped d = true ∧ SeqAt.shaped (.tuple ds) = true ∧ Q (.bl (ds.any fun z => PyData.eqv z d)) H
theorem op_inDT {X : Cx} (hu : X.A.units + 65 < cLine) : OpR X (compareOp .In) (rInDT X.K) := by
  intro pins s σ H x y v u Q I rx ry h
  obtain ⟨d, ds, hd, he, sd, se, q⟩ := h
  obtain ⟨as, r1⟩ := Dp.reads I d x v hd rx
  obtain ⟨bs, r2⟩ := Dp.reads I (.tuple ds) y u he ry
  exact SeqAt.in_tuple_reads r2 r1 (SeqAt.canLay_of_shaped se) (SeqAt.canLay_of_shaped sd) (room_in_shaped sd hu) ⟨.bl _, H, I, rfl, q⟩
theorem cut_in {ls : List Str} {rest : Str} (h : ls ≠ []) : cutV ((ls ++ [rest]).map V.str) (some 1) (some (-1)) = (ls.drop 1).map V.str := by
  unfold cutV
  have e1 : HT.sIx ((ls ++ [rest]).map V.str).length 0 (some (1 : Int)) = 1 := by
    have := HT.sIx_nat ((ls ++ [rest]).map V.str).length 0 1
    rw [List.length_map, List.length_append, List.length_singleton] at this ⊢
    rw [show (some (1 : Int)) = some ((1 : Nat) : Int) from rfl, this]
    omega
  have e2 : HT.sIx ((ls ++ [rest]).map V.str).length ((ls ++ [rest]).map V.str).length (some (-1 : Int)) = ls.length := by
    rw [List.length_map, List.length_append, List.length_singleton]
    unfold HT.sIx
    simp
    omega
  rw [e1, e2, ← List.map_drop, ← List.map_take]
  have e3 : ((ls ++ [rest]).drop 1).take (ls.length - 1) = ls.drop 1 := by
    have h1 : 1 ≤ ls.length := List.length_pos_iff.mpr h
    rw [List.drop_append_of_le_length h1, List.take_append_of_le_length (by rw [List.length_drop]; omega), List.take_of_length_le (by rw [List.length_drop]; omega)]
  exact congrArg _ e3
/-- the rows of a text: in which one a name is no head -/
theorem unk_drop {ls : List Str} (i : Nat) {l : Str} (e : ls[i]? = some l) : ((wds l).all fun z => decide (z ∈ (ls.map wds).map fun r => r.headD "")) = !((wds l).drop 1).any fun z => !decide (z ∈ ls.map hd0) := by
  have eh : (ls.map wds).map (fun r => r.headD "") = ls.map hd0 := by
    rw [List.map_map]
    rfl
  rw [eh, List.any_eq_not_all_not, Bool.not_not]
  have ml := List.mem_of_getElem? e
  cases ew : wds l with
  | nil => exact absurd ew (spS_ne l)
  | cons x y =>
    have hx : x ∈ ls.map hd0 := List.mem_map.mpr ⟨l, ml, by unfold hd0; rw [ew]; rfl⟩
    rw [List.all_cons, decide_eq_true hx, Bool.true_and]
    show y.all _ = y.all _
    congr 1
    funext z
    rw [Bool.not_not]
end WL
end L2
namespace L2
namespace WL
open PySem PySem.Spec PyProof.Rows K1 TL TX
/-- a line -/
structure LOk (y : Str) : Prop where
  ln : y.length ≤ 60
  nl : 10 ∉ tl y
  ok : sOk [y]
theorem count_join : ∀ {ps : List (List Nat)}, (∀ p ∈ ps, 10 ∉ p) → (joinL [10] ps).count 10 ≤ ps.length
  | [], _ => Nat.zero_le _
  | [p], h => by
    show p.count 10 ≤ 1
    rw [List.count_eq_zero.mpr (h p (List.mem_singleton.mpr rfl))]
    omega
  | p :: q :: r, h => by
    show (p ++ ([10] ++ joinL [10] (q :: r))).count 10 ≤ _
    have ih := count_join (ps := q :: r) fun x m => h x (List.mem_cons_of_mem _ m)
    rw [List.count_append, List.count_append, List.count_eq_zero.mpr (h p (List.mem_cons_self ..)), List.length_cons]
    have e : List.count 10 [10] = 1 := rfl
    rw [e]
    omega
/-- lines joined, with a line feed behind them -/
def jn (ls : List Str) : Str := Txt.join "\n" ls ++ ("\n" : Str)
theorem jn_ok {ls : List Str} (h : ∀ y ∈ ls, LOk y) (l6 : ls.length ≤ 6) : (Txt.join "\n" ls).length ≤ 366 ∧ (ls.map (·.length)).sum + ls.length * 1 ≤ 16777216 ∧ (jn ls).length ≤ 400 ∧ nls (jn ls) ≤ 7 ∧ sOk [jn ls] := by
  have h1 := join_len "\n" (ps := ls) (b := 60) fun y m => (h y m).ln
  have e1 : ("\n" : Str).length = 1 := rfl
  rw [e1] at h1
  have h2 : (Txt.join "\n" ls).length ≤ 366 := by omega
  refine ⟨h2, ?_, ?_, ?_, fun x mx c mc => ?_⟩
  · have := sum_le (f := fun y : Str => y.length) fun y m => (h y m).ln
    omega
  · unfold jn
    rw [str_len_app, e1]
    omega
  · unfold nls jn
    rw [tl_append, tl_nl, List.count_append, join_eq, tl_join, tl_nl]
    have := count_join (ps := ls.map tl) fun p m => by
      obtain ⟨y, my, rfl⟩ := List.mem_map.mp m
      exact (h y my).nl
    rw [List.length_map] at this
    have e : List.count 10 [10] = 1 := rfl
    rw [e]
    omega
  · rw [List.mem_singleton.mp mx] at mc
    unfold jn at mc
    have mc : c ∈ tl (Txt.join "\n" ls ++ ("\n" : Str)) := mc
    rw [tl_append, tl_nl, join_eq, tl_join, tl_nl] at mc
    rcases List.mem_append.mp mc with mc | mc
    · rcases joinL_mem mc with ⟨p, mp, hc⟩ | mc
      · obtain ⟨y, my, rfl⟩ := List.mem_map.mp mp
        exact (h y my).ok y (List.mem_singleton.mpr rfl) c hc
      · rw [List.mem_singleton.mp mc]
        decide
    · rw [List.mem_singleton.mp mc]
      decide
theorem TOk.of {z : Str} (h1 : z.length ≤ 700) (h2 : nls z ≤ 60) (h3 : sOk [z]) : TOk z := ⟨h1, h2, h3⟩
theorem cut_tok {z : Str} (h : TOk z) (lo hi : Option Int) : TOk (cutS z lo hi) := by
  have sub : (tl (cutS z lo hi)).Sublist (tl z) := by
    show (((tl z).drop _).take _).Sublist (tl z)
    exact (List.take_sublist ..).trans (List.drop_sublist ..)
  refine ⟨?_, ?_, fun x m c mc => ?_⟩
  · have := sub.length_le
    rw [← len_tl, ← len_tl] at this
    have := h.ln
    omega
  · have := sub.count_le 10
    have h2 := h.nl
    unfold nls at h2 ⊢
    omega
  · rw [List.mem_singleton.mp m] at mc
    exact h.ok z (List.mem_singleton.mpr rfl) c (sub.subset mc)
theorem lit_tok {z : Str} (h : (decide (z.length ≤ 700) && (decide (z.cps.toList.count 10 ≤ 60) && z.cps.toList.all fun c => decide (c < 1114112))) = true) : TOk z := by
  rw [Bool.and_eq_true, Bool.and_eq_true] at h
  refine ⟨of_decide_eq_true h.1, of_decide_eq_true h.2.1, fun x m c mc => ?_⟩
  rw [List.mem_singleton.mp m] at mc
  exact of_decide_eq_true (List.all_eq_true.mp h.2.2 c mc)
theorem row_lok {r : List Str} (h4 : r.length ≤ 4) (h : ∀ z ∈ r, isNm z = true) : LOk (Txt.join " " r) ∧ (r.map (·.length)).sum + r.length * 1 ≤ 16777216 := by
  have h8 : ∀ z ∈ r, z.length ≤ 8 := fun z m => isNm_len8 (h z m)
  have h1 := join_len " " h8
  have e1 : (" " : Str).length = 1 := rfl
  rw [e1] at h1
  refine ⟨⟨by omega, row_free fun z m => (nm_free (h z m)).2, fun x m c mc => ?_⟩, ?_⟩
  · rw [List.mem_singleton.mp m] at mc
    have mc : c ∈ tl (Txt.join " " r) := mc
    rw [join_eq, tl_join, tl_sp] at mc
    rcases joinL_mem mc with ⟨p, mp, hc⟩ | mc
    · obtain ⟨y, my, rfl⟩ := List.mem_map.mp mp
      exact nm_sok (h y my) y (List.mem_singleton.mpr rfl) c hc
    · rw [List.mem_singleton.mp mc]
      decide
  · have := sum_le (f := fun y : Str => y.length) h8
    omega
theorem lit_lok {z : Str} (h : (decide (z.length ≤ 60) && (decide (10 ∉ z.cps.toList) && z.cps.toList.all fun c => decide (c < 1114112))) = true) : LOk z := by
  rw [Bool.and_eq_true, Bool.and_eq_true] at h
  refine ⟨of_decide_eq_true h.1, of_decide_eq_true h.2.1, fun x m c mc => ?_⟩
  rw [List.mem_singleton.mp m] at mc
  exact of_decide_eq_true (List.all_eq_true.mp h.2.2 c mc)
end WL
end L2
namespace L2
namespace WL
open PySem PySem.Spec PyProof.Rows K1 TL TX
/-- [f(pool, ..) for turn in range(m)], the items texts -/
theorem lc_pool {p : Addr} {n m : Nat} {Pz : Str → Prop} {g : TG} {te : TE} {ta : TA} {vs : List Nat} {σ : St} {H : Hp} {Q : VK} (he : ∀ R : List V → Hp → Prop, R [.int (m : Nat)] H → ta σ H R) (hm : m ≤ 900) (hP : Pl H p n)
    (hs : ∀ j x H' (Q' : VK), j < m → Same (hide p H) (hide p H') → Pl H' p (n + 10 * j) → (∀ z H'', Pz z → Same (hide p H') (hide p H'') → Pl H'' p (n + 10 * (j + 1)) → Q' (.str z) H'') → g x (wipe σ vs) H' fun σ2 H2 => wipe σ2 vs = wipe σ vs ∧ te σ2 H2 Q')
    (hd : ∀ D H' (zs : List Str), H D = none → Same (hide p H) (hide p H') → Pl H' p (n + 10 * m) → hide p H' D = some (.lst (zs.map .str)) → (∀ z ∈ zs, Pz z) → zs.length = m → Q (.ref D) H') : tLc (iRng1 ta) g tYes te vs σ H Q := by
  refine he _ ⟨(m : Nat), rfl, by omega, by omega, fun D nD => ?_⟩
  rw [Int.toNat_natCast]
  obtain ⟨dp, sD, eD⟩ := hide_new (o := HO.lst []) hP.ne nD
  refine lc_it walk_range (fun j H' => ∃ zs : List Str, zs.length = j ∧ (∀ z ∈ zs, Pz z) ∧ Same (hide p H) (hide p H') ∧ Pl H' p (n + 10 * j) ∧ hide p H' D = some (.lst (zs.map .str))) ⟨[], rfl, (fun z m => nomatch m), sD, hP.new nD, eD⟩ (fun _ _ _ _ => trivial) ?_ ?_
  · rintro j x H1 H1' hj ⟨zs, hl, hz, s1, P1, e1⟩ ⟨rfl, rfl⟩
    refine hs j _ _ _ hj s1 P1 fun z H2 pz s2 P2 => ?_
    have e2 := s2 _ _ e1
    refine ⟨_, hide_le _ _ e2, ?_, zs ++ [z], ?_, ?_, ?_, ?_, ?_⟩
    · rw [List.length_map, sizeLine_eq]
      omega
    · rw [List.length_append, hl]
      rfl
    · intro y my
      rcases List.mem_append.mp my with my | my
      · exact hz y my
      · rw [List.mem_singleton.mp my]
        exact pz
    · rw [hide_upd dp]
      exact same_over (hide_none nD) (s1.trans s2)
    · exact P2.upd dp
    · rw [hide_upd dp, upd_same, List.map_append]
      rfl
  · rintro H1 ⟨zs, hl, hz, s1, P1, e1⟩
    exact hd D H1 zs nD s1 P1 e1 hz hl
end WL
end L2
set_option Elab.async false
set_option linter.all false
set_option maxRecDepth 100000
set_option maxHeartbeats 4000000
namespace L2
namespace WL
open PySem PySem.Spec PyProof.Rows K1
/-! ### xs == [] -/
def rEqNil (K : PySem.W.Frag) : R2 := fun x y H Q => ∃ a b xs, x = .ref a ∧ y = .ref b ∧ SqL K H a xs ∧ SqL K H b [] ∧ Q (.bl xs.isEmpty) H
theorem op_eqNil {X : Cx} (hu : X.A.units + 64 < cLine) : OpR X (compareOp .Eq) (rEqNil X.K) := by
  intro pins s σ H x y v u Q I rx ry h
  obtain ⟨a, b, xs, rfl, rfl, ha, hb, q⟩ := h
  cases (show v = Value.ref a from rx)
  cases (show u = Value.ref b from ry)
  obtain ⟨us, r1, p1, _⟩ := I.list ha
  obtain ⟨ws, r2, p2, _⟩ := I.list hb
  cases r2
  cases r1 with
  | nil => exact SeqAt.RcAt.lists (e := fun _ => true) p1.isList p2.isList rfl (by omega) (fun j h1 h2 => absurd h1 (Nat.not_lt_zero j)) X.prog X.w _ _ ⟨.bl true, H, I, rfl, q⟩
  | cons h t => exact SeqAt.RcAt.lists_lengths p1.isList p2.isList (by simp) (by omega) X.prog X.w _ _ ⟨.bl false, H, I, rfl, q⟩
def rLstOf (K : PySem.W.Frag) : List V → Hp → VK → Prop := fun xs H Q => ∃ p ys, xs = [.ref p] ∧ (SqL K H p ys ∨ SqT K H p ys) ∧ ∀ l, H l = none → Q (.ref l) (upd H l (.lst ys))
/-! ### cuts -/
theorem cut_all {xs : List V} {j : Nat} : cutV xs none (some (j : Int)) = xs.take j := by
  by_cases h : j ≤ xs.length
  · exact cut_to h
  · unfold cutV
    rw [HT.sIx_nat]
    show (xs.drop 0).take (min j xs.length - 0) = _
    rw [List.drop_zero, Nat.sub_zero, Nat.min_eq_right (by omega), List.take_of_length_le (Nat.le_refl _), List.take_of_length_le (by omega)]
theorem cut_off {xs : List V} {i : Nat} : cutV xs (some (i : Int)) none = xs.drop i := by
  by_cases h : i ≤ xs.length
  · exact cut_from h
  · unfold cutV
    rw [HT.sIx_nat, Nat.min_eq_right (by omega), List.drop_of_length_le (Nat.le_refl _), List.drop_of_length_le (by omega), List.take_nil]
theorem cut_mid {xs : List V} {i j : Nat} : cutV xs (some (i : Int)) (some (j : Int)) = (xs.drop i).take (j - i) := by
  unfold cutV
  rw [HT.sIx_nat, HT.sIx_nat]
  by_cases h : i ≤ xs.length
  · rw [Nat.min_eq_left h]
    by_cases g : j ≤ xs.length
    · rw [Nat.min_eq_left g]
    · rw [Nat.min_eq_right (by omega), List.take_of_length_le (by rw [List.length_drop]; omega), List.take_of_length_le (by rw [List.length_drop]; omega)]
  · rw [show min i xs.length = xs.length from Nat.min_eq_right (by omega), List.drop_of_length_le (Nat.le_refl _), List.drop_of_length_le (by omega), List.take_nil, List.take_nil]
/-! ### lots turned -/
/-- lots, some of them empty -/
structure LW (names : List Str) (ls : Lots) (m : Nat) : Prop where
  ln : ls.length ≤ m
  nd : ∀ l ∈ ls, l.Nodup
  sub : ∀ l ∈ ls, ∀ z ∈ l, z ∈ names
theorem LotsOk.lw {names : List Str} {ls : Lots} {m : Nat} (h : LotsOk names ls m) : LW names ls m := ⟨h.ln, h.nd, h.sub⟩
theorem LW.of {names : List Str} {ls ms : Lots} {m k : Nat} (h : LW names ls m) (hk : ms.length ≤ k) (g : ∀ l ∈ ms, l ∈ ls ∨ (l.Nodup ∧ ∀ z ∈ l, z ∈ names)) : LW names ms k :=
  ⟨hk, fun l ml => (g l ml).elim (h.nd l) And.left, fun l ml => (g l ml).elim (h.sub l) And.right⟩
theorem LW.ok {names : List Str} {ls : Lots} {m : Nat} (h : LW names ls m) (n12 : names.length ≤ 12) : LotsOk names (ls.filter fun l => !l.isEmpty) m := by
  have sub : ∀ l ∈ ls.filter fun l => !l.isEmpty, l ∈ ls := fun l ml => (List.mem_filter.mp ml).1
  refine ⟨Nat.le_trans (List.length_filter_le ..) h.ln, fun l ml e => ?_, fun l ml => ?_, fun l ml => h.nd l (sub l ml), fun l ml => h.sub l (sub l ml)⟩
  · have := (List.mem_filter.mp ml).2
    rw [e] at this
    cases this
  · exact Nat.le_trans (nd_len l names (h.nd l (sub l ml)) (h.sub l (sub l ml))) n12
theorem LotsOk.le {names : List Str} {ls : Lots} {m k : Nat} (h : LotsOk names ls m) (g : m ≤ k) : LotsOk names ls k := ⟨Nat.le_trans h.ln g, h.ne, h.l12, h.nd, h.sub⟩
def spTurned : Sp := fun vs H Q _ => ∃ (p r q : Addr) (rs : Rws) (ls : Lots) (m M n : Nat), vs = [.ref p, .ref r, .ref q] ∧ RowsAt (hide p H) r rs ∧ PathsAt (hide p H) q ls ∧ 1 ≤ rs.length ∧ rs.length ≤ 12 ∧ (rs.map Prod.fst).Nodup ∧ LotsOk (rs.map Prod.fst) ls m ∧ m + 1 ≤ M ∧ 4 ≤ M ∧ M ≤ 100 ∧ Pl H p n ∧ n ≤ 600000000 ∧
  ∀ (ms : Lots) H' D, Same (hide p H) (hide p H') → Pl H' p (n + 210) → LotsOk (rs.map Prod.fst) ms M → hide p H D = none → PathsAt (hide p H') D ms → Q (.ref D) H'
theorem seq_tailS {a u : TS} {D : Ends} {σ : St} {H : Hp} (Mid : St → Hp → Prop) (h2 : ∀ σ' H', Mid σ' H' → u D σ' H') (h1 : (∀ σ' H', Mid σ' H' → u D σ' H') → tSeq a u D σ H) : tSeq a u D σ H := h1 h2
theorem pth_take {H : Hp} {vs : List V} {ls : Lots} (h : Paired (PthV H) vs ls) (i : Nat) : Paired (PthV H) (vs.take i) (ls.take i) := by
  induction h generalizing i with
  | nil => rw [List.take_nil, List.take_nil]; exact .nil
  | cons r t ih =>
    cases i with
    | zero => exact .nil
    | succ i => exact .cons r (ih i)
theorem pth_drop {H : Hp} {vs : List V} {ls : Lots} (h : Paired (PthV H) vs ls) (i : Nat) : Paired (PthV H) (vs.drop i) (ls.drop i) := by
  induction h generalizing i with
  | nil => rw [List.drop_nil, List.drop_nil]; exact .nil
  | cons r t ih =>
    cases i with
    | zero => exact .cons r t
    | succ i => exact ih i
theorem pth_set {H : Hp} {vs : List V} {ls : Lots} (h : Paired (PthV H) vs ls) (i : Nat) {v : V} {l : List Str} (r : PthV H v l) : Paired (PthV H) (vs.set i v) (ls.set i l) := by
  induction h generalizing i with
  | nil => exact .nil
  | cons r' t ih =>
    cases i with
    | zero => exact .cons r t
    | succ i => exact .cons r' (ih i)
theorem pth_filt {H : Hp} {p : List Str → Bool} : ∀ {vs : List V} {ls : Lots}, Paired (PthV H) vs ls → Paired (PthV H) (((List.range vs.length).filter fun i => p (ls.getD i [])).map fun i => vs.getD i .non) (ls.filter p) := by
  intro vs ls h
  rw [show (((List.range vs.length).filter fun i => p (ls.getD i [])).map fun i => vs.getD i .non) = (((vs.zip ls).filter fun q => p q.2).map Prod.fst) from ?_]
  · induction h with
    | nil => exact .nil
    | @cons v l vs ls r t ih =>
      rw [List.zip_cons_cons, List.filter_cons, List.filter_cons]
      by_cases e : p l = true
      · rw [if_pos e, if_pos e]
        exact .cons r ih
      · rw [if_neg e, if_neg e]
        exact ih
  · have hl := Paired.length h
    have e := rngP (V.non, ([] : List Str)) (fun q : V × List Str => p q.2) Prod.fst (vs.zip ls)
    rw [← e, List.length_zip, hl, Nat.min_self]
    have e1 : ∀ i, i < ls.length → (vs.zip ls).getD i (V.non, []) = (vs.getD i .non, ls.getD i []) := fun i hi => by
      rw [List.getD_eq_getElem?_getD, List.getD_eq_getElem?_getD, List.getD_eq_getElem?_getD, List.getElem?_eq_getElem (by rw [List.length_zip]; omega), List.getElem?_eq_getElem (by omega), List.getElem?_eq_getElem hi, List.getElem_zip]
      rfl
    have e2 : (List.range ls.length).filter (fun i => p ((vs.zip ls).getD i (V.non, [])).2) = (List.range ls.length).filter fun i => p (ls.getD i []) := List.filter_congr fun i mi => by
      rw [e1 i (List.mem_range.mp mi)]
    rw [e2]
    refine List.map_congr_left fun i mi => ?_
    rw [e1 i (List.mem_range.mp (List.mem_filter.mp mi).1)]
/-- over the list F, what is neither F nor the pool stays -/
theorem sm_F {p F : Addr} {H H' : Hp} {o : HO} (s : Same H H') : Same (hide F (hide p H)) (hide p (upd H' F o)) := fun b u e => by
  obtain ⟨bF, e⟩ := hide_some e
  obtain ⟨bp, e⟩ := hide_some e
  rw [hide_ne bp, upd_ne bF]
  exact s _ _ e
theorem sm_H {p F : Addr} {H H' : Hp} (s : Same H H') : Same (hide F (hide p H)) (hide p H') := fun b u e => by
  obtain ⟨bF, e⟩ := hide_some e
  exact hide_same s _ _ e
theorem pth_imp {H H' : Hp} {vs : List V} {ls : Lots} (h : Paired (PthV H) vs ls) (s : Same H H') : Paired (PthV H') vs ls := Paired.imp (fun _ _ r => r.same s) h
theorem pth_app {H : Hp} {as bs : List V} {xs ys : Lots} (h : Paired (PthV H) as xs) (g : Paired (PthV H) bs ys) : Paired (PthV H) (as ++ bs) (xs ++ ys) := paired_app g h
theorem ixN_nat {n j : Nat} (h : j < n) : ixN n (j : Int) = some j := by
  unfold ixN
  rw [if_pos (by omega), if_pos (by omega)]
  simp
/-- [.. for r in range(n) if ..] -/
theorem lc_rngF {ta : TA} {g : TG} {tt : TT} {te : TE} {vs : List Nat} {σ : St} {H : Hp} {Q : VK} {n : Nat} (he : ∀ R : List V → Hp → Prop, R [.int (n : Int)] H → ta σ H R) (hn : n ≤ 1000) (p : Nat → Bool) (f : Nat → V)
    (hs : ∀ (i : Nat) H' (Z : V → Hp → Prop) (N : Hp → Prop), i < n → Same H H' → (p i = false → ∀ H3, Same H' H3 → N H3) → (p i = true → ∀ H3, Same H' H3 → Z (f i) H3) →
      g (.int (0 + (i : Int))) (wipe σ vs) H' fun σ2 H2 => wipe σ2 vs = wipe σ vs ∧ tt σ2 H2 fun b H3 => if b = true then te σ2 H3 Z else N H3)
    (hd : ∀ D H', Same H H' → H D = none → H' D = some (.lst (((List.range n).filter p).map f)) → Q (.ref D) H') : tLc (iRng1 ta) g tt te vs σ H Q := by
  refine he _ ⟨(n : Int), rfl, by omega, by omega, ?_⟩
  rw [Int.toNat_natCast]
  exact lc_some (walk_range (lo := 0) (n := n)) hn (fun _ _ => trivial) (fun i H' x H'' y => y.1 ▸ Same.refl _) p f (fun i x H' H'' Z N hi s y n z => by
    obtain ⟨rfl, rfl⟩ := y
    exact hs i _ Z N hi s n z) hd
end WL
end L2
set_option Elab.async false
set_option linter.all false
set_option maxRecDepth 100000
set_option maxHeartbeats 4000000
namespace L2
namespace WL
open PySem PySem.Spec PyProof.Rows K1
/-! ### names, by the methods of texts -/
theorem asc_ok : ∀ c, c < 128 → (Unicode.isAlpha c && !(Unicode.isUpper c || Unicode.isTitle c)) = okc c ∧ (okc c = true → Unicode.isLower c = true) := by decide +kernel
theorem okc_asc {c : Nat} (h : okc c = true) : c < 128 := by
  unfold okc at h
  simp at h
  omega
theorem nm_l (l : List Nat) : (l.all (· < 128) && ((decide (l.length > 0) && l.all Unicode.isAlpha) && (l.any Unicode.isLower && !l.any fun c => Unicode.isUpper c || Unicode.isTitle c))) = (decide (1 ≤ l.length) && l.all okc) := by
  rw [Bool.eq_iff_iff]
  constructor
  · intro h
    simp only [Bool.and_eq_true, List.all_eq_true, decide_eq_true_eq, Bool.not_eq_true', List.any_eq_false] at h ⊢
    obtain ⟨h1, ⟨h2, h3⟩, h4, h5⟩ := h
    refine ⟨h2, fun c m => ?_⟩
    rw [← (asc_ok c (h1 c m)).1, h3 c m]
    have := h5 c m
    cases e : (Unicode.isUpper c || Unicode.isTitle c)
    · rfl
    · exact absurd e this
  · intro h
    simp only [Bool.and_eq_true, List.all_eq_true, decide_eq_true_eq, Bool.not_eq_true', List.any_eq_false, List.any_eq_true] at h ⊢
    obtain ⟨h1, h2⟩ := h
    have k : ∀ c ∈ l, (Unicode.isAlpha c && !(Unicode.isUpper c || Unicode.isTitle c)) = true := fun c m => by
      rw [(asc_ok c (okc_asc (h2 c m))).1]
      exact h2 c m
    refine ⟨fun c m => okc_asc (h2 c m), ⟨h1, fun c m => (Bool.and_eq_true_iff.mp (k c m)).1⟩, ?_, fun c m z => ?_⟩
    · cases l with
      | nil => exact absurd h1 (by simp)
      | cons c cs => exact ⟨c, List.mem_cons_self .., (asc_ok c (okc_asc (h2 c (List.mem_cons_self ..)))).2 (h2 c (List.mem_cons_self ..))⟩
    · have := (Bool.and_eq_true_iff.mp (k c m)).2
      rw [z] at this
      cases this
theorem nm_txt (z : Str) : (Txt.isascii z && (Txt.isalpha z && Txt.islower z)) = (decide (1 ≤ z.length) && z.cps.toList.all okc) := by
  have e := nm_l z.cps.toList
  have zl : z.length = z.cps.toList.length := by simp [Str.length]
  rw [zl, ← e]
  unfold Txt.isascii Txt.isalpha Txt.islower
  rw [zl]
  simp only [Array.all_toList, Array.any_toList]
theorem isNm_txt (z : Str) : isNm z = (decide (z.length ≤ 8) && (Txt.isascii z && (Txt.isalpha z && Txt.islower z))) := by
  rw [nm_txt]
  unfold isNm
  cases decide (1 ≤ z.length) <;> cases decide (z.length ≤ 8) <;> rfl
end WL
end L2
set_option Elab.async false
set_option linter.all false
set_option maxRecDepth 100000
set_option maxHeartbeats 0
namespace L2
namespace K21
open PySem PySem.Spec PyProof.Rows K1 WL
def top (i : Nat) : Stmt := PySem.Challenge.pw_lotmarks_k21_lines_refused.main.body.getD i (.Pass ⟨0, 0, 0, 0⟩)
abbrev s_is_list : Stmt := top 2
abbrev s_is_name : Stmt := top 3
abbrev s_is_name_list : Stmt := top 4
abbrev s_BadWeb : Stmt := inClass (top 7) 0
abbrev s_UnknownCell : Stmt := inClass (top 8) 0
abbrev s_BadProgram : Stmt := inClass (top 9) 0
abbrev s_BadText : Stmt := inClass (top 10) 0
abbrev s_Web_init : Stmt := inClass (top 12) 0
abbrev s_Web_cells_with : Stmt := inClass (top 12) 1
abbrev s_Web_sources : Stmt := inClass (top 12) 2
abbrev s_Web_targets : Stmt := inClass (top 12) 3
abbrev s_Web_contains : Stmt := inClass (top 12) 4
abbrev s_Web_len : Stmt := inClass (top 12) 5
abbrev s_Web_iter : Stmt := inClass (top 12) 6
abbrev s_Web_eq : Stmt := inClass (top 12) 7
abbrev s_check_rows : Stmt := top 13
abbrev s_first_wrong_row : Stmt := top 14
abbrev s_is_row : Stmt := top 15
abbrev s_check_cells : Stmt := top 16
abbrev s_Program_init : Stmt := inClass (top 18) 0
abbrev s_Program_times : Stmt := inClass (top 18) 1
abbrev s_Program_renewings : Stmt := inClass (top 18) 2
abbrev s_Program_renewed : Stmt := inClass (top 18) 3
abbrev s_Program_add : Stmt := inClass (top 18) 4
abbrev s_Program_len : Stmt := inClass (top 18) 5
abbrev s_Program_iter : Stmt := inClass (top 18) 6
abbrev s_Program_eq : Stmt := inClass (top 18) 7
abbrev s_ascending_lots : Stmt := top 19
abbrev s_ascending_texts : Stmt := top 20
abbrev s_is_lot : Stmt := top 21
abbrev s_written : Stmt := top 23
abbrev s_read : Stmt := top 24
abbrev s_first_wrong_line : Stmt := top 25
abbrev s_web_of : Stmt := top 26
abbrev s_cell : Stmt := top 28
abbrev s_pool : Stmt := top 29
abbrev s_take : Stmt := top 30
abbrev s_mixed : Stmt := top 31
abbrev s_names : Stmt := top 32
abbrev s_web : Stmt := top 33
abbrev s_program : Stmt := top 34
abbrev s_are_names : Stmt := top 35
abbrev s_stands : Stmt := top 36
abbrev s_due : Stmt := top 37
abbrev s_met : Stmt := top 38
abbrev s_bent : Stmt := top 39
abbrev s_mixed_up : Stmt := top 40
abbrev s_law : Stmt := top 41
def dfn (x : Str) (st : Stmt) : He.DefD := ⟨(x, none), x, x, defArgs st, defBody st, defScope st, [], []⟩
def mth (c m q : Str) (st : Stmt) : He.DefD := ⟨(c, some m), m, q, defArgs st, defBody st, defScope st, [], []⟩
def fn1 : List He.DefD := [dfn "is_list" s_is_list, dfn "is_name" s_is_name, dfn "is_name_list" s_is_name_list, mth "BadWeb" "__init__" "BadWeb.__init__" s_BadWeb, mth "UnknownCell" "__init__" "UnknownCell.__init__" s_UnknownCell, mth "BadProgram" "__init__" "BadProgram.__init__" s_BadProgram, mth "BadText" "__init__" "BadText.__init__" s_BadText, mth "Web" "__init__" "Web.__init__" s_Web_init, mth "Web" "cells_with_source" "Web.cells_with_source" s_Web_cells_with, mth "Web" "sources" "Web.sources" s_Web_sources, mth "Web" "targets" "Web.targets" s_Web_targets, mth "Web" "__contains__" "Web.__contains__" s_Web_contains, mth "Web" "__len__" "Web.__len__" s_Web_len, mth "Web" "__iter__" "Web.__iter__" s_Web_iter, mth "Web" "__eq__" "Web.__eq__" s_Web_eq, dfn "check_rows" s_check_rows, dfn "first_wrong_row" s_first_wrong_row, dfn "is_row" s_is_row, dfn "check_cells" s_check_cells, mth "Program" "__init__" "Program.__init__" s_Program_init, mth "Program" "times" "Program.times" s_Program_times, mth "Program" "renewings" "Program.renewings" s_Program_renewings, mth "Program" "renewed" "Program.renewed" s_Program_renewed, mth "Program" "__add__" "Program.__add__" s_Program_add, mth "Program" "__len__" "Program.__len__" s_Program_len]
def fn2 : List He.DefD := [mth "Program" "__iter__" "Program.__iter__" s_Program_iter, mth "Program" "__eq__" "Program.__eq__" s_Program_eq, dfn "ascending_lots" s_ascending_lots, dfn "ascending_texts" s_ascending_texts, dfn "is_lot" s_is_lot, dfn "written" s_written, dfn "read" s_read, dfn "first_wrong_line" s_first_wrong_line, dfn "web_of" s_web_of, dfn "_law_cell" s_cell, dfn "_law_pool" s_pool, dfn "_law_take" s_take, dfn "_law_mixed" s_mixed, dfn "_law_names" s_names, dfn "_law_web" s_web, dfn "_law_program" s_program, dfn "_law_are_names" s_are_names, dfn "_law_stands" s_stands, dfn "_law_due" s_due, dfn "_law_met" s_met, dfn "_law_bent" s_bent, dfn "_law_mixed_up" s_mixed_up, dfn "law" s_law]
def fn : List He.DefD := fn1 ++ fn2
def fa : List He.Fa := [.glo "is_list", .glo "is_name", .glo "is_name_list", .glo "BadWeb", .glo "UnknownCell", .glo "BadProgram", .glo "BadText", .glo "Web", .glo "check_rows", .glo "first_wrong_row", .glo "is_row", .glo "check_cells", .glo "Program", .glo "ascending_lots", .glo "ascending_texts", .glo "is_lot", .glo "written", .glo "read", .glo "first_wrong_line", .glo "web_of", .glo "_law_cell", .glo "_law_pool", .glo "_law_take", .glo "_law_mixed", .glo "_law_names", .glo "_law_web", .glo "_law_program", .glo "_law_are_names", .glo "_law_stands", .glo "_law_due", .glo "_law_met", .glo "_law_bent", .glo "_law_mixed_up", .glo "law",
  .free "isinstance", .free "list", .free "tuple", .free "str", .free "len", .free "all", .free "any", .free "set", .free "iter", .free "enumerate"]
def fa2 : List He.Fa := [.free "range", .free "min", .free "int", .free "bool", .free "sorted", .cls "Web", .mkr "Web", .meth "Web" "cells_with_source", .meth "Web" "sources", .meth "Web" "targets", .meth "Web" "__contains__", .meth "Web" "__len__", .meth "Web" "__iter__", .meth "Web" "__eq__", .noat "Web" "cells", .noat "Web" "sources_of", .noat "Web" "arrows", .noat "Web" "targets_of", .cls "Program", .mkr "Program", .meth "Program" "times", .meth "Program" "renewings", .meth "Program" "renewed", .meth "Program" "__add__", .meth "Program" "__len__", .meth "Program" "__iter__", .meth "Program" "__eq__", .noat "Program" "unlike_lots", .noat "Program" "lots", .exm "BadText" "BadText" true]
def fieldB (K : PySem.W.Frag) (x f : Str) : Bool := He.eqO (PySem.W.findIn K (.ref (He.ga K x)) f) (some none) && (He.eqO (PySem.W.findIn K (.ref (He.ga K x)) "__init__") (some (some (.ref (He.ma K (He.ga K x) "__init__")))) && decide (PySem.W.typeIn K (.ref (He.ma K (He.ga K x) "__init__")) = some (.type "function")))
def clsB (K : PySem.W.Frag) (x : Str) : Bool := He.eqO (PySem.W.findIn K (.ref (He.ga K x)) "__class__") (some (some (.builtin "object.__class__"))) && (He.eqO (PySem.W.specialIn K (.builtin "object.__class__") "__get__") (some (some (.builtin "getset_descriptor.__get__"))) &&
  (decide (PySem.W.takesIn K (.builtin "object.__class__") = some true) && decide (PySem.W.mroIn K (He.ga K x) (.type "object") = some true)))
def exB (K : PySem.W.Frag) : Bool := decide (PySem.W.kitOne K (.ref (He.ga K "Program")) (.ref (He.ga K "Web")) = some false) && (PySem.W.notFirst K (He.ga K "Web") (.ref (He.ga K "Web")) && (PySem.W.notFirst K (He.ga K "Program") (.ref (He.ga K "Program")) && (He.eqO (PySem.W.findIn K (.ref (He.ga K "Web")) "__ne__") (some (some (.builtin "object.__ne__"))) && He.eqO (PySem.W.findIn K (.ref (He.ga K "Program")) "__ne__") (some (some (.builtin "object.__ne__"))))))
def ex (K : PySem.W.Frag) : Bool := xcB K (He.ga K "BadWeb") && (xcB K (He.ga K "UnknownCell") && (xcB K (He.ga K "BadProgram") && (xcB K (He.ga K "BadText") && (fieldB K "BadWeb" "index" && (fieldB K "UnknownCell" "cell" && (fieldB K "BadProgram" "index" && (fieldB K "BadText" "line" && (clsB K "Web" && (clsB K "Program" && (decide (PySem.W.kitOne K (.ref (He.ga K "Web")) (.ref (He.ga K "Web")) = some true) && ((decide (PySem.W.kitOne K (.ref (He.ga K "Program")) (.ref (He.ga K "Program")) = some true)) && exB K)))))))))))
abbrev R : PySem.W.OpenRow := PySem.W.OpenLaw.row PySem.Challenge.rw_lotmarks_k21_lines_refused
abbrev hk : PySem.W.Hook := hookT 5 (fa ++ fa2) fn ex
def ob (s : PySem.W.SharedT) : AlK := obsT 5 (fa ++ fa2) fn ex (HandSHeadRun.getT s)
theorem ob_eq (s : PySem.W.SharedT) : ob s = hk.obs s.abs := obsT_eq (HandSHeadRun.getT_eq s)
def loose1 : List Str := ["_wall", "is_list", "is_name", "is_name_list", "LotError", "BadWeb", "UnknownCell", "BadProgram", "BadText", "Web", "check_rows", "first_wrong_row", "is_row", "check_cells", "Program", "ascending_lots", "ascending_texts", "is_lot", "written", "read"]
def loose2 : List Str := ["first_wrong_line", "web_of", "_law_cell", "_law_pool", "_law_take", "_law_mixed", "_law_names", "_law_web", "_law_program", "_law_are_names", "_law_stands", "_law_due", "_law_met", "_law_bent", "_law_mixed_up"]
def loose3 : List Str := []
def loose : List Str := loose1 ++ loose2 ++ loose3
theorem run (w : World) : HandSHeadRun.RunEq R (PySem.W.view R.prog [41]) hk ob 60000 loose w := by
  intro os
  kernel_rfl
end K21
end L2
set_option Elab.async false
set_option linter.all false
set_option maxRecDepth 100000
set_option maxHeartbeats 4000000
namespace L2
namespace K21
open PySem PySem.Spec PyProof.Rows K1 WL
/-! ### what the head tells -/
structure Bl (mg : Str → Option Value) : Prop where
  f_isinstance : mg "isinstance" = none
  f_list : mg "list" = none
  f_tuple : mg "tuple" = none
  f_str : mg "str" = none
  f_len : mg "len" = none
  f_all : mg "all" = none
  f_any : mg "any" = none
  f_set : mg "set" = none
  f_iter : mg "iter" = none
  f_enumerate : mg "enumerate" = none
  f_range : mg "range" = none
  f_min : mg "min" = none
  f_int : mg "int" = none
theorem bl_mk {K : PySem.W.Frag} {h : Heap} {mg : Str → Option Value} (X : K.In h) (G : h.Ns mainGlobals mg) (c : He.SaysD (fa ++ fa2) fn K) : Bl mg where
  f_isinstance := He.free_ok X G (c.fact 34 (f := .free "isinstance") rfl)
  f_list := He.free_ok X G (c.fact 35 (f := .free "list") rfl)
  f_tuple := He.free_ok X G (c.fact 36 (f := .free "tuple") rfl)
  f_str := He.free_ok X G (c.fact 37 (f := .free "str") rfl)
  f_len := He.free_ok X G (c.fact 38 (f := .free "len") rfl)
  f_all := He.free_ok X G (c.fact 39 (f := .free "all") rfl)
  f_any := He.free_ok X G (c.fact 40 (f := .free "any") rfl)
  f_set := He.free_ok X G (c.fact 41 (f := .free "set") rfl)
  f_iter := He.free_ok X G (c.fact 42 (f := .free "iter") rfl)
  f_enumerate := He.free_ok X G (c.fact 43 (f := .free "enumerate") rfl)
  f_range := He.free_ok X G (c.fact 44 (f := .free "range") rfl)
  f_min := He.free_ok X G (c.fact 45 (f := .free "min") rfl)
  f_int := He.free_ok X G (c.fact 46 (f := .free "int") rfl)
abbrev FnP (K : PySem.W.Frag) (x q : Str) (st : Stmt) (f : Addr) (fd : FuncData) : Prop := FunD K x q (defArgs st) (defBody st) (defScope st) [] [] f fd
section
variable {P : Program} {w : World} {K : PySem.W.Frag} {mg : Str → Option Value} {base : Heap} {f : Addr} {fd : FuncData}
/-! ### is_list -/
theorem sc_is_list : FnScope ["thing"] ["thing"] (defScope s_is_list) := ⟨rfl, rfl, rfl, by decide +kernel, rfl, by decide +kernel, by decide +kernel⟩
theorem ok_is_list (T : Bl mg) (F : FnP K "is_list" "is_list" s_is_list f fd) : FnOk P w K mg base CX0 1 f fd ["thing"] (spIsList K) := by
  refine F.ok sc_is_list (fun vs H Q E h => ?_) (fun cdv A outer s H vs Q E hr h => ?_)
  · obtain ⟨v, t, b, rfl, _⟩ := h
    rfl
  · refine ⟨_, PSs.nox (pss_one (ps_ret (pe_callB call_isiT rfl T.f_isinstance boot_isinstance (pa_cons (pv 0) (pa_cons (pe_tup (pa_cons (pe_bltn (v := .ty "list") rfl T.f_list PyProof.Rows.boot_list rfl) (pa_cons (pe_bltn (v := .ty "tuple") rfl T.f_tuple PyProof.Rows.boot_tuple rfl) pa_nil))) pa_nil))))), ?_⟩
    obtain ⟨v, t, b, rfl, ty, kt, q⟩ := h
    exact ⟨_, rfl, (show 2 ≤ sizeLine by decide), fun p np => ⟨v, p, [.ty "list", .ty "tuple"], t, LT, b, rfl, upd_same, .cons (.ty _) (.cons (.ty _) .nil), TyX.same ty (same_upd np), kt, q _ (same_upd np)⟩⟩
/-! ### is_name -/
theorem sc_is_name : FnScope ["thing"] ["thing"] (defScope s_is_name) := ⟨rfl, rfl, rfl, by decide +kernel, rfl, by decide +kernel, by decide +kernel⟩
theorem ok_is_name (T : Bl mg) (F : FnP K "is_name" "is_name" s_is_name f fd) : FnOk P w K mg base CX0 1 f fd ["thing"] (spIsName K) := by
  refine F.ok sc_is_name (fun vs H Q E h => ?_) (fun cdv A outer s H vs Q E hr h => ?_)
  · obtain ⟨v, b, rfl, _⟩ := h
    rfl
  · have nd := sc_is_name.nd
    refine ⟨_, PSs.nox (pss_one (ps_ret (pe_and (pe_callB call_isi rfl T.f_isinstance boot_isinstance (pa_cons (pv 0) (pa_cons (pe_bltn (v := .ty "str") rfl T.f_str PyProof.Rows.boot_str rfl) pa_nil)))
      (pe_and (pe_cmpR op_le (pe_callB call_len_str rfl T.f_len boot_len (pa_cons (pv 0) pa_nil)) pe_int (nomark _))
      (pe_and (pe_m0 PySem.F.slot_str_isascii PySem.F.type_str_isascii mt_isascii (pv 0))
      (pe_and (pe_m0 PySem.F.slot_str_isalpha PySem.F.type_str_isalpha mt_isalpha (pv 0))
      (pe_one (pe_m0 PySem.F.slot_str_islower PySem.F.type_str_islower mt_islower (pv 0))))))))), ?_⟩
    obtain ⟨v, b, rfl, hb, q⟩ := h
    rcases hb with ⟨z, rfl, hz, rfl⟩ | ⟨t, ty, kt, rfl⟩
    · have q1 := q H (Same.refl H)
      rw [isNm_txt] at q1
      refine ⟨_, rfl, _, .ty "str", _, _, true, rfl, .ty "str", .base (.str z), kit_ty (by decide +kernel), true, rfl, ?_⟩
      refine ⟨_, rfl, z, rfl, hz, (z.length : Nat), 8, rfl, rfl, _, rfl, ?_⟩
      have e8 : decide (((z.length : Nat) : Int) ≤ 8) = decide (z.length ≤ 8) := decide_eq_decide.mpr (by omega)
      rw [e8]
      cases e0 : decide (z.length ≤ 8) with
      | false =>
        rw [e0] at q1
        exact q1
      | true =>
        rw [e0] at q1
        refine ⟨_, rfl, ⟨_, rfl⟩, z, rfl, rfl, trivial, _, rfl, ?_⟩
        cases e1 : Txt.isascii z with
        | false =>
          rw [e1] at q1
          exact q1
        | true =>
          refine ⟨_, rfl, ⟨_, rfl⟩, z, rfl, rfl, trivial, _, rfl, ?_⟩
          rw [e1] at q1
          cases e2 : Txt.isalpha z with
          | false =>
            rw [e2] at q1
            exact q1
          | true =>
            rw [e2] at q1
            exact ⟨_, rfl, ⟨_, rfl⟩, z, rfl, rfl, trivial, q1⟩
    · exact ⟨_, rfl, _, .ty "str", t, _, false, rfl, .ty "str", ty, kt, false, rfl, q H (Same.refl H)⟩
/-! ### is_name_list -/
theorem sc_is_name_list : FnScope ["thing", "item"] ["thing"] (defScope s_is_name_list) := ⟨rfl, rfl, rfl, by decide +kernel, rfl, by decide +kernel, by decide +kernel⟩
theorem ok_is_name_list (T : Bl mg) (Cl : Cal P w K mg base "is_list" ["thing"] 1 (spIsList K)) (Cn : Cal P w K mg base "is_name" ["thing"] 1 (spIsName K)) (F : FnP K "is_name_list" "is_name_list" s_is_name_list f fd) :
    FnOk P w K mg base CX0 2 f fd ["thing"] (spNameList K) := by
  obtain ⟨fl, fdl, Gl, gl, kl, bl⟩ := Cl.ex
  obtain ⟨fn', fdn, Gn, gn, kn, bn⟩ := Cn.ex
  refine F.ok sc_is_name_list (fun vs H Q E h => ?_) (fun cdv A outer s H vs Q E hr h => ?_)
  · obtain ⟨v, c, rfl, _⟩ := h
    rfl
  · have nd := sc_is_name_list.nd
    refine ⟨_, PSs.nox (pss_cons (ps_if (PW.pt (pw_or (pt_not (pt_val (pe_call Gl hr rfl gl kl bl .nil pass0 (pa_cons (pv 0) pa_nil))))
        (pw_or1 (pt_not (pt_val (pe_callB (cr_all rfl) rfl T.f_all PyProof.Rows.boot_all (pa_cons (pe_lc (own := [("item", 1)]) (g := gName 1) (tt := tYes) rfl nd (pi_seq (pv 0)) (blkOk_by (N := ["thing", "item"]) (sc := defScope s_is_name_list) (by decide +kernel))
          (fun _ _ _ _ _ => pg_name (i := 1) nd rfl (Or.inl rfl)) (fun _ _ _ _ _ => pts_nil) (fun _ _ _ _ _ => pe_call Gn hr rfl gn kn bn .nil pass0 (pa_cons (pv 1) pa_nil))) pa_nil))))))) (pss_one (ps_ret pe_bl)) pss_nil)
      (pss_one (ps_ret (pe_cmpR op_eq (pe_lenTxt rfl rfl T.f_len rfl T.f_set (pv 0)) (pe_callB call_len rfl T.f_len boot_len (pa_cons (pv 0) pa_nil)) (nomark _))))), ?_⟩
    obtain ⟨v, c, rfl, hc, q⟩ := h
    rcases hc with ⟨t, ty, kt, rfl⟩ | ⟨xs, bs, hs, h9, hl, hi, rfl⟩
    · exact ⟨_, rfl, v, t, false, rfl, ty, kt, fun H' s' => ⟨false, rfl, q H' s'⟩⟩
    · obtain ⟨t, ty, kt⟩ := hs.kit
      refine ⟨_, rfl, v, t, true, rfl, ty, kt, fun H1 s1 => ⟨true, rfl, iteN rfl ?_⟩⟩
      refine t_nall ?_
      refine lc_seq (hs.same s1) (fun Q q => ⟨_, rfl, q⟩) (by omega) (fun i => .bl (bs.getD i false)) (fun i x H' Q' hx s' qq => ?_) (fun D H2 s2 e2 => ?_)
      · have lt : i < bs.length := by
          rw [hl]
          exact (List.getElem?_eq_some_iff.mp hx).1
        have hb : bs[i]? = some (bs.getD i false) := by rw [List.getD_eq_getElem?_getD, List.getElem?_eq_getElem lt]; rfl
        exact ⟨rfl, _, rfl, x, _, rfl, ((hi i x _ hx hb).same s1).same s', qq⟩
      · refine ⟨D, bs, rfl, SqL.of ?_, _, rfl, ?_⟩
        · rw [e2, ← hl]
          have e3 : (List.range bs.length).map (fun i => V.bl (bs.getD i false)) = ((List.range bs.length).map fun i => bs.getD i false).map V.bl := by rw [List.map_map]; rfl
          rw [e3, rngD]
        · refine ite2 (fun ha => ?_) fun ha => ?_
          · have e : bs.all id = false := by simpa using ha
            have e2' : nlB xs bs = false := by
              unfold nlB
              rw [e]
              rfl
            rw [e2'] at q
            exact q H2 (s1.trans s2)
          · have e : bs.all id = true := by simpa using ha
            have ex := all_strs hl hi e
            obtain ⟨a, rfl, hq⟩ := (hs.same s1).same s2
            have ll : (strsOf xs).length = xs.length := by
              have z := congrArg List.length ex
              rw [List.length_map] at z
              exact z.symm
            refine ⟨_, rfl, a, strsOf xs, rfl, by rw [← ex]; exact hq, by omega, _, rfl, .ref a, xs.length, rfl, Seq.len ⟨a, rfl, hq⟩, rfl, ?_⟩
            have e4 : decide (V.int ((SSx.ddN (strsOf xs) (strsOf xs).length).length : Nat) = V.int (xs.length : Nat)) = nlB xs bs := by
              unfold nlB
              rw [e, Bool.true_and]
              have z := SSx.ddN_nodup (xs := strsOf xs)
              by_cases n : (strsOf xs).Nodup
              · rw [decide_eq_true n, z.mpr n, ll]
                exact decide_eq_true rfl
              · rw [decide_eq_false n]
                refine decide_eq_false fun y => n (z.mp ?_)
                have y2 := V.int.inj y
                omega
            rw [e4]
            exact q H2 (s1.trans s2)
/-! ### is_row -/
theorem sc_is_row : FnScope ["thing"] ["thing"] (defScope s_is_row) := ⟨rfl, rfl, rfl, by decide +kernel, rfl, by decide +kernel, by decide +kernel⟩
theorem ok_is_row (T : Bl mg) (Cl : Cal P w K mg base "is_list" ["thing"] 1 (spIsList K)) (Cn : Cal P w K mg base "is_name" ["thing"] 1 (spIsName K)) (Cm : Cal P w K mg base "is_name_list" ["thing"] 2 (spNameList K)) (F : FnP K "is_row" "is_row" s_is_row f fd) :
    FnOk P w K mg base CX0 3 f fd ["thing"] (spIsRow K) := by
  obtain ⟨fl, fdl, Gl, gl, kl, bl⟩ := Cl.ex
  obtain ⟨fn', fdn, Gn, gn, kn, bn⟩ := Cn.ex
  obtain ⟨fm, fdm, Gm, gm, km, bm⟩ := Cm.ex
  refine F.ok sc_is_row (fun vs H Q E h => ?_) (fun cdv A outer s H vs Q E hr h => ?_)
  · obtain ⟨v, c, rfl, _⟩ := h
    rfl
  · have h1 := hr.mono (show 1 ≤ 2 by decide)
    refine ⟨_, PSs.nox (pss_one (ps_ret (pe_and (pe_call Gl h1 rfl gl kl bl .nil pass0 (pa_cons (pv 0) pa_nil)) (pe_and (pe_cmpR op_eq (pe_callB call_len rfl T.f_len boot_len (pa_cons (pv 0) pa_nil)) pe_int (nomark _))
      (pe_and (pe_call Gn h1 rfl gn kn bn .nil pass0 (pa_cons (pe_ix ix_seq (pv 0) pe_int fun _ _ => rfl) pa_nil)) (pe_one (pe_call Gm hr rfl gm km bm .nil pass0 (pa_cons (pe_ix ix_seq (pv 0) pe_int fun _ _ => rfl) pa_nil)))))))), ?_⟩
    obtain ⟨v, r, rfl, hv, q⟩ := h
    rcases hv with ⟨t, ty, kt, rfl⟩ | ⟨xs, hs, hv⟩
    · exact ⟨_, rfl, v, t, false, rfl, ty, kt, fun H' s' => ⟨false, rfl, q H' s'⟩⟩
    · obtain ⟨t, ty, kt⟩ := hs.kit
      refine ⟨_, rfl, v, t, true, rfl, ty, kt, fun H1 s1 => ⟨true, rfl, ?_⟩⟩
      refine ⟨_, rfl, v, xs.length, rfl, (hs.same s1).len, rfl, _, rfl, ?_⟩
      rcases hv with ⟨hn, rfl⟩ | ⟨x, y, b, c, rfl, hx, hy, rfl⟩
      · refine iteN (decide_eq_false fun z => hn ?_) (q H1 s1)
        have z2 := V.int.inj z
        omega
      · refine ⟨_, rfl, (hs.same s1).ix (x := x) rfl ⟨x, b, rfl, hx.same s1, fun H2 s2 => ⟨b, rfl, ?_⟩⟩⟩
        cases b with
        | false => exact q H2 (s1.trans s2)
        | true => exact ⟨_, rfl, ((hs.same s1).same s2).ix (x := y) rfl ⟨y, c, rfl, (hy.same s1).same s2, fun H3 s3 => q H3 ((s1.trans s2).trans s3)⟩⟩
/-! ### first_wrong_row -/
theorem sc_first : FnScope ["rows", "cells", "index", "row"] ["rows"] (defScope s_first_wrong_row) := ⟨rfl, rfl, rfl, by decide +kernel, rfl, by decide +kernel, by decide +kernel⟩
theorem ok_first (T : Bl mg) (Cl : Cal P w K mg base "is_list" ["thing"] 1 (spIsList K)) (Cr : Cal P w K mg base "is_row" ["thing"] 3 (spIsRow K)) (F : FnP K "first_wrong_row" "first_wrong_row" s_first_wrong_row f fd) :
    FnOk P w K mg base CX0 4 f fd ["rows"] (spFirst K) := by
  obtain ⟨fl, fdl, Gl, gl, kl, bl⟩ := Cl.ex
  obtain ⟨fr, fdr, Gr, gr, kr, br⟩ := Cr.ex
  refine F.ok sc_first (fun vs H Q E h => ?_) (fun cdv A outer s H vs Q E hr h => ?_)
  · obtain ⟨v, rfl, _⟩ := h
    rfl
  · have h1 := hr.mono (show 1 ≤ 3 by decide)
    have nd := sc_first.nd
    refine ⟨_, PSs.nox (pss_cons (ps_if (PW.pt (pw_or (pt_not (pt_val (pe_call Gl h1 rfl gl kl bl .nil pass0 (pa_cons (pv 0) pa_nil)))) (pw_or1 (pt_cmpR op_eq (pe_callB call_len rfl T.f_len boot_len (pa_cons (pv 0) pa_nil)) pe_int (nomark _))))) (pss_one (ps_ret pe_int)) pss_nil)
      (pss_cons (ps_set (i := 1) nd rfl (Or.inl rfl) (pe_lst pa_nil))
      (pss_cons (ps_for PassesOwn.never rfl (pi_enumS rfl T.f_enumerate (pa_cons (pv 0) pa_nil)) (pg_tup rfl (pgs_cons (pg_name (i := 2) nd rfl (Or.inl rfl)) (pgs_cons (pg_name (i := 3) nd rfl (Or.inl rfl)) pgs_nil)))
        (pss_cons (ps_if (PW.pt (pw_or (pt_not (pt_val (pe_call Gr hr rfl gr kr br .nil pass0 (pa_cons (pv 3) pa_nil)))) (pw_or1 (pt_cmpR op_in_seq (pe_ix ix_seq (pv 3) pe_int fun _ _ => rfl) (pv 1) rfl)))) (pss_one (ps_ret (pv 2))) pss_nil)
        (pss_one (ps_expr (pe_bm PySem.F.plainAttrs_list PySem.F.slot_list_append PySem.F.type_list_append mt_append (pv 1) (pa_cons (pe_ix ix_seq (pv 3) pe_int fun _ _ => rfl) pa_nil))))))
      (pss_one (ps_ret pe_non))))), ?_⟩
    obtain ⟨v, rfl, hv⟩ := h
    rcases hv with ⟨t, ty, kt, q⟩ | ⟨ds, hs, hn, hd, q⟩
    · exact ⟨_, rfl, v, t, false, rfl, ty, kt, fun H' s' => ⟨false, rfl, q H' s'⟩⟩
    · obtain ⟨t, ty, kt⟩ := hs.kit
      refine ⟨_, rfl, _, t, true, rfl, ty, kt, fun H1 s1 => ⟨true, rfl, iteN rfl ?_⟩⟩
      refine ⟨_, rfl, v, (ds.map Prod.fst).length, rfl, (hs.same s1).len, rfl, _, rfl, ?_⟩
      refine ite2 (fun hz => ?_) fun hz => ?_
      · have e : ds = [] := by
          have y := V.int.inj (of_decide_eq_true hz)
          rw [List.length_map] at y
          exact List.length_eq_zero_iff.mp (by omega)
        subst e
        exact q H1 s1
      · have ne : ds ≠ [] := fun e => by
          subst e
          exact hz (decide_eq_true rfl)
        have q' : ∀ H', Same H H' → Q (optV (firstW (ds.map Prod.snd) [] 0)) H' := by
          unfold firstR at q
          rw [if_neg ne] at q
          exact q
        refine ⟨(show 0 ≤ sizeLine by decide), fun c nc => ?_⟩
        have nc0 : H c = none := s1.free nc
        refine g_nm ?_
        dsimp only
        refine t_seqF ?_
        refine for_enumS hs (fun Q q => ⟨_, rfl, q⟩) (fun i σ H' => Same H H' ∧ (∃ o2 o3, σ = [some v, some (.ref c), o2, o3]) ∧ H' c = some (.lst (((ds.take i).map nmOf).map .str)) ∧ firstW (ds.map Prod.snd) [] 0 = firstW ((ds.drop i).map Prod.snd) ((ds.take i).map nmOf) i)
          ⟨s1.trans (same_upd nc), ⟨_, _, rfl⟩, upd_same, rfl⟩ (fun i σ H' p => p.1) ?_ ?_
        · rintro i y σ H2 T2 ey2 ⟨s2, ⟨o2, o3, rfl⟩, e2, ef⟩ nT
          have hi' : i < ds.length := by
            have z := (List.getElem?_eq_some_iff.mp ey2).1
            simpa using z
          have ey' : y = (ds[i]).1 := by
            rw [List.getElem?_map, List.getElem?_eq_getElem hi'] at ey2
            exact (Option.some.inj ey2).symm
          subst ey'
          have s3 : Same H (upd H2 T2 (.tup [.int (i : Nat), (ds[i]).1])) := s2.trans (same_upd nT)
          have e3 : (upd H2 T2 (.tup [.int (i : Nat), (ds[i]).1])) c = some (.lst (((ds.take i).map nmOf).map .str)) := same_upd nT _ _ e2
          have eT : (upd H2 T2 (.tup [.int (i : Nat), (ds[i]).1])) T2 = some (.tup [.int (i : Nat), (ds[i]).1]) := upd_same
          generalize upd H2 T2 (.tup [.int (i : Nat), (ds[i]).1]) = H3 at *
          refine ⟨T2, [.int (i : Nat), (ds[i]).1], rfl, SqT.of eT, rfl, _, _, rfl, _, _, rfl, rfl, ?_⟩
          obtain ⟨d1, d2⟩ := hd ds[i] (List.getElem_mem hi')
          have drop : ds.drop i = ds[i] :: ds.drop (i + 1) := List.drop_eq_getElem_cons hi'
          refine ⟨_, rfl, (ds[i]).1, (ds[i]).2.1, rfl, d1.same s3, fun H4 s4 => ⟨(ds[i]).2.1, rfl, ?_⟩⟩
          have out : ((ds[i]).2.1 = false ∨ (ds[i]).2.2 ∈ (ds.take i).map nmOf) → firstW (ds.map Prod.snd) [] 0 = some i := fun z => by
            rw [ef, drop, List.map_cons]
            show firstW (((ds[i]).2.1, (ds[i]).2.2) :: _) _ _ = _
            unfold firstW
            rw [if_pos z]
          cases hrw : (ds[i]).2.1 with
          | false =>
            have e := out (.inl hrw)
            have qq := q' H4 (s3.trans s4)
            rw [e] at qq
            exact ⟨_, rfl, qq⟩
          | true =>
            obtain ⟨y2, sq⟩ := d2 hrw
            have sq4 := (sq.same s3).same s4
            refine ⟨_, rfl, sq4.ix (x := .str (ds[i]).2.2) rfl ⟨_, rfl, c, _, rfl, .inl (SqL.of (s4 _ _ e3)), rfl, flat_strs' _, _, rfl, ?_⟩⟩
            refine ite2 (fun hin => ?_) fun hin => ?_
            · have m : (ds[i]).2.2 ∈ (ds.take i).map nmOf := by
                have z : inV (.str (ds[i]).2.2) (((ds.take i).map nmOf).map .str) = true := hin
                rw [in_strs] at z
                exact of_decide_eq_true z
              have e := out (.inr m)
              have qq := q' H4 (s3.trans s4)
              rw [e] at qq
              exact ⟨_, rfl, qq⟩
            · have m : ¬ (ds[i]).2.2 ∈ (ds.take i).map nmOf := fun z => hin (by
                show inV (.str (ds[i]).2.2) (((ds.take i).map nmOf).map .str) = true
                rw [in_strs]
                exact decide_eq_true z)
              refine ⟨_, rfl, .inl ⟨rfl, _, SqL.of (s4 _ _ e3)⟩, _, rfl, sq4.ix (x := .str (ds[i]).2.2) rfl ⟨c, _, _, rfl, rfl, s4 _ _ e3, ?_, ?_⟩⟩
              · rw [List.length_map, List.length_map, List.length_take, sizeLine_eq]
                omega
              · have tk : ds.take (i + 1) = ds.take i ++ [ds[i]] := by rw [List.take_succ, List.getElem?_eq_getElem hi']; rfl
                refine ⟨same_over nc0 (s3.trans s4), ⟨_, _, rfl⟩, ?_, ?_⟩
                · rw [upd_same, tk, List.map_append, List.map_append]
                  rfl
                · rw [ef, drop, List.map_cons, tk, List.map_append]
                  show firstW (((ds[i]).2.1, (ds[i]).2.2) :: _) _ _ = _
                  conv => lhs; unfold firstW
                  rw [if_neg]
                  · rfl
                  · rintro (z | z)
                    · rw [hrw] at z
                      cases z
                    · exact m z
        · rintro σ H2 ⟨s2, ⟨o2, o3, rfl⟩, e2, ef⟩
          have e : firstW (ds.map Prod.snd) [] 0 = none := by
            rw [ef, List.length_map, List.drop_length]
            rfl
          have qq := q' H2 s2
          rw [e] at qq
          exact qq
end
end K21
end L2
set_option Elab.async false
set_option linter.all false
set_option maxRecDepth 100000
set_option maxHeartbeats 4000000
namespace L2
namespace K21
open PySem PySem.Spec PyProof.Rows K1 WL
section
variable {P : Program} {w : World} {K : PySem.W.Frag} {mg : Str → Option Value} {base : Heap} {f : Addr} {fd : FuncData}
/-! ### check_rows -/
abbrev nmCR : List Str := ["rows", "wrong", "row", "cells", "source"]
theorem sc_check_rows : FnScope nmCR ["rows"] (defScope s_check_rows) := ⟨rfl, rfl, rfl, by decide +kernel, rfl, by decide +kernel, by decide +kernel⟩
theorem ok_check_rows (T : Bl mg) (Cf : Cal P w K mg base "first_wrong_row" ["rows"] 4 (spFirst K)) (EB : Er P w K mg base "BadWeb" "index") (EU : Er P w K mg base "UnknownCell" "cell") (F : FnP K "check_rows" "check_rows" s_check_rows f fd) :
    FnOk P w K mg base (L2.CX P w) 5 f fd ["rows"] (spCheckRows K) := by
  obtain ⟨ff, fdf, Gf, gf, kf, bf⟩ := Cf.ex
  obtain ⟨fdB, GB, bB⟩ := EB.ex
  obtain ⟨fdU, GU, bU⟩ := EU.ex
  refine F.ok sc_check_rows (fun vs H Q E h => ?_) (fun cdv A outer s H vs Q E hr h => ?_)
  · obtain ⟨v, rfl, _⟩ := h
    rfl
  · have h2 := hr.mono (show 2 ≤ 4 by decide)
    have nd := sc_check_rows.nd
    refine ⟨_, pss_cons (ps_set (i := 1) nd rfl (Or.inl rfl) (pe_call Gf hr rfl gf kf bf .nil pass0 (pa_cons (pv 0) pa_nil)))
      (pss_cons (ps_if (pt_cmpR op_notN (pv 1) pe_non (nomark _)) (pss_one (ps_raiseV rfl (takes_of rfl rfl rfl rfl) EB.c EB.iC EB.tI GB h2 bB rfl EB.g (pv 1))) pss_nil)
      (pss_cons (ps_setLc (i := 3) (own := [("row", 2)]) (g := gName 2) (tt := tYes) rfl nd rfl rfl (sw_true rfl rfl rfl (by decide +kernel)) (pi_seq (pv 0)) (blkOk_by (N := nmCR) (sc := defScope s_check_rows) (by decide +kernel))
        (fun _ _ _ _ _ => pg_name (i := 2) nd rfl (Or.inl rfl)) (fun _ _ _ _ _ => pts_nil) (fun _ _ _ _ _ => pe_ix (r := rIx K) ix_seq (pv 2) pe_int fun _ _ => rfl))
      (pss_one (ps_for (passes_of rfl) rfl (pi_seq (pv 0)) (pg_name (i := 2) nd rfl (Or.inl rfl))
        (pss_one (ps_for (passes_of rfl) rfl (pi_seq (pe_ix ix_seq (pv 2) pe_int fun _ _ => rfl)) (pg_name (i := 4) nd rfl (Or.inl rfl))
          (pss_one (ps_if (pt_cmpR op_notIn_seq (pv 4) (pv 3) rfl) (pss_one (ps_raiseV rfl (takes_of rfl rfl rfl rfl) EU.c EU.iC EU.tI GU h2 bU rfl EU.g (pv 4))) pss_nil)))))))), ?_⟩
    obtain ⟨v, rfl, hv⟩ := h
    rcases hv with ⟨t, ty, kt, rz⟩ | ⟨ds, hs0, hn, hd, hv⟩
    · refine ⟨_, rfl, v, rfl, .inl ⟨t, ty, kt, fun H1 s1 => ⟨_, rfl, rfl, _, rfl, ?_⟩⟩⟩
      exact ⟨_, rfl, fun H2 d s2 nd2 e2 => rz H2 d (s1.trans s2) e2⟩
    · refine ⟨_, rfl, v, rfl, .inr ⟨ds, hs0, hn, hd, fun H1 s1 => ?_⟩⟩
      rcases hv with ⟨i, ei, rz⟩ | ⟨ei, rs, hl, hg, hU⟩
      · rw [ei]
        exact ⟨_, rfl, rfl, _, rfl, ⟨_, rfl, fun H2 d s2 nd2 e2 => rz H2 d (s1.trans s2) e2⟩⟩
      · rw [ei]
        refine ⟨_, rfl, rfl, _, rfl, iteN rfl ?_⟩
        have hs1 : Seq K H1 v (ds.map Prod.fst) := hs0.same s1
        refine t_next ?_
        dsimp only
        refine t_seqAsg ?_
        refine lc_seq hs1 (fun Q q => ⟨_, rfl, q⟩) (by rw [List.length_map]; omega) (fun i => .str ((rs.map Prod.fst).getD i Str.empty)) (fun i x H' Q' hx s' qq => ?_) (fun c H2 s2 e2 => ?_)
        · rw [List.getElem?_map] at hx
          obtain ⟨d, hdx, rfl⟩ := Option.map_eq_some_iff.mp hx
          have lt : i < rs.length := by
            rw [hl]
            exact (List.getElem?_eq_some_iff.mp hdx).1
          obtain ⟨y, g1, _⟩ := (hg i d rs[i] hdx (List.getElem?_eq_getElem lt)).1
          have e0 : (rs.map Prod.fst).getD i Str.empty = (rs[i]).1 := by
            rw [List.getD_eq_getElem?_getD, List.getElem?_map, List.getElem?_eq_getElem lt]
            rfl
          rw [e0] at qq
          exact ⟨rfl, _, rfl, ((g1.same s1).same s').ix (x := .str (rs[i]).1) rfl (qq H' (Same.refl _))⟩
        · have e3 : H2 c = some (.lst ((rs.map Prod.fst).map .str)) := by
            rw [e2, ← rngS, List.length_map, List.length_map, hl]
          have s12 := s1.trans s2
          show tFor _ _ _ _ _ _
          refine for_seq (hs1.same s2) (fun Q q => ⟨_, rfl, q⟩) (fun i σ H' => Same H2 H' ∧ (∃ o2 o4, σ = [some v, some .non, o2, some (.ref c), o4]) ∧ ∀ x ∈ (rs.take i).flatMap Prod.snd, x ∈ rs.map Prod.fst) ⟨Same.refl _, ⟨_, _, rfl⟩, by simp⟩ (fun i σ H' p => p.1) ?_ ?_
          · rintro i x σ H3 hx ⟨s3, ⟨o2, o4, rfl⟩, hall⟩
            rw [List.getElem?_map] at hx
            obtain ⟨d, hdx, rfl⟩ := Option.map_eq_some_iff.mp hx
            have lt : i < rs.length := by
              rw [hl]
              exact (List.getElem?_eq_some_iff.mp hdx).1
            obtain ⟨⟨y, g1, g2⟩, g3⟩ := hg i d rs[i] hdx (List.getElem?_eq_getElem lt)
            have g1' := ((g1.same s12).same s3)
            have g2' := ((g2.same s12).same s3)
            have split : rs.flatMap Prod.snd = (rs.take i).flatMap Prod.snd ++ ((rs[i]).2 ++ (rs.drop (i + 1)).flatMap Prod.snd) := by
              conv => lhs; rw [← List.take_append_drop i rs, List.drop_eq_getElem_cons lt]
              rw [List.flatMap_append, List.flatMap_cons]
            show tFor _ _ _ _ _ _
            refine for_seq g2' (fun Q q => ⟨_, rfl, g1'.ix (x := y) rfl q⟩) (fun j σ H' => Same H3 H' ∧ (∃ o2 o4, σ = [some v, some .non, o2, some (.ref c), o4]) ∧ ∀ x ∈ (rs[i]).2.take j, x ∈ rs.map Prod.fst) ⟨Same.refl _, ⟨_, _, rfl⟩, by simp⟩ (fun j σ H' p => p.1) ?_ ?_
            · rintro j z σ H4 hz ⟨s4, ⟨o2, o4, rfl⟩, hin⟩
              rw [List.getElem?_map] at hz
              obtain ⟨u, hu, rfl⟩ := Option.map_eq_some_iff.mp hz
              have ltj : j < (rs[i]).2.length := (List.getElem?_eq_some_iff.mp hu).1
              have uj : (rs[i]).2[j] = u := by
                rw [List.getElem?_eq_getElem ltj] at hu
                exact Option.some.inj hu
              refine ⟨_, rfl, _, rfl, c, _, rfl, .inl (SqL.of (s4 _ _ (s3 _ _ e3))), rfl, flat_strs' _, _, rfl, ?_⟩
              have ein : inV (.str u) ((rs.map Prod.fst).map .str) = decide (u ∈ rs.map Prod.fst) := in_strs _ _
              refine ite2 (fun hh => ?_) fun hh => ?_
              · have nin : u ∉ rs.map Prod.fst := by
                  have hh2 : (!inV (.str u) ((rs.map Prod.fst).map .str)) = true := hh
                  rw [ein] at hh2
                  simpa using hh2
                have fu : firstU (rs.map Prod.fst) rs = some u := by
                  unfold firstU
                  rw [split]
                  have e5 : (rs[i]).2 = (rs[i]).2.take j ++ u :: (rs[i]).2.drop (j + 1) := by
                    conv => lhs; rw [← List.take_append_drop j (rs[i]).2, List.drop_eq_getElem_cons ltj, uj]
                  rw [e5, List.append_assoc, List.cons_append, ← List.append_assoc]
                  refine find_at nin fun x hx => ?_
                  rcases List.mem_append.mp hx with hx | hx
                  · exact hall x hx
                  · exact hin x hx
                rcases hU with ⟨u2, e6, rz⟩ | ⟨e6, _⟩
                · rw [fu] at e6
                  cases e6
                  exact ⟨_, rfl, fun H5 d5 s5 nd5 e7 => rz H5 d5 (((s12.trans s3).trans s4).trans s5) e7⟩
                · rw [fu] at e6
                  cases e6
              · have isin : u ∈ rs.map Prod.fst := by
                  by_cases m : u ∈ rs.map Prod.fst
                  · exact m
                  · exfalso
                    refine hh ?_
                    show (!inV (.str u) ((rs.map Prod.fst).map .str)) = true
                    rw [ein, decide_eq_false m]
                    rfl
                refine ⟨s4, ⟨_, _, rfl⟩, fun x hx => ?_⟩
                rw [List.take_succ, hu] at hx
                rcases List.mem_append.mp hx with hx | hx
                · exact hin x hx
                · have e8 : x = u := by simpa using hx
                  rw [e8]
                  exact isin
            · rintro σ H4 ⟨s4, ⟨o2, o4, rfl⟩, hin⟩
              refine ⟨s3.trans s4, ⟨_, _, rfl⟩, fun x hx => ?_⟩
              rw [List.length_map, List.take_length] at hin
              rw [List.take_succ, List.getElem?_eq_getElem lt, List.flatMap_append] at hx
              rcases List.mem_append.mp hx with hx | hx
              · exact hall x hx
              · exact hin x (by simpa using hx)
          · rintro σ H3 ⟨s3, ⟨o2, o4, rfl⟩, hall⟩
            have fn0 : firstU (rs.map Prod.fst) rs = none := by
              unfold firstU
              refine find_none fun x hx => ?_
              refine hall x ?_
              rw [List.length_map, ← hl, List.take_length]
              exact hx
            rcases hU with ⟨u2, e6, rz⟩ | ⟨_, q⟩
            · rw [fn0] at e6
              cases e6
            · exact q H3 (s12.trans s3)
end
end K21
end L2
set_option Elab.async false
set_option linter.all false
set_option maxRecDepth 100000
set_option maxHeartbeats 4000000
namespace L2
namespace K21
open PySem PySem.Spec PyProof.Rows K1 WL
section
variable {P : Program} {w : World} {K : PySem.W.Frag} {mg : Str → Option Value} {base : Heap} {f : Addr} {fd : FuncData}
/-! ### Web.cells_with_source -/
abbrev nmCW : List Str := ["self", "source", "cell"]
theorem sc_cw : FnScope nmCW ["self", "source"] (defScope s_Web_cells_with) := ⟨rfl, rfl, rfl, by decide +kernel, rfl, by decide +kernel, by decide +kernel⟩
theorem ok_cells_with {C : Addr} (T : Bl mg) (W : Wt K mg C) (F : FnP K "cells_with_source" "Web.cells_with_source" s_Web_cells_with f fd) : FnOk P w K mg base CX0 1 f fd ["self", "source"] (spCW K C) := by
  refine F.ok sc_cw (fun vs H Q E h => ?_) (fun cdv A outer s H vs Q E hr h => ?_)
  · obtain ⟨p, z, dx, fs, c, s', ks, rs, rfl, _⟩ := h
    rfl
  · have nd := sc_cw.nd
    refine ⟨_, PSs.nox (pss_one (ps_ret (pe_callTy call_tuple_of rfl T.f_tuple PyProof.Rows.boot_tuple (pa_cons (pe_lc (own := [("cell", 2)]) (g := gName 2)
      (tt := tTest (tOp (rIn K false) (tVar 1) (tDGet (tFld K (tVar 0) "sources_of") (tVar 2)))) rfl nd (pi_tup (pe_fld (pv 0) rfl)) (blkOk_by (N := nmCW) (sc := defScope s_Web_cells_with) (by decide +kernel))
      (fun _ _ _ _ _ => pg_name (i := 2) nd rfl (Or.inl rfl)) (fun _ _ _ _ _ => pts_one (pt_cmpR op_in_seq (pv 1) (pe_dget (hu_of hr) (pe_fld (pv 0) rfl) (pv 2) fun _ _ => rfl) rfl)) (fun _ _ _ _ _ => pv 2)) pa_nil)))), ?_⟩
    obtain ⟨p, z, dx, fs, c, s', ks, rs, rfl, hp, lc, ls, hc, hs, ds, hnd, hl, q⟩ := h
    refine ⟨_, rfl, p, C, dx, fs, _, rfl, hp, W.cl, W.nc, lc, c, rfl, ⟨_, SqT.of hc⟩, fun D nD => ?_⟩
    refine lc_it (walk_tup (xs := (rs.map Prod.fst).map .str)) (fun i H' => Same H H' ∧ H' D = some (.lst ((tgt (rs.take i) z).map .str))) ⟨same_upd nD, upd_same⟩ (fun _ H' _ p => SqT.of (p.1 _ _ hc)) ?_ ?_
    · rintro i x H1 H1' hi ⟨s1, e1⟩ ⟨rfl, hx⟩
      rw [List.getElem?_map, List.getElem?_map] at hx
      obtain ⟨n', hn', rfl⟩ := Option.map_eq_some_iff.mp hx
      obtain ⟨r, hr', rfl⟩ := Option.map_eq_some_iff.mp hn'
      have mem : r ∈ rs := List.mem_of_getElem? hr'
      have ds1 := ds.same s1
      have gs := srcs_at hnd mem
      rcases ds1.get (z := r.1) with ⟨xs, a, g1, g2, g3⟩ | ⟨g1, _⟩
      · rw [gs] at g1
        cases g1
        refine ⟨rfl, _, rfl, _, rfl, p, C, dx, fs, _, rfl, s1 _ _ hp, W.cl, W.ns, ls, _, rfl, s', _, rfl, ?_, a, _, rfl, .inr g3, rfl, flat_strs' _, _, rfl, ?_⟩
        · rw [← g2]
          exact DGet.k (k := kS r.1) (s1 _ _ hs)
        · by_cases m : z ∈ r.2
          · have eb : inV (.str z) (r.2.map V.str) = true := by rw [in_strs, decide_eq_true m]
            refine iteP eb ⟨_, rfl, _, e1, ?_, same_over nD s1, ?_⟩
            · rw [List.length_map, sizeLine_eq]
              unfold tgt
              rw [List.length_map]
              have l1 := List.length_filter_le (fun r : Str × List Str => decide (z ∈ r.2)) (rs.take i)
              rw [List.length_take] at l1
              omega
            · rw [upd_same, tgt_take hr', if_pos m, List.map_append]
              rfl
          · have eb : inV (.str z) (r.2.map V.str) = false := by rw [in_strs, decide_eq_false m]
            refine iteN eb ⟨s1, ?_⟩
            rw [e1, tgt_take hr', if_neg m, List.append_nil]
      · rw [gs] at g1
        cases g1
    · rintro H1 ⟨s1, e1⟩
      rw [List.length_map, List.length_map, List.take_length] at e1
      refine ⟨D, _, rfl, .inl ⟨SqL.of e1, fun l nl => q l _ (s1.trans (same_upd nl)) (s1.free nl) upd_same⟩⟩
end
end K21
end L2
set_option Elab.async false
set_option linter.all false
set_option maxRecDepth 100000
set_option maxHeartbeats 4000000
namespace L2
namespace K21
open PySem PySem.Spec PyProof.Rows K1 WL
section
variable {P : Program} {w : World} {K : PySem.W.Frag} {mg : Str → Option Value} {base : Heap} {f : Addr} {fd : FuncData}
/-! ### Web.__init__ -/
abbrev nmWI : List Str := ["self", "rows", "row", "cell", "told", "source"]
theorem sc_wi : FnScope nmWI ["self", "rows"] (defScope s_Web_init) := ⟨rfl, rfl, rfl, by decide +kernel, rfl, by decide +kernel, by decide +kernel⟩
theorem ok_web_init {C fc : Addr} {fdc : FuncData} (T : Bl mg) (W : Wt K mg C) (Cc : ∃ f fd, FnOk P w K mg base (L2.CX P w) 5 f fd ["rows"] (spCheckRows K) ∧ mg "check_rows" = some (.ref f) ∧ PySem.W.keepIn K (.ref f) = true ∧ Binds K fd ["rows"] [])
    (Gw : FnOk P w K mg base CX0 1 fc fdc ["self", "source"] (spCW K C)) (bw : Binds K fdc ["self", "source"] []) (mw : Meth K C "cells_with_source" fc) (F : FnP K "__init__" "Web.__init__" s_Web_init f fd) : FnOk P w K mg base (L2.CX P w) 6 f fd ["self", "rows"] (spInit K C) := by
  obtain ⟨fr, fdr, Gr, gr, kr, br⟩ := Cc
  refine F.ok sc_wi (fun vs H Q E h => ?_) (fun cdv A outer s H vs Q E hr h => ?_)
  · obtain ⟨p, dx, v, rfl, _⟩ := h
    rfl
  · have nd := sc_wi.nd
    have h1 := hr.mono (show 1 ≤ 5 by decide)
    refine ⟨_, pss_cons (ps_expr (pe_call Gr hr rfl gr kr br .nil (passes_call (takes_of rfl rfl rfl rfl) fun _ _ _ _ h => h) (pa_cons (pv 1) pa_nil)))
      (pss_cons (ps_fld (pv 0) (pe_callTy call_tuple_of rfl T.f_tuple PyProof.Rows.boot_tuple (pa_cons (pe_lc (own := [("row", 2)]) (g := gName 2) (tt := tYes) (te := tOp (rIx K) (tVar 2) (tC (.int 0))) rfl nd (pi_seq (pv 1)) (blkOk_by (N := nmWI) (sc := defScope s_Web_init) (by decide +kernel))
        (fun _ _ _ _ _ => pg_name (i := 2) nd rfl (Or.inl rfl)) (fun _ _ _ _ _ => pts_nil) (fun _ _ _ _ _ => pe_ix (r := rIx K) ix_seq (pv 2) pe_int fun _ _ => rfl)) pa_nil)) rfl)
      (pss_cons (ps_fld (pv 0) (pe_dc (own := [("cell", 3), ("told", 4)]) (g := gSeq K 2 (gCons (gName 3) (gCons (gName 4) gNil))) (tt := tYes) (tk := tVar 3) (tv := tCB (rTupS K) (tCons (tVar 4) tNil)) rfl nd (pi_seq (pv 1)) (blkOk_by (N := nmWI) (sc := defScope s_Web_init) (by decide +kernel))
        (fun _ _ _ _ _ => pg_seq rfl (pgs_cons (pg_name (i := 3) nd rfl (Or.inl rfl)) (pgs_cons (pg_name (i := 4) nd rfl (Or.inl rfl)) pgs_nil))) (fun _ _ _ _ _ => pts_nil) (fun _ _ _ _ _ => pv 3) (fun _ _ _ _ _ => pe_callTy call_tupS rfl T.f_tuple PyProof.Rows.boot_tuple (pa_cons (pv 4) pa_nil))) rfl)
      (pss_cons (ps_fld (pv 0) (pe_callTy call_tuple_of rfl T.f_tuple PyProof.Rows.boot_tuple (pa_cons (pe_lc2 (own := [("cell", 3), ("source", 5)]) (vs1 := [5]) (g := gName 3) (g1 := gName 5) (tt := tYes) (tt1 := tYes) (wi1 := iTup K (tDGet (tFld K (tVar 0) "sources_of") (tVar 3))) (te := tTup (tCons (tVar 5) (tCons (tVar 3) tNil))) rfl nd (pi_tup (pe_fld (pv 0) rfl)) (blkOk_by (N := nmWI) (sc := defScope s_Web_init) (by decide +kernel)) (by decide)
        (fun _ _ _ _ _ => pg_name (i := 3) nd rfl (Or.inl rfl)) (fun _ _ _ _ _ => pts_nil) (fun _ _ _ _ _ => pi_tup (pe_dget (hu_of hr) (pe_fld (pv 0) rfl) (pv 3) fun _ _ => rfl)) (fun _ _ _ _ _ => pg_name (i := 5) nd rfl (Or.inl rfl)) (fun _ _ _ _ _ => pts_nil) (fun _ _ _ _ _ => pe_tup (pa_cons (pv 5) (pa_cons (pv 3) pa_nil)))) pa_nil)) rfl)
      (pss_one (ps_fld (pv 0) (pe_dc (own := [("cell", 3)]) (g := gName 3) (tt := tYes) (tk := tVar 3) (tv := tMeth C "cells_with_source" (spCW K C) [] E0 (tVar 0) (tCons (tVar 3) tNil)) rfl nd (pi_tup (pe_fld (pv 0) rfl)) (blkOk_by (N := nmWI) (sc := defScope s_Web_init) (by decide +kernel))
        (fun _ _ _ _ _ => pg_name (i := 3) nd rfl (Or.inl rfl)) (fun _ _ _ _ _ => pts_nil) (fun _ _ _ _ _ => pv 3) (fun _ _ _ _ _ => pe_meth (pv 0) W.cl mw Gw h1 bw .nil pass0 (pa_cons (pv 3) pa_nil))) rfl))))), ?_⟩
    obtain ⟨p, dx, v, rfl, hp, hb | ⟨xs, rs, hsh, hrh, g, q⟩⟩ := h
    · refine ⟨_, rfl, ?_⟩
      refine t_nil ?_
      dsimp only
      exact hb _
    · have hs : Seq K H v xs := hsh.same hide_le
      have hrow : Paired (RowG K H) xs rs := Paired.imp (fun _ _ r => r.same hide_le) hrh
      refine ⟨_, rfl, ?_⟩
      refine t_nil ?_
      dsimp only
      refine good_check hs hrow g fun H1 s1 => ?_
      have hlen : xs.length = rs.length := Paired.length hrow
      have hp1 := s1 _ _ hp
      -- self.cells
      refine t_seqFld ?_
      refine t_cb1 ?_
      refine lc_seq (hs.same s1) (fun Q q => ⟨_, rfl, q⟩) (by have := g.ln; omega) (fun i => .str ((rs.map Prod.fst).getD i Str.empty)) (fun i x H' Q' hx s' qq => ?_) (fun D H2 s2 e2 => ?_)
      · obtain ⟨r, hr, y, g1, _⟩ := Paired.getL hrow hx
        have e0 : (rs.map Prod.fst).getD i Str.empty = r.1 := by
          rw [List.getD_eq_getElem?_getD, List.getElem?_map, hr]
          rfl
        rw [e0] at qq
        exact ⟨rfl, _, rfl, ((g1.same s1).same s').ix (x := .str r.1) rfl (qq H' (Same.refl _))⟩
      have e3 : H2 D = some (.lst ((rs.map Prod.fst).map .str)) := by
        rw [e2, ← rngS, List.length_map, hlen]
      refine ⟨D, _, rfl, .inl ⟨SqL.of e3, fun c nc => ?_⟩⟩
      have s12 := s1.trans s2
      have pc : c ≠ p := fun z => by
        rw [z, s2 _ _ hp1] at nc
        cases nc
      have hcH : H2 c = none := nc
      refine ⟨_, rfl, p, C, dx, [], rfl, same_upd nc _ _ (s2 _ _ hp1), W.cl, W.nc, by decide, ?_⟩
      have sA : Same (hide p H) (hide p (upd (upd H2 c (.tup ((rs.map Prod.fst).map .str))) p (.ins C dx (putF "cells" (.ref c) [])))) := by
        rw [hide_updp]
        exact (hide_same s12).trans (hide_same (same_upd nc))
      have eA : (upd (upd H2 c (.tup ((rs.map Prod.fst).map .str))) p (.ins C dx (putF "cells" (.ref c) []))) p = some (.ins C dx (putF "cells" (.ref c) [])) := upd_same
      have cA : hide p (upd (upd H2 c (.tup ((rs.map Prod.fst).map .str))) p (.ins C dx (putF "cells" (.ref c) []))) c = some (.tup ((rs.map Prod.fst).map .str)) := by
        rw [hide_updp, hide_ne pc]
        exact upd_same
      generalize upd (upd H2 c (.tup ((rs.map Prod.fst).map .str))) p (.ins C dx (putF "cells" (.ref c) [])) = HA at sA eA cA ⊢
      clear e3 e2 s2 s12 nc hcH
      -- self.sources_of
      refine t_seqFld ?_
      refine dc_seq hsh (sA.trans hide_le) (fun Q q => ⟨_, rfl, q⟩) (fun D i H' => Same HA H' ∧ HA D = none ∧ ∃ kvs, H' D = some (.dK kvs) ∧ WL.DTup K (hide D H') kvs (rs.take i)) (fun D nD => ⟨same_upd nD, nD, [], upd_same, Paired.nil⟩)
        (fun D i H' p => (sA.trans hide_le).trans p.1) (fun D i x H' hx p => ?_) (fun D H' p => ?_)
      · obtain ⟨sB, nD, kvs, eD, dt⟩ := p
        obtain ⟨r, hr, y, g1, g2⟩ := Paired.getL hrh hx
        have sAB := (sA.trans hide_le).trans sB
        refine ⟨_, g1.same sAB, rfl, _, _, rfl, _, _, rfl, rfl, rfl, _, rfl, _, rfl, y, _, rfl, g2.same sAB, fun H3 l s3 sq => ?_⟩
        have e3 := s3 _ _ eD
        refine ⟨kvs, kS r.1, rfl, e3, ?_, same_over nD (sB.trans s3), nD, _, upd_same, ?_⟩
        · rw [dt.len, List.length_take, sizeLine_eq]
          have := g.ln
          omega
        · rw [hide_updp, List.take_succ, hr]
          exact (dt.same (hide_same s3)).snoc (sqt_hideD sq e3) (nodup_take g.nd hr)
      obtain ⟨sB, nD, ks, eD, dt⟩ := p
      rw [hlen, List.take_length] at dt
      have Dp : D ≠ p := fun z => by
        rw [z, eA] at nD
        cases nD
      have eB := sB _ _ eA
      refine ⟨_, rfl, p, C, dx, _, rfl, eB, W.cl, W.ns, (show 1 < 1000 by decide), ?_⟩
      have dtB : WL.DTup K (hide p H') ks rs := (dt.same hide_le).hide eB (fun _ z => nomatch z) (fun _ _ z => nomatch z)
      have sH : Same (hide p H) (hide p (upd H' p (.ins C dx (putF "sources_of" (.ref D) (putF "cells" (.ref c) []))))) := by
        rw [hide_updp]
        exact sA.trans (hide_same sB)
      have cB : hide p (upd H' p (.ins C dx (putF "sources_of" (.ref D) (putF "cells" (.ref c) [])))) c = some (.tup ((rs.map Prod.fst).map .str)) := by
        rw [hide_updp]
        exact hide_same sB _ _ cA
      have kB : hide p (upd H' p (.ins C dx (putF "sources_of" (.ref D) (putF "cells" (.ref c) [])))) D = some (.dK ks) := by
        rw [hide_updp, hide_ne Dp]
        exact eD
      have dB : WL.DTup K (hide p (upd H' p (.ins C dx (putF "sources_of" (.ref D) (putF "cells" (.ref c) []))))) ks rs := by
        rw [hide_updp]
        exact dtB
      have pB : (upd H' p (.ins C dx (putF "sources_of" (.ref D) (putF "cells" (.ref c) [])))) p = some (.ins C dx (putF "sources_of" (.ref D) (putF "cells" (.ref c) []))) := upd_same
      generalize upd H' p (.ins C dx (putF "sources_of" (.ref D) (putF "cells" (.ref c) []))) = HB at sH cB kB dB pB ⊢
      clear dtB eB Dp dt eD sB nD sA eA cA
      have lB1 : (putF "sources_of" (V.ref D) (putF "cells" (.ref c) [])).lookup ("cells" : Str) = some (.ref c) := rfl
      have lB2 : (putF "sources_of" (V.ref D) (putF "cells" (.ref c) [])).lookup ("sources_of" : Str) = some (.ref D) := rfl
      have gsrc : ∀ {H'' : Hp} {r : Str × List Str}, Same HB H'' → r ∈ rs → ∃ a, DGet H'' D (.str r.1) (some (.ref a)) ∧ SqT K H'' a (r.2.map .str) := fun {H'' r} s3 hr => by
        rcases ((dB.same hide_le).same s3).get (z := r.1) with ⟨ys, a, g1, g2, g3⟩ | ⟨g1, _⟩
        · rw [srcs_at g.nd hr] at g1
          cases g1
          refine ⟨a, ?_, g3⟩
          rw [← g2]
          exact DGet.k (k := kS r.1) (s3 _ _ (hide_some kB).2)
        · rw [srcs_at g.nd hr] at g1
          cases g1
      -- self.arrows
      refine t_seqFld ?_
      refine t_cb1 ?_
      refine ⟨_, rfl, p, C, dx, _, _, rfl, pB, W.cl, W.nc, lB1, c, rfl, ⟨_, SqT.of (hide_some cB).2⟩, fun D2 nD2 => ?_⟩
      refine lc2_it (walk_tup (xs := (rs.map Prod.fst).map .str)) (fun i H' => Same HB H' ∧ ∃ av, H' D2 = some (.lst av) ∧ Paired (PairT (hide D2 H')) av (arr (rs.take i))) ⟨same_upd nD2, [], upd_same, Paired.nil⟩ (fun _ H' _ p => SqT.of (p.1 _ _ (hide_some cB).2)) ?_ ?_
      · rintro i x H3 H3' hi ⟨s3, av, e3, d3⟩ ⟨rfl, hx⟩
        rw [List.getElem?_map, List.getElem?_map] at hx
        obtain ⟨n', hn', rfl⟩ := Option.map_eq_some_iff.mp hx
        obtain ⟨r, hr', rfl⟩ := Option.map_eq_some_iff.mp hn'
        have mem : r ∈ rs := List.mem_of_getElem? hr'
        obtain ⟨a, g2, g3⟩ := gsrc s3 mem
        refine ⟨rfl, _, rfl, p, C, dx, _, _, rfl, s3 _ _ pB, W.cl, W.ns, lB2, _, rfl, D, _, rfl, g2, a, rfl, ⟨_, g3⟩, ?_⟩
        have li : i < rs.length := (List.getElem?_eq_some_iff.mp hr').1
        have lr := (g.sr r mem).1
        refine lc2_in (walk_tup (xs := r.2.map .str)) (fun j H' => Same HB H' ∧ ∃ av, H' D2 = some (.lst av) ∧ Paired (PairT (hide D2 H')) av (arr (rs.take i) ++ (r.2.take j).map fun s => (s, r.1))) ⟨s3, av, e3, by simpa using d3⟩ (fun j H' _ p => ?_) ?_ ?_
        · obtain ⟨a', g2', g3'⟩ := gsrc p.1 mem
          have ea : a' = a := by
            rcases (dB.same hide_le).get (z := r.1) with ⟨ys, a2, h1, h2, h3⟩ | ⟨h1, _⟩
            · have k1 := (s3 _ _ (hide_some kB).2)
              have k2 := (p.1 _ _ (hide_some kB).2)
              have w1 := dget_inj g2 k1 (k := kS r.1)
              have w2 := dget_inj g2' k2 (k := kS r.1)
              rw [w1] at w2
              exact (V.ref.inj (Option.some.inj w2)).symm
            · rw [srcs_at g.nd mem] at h1
              cases h1
          rw [← ea]
          exact g3'
        · rintro j x H4 H4' hj ⟨s4, av, e4, d4⟩ ⟨rfl, hx2⟩
          rw [List.getElem?_map] at hx2
          obtain ⟨z, hz, rfl⟩ := Option.map_eq_some_iff.mp hx2
          refine ⟨rfl, _, rfl, _, rfl, (show 2 ≤ sizeLine by decide), fun t nt => ?_⟩
          have e4' := same_upd (o := .tup [.str z, .str r.1]) nt _ _ e4
          have td : t ≠ D2 := fun y => by
            rw [y, e4] at nt
            cases nt
          refine ⟨av, e4', ?_, same_over nD2 (s4.trans (same_upd nt)), _, upd_same, ?_⟩
          · have l1 := Paired.length d4
            have l2 := arr_len (l := rs.take i) fun r hr => (g.sr r (List.mem_of_mem_take hr)).1
            rw [List.length_append, List.length_map, List.length_take] at l1
            rw [List.length_take] at l2
            have := g.ln
            rw [sizeLine_eq]
            have : min i rs.length * 900 ≤ 900 * 900 := Nat.mul_le_mul_right _ (by omega)
            omega
          · rw [hide_updp, List.take_succ, hz, List.map_append, ← List.append_assoc]
            refine Paired.snoc (Paired.imp (fun _ _ r => r.same (hide_same (same_upd nt))) d4) ⟨t, rfl, ?_⟩
            rw [hide_ne td]
            exact upd_same
        · rintro H4 ⟨s4, av, e4, d4⟩
          rw [List.length_map, List.take_length, ← arr_take hr'] at d4
          exact ⟨s4, av, e4, d4⟩
      rintro H3 ⟨s3, av, e3, d3⟩
      rw [List.length_map, List.length_map, List.take_length] at d3
      refine ⟨D2, av, rfl, .inl ⟨SqL.of e3, fun t nt => ?_⟩⟩
      have s3t := s3.trans (same_upd (o := .tup av) nt)
      have tp : t ≠ p := fun z => by
        rw [z, s3 _ _ pB] at nt
        cases nt
      refine ⟨_, rfl, p, C, dx, _, rfl, s3t _ _ pB, W.cl, W.na, (show 2 < 1000 by decide), ?_⟩
      have d3' : Paired (PairT (hide p (upd H3 t (.tup av)))) av (arr rs) := Paired.imp (fun _ _ r => ((r.same hide_le).same (same_upd nt)).hide (s3t _ _ pB) (fun _ z => nomatch z)) d3
      have sC : Same (hide p HB) (hide p (upd (upd H3 t (.tup av)) p (.ins C dx (putF "arrows" (.ref t) (putF "sources_of" (.ref D) (putF "cells" (.ref c) [])))))) := by
        rw [hide_updp]
        exact hide_same s3t
      have dC : Paired (PairT (hide p (upd (upd H3 t (.tup av)) p (.ins C dx (putF "arrows" (.ref t) (putF "sources_of" (.ref D) (putF "cells" (.ref c) []))))))) av (arr rs) := by
        rw [hide_updp]
        exact d3'
      have tC : hide p (upd (upd H3 t (.tup av)) p (.ins C dx (putF "arrows" (.ref t) (putF "sources_of" (.ref D) (putF "cells" (.ref c) []))))) t = some (.tup av) := by
        rw [hide_updp, hide_ne tp]
        exact upd_same
      have pC : (upd (upd H3 t (.tup av)) p (.ins C dx (putF "arrows" (.ref t) (putF "sources_of" (.ref D) (putF "cells" (.ref c) []))))) p = some (.ins C dx (putF "arrows" (.ref t) (putF "sources_of" (.ref D) (putF "cells" (.ref c) [])))) := upd_same
      generalize upd (upd H3 t (.tup av)) p (.ins C dx (putF "arrows" (.ref t) (putF "sources_of" (.ref D) (putF "cells" (.ref c) [])))) = HC at sC dC tC pC ⊢
      clear d3' tp s3t nt d3 e3 s3 gsrc
      have cC := sC _ _ cB
      have kC := sC _ _ kB
      have dsC := dB.same sC
      have lC1 : (putF "arrows" (V.ref t) (putF "sources_of" (V.ref D) (putF "cells" (.ref c) []))).lookup ("cells" : Str) = some (.ref c) := rfl
      have lC2 : (putF "arrows" (V.ref t) (putF "sources_of" (V.ref D) (putF "cells" (.ref c) []))).lookup ("sources_of" : Str) = some (.ref D) := rfl
      have lC3 : (putF "arrows" (V.ref t) (putF "sources_of" (V.ref D) (putF "cells" (.ref c) []))).lookup ("cells_with_source" : Str) = none := rfl
      -- self.targets_of
      refine t_fld ?_
      refine ⟨_, rfl, p, C, dx, _, _, rfl, pC, W.cl, W.nc, lC1, c, rfl, ⟨_, SqT.of (hide_some cC).2⟩, fun D3 nD3 => ?_⟩
      refine dc_it (walk_tup (xs := (rs.map Prod.fst).map .str)) (fun i H' => Same HC H' ∧ ∃ kvs, H' D3 = some (.dK kvs) ∧ WL.DTup K (hide D3 H') kvs ((rs.take i).map fun r => (r.1, tgt rs r.1))) ⟨same_upd nD3, [], upd_same, Paired.nil⟩ (fun _ H' _ p => SqT.of (p.1 _ _ (hide_some cC).2)) ?_ ?_
      · rintro i x H3 H3' hi ⟨s3, kvs, e3, d3⟩ ⟨rfl, hx⟩
        rw [List.getElem?_map, List.getElem?_map] at hx
        obtain ⟨n', hn', rfl⟩ := Option.map_eq_some_iff.mp hx
        obtain ⟨r, hr', rfl⟩ := Option.map_eq_some_iff.mp hn'
        refine ⟨rfl, _, rfl, _, rfl, p, dx, _, rfl, s3 _ _ pC, lC3, _, rfl, p, r.1, dx, _, c, D, ks, rs, rfl, s3 _ _ pC, lC1, lC2, s3 _ _ (hide_some cC).2, s3 _ _ (hide_some kC).2, (dsC.same hide_le).same s3, g.nd, g.ln, fun q2 H4 s4 nq eq => ?_⟩
        have e4 := s4 _ _ e3
        refine ⟨kvs, kS r.1, rfl, e4, ?_, same_over nD3 (s3.trans s4), _, upd_same, ?_⟩
        · rw [d3.len, List.length_map, List.length_take, sizeLine_eq]
          have := g.ln
          omega
        · rw [hide_updp, List.take_succ, hr', List.map_append]
          refine (d3.same (hide_same s4)).snoc (sqt_hideD (SqT.of eq) e4) ?_
          rw [List.map_map]
          exact nodup_take g.nd hr'
      · rintro H3 ⟨s3, kvs, e3, d3⟩
        rw [List.length_map, List.length_map, List.take_length] at d3
        have e3p := s3 _ _ pC
        refine ⟨_, rfl, p, C, dx, _, rfl, e3p, W.cl, W.nt, (show 3 < 1000 by decide), ?_⟩
        have s4 : Same (hide p HC) (hide p (upd H3 p (.ins C dx (putF "targets_of" (.ref D3) (putF "arrows" (.ref t) (putF "sources_of" (.ref D) (putF "cells" (.ref c) []))))))) := by
          rw [hide_updp]
          exact hide_same s3
        have D3p : D3 ≠ p := fun z => by
          rw [z, pC] at nD3
          cases nD3
        refine q _ ((sH.trans sC).trans s4) ⟨dx, c, D, t, D3, ks, kvs, av, ⟨upd_same, (hide_some (s4 _ _ cC)).2, (hide_some (s4 _ _ kC)).2, (dsC.same s4).same hide_le, (hide_some (s4 _ _ tC)).2, Paired.imp (fun _ _ r => (r.same s4).same hide_le) dC, ?_, ?_⟩⟩
        · rw [upd_ne D3p]
          exact e3
        · have d4 : WL.DTup K (hide p (upd H3 p (.ins C dx (putF "targets_of" (.ref D3) (putF "arrows" (.ref t) (putF "sources_of" (.ref D) (putF "cells" (.ref c) []))))))) kvs (rs.map fun r => (r.1, tgt rs r.1)) := by
            rw [hide_updp]
            exact (d3.same hide_le).hide e3p (fun _ z => nomatch z) (fun _ _ z => nomatch z)
          exact d4.same hide_le
end
end K21
end L2
set_option Elab.async false
set_option linter.all false
set_option maxRecDepth 100000
set_option maxHeartbeats 4000000
namespace L2
namespace K21
open PySem PySem.Spec PyProof.Rows K1 WL
section
variable {P : Program} {w : World} {K : PySem.W.Frag} {mg : Str → Option Value} {base : Heap} {f : Addr} {fd : FuncData}
/-! ### Web.__contains__, __len__, __iter__ -/
theorem sc_con : FnScope ["self", "x"] ["self", "x"] (defScope s_Web_contains) := ⟨rfl, rfl, rfl, by decide +kernel, rfl, by decide +kernel, by decide +kernel⟩
theorem ok_con {C : Addr} (T : Bl mg) (W : Wt K mg C) (Cn : Cal P w K mg base "is_name" ["thing"] 1 (spIsName K)) (F : FnP K "__contains__" "Web.__contains__" s_Web_contains f fd) : FnOk P w K mg base CX0 2 f fd ["self", "x"] (spCon K C) := by
  refine F.ok sc_con (fun vs H Q E h => ?_) (fun cdv A outer s H vs Q E hr h => ?_)
  · obtain ⟨p, x, b, rs, rfl, _⟩ := h
    rfl
  · refine ⟨_, PSs.nox (pss_one (ps_ret (pe_and (pe_callB call_isi rfl T.f_isinstance boot_isinstance (pa_cons (pv 1) (pa_cons (pe_bltn (v := .ty "str") rfl T.f_str PyProof.Rows.boot_str rfl) pa_nil))) (pe_one (pe_cmp (pc_din (hu_of hr) (pv 1) (pe_fld (pv 0) rfl)) rfl))))), ?_⟩
    obtain ⟨p, x, b, rs, rfl, hw, g, hn, q⟩ := h
    have q1 := q H (Same.refl H)
    obtain ⟨i1, i2⟩ := isn_in g hn
    rcases hn with ⟨z, rfl, hz, _⟩ | ⟨t, ty, kt, eb⟩
    · refine ⟨_, rfl, _, .ty "str", _, _, true, rfl, .ty "str", .base (.str z), kit_ty (by decide +kernel), true, rfl, ?_⟩
      obtain ⟨dx, c, s', a, t, ks, kt, av, W1⟩ := hw
      refine ⟨_, rfl, _, rfl, p, C, dx, _, _, rfl, W1.ob, W.cl, W.ns, rfl, s', _, rfl, DGet.k (k := kS z) W1.hs, ?_⟩
      have e : (valV ks (kS z)).isSome = inWeb rs (.str z) := by
        rcases W1.ds.get (z := z) with ⟨xs, a', g1, g2, _⟩ | ⟨g1, g2⟩
        · rw [g2]
          symm
          refine decide_eq_true ?_
          obtain ⟨p', hp', rfl, _⟩ := srcs_mem g1
          exact List.mem_map.mpr ⟨p', hp', rfl⟩
        · rw [g2]
          symm
          exact decide_eq_false (srcs_none.mp g1)
      rw [e]
      exact q1
    · rw [i1 eb] at q1
      exact ⟨_, rfl, _, .ty "str", t, _, false, rfl, .ty "str", ty, kt, false, rfl, q1⟩
theorem sc_len : FnScope ["self"] ["self"] (defScope s_Web_len) := ⟨rfl, rfl, rfl, by decide +kernel, rfl, by decide +kernel, by decide +kernel⟩
theorem ok_len {C : Addr} (T : Bl mg) (W : Wt K mg C) (F : FnP K "__len__" "Web.__len__" s_Web_len f fd) : FnOk P w K mg base CX0 1 f fd ["self"] (spLenW K C) := by
  refine F.ok sc_len (fun vs H Q E h => ?_) (fun cdv A outer s H vs Q E hr h => ?_)
  · obtain ⟨p, rs, rfl, _⟩ := h
    rfl
  · refine ⟨_, PSs.nox (pss_one (ps_ret (pe_callB call_len rfl T.f_len boot_len (pa_cons (pe_fld (pv 0) rfl) pa_nil)))), ?_⟩
    obtain ⟨p, rs, rfl, ⟨dx, c, s', a, t, ks, kt, av, W1⟩, q⟩ := h
    refine ⟨_, rfl, p, C, dx, _, _, rfl, W1.ob, W.cl, W.nc, rfl, .ref c, rs.length, rfl, .inr ⟨_, SqT.of W1.hc, by rw [List.length_map, List.length_map]⟩, q⟩
theorem sc_iter : FnScope ["self"] ["self"] (defScope s_Web_iter) := ⟨rfl, rfl, rfl, by decide +kernel, rfl, by decide +kernel, by decide +kernel⟩
theorem own_it {C : Addr} (T : Bl mg) (W : Wt K mg C) (M : Spc K C "__iter__" f) (b : Binds K fd ["self"] []) (F : FnP K "__iter__" "Web.__iter__" s_Web_iter f fd) : OwnIt P w K mg base C f fd "cells" :=
  ⟨M, b, fun A outer s H p dx t fs zs Q E hr e0 hb hp hl ht q => run_at (k := 0) (vs := [.ref p]) F sc_iter rfl hr e0 hb (.cons (show RelV (.ref p) (.ref p) from rfl) .nil) fun cdv hr' => ⟨_, pss_one (ps_ret (pe_callB call_iterT rfl T.f_iter PyProof.Rows.boot_iter (pa_cons (pe_fld (pv 0) rfl) pa_nil))),
    ⟨_, rfl, p, C, dx, fs, _, rfl, hp, W.cl, W.nc, hl, t, zs, rfl, ht, fun it n1 n2 => q it n1 n2⟩⟩⟩
end
end K21
end L2
set_option Elab.async false
set_option linter.all false
set_option maxRecDepth 100000
set_option maxHeartbeats 4000000
namespace L2
namespace K21
open PySem PySem.Spec PyProof.Rows K1 WL
section
variable {P : Program} {w : World} {K : PySem.W.Frag} {mg : Str → Option Value} {base : Heap} {f : Addr} {fd : FuncData}
/-! ### Web.__eq__ -/
theorem sc_eq : FnScope ["self", "other"] ["self", "other"] (defScope s_Web_eq) := ⟨rfl, rfl, rfl, by decide +kernel, rfl, by decide +kernel, by decide +kernel⟩
theorem ok_eq {C : Addr} (T : Bl mg) (W : Wt K mg C) (Wi : Wk K C) (F : FnP K "__eq__" "Web.__eq__" s_Web_eq f fd) : FnOk P w K mg base CX0 1 f fd ["self", "other"] (spEqW K C) := by
  refine F.ok sc_eq (fun vs H Q E h => ?_) (fun cdv A outer s H vs Q E hr h => ?_)
  · obtain ⟨p, y, rs, rfl, _⟩ := h
    rfl
  · have hu65 : (A.deeper (envOfC "Web.__eq__" (defScope s_Web_eq) s.heap.objs.size f cdv)).units + 65 < cLine := by
      have := hr.un
      omega
    refine ⟨_, PSs.nox (pss_one (ps_ret (pe_and (pe_callB call_isi rfl T.f_isinstance boot_isinstance (pa_cons (pv 1) (pa_cons (pe_glob (v := .ref C) rfl W.mg rfl (by decide +kernel)) pa_nil)))
      (pe_and (pe_cmpR (op_eqD hr.units) (pe_fld (pv 0) rfl) (pe_fld (pv 1) rfl) (nomark _)) (pe_one (pe_cmpR (op_eqDT hu65) (pe_fld (pv 0) rfl) (pe_fld (pv 1) rfl) (nomark _))))))), ?_⟩
    obtain ⟨p, y, rs, rfl, ⟨dx, c, s', a, t, ks, kt, av, W1⟩, ok, hy⟩ := h
    rcases hy with ⟨ty, tx, kt', q⟩ | ⟨p2, qs, rfl, ⟨dx2, c2, s2, a2, t2, ks2, kt2, av2, W2⟩, ok2, q⟩
    · exact ⟨_, rfl, _, .ref C, ty, _, false, rfl, .own C, tx, kt', false, rfl, q⟩
    · refine ⟨_, rfl, _, .ref C, .ref C, _, true, rfl, .own C, Wi.ins W2.ob, Wi.self, true, rfl, ?_⟩
      refine ⟨_, rfl, p, C, dx, _, _, rfl, W1.ob, W.cl, W.nc, rfl, _, rfl, p2, C, dx2, _, _, rfl, W2.ob, W.cl, W.nc, rfl, .tuple (dS (rs.map Prod.fst)), .tuple (dS (qs.map Prod.fst)), .tup (SqT.of W1.hc) (dp_strs _), .tup (SqT.of W2.hc) (dp_strs _), shape_tup ok.1, shape_tup ok2.1, _, rfl, ?_⟩
      have e1 : PyData.eqv (.tuple (dS (rs.map Prod.fst))) (.tuple (dS (qs.map Prod.fst))) = decide (rs.map Prod.fst = qs.map Prod.fst) := eqv_strs _ _
      have e2 : wEq rs qs = (PyData.eqv (.tuple (dS (rs.map Prod.fst))) (.tuple (dS (qs.map Prod.fst))) && dEq rs qs) := by rw [e1]; rfl
      rw [e2] at q
      cases hh : PyData.eqv (.tuple (dS (rs.map Prod.fst))) (.tuple (dS (qs.map Prod.fst))) with
      | false =>
        rw [hh] at q
        exact q
      | true =>
        rw [hh] at q
        exact ⟨_, rfl, p, C, dx, _, _, rfl, W1.ob, W.cl, W.ns, rfl, _, rfl, p2, C, dx2, _, _, rfl, W2.ob, W.cl, W.ns, rfl, s', s2, ks, ks2, rs, qs, rfl, rfl, W1.hs, W2.hs, W1.ds, W2.ds, ok.2, ok2.2, q⟩
/-! ### check_cells, Web.sources, Web.targets -/
abbrev nmCC : List Str := ["web", "things", "thing"]
theorem sc_cc : FnScope nmCC ["web", "things"] (defScope s_check_cells) := ⟨rfl, rfl, rfl, by decide +kernel, rfl, by decide +kernel, by decide +kernel⟩
theorem ok_cc {C fc : Addr} {fdc : FuncData} (T : Bl mg) (M : Spc K C "__contains__" fc) (Gc : FnOk P w K mg base CX0 2 fc fdc ["self", "x"] (spCon K C)) (bc : Binds K fdc ["self", "x"] []) (EU : Er P w K mg base "UnknownCell" "cell") (F : FnP K "check_cells" "check_cells" s_check_cells f fd) :
    FnOk P w K mg base (L2.CX P w) 3 f fd ["web", "things"] (spCC K C (He.ga K "UnknownCell")) := by
  obtain ⟨fdU, GU, bU⟩ := EU.ex
  refine F.ok sc_cc (fun vs H Q E h => ?_) (fun cdv A outer s H vs Q E hr h => ?_)
  · obtain ⟨p, v, xs, rs, rfl, _⟩ := h
    rfl
  · have nd := sc_cc.nd
    refine ⟨_, pss_one (ps_for (passes_of rfl) rfl (pi_seq (pv 1)) (pg_name (i := 2) nd rfl (Or.inl rfl))
      (pss_one (ps_if (pt_cmpR (op_notInO M Gc hr bc pass0) (pv 2) (pv 0) rfl) (pss_one (ps_raiseV rfl (takes_of rfl rfl rfl rfl) EU.c EU.iC EU.tI GU hr bU rfl EU.g (pv 2))) pss_nil))), ?_⟩
    obtain ⟨p, v, xs, rs, rfl, hs, hw, g, hx, hU⟩ := h
    show tFor _ _ _ _ _ _
    refine for_seq hs (fun Q q => ⟨_, rfl, q⟩) (fun i σ H' => Same H H' ∧ (∃ o, σ = [some (.ref p), some v, o]) ∧ (xs.take i).all (inWeb rs) = true) ⟨Same.refl H, ⟨_, rfl⟩, by simp⟩ (fun i σ H' p => p.1) ?_ ?_
    · rintro i x σ H1 hxi ⟨s1, ⟨o, rfl⟩, hall⟩
      obtain ⟨b, hb⟩ := hx x (List.mem_of_getElem? hxi)
      have hw1 := hw.same s1
      obtain ⟨dx, c, s', a, t, ks, kt, av, W1⟩ := id hw1
      refine ⟨_, rfl, _, rfl, p, dx, _, rfl, W1.ob, p, x, b, rs, rfl, hw1, g, hb.same s1, fun H2 s2 => ⟨_, rfl, _, rfl, ?_⟩⟩
      have tk : xs.take (i + 1) = xs.take i ++ [x] := by rw [List.take_succ, hxi]; rfl
      have split : xs = xs.take i ++ x :: xs.drop (i + 1) := by
        have lt : i < xs.length := (List.getElem?_eq_some_iff.mp hxi).1
        conv => lhs; rw [← List.take_append_drop i xs, List.drop_eq_getElem_cons lt]
        rw [List.getElem?_eq_getElem lt] at hxi
        rw [Option.some.inj hxi]
      refine ite2 (fun hh => ?_) fun hh => ?_
      · have hx0 : inWeb rs x = false := by
          have hh2 : (!inWeb rs x) = true := hh
          simpa using hh2
        have fu : xs.find? (fun x => !inWeb rs x) = some x := by
          rw [split, List.find?_append]
          have e1 : (xs.take i).find? (fun x => !inWeb rs x) = none := by
            rw [List.find?_eq_none]
            intro y hy
            have := List.all_eq_true.mp hall y hy
            simp [this]
          rw [e1, List.find?_cons, hx0]
          rfl
        rcases hU with ⟨ha, _⟩ | ⟨x2, e2, rz⟩
        · exfalso
          rw [split, List.all_append, List.all_cons, hx0, Bool.false_and, Bool.and_false] at ha
          cases ha
        · rw [fu] at e2
          cases e2
          exact ⟨_, rfl, fun H5 d5 s5 nd5 e7 => rz H5 d5 ((s1.trans s2).trans s5) e7⟩
      · have hx1 : inWeb rs x = true := by
          cases z : inWeb rs x with
          | true => rfl
          | false =>
            exfalso
            refine hh ?_
            show (!inWeb rs x) = true
            rw [z]
            rfl
        refine ⟨s1.trans s2, ⟨_, rfl⟩, ?_⟩
        rw [tk, List.all_append, hall, List.all_cons, hx1]
        rfl
    · rintro σ H1 ⟨s1, ⟨o, rfl⟩, hall⟩
      rw [List.take_length] at hall
      rcases hU with ⟨_, q⟩ | ⟨x2, e2, rz⟩
      · exact q H1 s1
      · exfalso
        have := List.find?_some e2
        rw [List.all_eq_true.mp hall x2 (List.mem_of_find?_eq_some e2)] at this
        cases this
theorem cc_one {C CU p : Addr} {x : V} {b : Bool} {rs : Rws} {H : Hp} {Q : VK} {E : XK} {T1 : Addr} (hw : IsWeb K H C p rs) (g : Good rs) (hb : IsN K H x b) (nt : H T1 = none)
    (h : (inWeb rs x = true ∧ ∀ H', Same (upd H T1 (.tup [x])) H' → Q .non H') ∨ (inWeb rs x = false ∧ Rz H E CU "cell" x)) : spCC K C CU [.ref p, .ref T1] (upd H T1 (.tup [x])) Q E := by
  have s1 := same_upd (o := .tup [x]) nt
  refine ⟨p, .ref T1, [x], rs, rfl, ⟨T1, rfl, .inr (SqT.of upd_same)⟩, hw.same s1, g, fun y hy => ?_, ?_⟩
  · have : y = x := by simpa using hy
    rw [this]
    exact ⟨b, hb.same s1⟩
  · rcases h with ⟨h1, q⟩ | ⟨h1, rz⟩
    · exact .inl ⟨by rw [List.all_cons, h1]; rfl, q⟩
    · exact .inr ⟨x, by rw [List.find?_cons, h1]; rfl, rz.up s1⟩
theorem sc_src : FnScope ["self", "cell"] ["self", "cell"] (defScope s_Web_sources) := ⟨rfl, rfl, rfl, by decide +kernel, rfl, by decide +kernel, by decide +kernel⟩
theorem ok_sources {C : Addr} (T : Bl mg) (W : Wt K mg C) (Cc : ∃ f fd, FnOk P w K mg base (L2.CX P w) 3 f fd ["web", "things"] (spCC K C (He.ga K "UnknownCell")) ∧ mg "check_cells" = some (.ref f) ∧ PySem.W.keepIn K (.ref f) = true ∧ Binds K fd ["web", "things"] [])
    (F : FnP K "sources" "Web.sources" s_Web_sources f fd) : FnOk P w K mg base (L2.CX P w) 4 f fd ["self", "cell"] (spSrc K C (He.ga K "UnknownCell") id) := by
  obtain ⟨fr, fdr, Gr, gr, kr, br⟩ := Cc
  refine F.ok sc_src (fun vs H Q E h => ?_) (fun cdv A outer s H vs Q E hr h => ?_)
  · obtain ⟨p, x, b, rs, rfl, _⟩ := h
    rfl
  · refine ⟨_, pss_cons (ps_expr (pe_call Gr hr rfl gr kr br .nil (passes_call (takes_of rfl rfl rfl rfl) fun _ _ _ _ h => h) (pa_cons (pv 0) (pa_cons (pe_tup (pa_cons (pv 1) pa_nil)) pa_nil))))
      (pss_one (ps_ret (pe_dget (hu_of hr) (pe_fld (pv 0) rfl) (pv 1) fun _ _ => rfl))), ?_⟩
    obtain ⟨p, x, b, rs, rfl, hw, g, hb, h⟩ := h
    refine ⟨_, rfl, _, rfl, (show 1 ≤ sizeLine by decide), fun T1 nt => ?_⟩
    refine t_nil ?_
    dsimp only
    refine cc_one hw g hb nt ?_
    rcases h with ⟨z, xs, rfl, hz, hm, q⟩ | ⟨h1, rz⟩
    · refine .inl ⟨decide_eq_true hm, fun H' s1 => ?_⟩
      have s2 := (same_upd (o := .tup [.str z]) nt).trans s1
      obtain ⟨dx, c, s', a, t, ks, kt, av, W1⟩ := hw.same s2
      rcases W1.ds.get (z := z) with ⟨ys, a', g1, g2, g3⟩ | ⟨g1, _⟩
      · rw [show srcs rs z = some xs from hz] at g1
        cases g1
        refine ⟨_, rfl, p, C, dx, _, _, rfl, W1.ob, W.cl, W.ns, rfl, _, rfl, s', .ref a', rfl, ?_, q H' a' s2 g3⟩
        rw [← g2]
        exact DGet.k (k := kS z) W1.hs
      · rw [show srcs rs z = some xs from hz] at g1
        cases g1
    · exact .inr ⟨h1, rz⟩
end
end K21
end L2
set_option Elab.async false
set_option linter.all false
set_option maxRecDepth 100000
set_option maxHeartbeats 8000000
namespace L2
namespace K21
open PySem PySem.Spec PyProof.Rows K1 WL TL TX TS
abbrev ENo : XK := fun _ _ _ => False
theorem passNT {X : Cx} : Passes (L2.CX X.prog X.w) X ENo := passes_call takes_none5 fun _ _ _ _ h => h.elim
section
variable {P : Program} {w : World} {K : PySem.W.Frag} {mg : Str → Option Value} {base : Heap} {f : Addr} {fd : FuncData}
/-! ### written -/
abbrev nmWR : List Str := ["thing", "rows", "cell", "row"]
theorem sc_wr : FnScope nmWR ["thing"] (defScope s_written) := ⟨rfl, rfl, rfl, by decide +kernel, rfl, by decide +kernel, by decide +kernel⟩
/-- the lines joined -/
theorem t_linesQ {vs0 : List Nat} {K : PySem.W.Frag} {H : Hp} {a : Addr} {rows : List (List Str)} {vl : List V} {σ : St} {g : TG} {te : TE} {tl : TE} {Q : VK} (e : SqL K H a vl) (hp : Paired (fun v r => Seq K H v (r.map V.str)) vl rows) (h6 : rows.length ≤ 70) (hz : ∀ r ∈ rows, r.length ≤ 902 ∧ ∀ z ∈ r, z.length ≤ 8) (he : ∀ R : VK, R (.ref a) H → tl σ H R)
    (hs : ∀ (i : Nat) v r H' (Q' : VK), vl[i]? = some v → rows[i]? = some r → Same H H' → Seq K H' v (r.map V.str) → (r.map (·.length)).sum + r.length * 1 ≤ 16777216 → (Txt.join " " r).length + 1 ≤ sizeLine → Q' (.str (ln r)) H' → g v (wipe σ vs0) H' fun σ2 H2 => wipe σ2 vs0 = wipe σ vs0 ∧ te σ2 H2 Q')
    (q : ∀ H', Same H H' → Q (.str (txt rows)) H') : tM1 (fun x xs H Q => ∃ a p, ∃ ys : List Str, x = .str a ∧ xs = [.ref p] ∧ (SqL K H p (ys.map V.str) ∨ SqT K H p (ys.map V.str)) ∧ (ys.map (·.length)).sum + ys.length * a.length ≤ 16777216 ∧ Q (.str (Txt.join a ys)) H) (tC (.str (Str.ofString ""))) (tLc (iSeq K tl) g tYes te vs0) σ H Q := by
  have lv := Paired.length hp
  refine ⟨⟨_, rfl⟩, ?_⟩
  refine lc_seq (v := .ref a) (xs := vl) ⟨a, rfl, .inl e⟩ he (by omega) (fun i => .str (ln (rows.getD i []))) (fun i v H' Q' hv s' qq => ?_) (fun D H2 s2 e2 => ?_)
  · obtain ⟨r, er, hr⟩ := Paired.getL hp hv
    have e0 : rows.getD i [] = r := by rw [List.getD_eq_getElem?_getD, er]; rfl
    rw [e0] at qq
    obtain ⟨z1, z2⟩ := hz r (List.mem_of_getElem? er)
    have k1 := row_size z1 z2
    have k2 := join_len " " z2
    have e1 : (" " : Str).length = 1 := rfl
    rw [e1] at k2
    refine hs i v r H' Q' hv er s' (hr.same s') (by omega) ?_ (qq _ (Same.refl _))
    rw [sizeLine_eq]
    omega
  · have e3 : H2 D = some (.lst ((rows.map ln).map V.str)) := by
      rw [e2, lv, rngF (xs := rows) (f := fun r => V.str (ln r)) [], List.map_map]
      rfl
    refine ⟨_, D, rows.map ln, rfl, rfl, .inl (SqL.of e3), ?_, q H2 s2⟩
    have k := rows_size h6 hz
    have e1 : (Str.ofString "").length = 0 := rfl
    rw [e1]
    omega
theorem ok_wr {CW CP fi fs : Addr} {fdi fds : FuncData} (T : Bl mg) (W : Wt K mg CW) (Wi : Wk K CW) (Wp : Pt' K mg CP) (Ip : ∀ {H : Hp} {p dx : Addr} {fl : List (Str × V)}, H p = some (.ins CP dx fl) → TyX K H (.ref p) (.ref CP)) (Iw : PySem.W.kitOne K (.ref CP) (.ref CW) = some false)
    (Mi : OwnIt P w K mg base CW fi fdi "cells") (Ms : Meth K CW "sources" fs) (Gs : FnOk P w K mg base (L2.CX P w) 4 fs fds ["self", "cell"] (spSrc K CW (He.ga K "UnknownCell") id)) (bs : Binds K fds ["self", "cell"] [])
    (F : FnP K "written" "written" s_written f fd) : FnOk P w K mg base CX0 5 f fd ["thing"] (spWr K CW CP) := by
  refine F.ok sc_wr (fun vs H Q E h => ?_) (fun cdv A outer s H vs Q E hr h => ?_)
  · rcases h with ⟨p, rs, rfl, _⟩ | ⟨p, ls, rfl, _⟩ <;> rfl
  · have nd := sc_wr.nd
    have h1 := hr.mono (show 1 ≤ 4 by decide)
    refine ⟨_, PSs.nox (pss_cons (ps_if (pt_val (pe_callB call_isi rfl T.f_isinstance boot_isinstance (pa_cons (pv 0) (pa_cons (pe_glob (v := .ref CW) rfl W.mg rfl (by decide +kernel)) pa_nil))))
        (pss_one (ps_set (i := 1) nd rfl (Or.inl rfl) (pe_op op_cat (pe_lst (pa_cons (pe_tup (pa_cons pe_str pa_nil)) pa_nil)) (pe_lc (own := [("cell", 2)]) (g := gName 2) (tt := tYes) (te := tTup (tCons (tVar 2) (StX.tStar K (tMeth CW "sources" (spSrc K CW (He.ga K "UnknownCell") id) [] ENo (tVar 0) (tCons (tVar 2) tNil)) tNil))) rfl nd (pi_own Mi h1 (pv 0)) (blkOk_by (N := nmWR) (sc := defScope s_written) (by decide +kernel))
          (fun _ _ _ _ _ => pg_name (i := 2) nd rfl (Or.inl rfl)) (fun _ _ _ _ _ => pts_nil) (fun _ _ _ _ _ => pe_tup (pa_cons (pv 2) (StX.pa_star (pe_meth (pv 0) W.cl Ms Gs hr bs .nil passNT (pa_cons (pv 2) pa_nil)) pa_nil)))))))
        (pss_one (ps_set (i := 1) nd rfl (Or.inl rfl) (pe_op op_cat (pe_lst (pa_cons (pe_tup (pa_cons pe_str pa_nil)) pa_nil)) (pe_callTy call_list_of rfl T.f_list PyProof.Rows.boot_list (pa_cons (pe_fld (pv 0) rfl) pa_nil))))))
      (pss_one (ps_ret (pe_join pe_str (pe_lc (own := [("row", 3)]) (g := gName 3) (tt := tYes) (te := tOp (fun x y H Q => ∃ i j, x = .str i ∧ y = .str j ∧ i.length + j.length ≤ sizeLine ∧ Q (.str (i ++ j)) H) (tM1 (fun x xs H Q => ∃ a p, ∃ ys : List Str, x = .str a ∧ xs = [.ref p] ∧ (SqL K H p (ys.map V.str) ∨ SqT K H p (ys.map V.str)) ∧ (ys.map (·.length)).sum + ys.length * a.length ≤ 16777216 ∧ Q (.str (Txt.join a ys)) H) (tC (.str (Str.ofString " "))) (tVar 3)) (tC (.str (Str.ofString "\n")))) rfl nd (pi_seq (pv 1)) (blkOk_by (N := nmWR) (sc := defScope s_written) (by decide +kernel))
          (fun _ _ _ _ _ => pg_name (i := 3) nd rfl (Or.inl rfl)) (fun _ _ _ _ _ => pts_nil) (fun _ _ _ _ _ => pe_op op_add_str (pe_join pe_str (pv 3)) pe_str)))))), ?_⟩
    have tail : ∀ (th : V) (D : Addr) (H1 : Hp) (rows : List (List Str)) (vl : List V) (o2 o3 : Option V), H1 D = some (.lst vl) → Paired (fun v r => Seq K H1 v (r.map V.str)) vl rows → rows.length ≤ 70 → (∀ r ∈ rows, r.length ≤ 902 ∧ ∀ z ∈ r, z.length ≤ 8) → (∀ H', Same H1 H' → Q (.str (txt rows)) H') →
        tRet (tM1 (fun x xs H Q => ∃ a p, ∃ ys : List Str, x = .str a ∧ xs = [.ref p] ∧ (SqL K H p (ys.map V.str) ∨ SqT K H p (ys.map V.str)) ∧ (ys.map (·.length)).sum + ys.length * a.length ≤ 16777216 ∧ Q (.str (Txt.join a ys)) H) (tC (.str (Str.ofString ""))) (tLc (iSeq K (tVar 1)) (gName 3) tYes (tOp (fun x y H Q => ∃ i j, x = .str i ∧ y = .str j ∧ i.length + j.length ≤ sizeLine ∧ Q (.str (i ++ j)) H) (tM1 (fun x xs H Q => ∃ a p, ∃ ys : List Str, x = .str a ∧ xs = [.ref p] ∧ (SqL K H p (ys.map V.str) ∨ SqT K H p (ys.map V.str)) ∧ (ys.map (·.length)).sum + ys.length * a.length ≤ 16777216 ∧ Q (.str (Txt.join a ys)) H) (tC (.str (Str.ofString " "))) (tVar 3)) (tC (.str (Str.ofString "\n")))) [3]))
          { nx := fun _ H' => Q .non H', rt := Q } [some th, some (.ref D), o2, o3] H1 := fun th D H1 rows vl o2 o3 eD hp h6 hz qq => by
      refine t_linesQ (SqL.of eD) hp h6 hz (fun R q => ⟨_, rfl, q⟩) (fun i v r H' Q' hv er s' hr z1 z2 q' => ?_) qq
      obtain ⟨a, rfl, ha⟩ := hr
      exact ⟨rfl, ⟨_, rfl⟩, _, rfl, _, a, r, rfl, rfl, ha, z1, _, _, rfl, rfl, z2, q'⟩
    rcases h with ⟨p, rs, rfl, hw, g, h6, h60, q⟩ | ⟨p, ls, rfl, hp, gp, h6, h60, q⟩
    · obtain ⟨dx, c, s', a, t, ks, kt, av, W1⟩ := id hw
      refine ⟨_, rfl, _, .ref CW, .ref CW, _, true, rfl, .own CW, Wi.ins W1.ob, Wi.self, true, rfl, iteP rfl ?_⟩
      refine t_seqAsg ?_
      refine ⟨(show 1 ≤ sizeLine by decide), fun q1 n1 => ?_⟩
      have s1 := same_upd (o := HO.tup [V.str WEB]) n1
      refine ⟨(show 1 ≤ sizeLine by decide), fun q2 n2 => ?_⟩
      have s2 := same_upd (o := HO.lst [V.ref q1]) n2
      have s12 := s1.trans s2
      have e1 := s2 _ _ (upd_same (H := H) (a := q1) (o := HO.tup [V.str WEB]))
      have e2 : upd (upd H q1 (.tup [V.str WEB])) q2 (.lst [V.ref q1]) q2 = some (.lst [V.ref q1]) := upd_same
      have hw2 := hw.same s12
      have W2 := W1.same s12
      generalize upd (upd H q1 (.tup [V.str WEB])) q2 (.lst [V.ref q1]) = H2 at *
      refine lc_own_rel (SqT.of W2.hc) ⟨p, dx, _, W2.ob, rfl, fun R' q' => ⟨_, rfl, q'⟩⟩ (by rw [List.length_map, List.length_map]; omega) (fun i y H' => ∀ r, rs[i]? = some r → TupT H' y (r.1 :: r.2)) (fun i y H1 H2 h s r e => (h r e).same s) (fun i x H' D zs Q' hx sx nD eD qq => ?_) (fun D H3 ys s3 nD eD ly hy => ?_)
      · rw [List.getElem?_map, List.getElem?_map] at hx
        obtain ⟨z, hz, rfl⟩ := Option.map_eq_some_iff.mp hx
        obtain ⟨r, hr, rfl⟩ := Option.map_eq_some_iff.mp hz
        have mr : r ∈ rs := List.mem_of_getElem? hr
        have mz : r.1 ∈ rs.map Prod.fst := List.mem_map.mpr ⟨r, mr, rfl⟩
        have hw' := hw2.same sx
        refine ⟨rfl, _, rfl, _, rfl, p, dx, _, rfl, sx _ _ W2.ob, rfl, _, rfl, ?_⟩
        refine t_nil ?_
        refine ⟨p, .str r.1, true, rs, rfl, hw', g, good_isN g mz, .inl ⟨r.1, r.2, rfl, srcs_at g.nd mr, mz, fun H5 a5 s5 h5 => ?_⟩⟩
        refine ⟨a5, _, rfl, .inl h5, ?_⟩
        refine ⟨by
          show (V.str r.1 :: (r.2.map V.str ++ [])).length ≤ sizeLine
          rw [List.append_nil, List.length_cons, List.length_map, sizeLine_eq]
          have := h60 r mr
          omega, fun t5 n5 => ?_⟩
        refine qq _ _ (s5.trans (same_upd n5)) fun r' hr' => ?_
        rw [hr] at hr'
        cases hr'
        refine TupT.hide (zs := zs) ⟨t5, rfl, ?_⟩ (same_upd n5 _ _ (s5 _ _ eD))
        rw [upd_same, List.append_nil]
        rfl
      · have lv : ys.length = rs.length := by rw [ly, List.length_map, List.length_map]
        refine ⟨q2, D, _, _, rfl, rfl, s3 _ _ e2, eD, by rw [sizeLine_eq, List.length_singleton]; omega, fun q4 n4 => ?_⟩
        have s4 := same_upd (o := HO.lst ([V.ref q1] ++ ys)) n4
        refine g_nm ?_
        try dsimp only
        refine tail _ q4 _ ([WEB] :: wRows rs) ([V.ref q1] ++ ys) _ _ upd_same ?_ ?_ (fun r m => ?_) fun H' sH => q H' (s12.trans (s3.trans (s4.trans sH)))
        · refine .cons ⟨q1, rfl, .inr (SqT.of (s4 _ _ (s3 _ _ e1)))⟩ ?_
          have hp : Paired (TupT (hide D H3)) ys (wRows rs) := tupTs_of (by unfold wRows; rw [lv, List.length_map]) fun i y l' hy' hl' => by
            unfold wRows at hl'
            rw [List.getElem?_map] at hl'
            obtain ⟨r, er, rfl⟩ := Option.map_eq_some_iff.mp hl'
            exact hy i y hy' r er
          exact Paired.imp (fun _ _ r => ((r.same hide_le).same s4).seq) hp
        · rw [List.length_cons]
          unfold wRows
          rw [List.length_map]
          omega
        · rcases List.mem_cons.mp m with rfl | m
          · exact ⟨by decide, fun z mz => by rw [List.mem_singleton.mp mz]; decide +kernel⟩
          · obtain ⟨r', mr, rfl⟩ := List.mem_map.mp m
            refine ⟨by rw [List.length_cons]; have := h60 r' mr; omega, fun z mz => isNm_len8 ?_⟩
            rcases List.mem_cons.mp mz with rfl | mz
            · exact g.nm r' mr
            · exact good_src g r' mr z mz
    · obtain ⟨dx, u, t, us, ts, uls, w1⟩ := id hp
      refine ⟨_, rfl, _, .ref CW, .ref CP, _, false, rfl, .own CW, Ip w1.ob, Iw, false, rfl, iteN rfl ?_⟩
      refine t_seqAsg ?_
      refine ⟨(show 1 ≤ sizeLine by decide), fun q1 n1 => ?_⟩
      have s1 := same_upd (o := HO.tup [V.str PRG]) n1
      refine ⟨(show 1 ≤ sizeLine by decide), fun q2 n2 => ?_⟩
      have s2 := same_upd (o := HO.lst [V.ref q1]) n2
      have s12 := s1.trans s2
      have e1 := s2 _ _ (upd_same (H := H) (a := q1) (o := HO.tup [V.str PRG]))
      have e2 : upd (upd H q1 (.tup [V.str PRG])) q2 (.lst [V.ref q1]) q2 = some (.lst [V.ref q1]) := upd_same
      have w2 := w1.same s12
      generalize upd (upd H q1 (.tup [V.str PRG])) q2 (.lst [V.ref q1]) = H2 at *
      refine ⟨_, rfl, p, CP, dx, _, _, rfl, w2.ob, Wp.cl, Wp.nl, rfl, t, ts, rfl, .inr (SqT.of w2.ht), fun D nD => ?_⟩
      have s3 := same_upd (o := HO.lst ts) nD
      have lt := Paired.length w1.dt
      refine ⟨q2, D, _, _, rfl, rfl, s3 _ _ e2, upd_same, by rw [sizeLine_eq, List.length_singleton]; omega, fun q4 n4 => ?_⟩
      have s4 := same_upd (o := HO.lst ([V.ref q1] ++ ts)) n4
      refine g_nm ?_
      try dsimp only
      have nmz : ∀ l ∈ ls, ∀ z ∈ l, isNm z = true := fun l m z mz => by
        have := gp.ok l m
        unfold lotOk at this
        rw [Bool.and_eq_true, Bool.and_eq_true] at this
        exact List.all_eq_true.mp this.2.1 z mz
      refine tail _ q4 _ ([PRG] :: ls) ([V.ref q1] ++ ts) _ _ upd_same ?_ (by rw [List.length_cons]; omega) (fun r m => ?_) fun H' sH => q H' (s12.trans (s3.trans (s4.trans sH)))
      · exact .cons ⟨q1, rfl, .inr (SqT.of (s4 _ _ (s3 _ _ e1)))⟩ (Paired.imp (fun _ _ r => ((r.same s3).same s4).seq) w2.dt)
      · rcases List.mem_cons.mp m with rfl | m
        · exact ⟨by decide, fun z mz => by rw [List.mem_singleton.mp mz]; decide +kernel⟩
        · exact ⟨by have := h60 r m; omega, fun z mz => isNm_len8 (nmz r m z mz)⟩
end
end K21
end L2
set_option Elab.async false
set_option linter.all false
set_option maxRecDepth 100000
set_option maxHeartbeats 8000000
namespace L2
namespace K21
open PySem PySem.Spec PyProof.Rows K1 WL TL TX TS SrtR
section
variable {P : Program} {w : World} {K : PySem.W.Frag} {mg : Str → Option Value} {base : Heap} {f : Addr} {fd : FuncData}
theorem nl_lis {H : Hp} {v : V} {ws : List Str} (h : Seq K H v (ws.map .str)) (l : ws.length ≤ 900) (hz : ∀ z ∈ ws, z.length ≤ sizeLine) : NLis K H v (nlS ws) := by
  refine .inr ⟨ws.map .str, ws.map isNm, h, by rw [List.length_map]; exact l, by rw [List.length_map, List.length_map], fun i x b h1 h2 => ?_, (nlS_nl ws).symm⟩
  rw [List.getElem?_map] at h1 h2
  obtain ⟨z, ez, rfl⟩ := Option.map_eq_some_iff.mp h1
  rw [ez] at h2
  exact .inl ⟨z, rfl, hz z (List.mem_of_getElem? ez), (Option.some.inj h2).symm⟩
theorem dec_str (a b : Str) : decide (V.str a = V.str b) = decide (a = b) := decide_eq_decide.mpr ⟨fun h => V.str.inj h, fun h => by rw [h]⟩
theorem len_tlS (z : Str) : z.length = (tl z).length := len_tl z
/-- how many words, how long -/
theorem words_of {l : Str} (h : l.length ≤ 800) (ok : sOk [l]) : (wds l).length ≤ 802 ∧ (∀ z ∈ wds l, z.length ≤ sizeLine) ∧ sOk (wds l) := by
  refine ⟨Nat.le_trans (PyProof.Rows.split_le l " ") (by omega), fun z m => ?_, fun z m c mc => ?_⟩
  · have e := join_split tl_sp kind_sp l
    have k := len_join_mem (y := " ") m
    rw [e] at k
    rw [sizeLine_eq]
    omega
  · exact ok l (List.mem_singleton.mpr rfl) c ((split_sub tl_sp kind_sp m).1 c mc)
theorem t_seqIfT {c : TT} {t e u : TS} {D : Ends} {σ : St} {H : Hp} (h : c σ H fun b H1 => if b = true then t { D with nx := u D } σ H1 else e { D with nx := u D } σ H1) : tSeq (tIfS c t e) u D σ H := h
theorem t_seqAsgT {t : TE} {g : TG} {u : TS} {D : Ends} {σ : St} {H : Hp} (h : t σ H fun x H1 => g x σ H1 (u D)) : tSeq (tAsg t g) u D σ H := h
theorem t_oneAT {te : TE} {g : TG} {D : Ends} {σ : St} {H : Hp} (h : te σ H fun x H1 => g x σ H1 D.nx) : tAsg te g D σ H := h
/-! ### first_wrong_line -/
abbrev nmFW : List Str := ["lines", "cells", "number", "line", "names", "stands"]
theorem sc_fw : FnScope nmFW ["lines"] (defScope s_first_wrong_line) := ⟨rfl, rfl, rfl, by decide +kernel, rfl, by decide +kernel, by decide +kernel⟩
/-- heads of the rows ahead -/
def seenL (ls : List Str) (i : Nat) : List Str := if ls.getD 0 "" = WEB then ((ls.take i).drop 1).map hd0 else []
theorem ok_fw (T : Bl mg) (fs : mg "sorted" = none) (Cm : Cal P w K mg base "is_name_list" ["thing"] 2 (spNameList K)) (F : FnP K "first_wrong_line" "first_wrong_line" s_first_wrong_line f fd) : FnOk P w K mg base CX0 3 f fd ["lines"] (spFwl K) := by
  obtain ⟨fm, fdm, Gm, gm, km, bm⟩ := Cm.ex
  refine F.ok sc_fw (fun vs H Q E h => ?_) (fun cdv A outer s H vs Q E hr h => ?_)
  · obtain ⟨a, ls, rfl, _⟩ := h
    rfl
  · have nd := sc_fw.nd
    have hu0 := hr.units
    have hu : (A.deeper (envOfC "first_wrong_line" (defScope s_first_wrong_line) s.heap.objs.size f cdv)).units + 64 < cLine := by
      have := hr.un
      omega
    refine ⟨_, PSs.nox (pss_cons (ps_set (i := 1) nd rfl (Or.inl rfl) (pe_lst pa_nil))
      (pss_cons (ps_for PassesOwn.never rfl (pi_enumCL rfl T.f_enumerate (pa_cons (pv 0) pa_nil) (pk_cons pe_int pk_nil)) (pg_tup rfl (pgs_cons (pg_name (i := 2) nd rfl (Or.inl rfl)) (pgs_cons (pg_name (i := 3) nd rfl (Or.inl rfl)) pgs_nil)))
        (pss_cons (ps_set (i := 4) nd rfl (Or.inl rfl) (pe_split (pv 3) pe_str))
        (pss_cons (ps_if (pt_cmpR op_eq (pv 2) pe_int (nomark _))
            (pss_one (ps_set (i := 5) nd rfl (Or.inl rfl) (pe_cmpR op_in_seq (pv 3) (pe_tup (pa_cons pe_str (pa_cons pe_str pa_nil))) rfl)))
            (pss_one (ps_if (pt_cmpR op_eq (pe_ix ix_seq (pv 0) pe_int fun _ _ => rfl) pe_str (nomark _))
              (pss_cons (ps_set (i := 5) nd rfl (Or.inl rfl) (pe_and (pe_cmpR op_notIn_seq (pe_ix ix_seq (pv 4) pe_int fun _ _ => rfl) (pv 1) rfl) (pe_and (pe_call Gm hr rfl gm km bm .nil pass0 (pa_cons (pe_slice sl_list (pv 4) po_none (po_some pe_int)) pa_nil)) (pe_one (pe_call Gm hr rfl gm km bm .nil pass0 (pa_cons (pe_slice sl_list (pv 4) (po_some pe_int) po_none) pa_nil))))))
              (pss_one (ps_expr (pe_bm PySem.F.plainAttrs_list PySem.F.slot_list_append PySem.F.type_list_append mt_append (pv 1) (pa_cons (pe_ix ix_seq (pv 4) pe_int fun _ _ => rfl) pa_nil)))))
              (pss_one (ps_set (i := 5) nd rfl (Or.inl rfl) (pe_and (pe_call Gm hr rfl gm km bm .nil pass0 (pa_cons (pv 4) pa_nil)) (pe_one (pe_cmpR (op_eqD hu0) (pv 4) (pe_callB (cr_sortTx rfl hu) rfl fs (by decide +kernel) (pa_cons (pv 4) pa_nil)) (nomark _)))))))))
        (pss_one (ps_if (pt_not (pt_val (pv 5))) (pss_one (ps_ret (pv 2))) pss_nil)))))
      (pss_one (ps_ret pe_non)))), ?_⟩
    obtain ⟨a, ls, rfl, ha, h4, hl, q⟩ := h
    refine t_seqAsg ?_
    refine ⟨(show 0 ≤ sizeLine by decide), fun c nc => ?_⟩
    have nc0 : H c = none := nc
    refine g_nm ?_
    try dsimp only
    refine t_seqF ?_
    refine for_enumCL (c := 1) (xs := ls.map .str) (a := a) (H0 := H) ha (by decide) (fun Q q => ⟨_, rfl, q⟩) (fun Q q => q) (fun i σ H' => Same H H' ∧ (∃ o2 o3 o4 o5, σ = [some (.ref a), some (.ref c), o2, o3, o4, o5]) ∧ H' c = some (.lst ((seenL ls i).map .str)) ∧ ∀ j, j < i → lineOk ls j = true)
      ⟨same_upd nc, ⟨_, _, _, _, rfl⟩, by
        rw [upd_same]
        unfold seenL
        rw [List.take_zero, List.drop_nil]
        split <;> rfl, fun j hj => absurd hj (Nat.not_lt_zero j)⟩ (fun i σ H' p => p.1) ?_ ?_
    · rintro i x σ H1 T1 hx ⟨s1, ⟨o2, o3, o4, o5, rfl⟩, e1, ok1⟩ nT
      rw [List.getElem?_map] at hx
      obtain ⟨l, hz, rfl⟩ := Option.map_eq_some_iff.mp hx
      have lt : i < ls.length := (List.getElem?_eq_some_iff.mp hz).1
      have ml : l ∈ ls := List.mem_of_getElem? hz
      obtain ⟨l8, lo⟩ := hl l ml
      have eg : ls.getD i "" = l := getD_ne hz
      have sT := same_upd (o := HO.tup [.int ((1 + i : Nat) : Int), .str l]) nT
      refine ⟨T1, [.int ((1 + i : Nat) : Int), .str l], rfl, SqT.of upd_same, rfl, _, _, rfl, _, _, rfl, rfl, ?_⟩
      have e2 := sT _ _ e1
      have s2 := s1.trans sT
      generalize upd H1 T1 (.tup [.int ((1 + i : Nat) : Int), .str l]) = H2 at *
      try dsimp only
      refine t_seqAsg ?_
      refine ⟨_, rfl, ⟨_, rfl⟩, l, " ", rfl, rfl, rfl, by rw [sizeLine_eq]; omega, fun p np => ?_⟩
      obtain ⟨w8, wz, wo⟩ := words_of l8 lo
      have w9 : (wds l).length ≤ 900 := by omega
      have sp := same_upd (o := HO.lst ((wds l).map .str)) np
      have ep : upd H2 p (.lst ((wds l).map .str)) p = some (.lst ((wds l).map .str)) := upd_same
      have e3 := sp _ _ e2
      have s3 := s2.trans sp
      have pc : p ≠ c := fun z => by rw [z, e2] at np; cases np
      change tSeq _ _ _ _ (upd H2 p (.lst ((wds l).map .str)))
      generalize upd H2 p (.lst ((wds l).map .str)) = H3 at *
      have ha3 := s3.seq ha
      have c3 : ∀ H', Same H3 H' → H' c = some (.lst ((seenL ls i).map .str)) := fun H' s' => s' _ _ e3
      -- what stands
      refine seq_tailS (fun σ' H' => ∃ b, σ' = [some (.ref a), some (.ref c), some (.int ((1 + i : Nat) : Int)), some (.str l), some (.ref p), some (.bl b)] ∧ b = lineOk ls i ∧ Same H H' ∧ H' c = some (.lst ((seenL ls (i + 1)).map .str))) ?_ fun tail => ?_
      · rintro σ' H' ⟨b, rfl, eb, s4, e4⟩
        refine ⟨_, rfl, b, rfl, ?_⟩
        cases b with
        | false =>
          refine iteP rfl ?_
          refine ⟨_, rfl, ?_⟩
          have e5 : badLine ls = some i := find_range _ lt (by rw [← eb]; rfl) fun j hj => by rw [ok1 j hj]; rfl
          have qq := q H' s4
          rw [e5] at qq
          have e6 : ((1 + i : Nat) : Int) = ((i + 1 : Nat) : Int) := by omega
          rw [e6]
          exact qq
        | true =>
          refine iteN rfl ?_
          refine ⟨s4, ⟨_, _, _, _, rfl⟩, e4, fun j hj => ?_⟩
          rcases Nat.lt_succ_iff_lt_or_eq.mp hj with hj | rfl
          · exact ok1 j hj
          · exact eb.symm
      · refine t_seqIfT ?_
        refine ⟨_, rfl, rfl, _, rfl, ?_⟩
        refine ite2 (fun h => ?_) fun h => ?_
        · have e0 : i = 0 := by
            have := V.int.inj (of_decide_eq_true h)
            omega
          subst e0
          refine t_oneAT ?_
          refine ⟨_, rfl, (show 2 ≤ sizeLine by decide), fun u nu => ?_⟩
          refine ⟨u, [.str WEB, .str PRG], rfl, .inr (SqT.of upd_same), rfl, rfl, ?_⟩
          refine tail _ _ ⟨_, rfl, ?_, s3.trans (same_upd nu), ?_⟩
          · have e5 : inV (.str l) [.str WEB, .str PRG] = decide (l ∈ [WEB, PRG]) := in_strs l [WEB, PRG]
            show inV (.str l) [.str WEB, .str PRG] = _
            rw [e5]
            unfold lineOk
            rw [if_pos rfl, eg]
            by_cases z1 : l = WEB
            · rw [decide_eq_true z1, Bool.true_or, decide_eq_true (by rw [z1]; simp)]
            · by_cases z2 : l = PRG
              · rw [decide_eq_true z2, Bool.or_true, decide_eq_true (by rw [z2]; simp)]
              · rw [decide_eq_false z1, decide_eq_false z2, decide_eq_false (by simp [z1, z2])]
                rfl
          · rw [c3 _ (same_upd nu)]
            congr 2
            unfold seenL
            congr 1
            rw [List.take_zero, List.drop_nil, List.drop_take, Nat.sub_self, List.take_zero]
        · have n0 : i ≠ 0 := fun e => h (decide_eq_true (by rw [e]; rfl))
          obtain ⟨l0, hl0⟩ : ∃ l0, ls[0]? = some l0 := ⟨_, List.getElem?_eq_getElem (by omega)⟩
          have eg0 : ls.getD 0 "" = l0 := getD_ne hl0
          refine t_oneI ?_
          refine ⟨_, rfl, (show Seq K H3 (.ref a) (ls.map .str) from ⟨a, rfl, .inl ha3⟩).ix (x := .str l0) (show atI (ls.map V.str) ((0 : Nat) : Int) = some (.str l0) from atI_nat (by rw [List.getElem?_map, hl0]; rfl)) ⟨rfl, _, rfl, ?_⟩⟩
          obtain ⟨wd, ws, ew⟩ : ∃ wd ws, wds l = wd :: ws := by
            cases e : wds l with
            | nil => exact absurd e (spS_ne l)
            | cons x y => exact ⟨_, _, rfl⟩
          have eh : hd0 l = wd := by unfold hd0; rw [ew]; rfl
          have ix0 : ∀ H', Same H3 H' → Seq K H' (.ref p) ((wds l).map .str) := fun H' s' => ⟨p, rfl, .inl (SqL.of (s' _ _ ep))⟩
          have at0 : atI ((wds l).map V.str) ((0 : Nat) : Int) = some (.str wd) := atI_nat (by rw [ew]; rfl)
          refine ite2 (fun hw => ?_) fun hw => ?_
          · have ew0 : l0 = WEB := V.str.inj (of_decide_eq_true hw)
            have hw0 : ls.getD 0 "" = WEB := eg0.trans ew0
            have es : seenL ls i = ((ls.take i).drop 1).map hd0 := if_pos hw0
            have es1 : seenL ls (i + 1) = seenL ls i ++ [wd] := by
              rw [es, ← eh]
              show (if ls.getD 0 "" = WEB then _ else _) = _
              rw [if_pos hw0, take_at hz, List.drop_append_of_le_length (by rw [List.length_take]; omega), List.map_append]
              rfl
            have eok : lineOk ls i = (!decide (wd ∈ seenL ls i) && (nlS ((wds l).take 1) && nlS ((wds l).drop 1))) := by
              unfold lineOk
              rw [if_neg n0, if_pos hw0, eg, eh, es]
            refine seq_tailS (fun σ' H' => ∃ b, σ' = [some (.ref a), some (.ref c), some (.int ((1 + i : Nat) : Int)), some (.str l), some (.ref p), some (.bl b)] ∧ b = lineOk ls i ∧ Same H3 H') ?_ fun tail2 => ?_
            · rintro σ' H' ⟨b, rfl, eb, s4⟩
              refine ⟨_, rfl, .inl ⟨rfl, _, SqL.of (s4 _ _ e3)⟩, _, rfl, (ix0 H' s4).ix (x := .str wd) at0 ⟨c, _, _, rfl, rfl, s4 _ _ e3, ?_, ?_⟩⟩
              · rw [List.length_map, sizeLine_eq, es, List.length_map, List.length_drop, List.length_take]
                omega
              · refine tail _ _ ⟨b, rfl, eb, same_over nc0 (s3.trans s4), ?_⟩
                rw [upd_same, es1, List.map_append]
                rfl
            refine t_seqAsgT ?_
            refine ⟨_, rfl, (ix0 H3 (Same.refl _)).ix (x := .str wd) at0 ⟨_, rfl, c, _, rfl, .inl (SqL.of e3), rfl, flat_strs' _, _, rfl, ?_⟩⟩
            by_cases m : wd ∈ seenL ls i
            · refine iteN (by rw [in_strs, decide_eq_true m]; rfl) ?_
              exact tail2 _ _ ⟨_, rfl, by rw [eok, decide_eq_true m]; rfl, Same.refl _⟩
            · refine iteP (by rw [in_strs, decide_eq_false m]; rfl) ?_
              refine ⟨_, rfl, 1, rfl, p, _, rfl, SqL.of ep, fun d1 n1 => ?_⟩
              have k1 : cutV ((wds l).map V.str) none (some 1) = ((wds l).take 1).map V.str := by
                have := cut_to (xs := (wds l).map V.str) (i := 1) (by rw [List.length_map, ew, List.length_cons]; omega)
                rw [List.map_take]
                exact this
              have sd1 := same_upd (o := HO.lst (cutV ((wds l).map V.str) none (some 1))) n1
              have ed1 : upd H3 d1 (HO.lst (cutV ((wds l).map V.str) none (some 1))) d1 = some (HO.lst (((wds l).take 1).map V.str)) := by rw [upd_same, k1]
              refine ⟨.ref d1, nlS ((wds l).take 1), rfl, nl_lis ⟨d1, rfl, .inl (SqL.of ed1)⟩ (by rw [List.length_take]; omega) (fun z mz => wz z (List.mem_of_mem_take mz)), fun H4 s4 => ⟨_, rfl, ?_⟩⟩
              cases h1 : nlS ((wds l).take 1) with
              | false =>
                exact tail2 _ _ ⟨_, rfl, by rw [eok, decide_eq_false m, h1]; rfl, sd1.trans s4⟩
              | true =>
                have s34 := sd1.trans s4
                refine ⟨_, rfl, 1, rfl, p, _, rfl, SqL.of (s34 _ _ ep), fun d2 n2 => ?_⟩
                have k2 : cutV ((wds l).map V.str) (some 1) none = ((wds l).drop 1).map V.str := by
                  have := cut_from (xs := (wds l).map V.str) (i := 1) (by rw [List.length_map, ew, List.length_cons]; omega)
                  rw [List.map_drop]
                  exact this
                have sd2 := same_upd (o := HO.lst (cutV ((wds l).map V.str) (some 1) none)) n2
                have ed2 : upd H4 d2 (HO.lst (cutV ((wds l).map V.str) (some 1) none)) d2 = some (HO.lst (((wds l).drop 1).map V.str)) := by rw [upd_same, k2]
                refine ⟨.ref d2, nlS ((wds l).drop 1), rfl, nl_lis ⟨d2, rfl, .inl (SqL.of ed2)⟩ (by rw [List.length_drop]; omega) (fun z mz => wz z (List.mem_of_mem_drop mz)), fun H5 s5 => ?_⟩
                exact tail2 _ _ ⟨_, rfl, by rw [eok, decide_eq_false m, h1]; rfl, s34.trans (sd2.trans s5)⟩
          · have ew0 : ¬ l0 = WEB := fun e => hw (decide_eq_true (by rw [e]))
            have hw0 : ¬ ls.getD 0 "" = WEB := by rw [eg0]; exact ew0
            have es1 : seenL ls (i + 1) = seenL ls i := by
              unfold seenL
              rw [if_neg hw0, if_neg hw0]
            have eok : lineOk ls i = (nlS (wds l) && decide (wds l = sortS (wds l))) := by
              unfold lineOk
              rw [if_neg n0, if_neg hw0, eg]
            refine t_oneAT ?_
            refine ⟨_, rfl, .ref p, nlS (wds l), rfl, nl_lis (ix0 H3 (Same.refl _)) w9 wz, fun H4 s4 => ⟨_, rfl, ?_⟩⟩
            cases h1 : nlS (wds l) with
            | false => exact tail _ _ ⟨_, rfl, by rw [eok, h1]; rfl, s3.trans s4, by rw [s4 _ _ e3, es1]⟩
            | true =>
              refine ⟨_, rfl, _, rfl, p, wds l, rfl, .inl (ix0 H4 s4), by omega, fun d nd' => ?_⟩
              have sd := same_upd (o := HO.lst ((sortS (wds l)).map V.str)) nd'
              have so : sOk (sortS (wds l)) := fun z mz => wo z ((sortS_pm _).mem_iff.mp mz)
              refine ⟨.list (dS (wds l)), .list (dS (sortS (wds l))), .lst (SqL.of (sd _ _ (s4 _ _ ep))) (dp_strs _), .lst (SqL.of upd_same) (dp_strs _), shape_lst wo, shape_lst so, ?_⟩
              refine tail _ _ ⟨_, rfl, ?_, s3.trans (s4.trans sd), by rw [sd _ _ (s4 _ _ e3), es1]⟩
              rw [eok, h1, Bool.true_and]
              exact eqv_strs _ _
    · rintro σ H1 ⟨s1, ⟨o2, o3, o4, o5, rfl⟩, e1, ok1⟩
      rw [List.length_map] at ok1
      have e5 : badLine ls = none := find_none_iff.mpr ok1
      have qq := q H1 s1
      rw [e5] at qq
      exact qq
end
end K21
end L2
set_option Elab.async false
set_option linter.all false
set_option maxRecDepth 100000
set_option maxHeartbeats 8000000
namespace L2
namespace K21
open PySem PySem.Spec PyProof.Rows K1 WL TL TX TS SrtR
section
variable {P : Program} {w : World} {K : PySem.W.Frag} {mg : Str → Option Value} {base : Heap} {f : Addr} {fd : FuncData}
theorem t_bcbT {tl : TE} {σ : St} {H : Hp} {Q : Bool → Hp → Prop} (h : tl σ H fun x H1 => rAny K [x] H1 fun y H2 => ∃ c, y = .bl c ∧ Q c H2) : tB (tCB (rAny K) (tCons tl tNil)) σ H Q := h
/-! ### _law_are_names -/
abbrev nmAN : List Str := ["_law_words", "_law_at", "_law_sign"]
theorem sc_an : FnScope nmAN ["_law_words"] (defScope s_are_names) := ⟨rfl, rfl, rfl, by decide +kernel, rfl, by decide +kernel, by decide +kernel⟩
theorem ok_an (T : Bl mg) (F : FnP K "_law_are_names" "_law_are_names" s_are_names f fd) : FnOk P w K mg base CX0 1 f fd ["_law_words"] (spAre K) := by
  refine F.ok sc_an (fun vs H Q E h => ?_) (fun cdv A outer s H vs Q E hr h => ?_)
  · obtain ⟨a, ws, rfl, _⟩ := h
    rfl
  · have nd := sc_an.nd
    refine ⟨_, PSs.nox (pss_cons (ps_for PassesOwn.never rfl (pi_range1 rfl T.f_range (pa_cons (pe_callB call_len rfl T.f_len boot_len (pa_cons (pv 0) pa_nil)) pa_nil)) (pg_name (i := 1) nd rfl (Or.inl rfl))
        (pss_cons (ps_if (PW.pt (pw_or (pt_not (pt_chain op_lt op_lt pe_int (pe_callB call_len_str rfl T.f_len boot_len (pa_cons (pe_ix ix_seq (pv 0) (pv 1) fun _ _ => rfl) pa_nil)) pe_int)) (pw_or1 (pt_cmpR op_in_seq (pe_ix ix_seq (pv 0) (pv 1) fun _ _ => rfl) (pe_slice sl_list (pv 0) po_none (po_some (pv 1))) rfl)))) (pss_one (ps_ret pe_bl)) pss_nil)
        (pss_one (ps_if (pt_val (pe_callB (cr_any rfl) rfl T.f_any PyProof.Rows.boot_any (pa_cons (pe_lc (own := [("_law_sign", 2)]) (g := gName 2) (tt := tYes) (te := tOp (fun x y H Q => ∃ (c : Nat) (z : Str), x = .str ⟨#[c]⟩ ∧ y = .str z ∧ Q (.bl (!decide (c ∈ z.cps.toList))) H) (tVar 2) (tC (.str AZ))) rfl nd (pi_str (pe_ix ix_seq (pv 0) (pv 1) fun _ _ => rfl)) (blkOk_by (N := nmAN) (sc := defScope s_are_names) (by decide +kernel))
          (fun _ _ _ _ _ => pg_name (i := 2) nd rfl (Or.inl rfl)) (fun _ _ _ _ _ => pts_nil) (fun _ _ _ _ _ => pe_cmpR op_notIn_sign (pv 2) pe_str rfl)) pa_nil))) (pss_one (ps_ret pe_bl)) pss_nil))))
      (pss_one (ps_ret pe_bl))), ?_⟩
    obtain ⟨a, ws, rfl, ha, h9, hz, q⟩ := h
    refine t_seqF ?_
    refine ⟨_, rfl, .ref a, ws.length, rfl, .inl ⟨_, ha, by rw [List.length_map]⟩, _, rfl, by omega, by omega, ?_⟩
    rw [Int.toNat_natCast]
    refine for_range (fun i σ H' => Same H H' ∧ (∃ o1, σ = [some (.ref a), o1, none]) ∧ ∀ j z, j < i → ws[j]? = some z → isNm z = true ∧ z ∉ ws.take j) ⟨Same.refl _, ⟨_, rfl⟩, fun j z hj => absurd hj (Nat.not_lt_zero j)⟩ ?_ ?_
    · rintro i σ H1 hi ⟨s1, ⟨o1, rfl⟩, ok1⟩
      obtain ⟨z, ez⟩ : ∃ z, ws[i]? = some z := ⟨_, List.getElem?_eq_getElem hi⟩
      have mz : z ∈ ws := List.mem_of_getElem? ez
      have z9 := hz z mz
      have ix : ∀ H', Same H H' → ∀ {Q : VK}, Q (.str z) H' → rIx K (.ref a) (.int (0 + (i : Int))) H' Q := fun H' s' Q q => (show Seq K H' (.ref a) (ws.map .str) from ⟨a, rfl, .inl (s'.seq ha)⟩).ix (show atI (ws.map V.str) (0 + (i : Int)) = some (.str z) by rw [Int.zero_add]; exact atI_nat (by rw [List.getElem?_map, ez]; rfl)) q
      refine ⟨_, rfl, _, rfl, ix H1 s1 ⟨z, rfl, Nat.le_trans z9 (by decide), 0, (z.length : Nat), rfl, rfl, decide ((0 : Int) < (z.length : Nat)), rfl, ?_⟩⟩
      have bad : (isNm z = false ∨ z ∈ ws.take i) → ∀ H', Same H H' → Q (.bl false) H' := fun h H' s' => by
        have qq := q H' s'
        rw [nlS_bad ez h] at qq
        exact qq
      have nmF : (isNm z = false) = ((decide (1 ≤ z.length) && (decide (z.length ≤ 8) && z.cps.toList.all okc)) = false) := rfl
      cases e1 : decide ((0 : Int) < (z.length : Nat)) with
      | false =>
        have l0 : ¬ 1 ≤ z.length := fun h => by
          have := of_decide_eq_false e1
          omega
        exact ⟨false, rfl, iteP rfl (iteP rfl (bad (.inl (by rw [nmF, decide_eq_false l0]; rfl)) H1 s1))⟩
      | true =>
        have l0 : 1 ≤ z.length := by
          have := of_decide_eq_true e1
          omega
        refine ⟨(z.length : Nat), 9, rfl, rfl, decide (((z.length : Nat) : Int) < 9), rfl, ?_⟩
        cases e2 : decide (((z.length : Nat) : Int) < 9) with
        | false =>
          have l1 : ¬ z.length ≤ 8 := fun h => by
            have := of_decide_eq_false e2
            omega
          exact iteP rfl (iteP rfl (bad (.inl (by rw [nmF, decide_eq_false l1, Bool.false_and, Bool.and_false])) H1 s1))
        | true =>
          have l1 : z.length ≤ 8 := by
            have := of_decide_eq_true e2
            omega
          refine iteN rfl ?_
          refine ⟨_, rfl, _, rfl, ix H1 s1 ⟨_, rfl, _, rfl, (i : Int), (by rw [Int.zero_add]), a, ws.map .str, rfl, s1.seq ha, fun d nd' => ?_⟩⟩
          rw [cut_to (by rw [List.length_map]; omega), ← List.map_take]
          have sd := same_upd (o := HO.lst ((ws.take i).map V.str)) nd'
          refine ⟨d, _, rfl, .inl (SqL.of upd_same), rfl, flat_strs' _, _, rfl, ?_⟩
          by_cases m : z ∈ ws.take i
          · refine iteP (by show inV (.str z) _ = true; rw [in_strs, decide_eq_true m]) ?_
            exact bad (.inr m) _ (s1.trans sd)
          · refine iteN (by show inV (.str z) _ = false; rw [in_strs, decide_eq_false m]) ?_
            refine t_next ?_
            try dsimp only
            refine t_oneI ?_
            refine t_bcbT ?_
            have s2 := s1.trans sd
            generalize upd H1 d (.lst ((ws.take i).map V.str)) = H2 at *
            refine lc_strF (fun R r => ⟨_, rfl, _, rfl, ix H2 s2 r⟩) (by omega) (fun i => .bl (!okc (z.cps.toList.getD i 0))) (fun j c H' Q' hc s' qq => ?_) (fun D H3 s3 e3 => ?_)
            · have e0 : z.cps.toList.getD j 0 = c := by rw [List.getD_eq_getElem?_getD, hc]; rfl
              rw [e0] at qq
              refine ⟨rfl, _, rfl, c, AZ, rfl, rfl, ?_⟩
              rw [az_ok]
              exact qq _ (Same.refl _)
            · have e4 : H3 D = some (.lst ((z.cps.toList.map fun c => !okc c).map V.bl)) := by
                have el : z.length = z.cps.toList.length := len_tl z
                rw [e3, el, rngF (xs := z.cps.toList) (f := fun c => V.bl (!okc c)) 0, List.map_map]
                rfl
              refine ⟨D, z.cps.toList.map fun c => !okc c, rfl, SqL.of e4, _, rfl, ?_⟩
              have ea : (z.cps.toList.map fun c => !okc c).any id = !z.cps.toList.all okc := by
                rw [List.any_map, List.all_eq_not_any_not, Bool.not_not]
                rfl
              rw [ea]
              cases ha' : z.cps.toList.all okc with
              | false =>
                refine iteP rfl ?_
                exact bad (.inl (by rw [nmF, ha', Bool.and_false, Bool.and_false])) H3 (s2.trans s3)
              | true =>
                refine iteN rfl ⟨s2.trans s3, ⟨_, rfl⟩, fun j y hj ey => ?_⟩
                rcases Nat.lt_succ_iff_lt_or_eq.mp hj with hj | rfl
                · exact ok1 j y hj ey
                · rw [ez] at ey
                  cases ey
                  refine ⟨?_, m⟩
                  show (decide (1 ≤ z.length) && (decide (z.length ≤ 8) && z.cps.toList.all okc)) = true
                  rw [decide_eq_true l0, decide_eq_true l1, ha']
                  rfl
    · rintro σ H1 ⟨s1, ⟨o1, rfl⟩, ok1⟩
      have e : nlS ws = true := nlS_all fun j z hj => ok1 j z (List.getElem?_eq_some_iff.mp hj).1 hj
      have qq := q H1 s1
      rw [e] at qq
      exact qq
end
end K21
end L2
set_option Elab.async false
set_option linter.all false
set_option maxRecDepth 100000
set_option maxHeartbeats 8000000
namespace L2
namespace K21
open PySem PySem.Spec PyProof.Rows K1 WL TL TX TS SrtR
section
variable {P : Program} {w : World} {K : PySem.W.Frag} {mg : Str → Option Value} {base : Heap} {f : Addr} {fd : FuncData}
/-! ### _law_stands -/
abbrev nmLS : List Str := ["_law_lines", "_law_at", "_law_words", "_law_line"]
theorem sc_ls : FnScope nmLS ["_law_lines", "_law_at"] (defScope s_stands) := ⟨rfl, rfl, rfl, by decide +kernel, rfl, by decide +kernel, by decide +kernel⟩
abbrev rSplit : V → List V → Hp → VK → Prop := fun x xs H Q => ∃ a b, x = .str a ∧ xs = [.str b] ∧ (b.length == 0) = false ∧ a.length + 2 ≤ sizeLine ∧ rNewStrs (Txt.split a b) H Q
theorem t_seqIfN {c : TT} {t u : TS} {D : Ends} {σ : St} {H : Hp} (h : c σ H fun b H1 => if b = true then t { D with nx := u D } σ H1 else u D σ H1) : tSeq (tIfS c t tNext) u D σ H := h
theorem ok_ls (T : Bl mg) (fs : mg "sorted" = none) (Ca : Cal P w K mg base "_law_are_names" ["_law_words"] 1 (spAre K)) (F : FnP K "_law_stands" "_law_stands" s_stands f fd) : FnOk P w K mg base CX0 2 f fd ["_law_lines", "_law_at"] (spStands K) := by
  obtain ⟨fa, fda, Ga, ga, ka, ba⟩ := Ca.ex
  refine F.ok sc_ls (fun vs H Q E h => ?_) (fun cdv A outer s H vs Q E hr h => ?_)
  · obtain ⟨a, ls, rest, i, rfl, _⟩ := h
    rfl
  · have nd := sc_ls.nd
    have hu0 := hr.units
    have hu : (A.deeper (envOfC "_law_stands" (defScope s_stands) s.heap.objs.size f cdv)).units + 64 < cLine := by
      have := hr.un
      omega
    refine ⟨_, PSs.nox (pss_cons (ps_set (i := 2) nd rfl (Or.inl rfl) (pe_split (pe_ix ix_seq (pv 0) (pv 1) fun _ _ => rfl) pe_str))
      (pss_cons (ps_if (pt_cmpR op_eq (pv 1) pe_int (nomark _)) (pss_one (ps_ret (pe_cmpR op_in_seq (pe_ix ix_seq (pv 0) pe_int fun _ _ => rfl) (pe_tup (pa_cons pe_str (pa_cons pe_str pa_nil))) rfl))) pss_nil)
      (pss_cons (ps_if (pt_cmpR op_eq (pe_ix ix_seq (pv 0) pe_int fun _ _ => rfl) pe_str (nomark _)) (pss_one (ps_ret (pe_and (pe_call Ga hr rfl ga ka ba .nil pass0 (pa_cons (pv 2) pa_nil)) (pe_one (pe_cmpR (op_eqD hu0) (pv 2) (pe_callB (cr_sortTx rfl hu) rfl fs (by decide +kernel) (pa_cons (pv 2) pa_nil)) (nomark _)))))) pss_nil)
      (pss_cons (ps_if (PW.pt (pw_or (pt_not (pt_val (pe_call Ga hr rfl ga ka ba .nil pass0 (pa_cons (pe_slice sl_list (pv 2) po_none (po_some pe_int)) pa_nil)))) (pw_or1 (pt_not (pt_val (pe_call Ga hr rfl ga ka ba .nil pass0 (pa_cons (pe_slice sl_list (pv 2) (po_some pe_int) po_none) pa_nil))))))) (pss_one (ps_ret pe_bl)) pss_nil)
      (pss_one (ps_ret (pe_cmpR op_notIn_seq (pe_ix ix_seq (pv 2) pe_int fun _ _ => rfl) (pe_lc (own := [("_law_line", 3)]) (g := gName 3) (tt := tYes) (te := tOp (rIx K) (tM1 rSplit (tVar 3) (tC (.str (Str.ofString " ")))) (tC (.int 0))) rfl nd (pi_seq (pe_slice sl_list (pv 0) (po_some pe_int) (po_some (pv 1)))) (blkOk_by (N := nmLS) (sc := defScope s_stands) (by decide +kernel))
        (fun _ _ _ _ _ => pg_name (i := 3) nd rfl (Or.inl rfl)) (fun _ _ _ _ _ => pts_nil) (fun _ _ _ _ _ => pe_ix ix_seq (pe_split (pv 3) pe_str) pe_int fun _ _ => rfl)) rfl))))))), ?_⟩
    obtain ⟨a, ls, rest, i, rfl, ha, hi, hl, hz, h0, q⟩ := h
    obtain ⟨l, el⟩ : ∃ l, ls[i]? = some l := ⟨_, List.getElem?_eq_getElem hi⟩
    obtain ⟨l0, el0⟩ : ∃ l, ls[0]? = some l := ⟨_, List.getElem?_eq_getElem (by omega)⟩
    have app : ∀ {j : Nat} {x : Str}, ls[j]? = some x → (ls ++ [rest])[j]? = some x := fun {j x} h => by
      rw [List.getElem?_append_left (List.getElem?_eq_some_iff.mp h).1]
      exact h
    obtain ⟨l8, lo⟩ := hz l (List.mem_append_left _ (List.mem_of_getElem? el))
    obtain ⟨w8, wz, wo⟩ := words_of (Nat.le_trans l8 (by decide)) lo
    have hall : Seq K H (.ref a) ((ls ++ [rest]).map .str) := ⟨a, rfl, .inl ha⟩
    have eg : ls.getD i "" = l := getD_ne el
    have eg0 : ls.getD 0 "" = l0 := getD_ne el0
    have wz9 : ∀ z ∈ wds l, z.length ≤ 900 := fun z m => by
      have k := len_join_mem (y := " ") m
      rw [join_split tl_sp kind_sp] at k
      omega
    refine t_seqAsgT ?_
    refine ⟨_, rfl, _, rfl, hall.ix (x := .str l) (atI_nat (by rw [List.getElem?_map, app el]; rfl)) ⟨⟨_, rfl⟩, l, " ", rfl, rfl, rfl, by rw [sizeLine_eq]; omega, fun p np => ?_⟩⟩
    have sp := same_upd (o := HO.lst ((wds l).map .str)) np
    have ep : upd H p (.lst ((wds l).map .str)) p = some (.lst ((wds l).map .str)) := upd_same
    change tSeq _ _ _ _ (upd H p (.lst ((wds l).map .str)))
    generalize upd H p (.lst ((wds l).map .str)) = H1 at *
    have hall1 := hall.same sp
    have ix0 : ∀ H', Same H1 H' → Seq K H' (.ref p) ((wds l).map .str) := fun H' s' => ⟨p, rfl, .inl (SqL.of (s' _ _ ep))⟩
    have at00 : atI ((ls ++ [rest]).map V.str) ((0 : Nat) : Int) = some (.str l0) := atI_nat (by rw [List.getElem?_map, app el0]; rfl)
    obtain ⟨wd, ws, ew⟩ : ∃ wd ws, wds l = wd :: ws := by
      cases e : wds l with
      | nil => exact absurd e (spS_ne l)
      | cons x y => exact ⟨_, _, rfl⟩
    have eh : hd0 l = wd := by unfold hd0; rw [ew]; rfl
    refine t_seqIfN ?_
    refine ⟨_, rfl, rfl, _, rfl, ?_⟩
    refine ite2 (fun h => ?_) fun h => ?_
    · have e0 : i = 0 := by
        have := V.int.inj (of_decide_eq_true h)
        omega
      subst e0
      rw [el] at el0
      cases el0
      refine ⟨_, rfl, hall1.ix (x := .str l) at00 ⟨(show 2 ≤ sizeLine by decide), fun u nu => ?_⟩⟩
      refine ⟨u, [.str WEB, .str PRG], rfl, .inr (SqT.of upd_same), rfl, rfl, ?_⟩
      have e5 : inV (.str l) [.str WEB, .str PRG] = lineOk ls 0 := by
        rw [show inV (.str l) [.str WEB, .str PRG] = decide (l ∈ [WEB, PRG]) from in_strs l [WEB, PRG]]
        unfold lineOk
        rw [if_pos rfl, eg]
        by_cases z1 : l = WEB
        · rw [decide_eq_true z1, Bool.true_or, decide_eq_true (by rw [z1]; simp)]
        · by_cases z2 : l = PRG
          · rw [decide_eq_true z2, Bool.or_true, decide_eq_true (by rw [z2]; simp)]
          · rw [decide_eq_false z1, decide_eq_false z2, decide_eq_false (by simp [z1, z2])]
            rfl
      show Q (.bl (inV (.str l) [.str WEB, .str PRG])) _
      rw [e5]
      exact q _ (sp.trans (same_upd nu))
    · have n0 : i ≠ 0 := fun e => h (decide_eq_true (by rw [e]; rfl))
      have k0 : l0 = WEB ∨ l0 = PRG := by
        have := h0 (by omega)
        unfold lineOk at this
        rw [if_pos rfl, Bool.or_eq_true, eg0] at this
        exact this.imp of_decide_eq_true of_decide_eq_true
      refine t_seqIfN ?_
      refine ⟨_, rfl, hall1.ix (x := .str l0) at00 ⟨rfl, _, rfl, ?_⟩⟩
      refine ite2 (fun hp => ?_) fun hp => ?_
      · have e0 : l0 = PRG := V.str.inj (of_decide_eq_true hp)
        have eok : lineOk ls i = (nlS (wds l) && decide (wds l = sortS (wds l))) := by
          unfold lineOk
          rw [if_neg n0, if_neg (by rw [eg0, e0]; exact prg_ne), eg]
        refine ⟨_, rfl, p, wds l, rfl, SqL.of ep, by omega, wz9, fun H4 s4 => ⟨_, rfl, ?_⟩⟩
        cases h1 : nlS (wds l) with
        | false =>
          have qq := q H4 (sp.trans s4)
          rw [eok, h1] at qq
          exact qq
        | true =>
          refine ⟨_, rfl, _, rfl, p, wds l, rfl, .inl (ix0 H4 s4), by omega, fun d nd' => ?_⟩
          have sd := same_upd (o := HO.lst ((sortS (wds l)).map V.str)) nd'
          have so : sOk (sortS (wds l)) := fun z mz => wo z ((sortS_pm _).mem_iff.mp mz)
          refine ⟨.list (dS (wds l)), .list (dS (sortS (wds l))), .lst (SqL.of (sd _ _ (s4 _ _ ep))) (dp_strs _), .lst (SqL.of upd_same) (dp_strs _), shape_lst wo, shape_lst so, ?_⟩
          have qq := q _ (sp.trans (s4.trans sd))
          rw [eok, h1, Bool.true_and] at qq
          have e9 : PyData.eqv (.list (dS (wds l))) (.list (dS (sortS (wds l)))) = decide (wds l = sortS (wds l)) := eqv_strs _ _
          rw [e9]
          exact qq
      · have e0 : l0 = WEB := k0.resolve_right fun e => hp (decide_eq_true (by rw [e]))
        have eok : lineOk ls i = (!decide (wd ∈ ((ls.take i).drop 1).map hd0) && (nlS ((wds l).take 1) && nlS ((wds l).drop 1))) := by
          unfold lineOk
          rw [if_neg n0, if_pos (by rw [eg0, e0]), eg, eh]
        have k1 : cutV ((wds l).map V.str) none (some 1) = ((wds l).take 1).map V.str := by
          have := cut_to (xs := (wds l).map V.str) (i := 1) (by rw [List.length_map, ew, List.length_cons]; omega)
          rw [List.map_take]
          exact this
        have k2 : cutV ((wds l).map V.str) (some 1) none = ((wds l).drop 1).map V.str := by
          have := cut_from (xs := (wds l).map V.str) (i := 1) (by rw [List.length_map, ew, List.length_cons]; omega)
          rw [List.map_drop]
          exact this
        refine t_seqIfN ?_
        refine ⟨_, rfl, 1, rfl, p, _, rfl, SqL.of ep, fun d1 n1 => ?_⟩
        have sd1 := same_upd (o := HO.lst (cutV ((wds l).map V.str) none (some 1))) n1
        have ed1 : upd H1 d1 (HO.lst (cutV ((wds l).map V.str) none (some 1))) d1 = some (HO.lst (((wds l).take 1).map V.str)) := by rw [upd_same, k1]
        refine ⟨d1, (wds l).take 1, rfl, SqL.of ed1, by rw [List.length_take]; omega, fun z mz => wz9 z (List.mem_of_mem_take mz), fun H4 s4 => ⟨_, rfl, ?_⟩⟩
        cases h1 : nlS ((wds l).take 1) with
        | false =>
          refine iteP rfl (iteP rfl ?_)
          have qq := q H4 (sp.trans (sd1.trans s4))
          rw [eok, h1, Bool.false_and, Bool.and_false] at qq
          exact qq
        | true =>
          refine iteN rfl ?_
          have s34 := sd1.trans s4
          refine ⟨_, rfl, 1, rfl, p, _, rfl, SqL.of (s34 _ _ ep), fun d2 n2 => ?_⟩
          have sd2 := same_upd (o := HO.lst (cutV ((wds l).map V.str) (some 1) none)) n2
          have ed2 : upd H4 d2 (HO.lst (cutV ((wds l).map V.str) (some 1) none)) d2 = some (HO.lst (((wds l).drop 1).map V.str)) := by rw [upd_same, k2]
          refine ⟨d2, (wds l).drop 1, rfl, SqL.of ed2, by rw [List.length_drop]; omega, fun z mz => wz9 z (List.mem_of_mem_drop mz), fun H5 s5 => ⟨_, rfl, ?_⟩⟩
          have s15 := s34.trans (sd2.trans s5)
          cases h2 : nlS ((wds l).drop 1) with
          | false =>
            refine iteP rfl ?_
            have qq := q H5 (sp.trans s15)
            rw [eok, h2, Bool.and_false, Bool.and_false] at qq
            exact qq
          | true =>
            refine iteN rfl ?_
            refine ⟨_, rfl, (ix0 H5 s15).ix (x := .str wd) (show atI ((wds l).map V.str) ((0 : Nat) : Int) = some (.str wd) from atI_nat (by rw [ew]; rfl)) ?_⟩
            have ha5 := (sp.trans s15).seq ha
            have kk : cutV ((ls ++ [rest]).map V.str) (some 1) (some (i : Int)) = ((ls.take i).drop 1).map V.str := by
              have e1 : cutV ((ls ++ [rest]).map V.str) (some 1) (some ((i : Nat) : Int)) = ((((ls ++ [rest]).map V.str).drop 1).take (i - 1)) := cut_mid (i := 1) (j := i)
              rw [e1, ← List.map_drop, ← List.map_take]
              congr 1
              rw [List.drop_take]
              rw [List.drop_append_of_le_length (by omega), List.take_append_of_le_length (by rw [List.length_drop]; omega)]
            refine lc_relS (xs := ((ls.take i).drop 1).map V.str) (fun R r => ⟨_, rfl, 1, rfl, _, rfl, (i : Int), rfl, a, _, rfl, ha5, fun d nd' => by
              rw [kk]
              exact r _ d (same_upd nd') upd_same⟩) (by rw [List.length_map, List.length_drop, List.length_take]; omega) (fun j y H' => ∀ x, ((ls.take i).drop 1)[j]? = some x → y = .str (hd0 x)) (fun j y Ha Hb hy s x e => hy x e) (fun j y H' D zs Q' hy sx eD qq => ?_) (fun D H6 ys s6 eD ly hy => ?_)
            · rw [List.getElem?_map] at hy
              obtain ⟨x, ex, rfl⟩ := Option.map_eq_some_iff.mp hy
              have mx : x ∈ ls := List.mem_of_mem_take (List.mem_of_mem_drop (List.mem_of_getElem? ex))
              obtain ⟨x8, _⟩ := hz x (List.mem_append_left _ mx)
              refine ⟨rfl, _, rfl, ⟨_, rfl⟩, x, " ", rfl, rfl, rfl, by rw [sizeLine_eq]; omega, fun d nd' => ?_⟩
              have sd := same_upd (o := HO.lst ((wds x).map .str)) nd'
              obtain ⟨wx, wxs, ewx⟩ : ∃ wd ws, wds x = wd :: ws := by
                cases e : wds x with
                | nil => exact absurd e (spS_ne x)
                | cons x y => exact ⟨_, _, rfl⟩
              refine (show Seq K _ (.ref d) ((wds x).map .str) from ⟨d, rfl, .inl (SqL.of upd_same)⟩).ix (x := .str wx) (show atI ((wds x).map V.str) ((0 : Nat) : Int) = some (.str wx) from atI_nat (by rw [ewx]; rfl)) ?_
              refine qq _ _ sd fun x' ex' => ?_
              rw [ex] at ex'
              cases ex'
              unfold hd0
              rw [ewx]
              rfl
            · have ey : ys = (((ls.take i).drop 1).map hd0).map V.str := by
                refine List.ext_getElem? fun j => ?_
                rw [List.map_map, List.getElem?_map]
                cases e : ((ls.take i).drop 1)[j]? with
                | none =>
                  have := List.getElem?_eq_none_iff.mp e
                  rw [List.getElem?_eq_none (by rw [ly, List.length_map]; exact this)]
                  rfl
                | some x =>
                  have lt := (List.getElem?_eq_some_iff.mp e).1
                  obtain ⟨yj, hj⟩ : ∃ y, ys[j]? = some y := ⟨_, List.getElem?_eq_getElem (show j < ys.length by rw [ly, List.length_map]; exact lt)⟩
                  rw [hj, hy j _ hj x e]
                  rfl
              refine ⟨D, _, rfl, .inl (SqL.of (by rw [eD, ey])), rfl, flat_strs' _, ?_⟩
              have qq := q H6 (sp.trans (s15.trans s6))
              rw [eok, h1, h2, Bool.true_and, Bool.and_true] at qq
              show Q (.bl (!inV (.str wd) _)) H6
              rw [in_strs]
              exact qq
end
end K21
end L2
set_option Elab.async false
set_option linter.all false
set_option maxRecDepth 100000
set_option maxHeartbeats 8000000
namespace L2
namespace K21
open PySem PySem.Spec PyProof.Rows K1 WL TL TX TS SrtR
section
variable {P : Program} {w : World} {K : PySem.W.Frag} {mg : Str → Option Value} {base : Heap} {f : Addr} {fd : FuncData}
/-! ### _law_due -/
abbrev nmDU : List Str := ["_law_text", "_law_lines", "_law_at", "_law_known", "_law_line", "_law_word"]
theorem sc_du : FnScope nmDU ["_law_text"] (defScope s_due) := ⟨rfl, rfl, rfl, by decide +kernel, rfl, by decide +kernel, by decide +kernel⟩
theorem ok_du (T : Bl mg) (Cs : Cal P w K mg base "_law_stands" ["_law_lines", "_law_at"] 2 (spStands K)) (F : FnP K "_law_due" "_law_due" s_due f fd) : FnOk P w K mg base CX0 3 f fd ["_law_text"] spDue21 := by
  obtain ⟨fs, fds, Gs, gs, ks, bs⟩ := Cs.ex
  refine F.ok sc_du (fun vs H Q E h => ?_) (fun cdv A outer s H vs Q E hr h => ?_)
  · obtain ⟨z, ls, rest, rfl, _⟩ := h
    rfl
  · have nd := sc_du.nd
    have hu65 : (A.deeper (envOfC "_law_due" (defScope s_due) s.heap.objs.size f cdv)).units + 65 < cLine := by
      have := hr.un
      omega
    refine ⟨_, PSs.nox (pss_cons (ps_set (i := 1) nd rfl (Or.inl rfl) (pe_split (pv 0) pe_str))
      (pss_cons (ps_for PassesOwn.never rfl (pi_range1 rfl T.f_range (pa_cons (pe_op op_sub (pe_callB call_len rfl T.f_len boot_len (pa_cons (pv 1) pa_nil)) pe_int) pa_nil)) (pg_name (i := 2) nd rfl (Or.inl rfl))
        (pss_one (ps_if (pt_not (pt_val (pe_call Gs hr rfl gs ks bs .nil pass0 (pa_cons (pv 1) (pa_cons (pv 2) pa_nil))))) (pss_one (ps_ret (pe_op op_add (pv 2) pe_int))) pss_nil)))
      (pss_cons (ps_if (PW.pt (pw_or (pt_cmpR op_ne (pe_ix ix_seq (pv 1) (pe_un un_neg pe_int) fun _ _ => rfl) pe_str (nomark _)) (pw_or1 (pt_cmpR (op_inDT hu65) (pv 1) (pe_tup (pa_cons (pe_lst (pa_cons pe_str pa_nil)) (pa_cons (pe_lst (pa_cons pe_str (pa_cons pe_str pa_nil))) pa_nil))) rfl)))) (pss_one (ps_ret (pe_callB call_len rfl T.f_len boot_len (pa_cons (pv 1) pa_nil)))) pss_nil)
      (pss_cons (ps_if (pt_cmpR op_eq (pe_ix ix_seq (pv 1) pe_int fun _ _ => rfl) pe_str (nomark _))
        (pss_cons (ps_set (i := 3) nd rfl (Or.inr rfl) (pe_lc (own := [("_law_line", 4)]) (g := gName 4) (tt := tYes) (te := tOp (rIx K) (tM1 rSplit (tVar 4) (tC (.str (Str.ofString " ")))) (tC (.int 0))) rfl nd (pi_seq (pe_slice sl_list (pv 1) (po_some pe_int) (po_some (pe_un un_neg pe_int)))) (blkOk_by (N := nmDU) (sc := defScope s_due) (by decide +kernel))
          (fun _ _ _ _ _ => pg_name (i := 4) nd rfl (Or.inl rfl)) (fun _ _ _ _ _ => pts_nil) (fun _ _ _ _ _ => pe_ix ix_seq (pe_split (pv 4) pe_str) pe_int fun _ _ => rfl)))
        (pss_one (ps_for PassesOwn.never rfl (pi_range2 rfl T.f_range (pa_cons pe_int (pa_cons (pe_op op_sub (pe_callB call_len rfl T.f_len boot_len (pa_cons (pv 1) pa_nil)) pe_int) pa_nil))) (pg_name (i := 2) nd rfl (Or.inl rfl))
          (pss_one (ps_if (pt_val (pe_callB (cr_any rfl) rfl T.f_any PyProof.Rows.boot_any (pa_cons (pe_lc (own := [("_law_word", 5)]) (g := gName 5) (tt := tYes) (te := tOp (rIn K true) (tVar 5) (tVar 3)) rfl nd (pi_seq (pe_slice sl_list (pe_split (pe_ix ix_seq (pv 1) (pv 2) fun _ _ => rfl) pe_str) (po_some pe_int) po_none)) (blkOk_by (N := nmDU) (sc := defScope s_due) (by decide +kernel))
            (fun _ _ _ _ _ => pg_name (i := 5) nd rfl (Or.inl rfl)) (fun _ _ _ _ _ => pts_nil) (fun _ _ _ _ _ => pe_cmpR op_notIn_seq (pv 5) (pv 3) rfl)) pa_nil)))
            (pss_one (ps_ret (pe_op op_add (pv 2) pe_int))) pss_nil))))) pss_nil)
      (pss_one (ps_ret pe_int)))))), ?_⟩
    obtain ⟨z, ls, rest, rfl, tk, hs, q⟩ := h
    obtain ⟨l60, lz⟩ := tk.lines hs
    have l7 := tk.ln
    refine t_seqAsgT ?_
    refine ⟨_, rfl, ⟨_, rfl⟩, z, "\n", rfl, rfl, rfl, by rw [sizeLine_eq]; omega, fun p np => ?_⟩
    have sp := same_upd (o := HO.lst ((Txt.split z "\n").map .str)) np
    have ep : upd H p (.lst ((Txt.split z "\n").map .str)) p = some (.lst ((ls ++ [rest]).map V.str)) := by rw [upd_same, hs]
    change tSeq _ _ _ _ (upd H p (.lst ((Txt.split z "\n").map .str)))
    generalize upd H p (.lst ((Txt.split z "\n").map .str)) = H1 at *
    have hp : ∀ H', Same H1 H' → Seq K H' (.ref p) ((ls ++ [rest]).map .str) := fun H' s' => ⟨p, rfl, .inl (SqL.of (s' _ _ ep))⟩
    have ln : ∀ H', Same H1 H' → LenV K (.ref p) H' (ls.length + 1) := fun H' s' => .inl ⟨_, SqL.of (s' _ _ ep), by rw [List.length_map, List.length_append, List.length_singleton]⟩
    refine t_seqF ?_
    refine ⟨_, rfl, .ref p, ls.length + 1, rfl, ln H1 (Same.refl _), ((ls.length + 1 : Nat) : Int), 1, rfl, rfl, _, rfl, by omega, by omega, ?_⟩
    rw [show (((ls.length + 1 : Nat) : Int) - 1).toNat = ls.length by omega]
    refine for_range (fun i σ H' => Same H1 H' ∧ (∃ o2, σ = [some (.str z), some (.ref p), o2, none, none, none]) ∧ ∀ j, j < i → lineOk ls j = true) ⟨Same.refl _, ⟨_, rfl⟩, fun j hj => absurd hj (Nat.not_lt_zero j)⟩ ?_ ?_
    · rintro i σ H2 hi ⟨s2, ⟨o2, rfl⟩, ok2⟩
      refine ⟨_, rfl, _, rfl, p, ls, rest, i, (show ([V.ref p, V.int (0 + (i : Int))] : List V) = [V.ref p, V.int ((i : Nat) : Int)] by rw [Int.zero_add]), SqL.of (s2 _ _ ep), hi, l60, lz, fun h1 => ok2 0 (by omega), fun H3 s3 => ⟨_, rfl, ?_⟩⟩
      cases hk : lineOk ls i with
      | false =>
        refine iteP rfl ?_
        refine ⟨_, rfl, (i : Int), 1, by rw [Int.zero_add], rfl, ?_⟩
        have eb : badLine ls = some i := find_range _ hi (by rw [hk]; rfl) fun j hj => by rw [ok2 j hj]; rfl
        have er : rdB ls rest = some (i + 1) := by unfold rdB; rw [eb]
        have qq := q H3 (sp.trans (s2.trans s3))
        rw [er] at qq
        exact qq
      | true =>
        refine iteN rfl ⟨s2.trans s3, ⟨_, rfl⟩, fun j hj => ?_⟩
        rcases Nat.lt_succ_iff_lt_or_eq.mp hj with hj | rfl
        · exact ok2 j hj
        · exact hk
    · rintro σ H2 ⟨s2, ⟨o2, rfl⟩, ok2⟩
      have eb : badLine ls = none := find_none_iff.mpr ok2
      have sH2 := sp.trans s2
      refine t_next ?_
      try dsimp only
      have c2 : rest ≠ "" ∨ ls = [] ∨ ls = [WEB] → ∀ H', Same H2 H' → Q (.int ((ls.length + 1 : Nat) : Int)) H' := fun hc H' s' => by
        have er : rdB ls rest = some (ls.length + 1) := by unfold rdB; rw [eb]; exact if_pos hc
        have qq := q H' (sH2.trans s')
        rw [er] at qq
        exact qq
      refine t_seqIfN ?_
      have atl : atI ((ls ++ [rest]).map V.str) (-1) = some (.str rest) := by
        rw [List.map_append]
        exact atI_last _ _
      refine ⟨_, rfl, 1, rfl, (hp H2 s2).ix (x := .str rest) atl ⟨rfl, _, rfl, ?_⟩⟩
      have d1 : (!decide (V.str rest = V.str (Str.ofString ""))) = !decide (rest = "") := congrArg _ (dec_str rest "")
      by_cases c1 : rest = ""
      · refine iteN (by rw [d1, decide_eq_true c1]; rfl) ?_
        refine ⟨_, rfl, (show 1 ≤ sizeLine by decide), fun b1 n1 => ?_⟩
        have sb1 := same_upd (o := HO.lst [V.str ""]) n1
        refine ⟨(show 2 ≤ sizeLine by decide), fun b2 n2 => ?_⟩
        have sb2 := same_upd (o := HO.lst [V.str WEB, V.str ""]) n2
        refine ⟨(show 2 ≤ sizeLine by decide), fun b3 n3 => ?_⟩
        have sb3 := same_upd (o := HO.tup [V.ref b1, V.ref b2]) n3
        have s25 := sb1.trans (sb2.trans sb3)
        have okl : sOk (ls ++ [rest]) := fun l m c mc => (lz l m).2 l (List.mem_singleton.mpr rfl) c mc
        have e1 := sb3 _ _ (sb2 _ _ (upd_same (H := H2) (a := b1) (o := HO.lst [V.str ""])))
        have e2 := sb3 _ _ (upd_same (H := upd H2 b1 (.lst [V.str ""])) (a := b2) (o := HO.lst [V.str WEB, V.str ""]))
        refine ⟨.list (dS (ls ++ [rest])), [.list (dS [("" : Str)]), .list (dS [WEB, ("" : Str)])], .lst (SqL.of (s25 _ _ (s2 _ _ ep))) (dp_strs _), .tup (SqT.of upd_same) (.cons (.lst (SqL.of e1) (dp_strs [("" : Str)])) (.cons (.lst (SqL.of e2) (dp_strs [WEB, ("" : Str)])) .nil)), shape_lst okl, by decide +kernel, _, rfl, ?_⟩
        have d2 : ([PyData.list (dS [("" : Str)]), PyData.list (dS [WEB, ("" : Str)])].any fun y => PyData.eqv y (.list (dS (ls ++ [rest])))) = (decide (ls = []) || decide (ls = [WEB])) := by
          have x1 : PyData.eqv (.list (dS [("" : Str)])) (.list (dS (ls ++ [rest]))) = decide ([("" : Str)] = ls ++ [rest]) := eqv_strs _ _
          have x2 : PyData.eqv (.list (dS [WEB, ("" : Str)])) (.list (dS (ls ++ [rest]))) = decide ([WEB, ("" : Str)] = ls ++ [rest]) := eqv_strs _ _
          rw [List.any_cons, List.any_cons, List.any_nil, Bool.or_false, x1, x2, c1]
          have y1 : decide ([("" : Str)] = ls ++ [("" : Str)]) = decide (ls = []) := decide_eq_decide.mpr ⟨fun h => (List.append_cancel_right (show ([] : List Str) ++ [("" : Str)] = ls ++ [("" : Str)] from h)).symm, fun h => by rw [h]; rfl⟩
          have y2 : decide ([WEB, ("" : Str)] = ls ++ [("" : Str)]) = decide (ls = [WEB]) := decide_eq_decide.mpr ⟨fun h => (List.append_cancel_right (show ([WEB] : List Str) ++ [("" : Str)] = ls ++ [("" : Str)] from h)).symm, fun h => by rw [h]; rfl⟩
          rw [y1, y2]
        have s2' := s2.trans s25
        change (fun b H1 => if b = true then _ else _) _ (upd (upd (upd H2 b1 (.lst [V.str ""])) b2 (.lst [V.str WEB, V.str ""])) b3 (.tup [V.ref b1, V.ref b2]))
        generalize upd (upd (upd H2 b1 (.lst [V.str ""])) b2 (.lst [V.str WEB, V.str ""])) b3 (.tup [V.ref b1, V.ref b2]) = H3 at *
        by_cases c3 : ls = [] ∨ ls = [WEB]
        · have c3b : (decide (ls = []) || decide (ls = [WEB])) = true := by
            rcases c3 with c | c
            · rw [decide_eq_true c]; rfl
            · rw [decide_eq_true c, Bool.or_true]
          refine iteP (by rw [d2]; exact c3b) ?_
          exact ⟨_, rfl, .ref p, ls.length + 1, rfl, ln H3 s2', c2 (.inr c3) _ s25⟩
        · have c3b : (decide (ls = []) || decide (ls = [WEB])) = false := by
            rw [decide_eq_false fun h => c3 (.inl h), decide_eq_false fun h => c3 (.inr h)]
            rfl
          refine iteN (by rw [d2]; exact c3b) ?_
          have hc : ¬ (rest ≠ "" ∨ ls = [] ∨ ls = [WEB]) := fun h => h.elim (fun h => h c1) c3
          have er : rdB ls rest = if ls.getD 0 "" = WEB then (unkRow (ls.tail.map wds)).map (· + 2) else none := by unfold rdB; rw [eb]; exact if_neg hc
          have ne : ls ≠ [] := fun e => c3 (.inl e)
          obtain ⟨l0, lt, rfl⟩ : ∃ l0 lt, ls = l0 :: lt := by
            cases ls with
            | nil => exact absurd rfl ne
            | cons x y => exact ⟨_, _, rfl⟩
          have g0 : (l0 :: lt).getD 0 "" = l0 := rfl
          have at0 : atI ((l0 :: lt ++ [rest]).map V.str) ((0 : Nat) : Int) = some (.str l0) := atI_nat rfl
          refine t_seqIfN ?_
          refine ⟨_, rfl, (hp H3 s2').ix (x := .str l0) at0 ⟨rfl, _, rfl, ?_⟩⟩
          refine ite2 (fun hw => ?_) fun hw => ?_
          · have e0 : l0 = WEB := V.str.inj (of_decide_eq_true hw)
            rw [g0, if_pos e0, List.tail_cons] at er
            have hlt : ∀ l ∈ lt, l.length ≤ 700 ∧ sOk [l] := fun l m => lz l (List.mem_append_left _ (List.mem_cons_of_mem _ m))
            have mlt : ∀ {j : Nat} {x : Str}, lt[j]? = some x → x.length ≤ 700 ∧ sOk [x] := fun {j x} e => hlt x (List.mem_of_getElem? e)
            refine t_seqAsgT ?_
            refine lc_relS (xs := lt.map V.str) (fun R r => ⟨_, rfl, 1, rfl, 1, rfl, (-1), rfl, p, _, rfl, SqL.of (s2' _ _ ep), fun d nd' => by
              rw [cut_in (by simp)]
              exact r _ d (same_upd nd') upd_same⟩) (by rw [List.length_map]; rw [List.length_cons] at l60; omega) (fun j y H' => ∀ x, lt[j]? = some x → y = .str (hd0 x)) (fun j y Ha Hb hy s x e => hy x e) (fun j y H' D zs Q' hy sx eD qq => ?_) (fun D H6 ys s6 eD0 ly hy => ?_)
            · rw [List.getElem?_map] at hy
              obtain ⟨x, ex, rfl⟩ := Option.map_eq_some_iff.mp hy
              obtain ⟨x8, _⟩ := mlt ex
              refine ⟨rfl, _, rfl, ⟨_, rfl⟩, x, " ", rfl, rfl, rfl, by rw [sizeLine_eq]; omega, fun d nd' => ?_⟩
              have sd := same_upd (o := HO.lst ((wds x).map .str)) nd'
              obtain ⟨wx, wxs, ewx⟩ : ∃ wd ws, wds x = wd :: ws := by
                cases e : wds x with
                | nil => exact absurd e (spS_ne x)
                | cons x y => exact ⟨_, _, rfl⟩
              refine (show Seq K _ (.ref d) ((wds x).map .str) from ⟨d, rfl, .inl (SqL.of upd_same)⟩).ix (x := .str wx) (show atI ((wds x).map V.str) ((0 : Nat) : Int) = some (.str wx) from atI_nat (by rw [ewx]; rfl)) ?_
              refine qq _ _ sd fun x' ex' => ?_
              rw [ex] at ex'
              cases ex'
              unfold hd0
              rw [ewx]
              rfl
            have ey : ys = (lt.map hd0).map V.str := by
              refine List.ext_getElem? fun j => ?_
              rw [List.map_map, List.getElem?_map]
              cases e : lt[j]? with
              | none =>
                have := List.getElem?_eq_none_iff.mp e
                rw [List.getElem?_eq_none (by rw [ly, List.length_map]; exact this)]
                rfl
              | some x =>
                have ltj := (List.getElem?_eq_some_iff.mp e).1
                obtain ⟨yj, hj⟩ : ∃ y, ys[j]? = some y := ⟨_, List.getElem?_eq_getElem (show j < ys.length by rw [ly, List.length_map]; exact ltj)⟩
                rw [hj, hy j _ hj x e]
                rfl
            have eD : H6 D = some (.lst ((lt.map hd0).map V.str)) := by rw [eD0, ey]
            clear eD0 ly hy ey
            have s26 := s2'.trans s6
            refine g_nm ?_
            try dsimp only
            refine ⟨_, rfl, .ref p, (l0 :: lt).length + 1, rfl, ln H6 s26, (((l0 :: lt).length + 1 : Nat) : Int), 1, rfl, rfl, 1, _, rfl, ⟨by decide, by decide, by omega, by omega⟩, ?_⟩
            rw [show ((((l0 :: lt).length + 1 : Nat) : Int) - 1 - 1).toNat = lt.length by rw [List.length_cons]; omega]
            refine for_range (n := lt.length) (fun i σ H' => Same H6 H' ∧ (∃ o2, σ = [some (.str z), some (.ref p), o2, some (.ref D), none, none]) ∧ ∀ j, j < i → (((lt.map wds).getD j []).all fun z => decide (z ∈ (lt.map wds).map fun r => r.headD "")) = true) ⟨Same.refl _, ⟨_, rfl⟩, fun j hj => absurd hj (Nat.not_lt_zero j)⟩ ?_ ?_
            · rintro i σ H7 hi ⟨s7, ⟨o2, rfl⟩, ok7⟩
              obtain ⟨x, ex⟩ : ∃ x, lt[i]? = some x := ⟨_, List.getElem?_eq_getElem hi⟩
              obtain ⟨x8, xo⟩ := mlt ex
              obtain ⟨w8, wz, wo⟩ := words_of (Nat.le_trans x8 (by decide)) xo
              have s27 := s26.trans s7
              have at1 : atI ((l0 :: lt ++ [rest]).map V.str) (1 + (i : Int)) = some (.str x) := by
                rw [show (1 : Int) + (i : Int) = ((i + 1 : Nat) : Int) by omega]
                refine atI_nat ?_
                rw [List.getElem?_map, List.cons_append, List.getElem?_cons_succ, List.getElem?_append_left hi, ex]
                rfl
              have row : (lt.map wds).getD i [] = wds x := by
                rw [List.getD_eq_getElem?_getD, List.getElem?_map, ex]
                rfl
              have k2 : cutV ((wds x).map V.str) (some 1) none = ((wds x).drop 1).map V.str := by
                have := cut_off (xs := (wds x).map V.str) (i := 1)
                rw [List.map_drop]
                exact this
              refine t_oneI ?_
              refine t_bcbT ?_
              refine lc_relS (xs := ((wds x).drop 1).map V.str) (fun R r => ⟨_, rfl, _, rfl, (hp H7 s27).ix (x := .str x) at1 ⟨⟨_, rfl⟩, x, " ", rfl, rfl, rfl, by rw [sizeLine_eq]; omega, fun d nd' => ⟨1, rfl, d, _, rfl, SqL.of upd_same, fun d2 nd2 => by
                rw [k2]
                exact r _ d2 ((same_upd nd').trans (same_upd nd2)) upd_same⟩⟩⟩) (by rw [List.length_map, List.length_drop]; omega) (fun j y H' => ∀ v, ((wds x).drop 1)[j]? = some v → y = .bl (!decide (v ∈ lt.map hd0))) (fun j y Ha Hb hy s x e => hy x e) (fun j y H' D' zs Q' hy sx eD' qq => ?_) (fun D9 H9 ys s9 eD9 ly hy => ?_)
              · rw [List.getElem?_map] at hy
                obtain ⟨v, ev, rfl⟩ := Option.map_eq_some_iff.mp hy
                refine ⟨rfl, _, rfl, _, rfl, D, _, rfl, .inl (SqL.of (sx _ _ (s7 _ _ eD))), rfl, flat_strs' _, ?_⟩
                show Q' (.bl (!inV (.str v) _)) _
                rw [in_strs]
                refine qq _ _ (Same.refl _) fun v' ev' => ?_
                rw [ev] at ev'
                cases ev'
                rfl
              have ey : ys = (((wds x).drop 1).map fun v => !decide (v ∈ lt.map hd0)).map V.bl := by
                refine List.ext_getElem? fun j => ?_
                rw [List.map_map, List.getElem?_map]
                cases e : ((wds x).drop 1)[j]? with
                | none =>
                  have := List.getElem?_eq_none_iff.mp e
                  rw [List.getElem?_eq_none (by rw [ly, List.length_map]; exact this)]
                  rfl
                | some v =>
                  have ltj := (List.getElem?_eq_some_iff.mp e).1
                  obtain ⟨yj, hj⟩ : ∃ y, ys[j]? = some y := ⟨_, List.getElem?_eq_getElem (show j < ys.length by rw [ly, List.length_map]; exact ltj)⟩
                  rw [hj, hy j _ hj v e]
                  rfl
              refine ⟨D9, _, rfl, SqL.of (by rw [eD9, ey]), _, rfl, ?_⟩
              have eu := unk_drop i ex
              have ea : (((wds x).drop 1).map fun v => !decide (v ∈ lt.map hd0)).any id = ((wds x).drop 1).any fun v => !decide (v ∈ lt.map hd0) := by
                rw [List.any_map]
                rfl
              rw [ea]
              cases hh : ((wds x).drop 1).any fun v => !decide (v ∈ lt.map hd0) with
              | true =>
                refine iteP rfl ?_
                rw [hh] at eu
                have ek : unkRow (lt.map wds) = some i := find_range _ (by rw [List.length_map]; exact hi) (by rw [row, eu]; rfl) fun j hj => by rw [ok7 j hj]; rfl
                refine ⟨_, rfl, 1 + (i : Int), 1, rfl, rfl, ?_⟩
                have qq := q H9 (sH2.trans (s25.trans (s6.trans (s7.trans s9))))
                rw [er, ek] at qq
                have e6 : (1 : Int) + (i : Int) + 1 = ((i + 2 : Nat) : Int) := by omega
                show Q (.int (1 + (i : Int) + 1)) H9
                rw [e6]
                exact qq
              | false =>
                rw [hh] at eu
                refine iteN rfl ⟨s7.trans s9, ⟨_, rfl⟩, fun j hj => ?_⟩
                rcases Nat.lt_succ_iff_lt_or_eq.mp hj with hj | rfl
                · exact ok7 j hj
                · rw [row, eu]
                  rfl
            · rintro σ H7 ⟨s7, ⟨o2, rfl⟩, ok7⟩
              have ek : unkRow (lt.map wds) = none := find_none_iff.mpr fun j hj => ok7 j (by rw [List.length_map] at hj; exact hj)
              have qq := q H7 (sH2.trans (s25.trans (s6.trans s7)))
              rw [er, ek] at qq
              exact qq
          · have e0 : ¬ l0 = WEB := fun e => hw (decide_eq_true (by rw [e]))
            rw [g0, if_neg e0] at er
            have qq := q H3 (sH2.trans s25)
            rw [er] at qq
            exact qq
      · refine iteP (by rw [d1, decide_eq_false c1]; rfl) ?_
        refine iteP rfl ?_
        exact ⟨_, rfl, .ref p, ls.length + 1, rfl, ln H2 s2, c2 (.inl c1) _ (Same.refl _)⟩
end
end K21
end L2
set_option Elab.async false
set_option linter.all false
set_option maxRecDepth 100000
set_option maxHeartbeats 4000000
namespace L2
namespace K21
open PySem PySem.Spec PyProof.Rows K1 WL
section
variable {P : Program} {w : World} {K : PySem.W.Frag} {mg : Str → Option Value} {base : Heap} {f : Addr} {fd : FuncData}
/-! ### ascending_texts -/
theorem sc_at : FnScope ["thing", "item"] ["thing"] (defScope s_ascending_texts) := ⟨rfl, rfl, rfl, by decide +kernel, rfl, by decide +kernel, by decide +kernel⟩
theorem ok_at (T : Bl mg) (fs : mg "sorted" = none) (Cl : Cal P w K mg base "is_list" ["thing"] 1 (spIsList K)) (F : FnP K "ascending_texts" "ascending_texts" s_ascending_texts f fd) : FnOk P w K mg base CX0 2 f fd ["thing"] (spAscT K) := by
  obtain ⟨fl, fdl, Gl, gl, kl, bl⟩ := Cl.ex
  refine F.ok sc_at (fun vs H Q E h => ?_) (fun cdv A outer s H vs Q E hr h => ?_)
  · obtain ⟨v, l, rfl, _⟩ := h
    rfl
  · have nd := sc_at.nd
    have hu : (A.deeper (envOfC "ascending_texts" (defScope s_ascending_texts) s.heap.objs.size f cdv)).units + 64 < cLine := by
      have := hr.un
      omega
    refine ⟨_, PSs.nox (pss_cons (ps_if (PW.pt (pw_or (pt_not (pt_val (pe_call Gl hr rfl gl kl bl .nil pass0 (pa_cons (pv 0) pa_nil))))
        (pw_or1 (pt_not (pt_val (pe_callB (cr_all rfl) rfl T.f_all PyProof.Rows.boot_all (pa_cons (pe_lc (own := [("item", 1)]) (g := gName 1) (tt := tYes) (te := tCB (rIsi K) (tCons (tVar 1) (tCons (tC (.ty "str")) tNil))) rfl nd (pi_seq (pv 0)) (blkOk_by (N := ["thing", "item"]) (sc := defScope s_ascending_texts) (by decide +kernel))
          (fun _ _ _ _ _ => pg_name (i := 1) nd rfl (Or.inl rfl)) (fun _ _ _ _ _ => pts_nil) (fun _ _ _ _ _ => pe_callB call_isi rfl T.f_isinstance boot_isinstance (pa_cons (pv 1) (pa_cons (pe_bltn (v := .ty "str") rfl T.f_str PyProof.Rows.boot_str rfl) pa_nil)))) pa_nil))))))) (pss_one (ps_ret (pe_tup pa_nil))) pss_nil)
      (pss_one (ps_ret (pe_callTy call_tuple_of rfl T.f_tuple PyProof.Rows.boot_tuple (pa_cons (pe_callB (cr_sortTx rfl hu) rfl fs (by decide +kernel) (pa_cons (pv 0) pa_nil)) pa_nil))))), ?_⟩
    obtain ⟨v, l, rfl, hl, q⟩ := h
    have bad : l = none → ∀ H', Same H H' → ∀ p, H' p = none → Q (.ref p) (upd H' p (.tup [])) := fun e H' s' p np => by
      subst e
      exact q _ p (s'.trans (same_upd np)) upd_same
    rcases hl with ⟨t, ty, kt, rfl⟩ | ⟨xs, bs, hs, h9, hl, hi, rfl⟩
    · exact ⟨_, rfl, v, t, false, rfl, ty, kt, fun H' s' => ⟨false, rfl, (show 0 ≤ sizeLine from Nat.zero_le _), fun p np => bad rfl H' s' p np⟩⟩
    · obtain ⟨t, ty, kt⟩ := hs.kit
      refine ⟨_, rfl, v, t, true, rfl, ty, kt, fun H1 s1 => ⟨true, rfl, iteN rfl ?_⟩⟩
      refine t_nall ?_
      refine lc_seq (hs.same s1) (fun Q q => ⟨_, rfl, q⟩) (by omega) (fun i => .bl (bs.getD i false)) (fun i x H' Q' hx s' qq => ?_) (fun D H2 s2 e2 => ?_)
      · have lt : i < bs.length := by
          rw [hl]
          exact (List.getElem?_eq_some_iff.mp hx).1
        have hb : bs[i]? = some (bs.getD i false) := by rw [List.getD_eq_getElem?_getD, List.getElem?_eq_getElem lt]; rfl
        refine ⟨rfl, ?_⟩
        rcases ((hi i x _ hx hb).same s1).same s' with ⟨z, rfl, _, _, e⟩ | ⟨t, ty, kt, e⟩
        · rw [e] at qq
          exact ⟨_, rfl, _, .ty "str", _, _, true, rfl, .ty "str", .base (.str z), kit_ty (by decide +kernel), qq H' (Same.refl _)⟩
        · rw [e] at qq
          exact ⟨_, rfl, _, .ty "str", t, _, false, rfl, .ty "str", ty, kt, qq H' (Same.refl _)⟩
      · refine ⟨D, bs, rfl, SqL.of ?_, _, rfl, ?_⟩
        · rw [e2, ← hl]
          have e3 : (List.range bs.length).map (fun i => V.bl (bs.getD i false)) = ((List.range bs.length).map fun i => bs.getD i false).map V.bl := by rw [List.map_map]; rfl
          rw [e3, rngD]
        · refine ite2 (fun ha => ?_) fun ha => ?_
          · have e : ¬ bs.all id = true := by simpa using ha
            exact ⟨Nat.zero_le _, fun p np => bad (if_neg e) H2 (s1.trans s2) p np⟩
          · have e : bs.all id = true := by simpa using ha
            obtain ⟨ex, -⟩ := strIs_all hl hi e
            rw [if_pos e] at q
            have ll : (strsOf xs).length = xs.length := by
              have z := congrArg List.length ex
              rw [List.length_map] at z
              exact z.symm
            have h2 : Seq K H2 v ((strsOf xs).map .str) := by
              rw [← ex]
              exact (hs.same s1).same s2
            obtain ⟨a, rfl, -⟩ := id h2
            refine ⟨_, rfl, a, strsOf xs, rfl, .inl h2, by omega, fun p np => ?_⟩
            refine ⟨p, _, rfl, .inl ⟨SqL.of upd_same, fun c nc => ?_⟩⟩
            exact q _ c (((s1.trans s2).trans (same_upd np)).trans (same_upd nc)) upd_same
/-! ### ascending_lots -/
theorem sc_al : FnScope ["things", "thing"] ["things"] (defScope s_ascending_lots) := ⟨rfl, rfl, rfl, by decide +kernel, rfl, by decide +kernel, by decide +kernel⟩
theorem ok_al (T : Bl mg) (Ca : Cal P w K mg base "ascending_texts" ["thing"] 2 (spAscT K)) (F : FnP K "ascending_lots" "ascending_lots" s_ascending_lots f fd) : FnOk P w K mg base CX0 3 f fd ["things"] (spAscL K) := by
  obtain ⟨fa', fda, Ga, ga, ka, ba⟩ := Ca.ex
  refine F.ok sc_al (fun vs H Q E h => ?_) (fun cdv A outer s H vs Q E hr h => ?_)
  · obtain ⟨v, xs, ls, rfl, _⟩ := h
    rfl
  · have nd := sc_al.nd
    refine ⟨_, PSs.nox (pss_one (ps_ret (pe_lc (own := [("thing", 1)]) (g := gName 1) (tt := tYes) (te := tIf (tAnd (tB (tCB (rIsiT K) (tCons (tVar 1) (tCons (tTup (tCons (tC (.ty "list")) (tCons (tC (.ty "tuple")) tNil))) tNil)))) (tAnd (tTest (tOp rEq (tCB (rLen K) (tCons (tVar 1) tNil)) (tC (.int 1)))) (tB (tCB (rIsi K) (tCons (tOp (rIx K) (tVar 1) (tC (.int 0))) (tCons (tC (.ty "str")) tNil)))))) (tTup (tCons (tOp (rIx K) (tVar 1) (tC (.int 0))) tNil)) (tCall (spAscT K) [] E0 (tCons (tVar 1) tNil))) rfl nd (pi_seq (pv 0)) (blkOk_by (N := ["things", "thing"]) (sc := defScope s_ascending_lots) (by decide +kernel))
          (fun _ _ _ _ _ => pg_name (i := 1) nd rfl (Or.inl rfl)) (fun _ _ _ _ _ => pts_nil) (fun _ _ _ _ _ => pe_ifExp (PW.pt (pw_and (pt_val (pe_callB call_isiT rfl T.f_isinstance boot_isinstance (pa_cons (pv 1) (pa_cons (pe_tup (pa_cons (pe_bltn (v := .ty "list") rfl T.f_list PyProof.Rows.boot_list rfl) (pa_cons (pe_bltn (v := .ty "tuple") rfl T.f_tuple PyProof.Rows.boot_tuple rfl) pa_nil))) pa_nil))))
            (pw_and (pt_cmpR op_eq (pe_callB call_len rfl T.f_len boot_len (pa_cons (pv 1) pa_nil)) pe_int (nomark _)) (pw_and1 (pt_val (pe_callB call_isi rfl T.f_isinstance boot_isinstance (pa_cons (pe_ix ix_seq (pv 1) pe_int fun _ _ => rfl) (pa_cons (pe_bltn (v := .ty "str") rfl T.f_str PyProof.Rows.boot_str rfl) pa_nil))))))))
            (pe_tup (pa_cons (pe_ix ix_seq (pv 1) pe_int fun _ _ => rfl) pa_nil)) (pe_call Ga hr rfl ga ka ba .nil pass0 (pa_cons (pv 1) pa_nil)))))), ?_⟩
    obtain ⟨v, xs, ls, rfl, hs, h9, hp, q⟩ := h
    refine lc_rel hs (fun Q q => ⟨_, rfl, q⟩) (by omega) (fun i y H' => ∀ l, ls[i]? = some l → TupT H' y (asc l)) (fun i y H1 H2 h s l e => (h l e).same s) (fun i x H1 D zs Q' hx s1 nD eD qq => ?_) (fun D H1 ys s1 nD eD ly hy => ?_)
    · refine ⟨rfl, ?_⟩
      obtain ⟨l, el, hl⟩ := Paired.getL hp hx
      have hl1 := hl.same s1
      have give : ∀ H2 p, Same H1 H2 → H2 p = some (.tup ((asc l).map .str)) → Q' (.ref p) H2 := fun H2 p s2 e => qq _ H2 s2 fun l' e' => by
        obtain rfl : l = l' := Option.some.inj (el.symm.trans e')
        exact TupT.hide ⟨p, rfl, e⟩ (s2 _ _ eD)
      have call : ∀ H2, Same H1 H2 → spAscT K [x] H2 Q' E0 := fun H2 s2 => ⟨x, l, rfl, hl1.same s2, fun H3 p s3 e => give H3 p (s2.trans s3) e⟩
      rcases hl1 with ⟨t, ty, kt, -⟩ | ⟨us, bs, hu, h9', hb, hi, rfl⟩
      · exact ⟨_, rfl, (show 2 ≤ sizeLine by decide), fun p np => ⟨x, p, [.ty "list", .ty "tuple"], t, LT, false, rfl, upd_same, .cons (.ty _) (.cons (.ty _) .nil), TyX.same ty (same_upd np), kt, _, rfl, iteN rfl (iteN rfl ⟨_, rfl, call _ (same_upd np)⟩)⟩⟩
      · obtain ⟨t, ty, kt⟩ := hu.kit
        refine ⟨_, rfl, (show 2 ≤ sizeLine by decide), fun p np => ⟨x, p, [.ty "list", .ty "tuple"], t, LT, true, rfl, upd_same, .cons (.ty _) (.cons (.ty _) .nil), TyX.same ty (same_upd np), kt, _, rfl, iteP rfl ?_⟩⟩
        have s2 := same_upd (o := .tup [.ty "list", .ty "tuple"]) np
        refine ⟨_, rfl, x, us.length, rfl, (hu.same s2).len, rfl, _, rfl, ?_⟩
        refine ite2 (fun hz => ?_) fun hz => iteN rfl ⟨_, rfl, call _ s2⟩
        have l1 : us.length = 1 := by
          have z := V.int.inj (of_decide_eq_true hz)
          omega
        obtain ⟨u, rfl⟩ := List.length_eq_one_iff.mp l1
        obtain ⟨b, rfl⟩ := List.length_eq_one_iff.mp (hb.trans l1)
        refine ⟨_, rfl, (hu.same s2).ix (x := u) rfl ?_⟩
        rcases (hi 0 u b rfl rfl).same s2 with ⟨z, rfl, _, _, rfl⟩ | ⟨t', ty', kt', rfl⟩
        · refine ⟨_, .ty "str", _, _, true, rfl, .ty "str", .base (.str z), kit_ty (by decide +kernel), _, rfl, iteP rfl ?_⟩
          refine ⟨_, rfl, (hu.same s2).ix (x := .str z) rfl ⟨(show 1 ≤ sizeLine by decide), fun c nc => give _ c (s2.trans (same_upd nc)) ?_⟩⟩
          have e1 : asc (if ([true] : List Bool).all id = true then some (strsOf [.str z]) else none) = [z] := by
            show sortS [z] = [z]
            exact (sortS_uniq (List.Perm.refl _) (List.pairwise_singleton _ _)).symm
          rw [e1]
          exact upd_same
        · exact ⟨_, .ty "str", t', _, false, rfl, .ty "str", ty', kt', _, rfl, iteN rfl ⟨_, rfl, call _ s2⟩⟩
    · refine q H1 D ys s1 nD eD (tupTs_of ?_ fun i y l' hy' hl' => ?_)
      · rw [ly, List.length_map]
        exact Paired.length hp
      · rw [List.getElem?_map] at hl'
        obtain ⟨l, el, rfl⟩ := Option.map_eq_some_iff.mp hl'
        exact hy i y hy' l el
/-! ### is_lot -/
theorem sc_il : FnScope ["texts"] ["texts"] (defScope s_is_lot) := ⟨rfl, rfl, rfl, by decide +kernel, rfl, by decide +kernel, by decide +kernel⟩
theorem ok_il (T : Bl mg) (Cn : Cal P w K mg base "is_name" ["thing"] 1 (spIsName K)) (Cm : Cal P w K mg base "is_name_list" ["thing"] 2 (spNameList K)) (F : FnP K "is_lot" "is_lot" s_is_lot f fd) : FnOk P w K mg base CX0 3 f fd ["texts"] (spIsLot K) := by
  obtain ⟨fn', fdn, Gn, gn, kn, bn⟩ := Cn.ex
  obtain ⟨fm, fdm, Gm, gm, km, bm⟩ := Cm.ex
  refine F.ok sc_il (fun vs H Q E h => ?_) (fun cdv A outer s H vs Q E hr h => ?_)
  · obtain ⟨v, ts, rfl, _⟩ := h
    rfl
  · have h1 := hr.mono (show 1 ≤ 2 by decide)
    refine ⟨_, PSs.nox (pss_one (ps_ret (pe_ifExp (pt_cmpR op_eq (pe_callB call_len rfl T.f_len boot_len (pa_cons (pv 0) pa_nil)) pe_int (nomark _)) (pe_call Gn h1 rfl gn kn bn .nil pass0 (pa_cons (pe_ix ix_seq (pv 0) pe_int fun _ _ => rfl) pa_nil))
      (pe_and (pe_cmpR op_gt (pe_callB call_len rfl T.f_len boot_len (pa_cons (pv 0) pa_nil)) pe_int (nomark _)) (pe_one (pe_call Gm hr rfl gm km bm .nil pass0 (pa_cons (pv 0) pa_nil))))))), ?_⟩
    obtain ⟨v, ts, rfl, ht, h9, hz, q⟩ := h
    have hs : Seq K H v (ts.map .str) := ht.seq
    refine ⟨_, rfl, v, (ts.map V.str).length, rfl, hs.len, rfl, _, rfl, ?_⟩
    refine ite2 (fun h => ?_) fun h => ?_
    · have l1 : ts.length = 1 := by
        have z := V.int.inj (of_decide_eq_true h)
        rw [List.length_map] at z
        omega
      obtain ⟨z, rfl⟩ := List.length_eq_one_iff.mp l1
      refine ⟨_, rfl, hs.ix (x := .str z) rfl ⟨.str z, isNm z, rfl, .inl ⟨z, rfl, hz z (List.mem_singleton.mpr rfl), rfl⟩, fun H' s' => ?_⟩⟩
      have e : lotOk [z] = isNm z := by
        unfold lotOk
        simp
      rw [← e]
      exact q H' s'
    · refine ⟨_, rfl, v, (ts.map V.str).length, rfl, hs.len, ((ts.map V.str).length : Nat), 0, rfl, rfl, _, rfl, ?_⟩
      cases hg : decide ((0 : Int) < ((ts.map V.str).length : Nat)) with
      | false =>
        have e0 : ts = [] := by
          have := of_decide_eq_false hg
          rw [List.length_map] at this
          exact List.length_eq_zero_iff.mp (by omega)
        subst e0
        exact q H (Same.refl H)
      | true =>
        refine ⟨_, rfl, v, nlB (ts.map .str) (ts.map isNm), rfl, .inr ⟨ts.map .str, ts.map isNm, hs, by rw [List.length_map]; exact h9, by rw [List.length_map, List.length_map], fun i x b h1 h2 => ?_, rfl⟩, fun H' s' => ?_⟩
        · rw [List.getElem?_map] at h1 h2
          obtain ⟨z, ez, rfl⟩ := Option.map_eq_some_iff.mp h1
          rw [ez] at h2
          exact .inl ⟨z, rfl, hz z (List.mem_of_getElem? ez), (Option.some.inj h2).symm⟩
        · have ne : ts ≠ [] := fun e => by
            subst e
            exact absurd (of_decide_eq_true hg) (by decide)
          have e : nlB (ts.map .str) (ts.map isNm) = lotOk ts := by
            unfold nlB lotOk
            rw [strsOf_map, decide_eq_true ne, Bool.true_and, List.all_map]
            rfl
          rw [e]
          exact q H' s'
end
end K21
end L2
set_option Elab.async false
set_option linter.all false
set_option maxRecDepth 100000
set_option maxHeartbeats 4000000
namespace L2
namespace K21
open PySem PySem.Spec PyProof.Rows K1 WL
section
variable {P : Program} {w : World} {K : PySem.W.Frag} {mg : Str → Option Value} {base : Heap} {f : Addr} {fd : FuncData}
/-! ### Program.__init__ -/
abbrev nmPI : List Str := ["self", "lots", "found", "wrong", "lot", "index"]
theorem sc_pi : FnScope nmPI ["self", "lots"] (defScope s_Program_init) := ⟨rfl, rfl, rfl, by decide +kernel, rfl, by decide +kernel, by decide +kernel⟩
theorem ok_prog_init {C : Addr} (T : Bl mg) (fs : mg "sorted" = none) (W : Pt' K mg C) (Cl : Cal P w K mg base "is_list" ["thing"] 1 (spIsList K)) (Ca : Cal P w K mg base "ascending_lots" ["things"] 3 (spAscL K)) (Ci : Cal P w K mg base "is_lot" ["texts"] 3 (spIsLot K)) (EB : Er P w K mg base "BadProgram" "index")
    (F : FnP K "__init__" "Program.__init__" s_Program_init f fd) : FnOk P w K mg base (L2.CX P w) 4 f fd ["self", "lots"] (spInitP K C (He.ga K "BadProgram")) := by
  obtain ⟨fl, fdl, Gl, gl, kl, bl⟩ := Cl.ex
  obtain ⟨fa', fda, Ga, ga, ka, ba⟩ := Ca.ex
  obtain ⟨fi, fdi, Gi, gi, ki, bi⟩ := Ci.ex
  obtain ⟨fdB, GB, bB⟩ := EB.ex
  refine F.ok sc_pi (fun vs H Q E h => ?_) (fun cdv A outer s H vs Q E hr h => ?_)
  · obtain ⟨p, dx, v, rfl, _⟩ := h
    rfl
  · have nd := sc_pi.nd
    have h1 := hr.mono (show 1 ≤ 3 by decide)
    have h2 := hr.mono (show 2 ≤ 3 by decide)
    have hu : (A.deeper (envOfC "Program.__init__" (defScope s_Program_init) s.heap.objs.size f cdv)).units + 64 < cLine := by
      have := hr.un
      omega
    have hu65 : (A.deeper (envOfC "Program.__init__" (defScope s_Program_init) s.heap.objs.size f cdv)).units + 65 < cLine := by
      have := hr.un
      omega
    refine ⟨_, pss_cons (ps_if (pt_not (pt_val (pe_call Gl h1 rfl gl kl bl .nil pass0 (pa_cons (pv 1) pa_nil)))) (pss_one (ps_raiseE rfl (takes_of rfl rfl rfl rfl) EB.c EB.iC EB.tI GB h2 bB rfl EB.g pe_int)) pss_nil)
      (pss_cons (ps_set (i := 2) nd rfl (Or.inl rfl) (pe_call Ga hr rfl ga ka ba .nil pass0 (pa_cons (pv 1) pa_nil)))
      (pss_cons (ps_fld (pv 0) (pe_callTy call_tuple_of rfl T.f_tuple PyProof.Rows.boot_tuple (pa_cons (pe_callB (r := rSortS P w) (cr_sortS rfl hu) rfl fs (by decide +kernel) (pa_cons (pe_callTy (r := rSetT K P w) (cr_setT rfl hu) rfl T.f_set PyProof.Rows.boot_set (pa_cons (pv 2) pa_nil)) pa_nil)) pa_nil)) rfl)
      (pss_cons (ps_set (i := 3) nd rfl (Or.inr rfl) (pe_lc (own := [("lot", 4)]) (g := gName 4) (tt := tNot (tB (tCall (spIsLot K) [] E0 (tCons (tVar 4) tNil)))) (te := tVar 4) rfl nd (pi_seq (pe_fld (pv 0) rfl)) (blkOk_by (N := nmPI) (sc := defScope s_Program_init) (by decide +kernel))
        (fun _ _ _ _ _ => pg_name (i := 4) nd rfl (Or.inl rfl)) (fun _ _ _ _ _ => pts_one (pt_not (pt_val (pe_call Gi hr rfl gi ki bi .nil pass0 (pa_cons (pv 4) pa_nil))))) (fun _ _ _ _ _ => pv 4)))
      (pss_cons (ps_if (pt_cmpR op_gt (pe_callB call_len rfl T.f_len boot_len (pa_cons (pv 3) pa_nil)) pe_int (nomark _)) (pss_one (ps_raiseE rfl (takes_of rfl rfl rfl rfl) EB.c EB.iC EB.tI GB h2 bB rfl EB.g
          (pe_ix ix_seq (pe_lc (own := [("index", 5), ("lot", 4)]) (g := gTup K 2 (gCons (gName 5) (gCons (gName 4) gNil))) (tt := tTest (tOp (rInD K) (tVar 4) (tVar 3))) (te := tVar 5) rfl nd (pi_enumS rfl T.f_enumerate (pa_cons (pv 2) pa_nil)) (blkOk_by (N := nmPI) (sc := defScope s_Program_init) (by decide +kernel))
            (fun _ _ _ _ _ => pg_tup rfl (pgs_cons (pg_name (i := 5) nd rfl (Or.inl rfl)) (pgs_cons (pg_name (i := 4) nd rfl (Or.inl rfl)) pgs_nil))) (fun _ _ _ _ _ => pts_one (pt_cmpR (op_inD hu65) (pv 4) (pv 3) rfl)) (fun _ _ _ _ _ => pv 5)) pe_int fun _ _ => rfl))) pss_nil)
      (pss_one (ps_fld (pv 0) (pe_callTy call_tuple_of rfl T.f_tuple PyProof.Rows.boot_tuple (pa_cons (pv 2) pa_nil)) rfl)))))), ?_⟩
    obtain ⟨p, dx, v, rfl, hp, hv⟩ := h
    rcases hv with ⟨t, ty, kt, rz⟩ | ⟨xs, ls, hsh, h9, hlh, ⟨U, lU, hU⟩, hv⟩
    · refine ⟨_, rfl, v, t, false, rfl, TyX.same ty hide_le, kt, fun H1 s1 => ⟨false, rfl, iteP rfl ?_⟩⟩
      exact raiseE_end (W := fun cls d _ H => E cls d H) (v := .int 0) fun H2 d s2 nd2 e2 => rz H2 d ((hide_le.trans s1).trans s2) e2
    have hs : Seq K H v xs := hsh.same hide_le
    have hl : Paired (LotIs K H) xs ls := Paired.imp (fun _ _ r => r.same hide_le) hlh
    obtain ⟨t, ty, kt⟩ := hs.kit
    refine ⟨_, rfl, v, t, true, rfl, ty, kt, fun H1 s1 => ⟨true, rfl, iteN rfl ?_⟩⟩
    refine t_next ?_
    dsimp only
    refine t_seqAsg ?_
    refine ⟨_, rfl, v, xs, ls, rfl, hs.same s1, h9, Paired.imp (fun _ _ r => r.same s1) hl, fun H2 D ys s2 nD eD hy => ?_⟩
    refine g_nm ?_
    refine t_seqFld ?_
    have s02 := s1.trans s2
    have p2 := s02 _ _ hp
    have pD : D ≠ p := fun z => by
      rw [z, s1 _ _ hp] at nD
      cases nD
    obtain ⟨ks, rfl, ek, hk⟩ := mbs_of hy
    have hk2 : ∀ q ∈ ks, H2 q.1 = some (.tup (q.2.map kV)) := fun q m => hide_le _ _ (hk q m)
    have kl : ∀ q ∈ ks, ∃ l ∈ ls, q.2 = keysOf (asc l) := fun q m => by
      have : q.2 ∈ (ls.map asc).map keysOf := by
        rw [← ek]
        exact List.mem_map.mpr ⟨q, m, rfl⟩
      obtain ⟨x, mx, e⟩ := List.mem_map.mp this
      obtain ⟨l, ml, rfl⟩ := List.mem_map.mp mx
      exact ⟨l, ml, e.symm⟩
    refine ⟨_, rfl, D, ks, rfl, SqL.of eD, hk2, few_of (U.map keysOf) (fun q m => ?_) (by rw [List.length_map]; exact lU), fun a L na g ndL ltL => ?_⟩
    · obtain ⟨l, ml, e⟩ := kl q m
      exact List.mem_map.mpr ⟨asc l, hU l ml, e.symm⟩
    have hL : ∀ q ∈ L, upd H2 a (SO P w a L) q.1 = some (.tup (q.2.map kV)) := fun q m => same_upd na _ _ (hk2 q (g.sub q m))
    refine ⟨a, L, rfl, upd_same, hL, fun q m => ?_, fun L' pl pm npl => ?_⟩
    · obtain ⟨l, _, e⟩ := kl q (g.sub q m)
      exact ⟨asc l, e⟩
    refine ⟨pl, _, rfl, .inl ⟨SqL.of upd_same, fun c nc => ?_⟩⟩
    have s3 := ((same_upd (o := SO P w a L) na).trans (same_upd (o := .lst (L'.map mbV)) npl)).trans (same_upd (o := .tup (L'.map mbV)) nc)
    have ec := @upd_same (upd (upd H2 a (SO P w a L)) pl (.lst (L'.map mbV))) c (.tup (L'.map mbV))
    generalize upd (upd (upd H2 a (SO P w a L)) pl (.lst (L'.map mbV))) c (.tup (L'.map mbV)) = H3 at s3 ec ⊢
    have p3 := s3 _ _ p2
    have pc : c ≠ p := fun z => by
      rw [z, p3] at ec
      cases ec
    have Dc : D ≠ c := fun z => by
      have := s3 _ _ eD
      rw [z, ec] at this
      cases this
    refine ⟨_, rfl, p, C, dx, [], rfl, p3, W.cl, W.nu, by decide, ?_⟩
    have s03 := s02.trans s3
    have up : ∀ {b : Addr} {o : HO}, b ≠ p → H3 b = some o → upd H3 p (.ins C dx (putF "unlike_lots" (.ref c) [])) b = some o := fun nb e => by
      rw [upd_ne nb]
      exact e
    have eA : upd H3 p (.ins C dx (putF "unlike_lots" (.ref c) [])) p = some (.ins C dx (putF "unlike_lots" (.ref c) [])) := upd_same
    have cA := up pc ec
    have DA := up pD (s3 _ _ eD)
    have sA : Same (hide p H) (upd H3 p (.ins C dx (putF "unlike_lots" (.ref c) []))) := fun b o e => by
      obtain ⟨nb, e⟩ := hide_some e
      exact up nb (s03 _ _ e)
    have memA : ∀ q ∈ L', upd H3 p (.ins C dx (putF "unlike_lots" (.ref c) [])) q.1 = some (.tup (q.2.map kV)) ∧ ∃ ts : List Str, q.2 = keysOf ts := fun q m => by
      have mL := pm.mem_iff.mp m
      obtain ⟨l, _, e⟩ := kl q (g.sub q mL)
      have eq := hk2 q (g.sub q mL)
      refine ⟨up (fun z => ?_) (s3 _ _ eq), asc l, e⟩
      rw [z, p2] at eq
      cases eq
    have fA : ∀ q ∈ ks, upd H3 p (.ins C dx (putF "unlike_lots" (.ref c) [])) q.1 = some (.tup (q.2.map kV)) := fun q m => by
      have eq := hk2 q m
      refine up (fun z => ?_) (s3 _ _ eq)
      rw [z, p2] at eq
      cases eq
    generalize upd H3 p (.ins C dx (putF "unlike_lots" (.ref c) [])) = HA at eA cA DA sA memA fA ⊢
    obtain ⟨uls, eu, hu'⟩ := mbs_back memA
    have yA : Paired (TupT HA) (ks.map mbV) (ls.map asc) := by
      obtain ⟨ls2, e2, h⟩ := mbs_back (H := HA) (ks := ks) fun q m => ⟨fA q m, let ⟨l, _, e⟩ := kl q m; ⟨asc l, e⟩⟩
      have : ls2 = ls.map asc := by
        have e3 := e2.symm.trans ek
        have inj : ∀ {a b : Lots}, a.map keysOf = b.map keysOf → a = b := by
          intro a
          induction a with
          | nil =>
            intro b h
            cases b with
            | nil => rfl
            | cons _ _ => cases h
          | cons x a ih =>
            intro b h
            cases b with
            | nil => cases h
            | cons y b =>
              obtain ⟨h1, h2⟩ := List.cons.inj h
              rw [keysOf_inj h1, ih h2]
        exact inj e3
      rw [← this]
      exact h
    have mu : ∀ l, l ∈ uls ↔ l ∈ ls.map asc := fun l => by
      have m1 : l ∈ uls ↔ keysOf l ∈ L'.map Prod.snd := by
        rw [eu, List.mem_map]
        exact ⟨fun m => ⟨l, m, rfl⟩, fun ⟨x, m, e⟩ => keysOf_inj e ▸ m⟩
      have m2 : l ∈ ls.map asc ↔ keysOf l ∈ ks.map Prod.snd := by
        rw [ek, List.mem_map (f := keysOf)]
        exact ⟨fun m => ⟨l, m, rfl⟩, fun ⟨x, m, e⟩ => keysOf_inj e ▸ m⟩
      rw [m1, m2, (pm.map Prod.snd).mem_iff]
      constructor
      · intro m
        obtain ⟨q, mq, e⟩ := List.mem_map.mp m
        exact List.mem_map.mpr ⟨q, g.sub q mq, e⟩
      · intro m
        obtain ⟨q, mq, e⟩ := List.mem_map.mp m
        rw [← e]
        exact g.all q mq
    have nu : uls.Nodup := by
      have h := (pm.map Prod.snd).nodup_iff.mpr ndL
      rw [eu] at h
      exact List.Pairwise.of_map keysOf (fun _ _ hne e => hne (congrArg keysOf e)) h
    have lu : uls.length < 64 := by
      have h := congrArg List.length eu
      rw [List.length_map, List.length_map, pm.length_eq] at h
      omega
    have lz : ∀ l ∈ uls, l.length ≤ 900 ∧ ∀ z ∈ l, z.length ≤ sizeLine ∧ sOk [z] := fun l m => by
      obtain ⟨l', ml, rfl⟩ := List.mem_map.mp ((mu l).mp m)
      obtain ⟨i, e⟩ := List.mem_iff_getElem?.mp ml
      obtain ⟨x, _, hx⟩ := Paired.get hl e
      exact hx.len
    -- wrong
    refine t_seqAsg ?_
    refine lc_filt (K := K) (v := .ref c) (xs := L'.map mbV) ⟨c, rfl, .inr (SqT.of cA)⟩ (fun Q q => ⟨_, rfl, p, C, dx, _, _, rfl, eA, W.cl, W.nu, rfl, q⟩) (by have := Paired.length hu'; omega) (fun i => !lotOk (uls.getD i [])) (fun i => (L'.map mbV).getD i .non) (fun i x H' Z N hx s' hn hz => ?_) (fun D2 H4 s4 nD2 e4 => ?_)
    · obtain ⟨l, el, hl'⟩ := Paired.getL hu' hx
      have ml := List.mem_of_getElem? el
      have eg : uls.getD i [] = l := by rw [List.getD_eq_getElem?_getD, el]; rfl
      have eg2 : (L'.map mbV).getD i .non = x := by rw [List.getD_eq_getElem?_getD, hx]; rfl
      rw [eg] at hn hz
      rw [eg2] at hz
      refine ⟨rfl, ⟨_, rfl, x, l, rfl, hl'.same s', (lz l ml).1, fun z m => ((lz l ml).2 z m).1, fun H5 s5 => ⟨_, rfl, ?_⟩⟩⟩
      cases hb : lotOk l with
      | true => exact iteN rfl (hn (by rw [hb]; rfl) H5 s5)
      | false => exact iteP rfl ⟨_, rfl, hz (by rw [hb]; rfl) H5 s5⟩
    have hw : Paired (TupT H4) (((List.range (L'.map mbV).length).filter fun i => !lotOk (uls.getD i [])).map fun i => (L'.map mbV).getD i .non) (uls.filter fun l => !lotOk l) := tupTs_same (some_pairs (fun l => !lotOk l) [] hu') s4
    generalize ((List.range (L'.map mbV).length).filter fun i => !lotOk (uls.getD i [])).map (fun i => (L'.map mbV).getD i .non) = wl at e4 hw
    refine g_nm ?_
    have D4 := s4 _ _ DA
    refine ⟨_, rfl, .ref D2, wl.length, rfl, Seq.len ⟨D2, rfl, .inl (SqL.of e4)⟩, (wl.length : Nat), 0, rfl, rfl, _, rfl, ?_⟩
    have lw := Paired.length hw
    rcases hv with ⟨ok, q⟩ | ⟨i, l, el, bl', bef, rz⟩
    · have e0 : (uls.filter fun l => !lotOk l) = [] := by
        rw [List.filter_eq_nil_iff]
        intro l m
        obtain ⟨l', ml, rfl⟩ := List.mem_map.mp ((mu l).mp m)
        rw [ok l' ml]
        decide
      rw [e0] at lw
      refine iteN (decide_eq_false (by rw [lw]; decide)) ?_
      refine t_next ?_
      dsimp only
      refine t_fld ?_
      refine ⟨_, rfl, D, _, rfl, .inl ⟨SqL.of D4, fun c2 nc2 => ?_⟩⟩
      have p5 := same_upd (o := .tup (ks.map mbV)) nc2 _ _ (s4 _ _ eA)
      have c2p : c2 ≠ p := fun z => by
        rw [z] at nc2
        rw [s4 _ _ eA] at nc2
        cases nc2
      refine ⟨_, rfl, p, C, dx, _, rfl, p5, W.cl, W.nl, (show (1 : Nat) < 1000 by decide), ?_⟩
      have up5 : ∀ {b : Addr} {o : HO}, b ≠ p → HA b = some o → upd (upd H4 c2 (.tup (ks.map mbV))) p (.ins C dx (putF "lots" (.ref c2) (putF "unlike_lots" (.ref c) []))) b = some o := fun nb e => by
        rw [upd_ne nb]
        exact same_upd nc2 _ _ (s4 _ _ e)
      have tup5 : ∀ {x : V} {l : List Str}, TupT HA x l → TupT (upd (upd H4 c2 (.tup (ks.map mbV))) p (.ins C dx (putF "lots" (.ref c2) (putF "unlike_lots" (.ref c) [])))) x l := fun ⟨b, e1, e2⟩ => ⟨b, e1, up5 (fun z => by
        rw [z, eA] at e2
        cases e2) e2⟩
      refine q _ (fun b o e => up5 (hide_some e).1 (sA _ _ e)) ⟨dx, c, c2, L'.map mbV, ks.map mbV, uls, ?_, up5 pc cA, ?_, Paired.imp (fun _ _ h => tup5 h) hu', Paired.imp (fun _ _ h => tup5 h) yA, mu, nu, lu⟩
      · exact upd_same
      · rw [upd_ne c2p]
        exact upd_same
    · have mb : asc l ∈ uls := (mu _).mpr (List.mem_map.mpr ⟨l, List.mem_of_getElem? el, rfl⟩)
      have mf : asc l ∈ uls.filter fun l => !lotOk l := List.mem_filter.mpr ⟨mb, by rw [bl']; rfl⟩
      have lp := List.length_pos_of_mem mf
      refine iteP (decide_eq_true (by omega)) ?_
      have lk : (ks.map mbV).length = ls.length := by
        have := Paired.length yA
        rw [List.length_map (f := asc)] at this
        exact this
      refine raiseE_mk ?_
      refine lc_enum (K := K) (v := .ref D) (xs := ks.map mbV) ⟨D, rfl, .inl (SqL.of D4)⟩ (fun Q q => ⟨_, rfl, q⟩) (by have := Paired.length hl; omega) (fun i => !lotOk ((ls.map asc).getD i [])) (fun i => .int (i : Nat)) (fun i x H' T' Z N hx s' nT hn hz => ?_) (fun D3 H5 s5 nD3 e5 => ?_)
      · obtain ⟨l', el', hl'⟩ := Paired.getL yA hx
        have ml := (mu _).mpr (List.mem_of_getElem? el')
        have eg : (ls.map asc).getD i [] = l' := by rw [List.getD_eq_getElem?_getD, el']; rfl
        rw [eg] at hn hz
        have sT := same_upd (o := .tup [.int (i : Nat), x]) nT
        refine ⟨T', [.int (i : Nat), x], rfl, SqT.of upd_same, rfl, _, _, rfl, _, _, rfl, rfl, rfl, ?_⟩
        have s45 := s'.trans sT
        refine ⟨_, rfl, _, rfl, lotD l', (uls.filter fun l => !lotOk l).map lotD, tupT_dp (hl'.same (s4.trans s45)), .lst (SqL.of (s45 _ _ e4)) (tupTs_dp (tupTs_same hw s45)), shape_tup (sOk_of fun z m => ((lz l' ml).2 z m).2), lots_shape fun b m => sOk_of fun z m' => ((lz b (List.mem_filter.mp m).1).2 z m').2, _, rfl, ?_⟩
        have ed : (((uls.filter fun l => !lotOk l).map lotD).any fun z => PyData.eqv z (lotD l')) = !lotOk l' := by
          rw [lots_any]
          cases hb : lotOk l' with
          | true =>
            refine decide_eq_false fun m => ?_
            have z := (List.mem_filter.mp m).2
            rw [hb] at z
            cases z
          | false => exact decide_eq_true (List.mem_filter.mpr ⟨ml, by rw [hb]; rfl⟩)
        rw [ed]
        cases hb : lotOk l' with
        | true => exact iteN rfl (hn (by rw [hb]; rfl) _ (Same.refl _))
        | false => exact iteP rfl ⟨_, rfl, hz (by rw [hb]; rfl) _ (Same.refl _)⟩
      · have at_ : ∀ {j : Nat} {l' : Option (List Str)}, ls[j]? = some l' → (ls.map asc).getD j [] = asc l' := fun e => by
          rw [List.getD_eq_getElem?_getD, List.getElem?_map, e]
          rfl
        obtain ⟨rest, er⟩ := first_in (n := (ks.map mbV).length) (i := i) (p := fun i => !lotOk ((ls.map asc).getD i [])) (by rw [lk]; exact (List.getElem?_eq_some_iff.mp el).1) (by rw [at_ el, bl']; rfl) (fun j hj => by
          have lj : j < ls.length := Nat.lt_trans hj (List.getElem?_eq_some_iff.mp el).1
          have ej := List.getElem?_eq_getElem lj
          rw [at_ ej, bef j _ hj ej]
          rfl)
        rw [er] at e5
        refine Seq.ix (xs := (i :: rest).map fun i => V.int (i : Nat)) (i := 0) ⟨D3, rfl, .inl (SqL.of e5)⟩ (x := .int (i : Nat)) (atI_nat (xs := (i :: rest).map fun i => V.int (i : Nat)) (j := 0) rfl) ?_
        exact raiseE_end (W := fun cls d _ H => E cls d H) (v := .int (i : Nat)) fun H6 d s6 nd6 e6 => rz H6 d (sA.trans (s4.trans (s5.trans s6))) e6
end
end K21
end L2
set_option Elab.async false
set_option linter.all false
set_option maxRecDepth 100000
set_option maxHeartbeats 8000000
namespace L2
namespace K21
open PySem PySem.Spec PyProof.Rows K1 WL TL TX TS SrtR
section
variable {P : Program} {w : World} {K : PySem.W.Frag} {mg : Str → Option Value} {base : Heap} {f : Addr} {fd : FuncData}
theorem paired_ofT {α β : Type} {R : α → β → Prop} : ∀ {l : List α} {m : List β}, l.length = m.length → (∀ (i : Nat) x y, l[i]? = some x → m[i]? = some y → R x y) → Paired R l m
  | [], [], _, _ => .nil
  | x :: l, y :: m, n, h => .cons (h 0 x y rfl rfl) (paired_ofT (by simpa using n) fun i x' y' a b => h (i + 1) x' y' a b)
theorem t_retMk {C : Addr} {sp : Sp} {E : XK} {te : TE} {D : Ends} {σ : St} {H : Hp} (h : te σ H fun v H1 => ∀ x dx, H1 x = none → H1 dx = none → dx ≠ x → sp [.ref x, v] (upd (upd H1 dx (.own x)) x (.ins C dx [])) (fun v H2 => v = .non ∧ D.rt (.ref x) H2) E) : tRet (tMake C sp [] E (tCons te tNil)) D σ H := h
/-! ### web_of -/
abbrev nmWO : List Str := ["rows", "row", "cells", "index", "name"]
theorem sc_wo : FnScope nmWO ["rows"] (defScope s_web_of) := ⟨rfl, rfl, rfl, by decide +kernel, rfl, by decide +kernel, by decide +kernel⟩
theorem row_at {H : Hp} {vl : List V} {rows : List (List Str)} (hp : Paired (PthV H) vl rows) {i : Nat} {v : V} (hv : vl[i]? = some v) : ∃ r a, rows[i]? = some r ∧ v = .ref a ∧ H a = some (.lst (r.map .str)) := by
  obtain ⟨r, er, a, e, ha⟩ := Paired.getL hp hv
  exact ⟨r, a, er, e, ha⟩
theorem ok_wo {CW fwi : Addr} {fdwi : FuncData} (T : Bl mg) (W : Wt K mg CW) (Mw : Mk K CW fwi) (Gw : FnOk P w K mg base (L2.CX P w) 6 fwi fdwi ["self", "rows"] (spInit K CW)) (bw : Binds K fdwi ["self", "rows"] [])
    (EB : Er P w K mg base "BadText" "line") (F : FnP K "web_of" "web_of" s_web_of f fd) : FnOk P w K mg base (L2.CX P w) 8 f fd ["rows"] (spWof K CW (He.ga K "BadText")) := by
  obtain ⟨fdB, GB, bB⟩ := EB.ex
  refine F.ok sc_wo (fun vs H Q E h => ?_) (fun cdv A outer s H vs Q E hr h => ?_)
  · obtain ⟨a, rows, rfl, _⟩ := h
    rfl
  · have nd := sc_wo.nd
    have h2 := hr.mono (show 2 ≤ 7 by decide)
    refine ⟨_, pss_cons (ps_set (i := 2) nd rfl (Or.inr rfl) (pe_lc (own := [("row", 1)]) (g := gName 1) (tt := tYes) (te := tOp (rIx K) (tVar 1) (tC (.int 0))) rfl nd (pi_seq (pv 0)) (blkOk_by (N := nmWO) (sc := defScope s_web_of) (by decide +kernel))
        (fun _ _ _ _ _ => pg_name (i := 1) nd rfl (Or.inl rfl)) (fun _ _ _ _ _ => pts_nil) (fun _ _ _ _ _ => pe_ix ix_seq (pv 1) pe_int fun _ _ => rfl)))
      (pss_cons (ps_for (passes_of rfl) rfl (pi_enumS rfl T.f_enumerate (pa_cons (pv 0) pa_nil)) (pg_tup rfl (pgs_cons (pg_name (i := 3) nd rfl (Or.inl rfl)) (pgs_cons (pg_name (i := 1) nd rfl (Or.inl rfl)) pgs_nil)))
        (pss_one (ps_if (pt_not (pt_val (pe_callB (cr_all rfl) rfl T.f_all PyProof.Rows.boot_all (pa_cons (pe_lc (own := [("name", 4)]) (g := gName 4) (tt := tYes) (te := tOp (rIn K false) (tVar 4) (tVar 2)) rfl nd (pi_seq (pv 1)) (blkOk_by (N := nmWO) (sc := defScope s_web_of) (by decide +kernel))
            (fun _ _ _ _ _ => pg_name (i := 4) nd rfl (Or.inl rfl)) (fun _ _ _ _ _ => pts_nil) (fun _ _ _ _ _ => pe_cmpR op_in_seq (pv 4) (pv 2) rfl)) pa_nil))))
          (pss_one (ps_raiseE rfl (takes_of rfl rfl rfl rfl) EB.c EB.iC EB.tI GB h2 bB rfl EB.g (pe_op op_add (pv 3) pe_int))) pss_nil)))
      (pss_one (ps_ret (pe_make Mw Gw hr rfl W.mg bw .nil (E := ENo) passNT (pa_cons (pe_lc (own := [("row", 1)]) (g := gName 1) (tt := tYes) (te := tTup (tCons (tOp (rIx K) (tVar 1) (tC (.int 0))) (tCons (tSl (rSlL K) (tVar 1) (tPart (tC (.int 1))) tNoPart) tNil))) rfl nd (pi_seq (pv 0)) (blkOk_by (N := nmWO) (sc := defScope s_web_of) (by decide +kernel))
        (fun _ _ _ _ _ => pg_name (i := 1) nd rfl (Or.inl rfl)) (fun _ _ _ _ _ => pts_nil) (fun _ _ _ _ _ => pe_tup (pa_cons (pe_ix ix_seq (pv 1) pe_int fun _ _ => rfl) (pa_cons (pe_slice sl_list (pv 1) (po_some pe_int) po_none) pa_nil)))) pa_nil))))), ?_⟩
    obtain ⟨a, rows, rfl, ⟨vl, hv, hp⟩, h4, hr9, hx⟩ := h
    have lv := Paired.length hp
    have hs0 : Seq K H (.ref a) vl := ⟨a, rfl, .inl hv⟩
    refine t_seqAsgT ?_
    refine lc_seq hs0 (fun Q q => ⟨_, rfl, q⟩) (by omega) (fun i => .str ((rows.getD i []).headD "")) (fun i v H' Q' hvi s' qq => ?_) (fun D H2 s2 e2 => ?_)
    · obtain ⟨r, b, er, rfl, hb⟩ := row_at hp hvi
      have e0 : rows.getD i [] = r := by rw [List.getD_eq_getElem?_getD, er]; rfl
      rw [e0] at qq
      obtain ⟨x, xs, rfl⟩ : ∃ x xs, r = x :: xs := by
        cases r with
        | nil => exact absurd rfl (hr9 _ (List.mem_of_getElem? er)).1
        | cons x xs => exact ⟨_, _, rfl⟩
      exact ⟨rfl, _, rfl, (show Seq K H' (.ref b) ((x :: xs).map .str) from ⟨b, rfl, .inl (SqL.of (s' _ _ hb))⟩).ix (x := .str x) (show atI ((x :: xs).map V.str) ((0 : Nat) : Int) = some (.str x) from atI_nat rfl) (qq _ (Same.refl _))⟩
    have eD : H2 D = some (.lst ((rows.map fun r => r.headD "").map V.str)) := by
      rw [e2, lv, rngF (xs := rows) (f := fun r => V.str (r.headD "")) [], List.map_map]
      rfl
    clear e2
    refine g_nm ?_
    try dsimp only
    refine t_seqF ?_
    refine for_enumS (hs0.same s2) (fun Q q => ⟨_, rfl, q⟩) (fun i σ H' => Same H2 H' ∧ (∃ o1 o3, σ = [some (.ref a), o1, some (.ref D), o3, none]) ∧ ∀ j, j < i → ((rows.getD j []).all fun z => decide (z ∈ rows.map fun r => r.headD "")) = true)
      ⟨Same.refl _, ⟨_, _, rfl⟩, fun j hj => absurd hj (Nat.not_lt_zero j)⟩ (fun i σ H' p => p.1) ?_ ?_
    · rintro i v σ H3 T3 hvi ⟨s3, ⟨o1, o3, rfl⟩, ok3⟩ nT
      obtain ⟨r, b, er, rfl, hb⟩ := row_at hp hvi
      have lt : i < rows.length := (List.getElem?_eq_some_iff.mp er).1
      have e0 : rows.getD i [] = r := by rw [List.getD_eq_getElem?_getD, er]; rfl
      have sT := same_upd (o := HO.tup [.int (i : Nat), .ref b]) nT
      refine ⟨T3, [.int (i : Nat), .ref b], rfl, SqT.of upd_same, rfl, _, _, rfl, _, _, rfl, rfl, ?_⟩
      have s4 := s3.trans sT
      generalize upd H3 T3 (.tup [.int (i : Nat), .ref b]) = H4 at *
      refine t_oneI ?_
      refine t_nall ?_
      have hb4 := s4 _ _ (s2 _ _ hb)
      refine lc_seq (v := .ref b) (xs := r.map .str) ⟨b, rfl, .inl (SqL.of hb4)⟩ (fun Q q => ⟨_, rfl, q⟩) (by rw [List.length_map]; have := (hr9 r (List.mem_of_getElem? er)).2; omega) (fun j => .bl (decide (r.getD j "" ∈ rows.map fun r => r.headD ""))) (fun j y H' Q' hy s' qq => ?_) (fun D5 H5 s5 e5 => ?_)
      · rw [List.getElem?_map] at hy
        obtain ⟨z, hz, rfl⟩ := Option.map_eq_some_iff.mp hy
        have e1 : r.getD j "" = z := by rw [List.getD_eq_getElem?_getD, hz]; rfl
        rw [e1] at qq
        refine ⟨rfl, _, rfl, _, rfl, D, _, rfl, .inl (SqL.of (s' _ _ (s4 _ _ eD))), rfl, flat_strs' _, ?_⟩
        show Q' (.bl (inV (.str z) _)) _
        rw [in_strs]
        exact qq _ (Same.refl _)
      · refine ⟨D5, r.map fun z => decide (z ∈ rows.map fun r => r.headD ""), rfl, SqL.of ?_, _, rfl, ?_⟩
        · rw [e5, List.length_map, rngF (xs := r) (f := fun z => V.bl (decide (z ∈ rows.map fun r => r.headD ""))) "", List.map_map]
          rfl
        · have ea : (r.map fun z => decide (z ∈ rows.map fun r => r.headD "")).all id = r.all fun z => decide (z ∈ rows.map fun r => r.headD "") := by rw [List.all_map]; rfl
          rw [ea]
          cases hh : r.all fun z => decide (z ∈ rows.map fun r => r.headD "") with
          | false =>
            refine iteP rfl ?_
            have eu : unkRow rows = some i := find_range _ lt (by rw [e0, hh]; rfl) fun j hj => by rw [ok3 j hj]; rfl
            rcases hx with ⟨i', ei, rz⟩ | ⟨ei, _⟩
            · rw [eu] at ei
              cases ei
              refine raiseE_mk ?_
              refine ⟨_, rfl, (i : Nat), 2, rfl, rfl, ?_⟩
              exact raiseE_end (W := fun cls d _ H => E cls d H) (v := .int ((i : Int) + 2)) fun H6 d s6 nd6 e6 => rz H6 d (s2.trans (s4.trans (s5.trans s6))) e6
            · rw [eu] at ei
              cases ei
          | true =>
            refine iteN rfl ⟨s4.trans s5, ⟨_, _, rfl⟩, fun j hj => ?_⟩
            rcases Nat.lt_succ_iff_lt_or_eq.mp hj with hj | rfl
            · exact ok3 j hj
            · rw [e0]
              exact hh
    · rintro σ H3 ⟨s3, ⟨o1, o3, rfl⟩, ok3⟩
      rw [lv] at ok3
      have eu : unkRow rows = none := find_none_iff.mpr ok3
      rcases hx with ⟨i', ei, rz⟩ | ⟨ei, g, q⟩
      · rw [eu] at ei
        cases ei
      have s03 := s2.trans s3
      dsimp only
      refine t_retMk ?_
      refine lc_rel (hs0.same s03) (fun Q q => ⟨_, rfl, q⟩) (by omega) (fun i y H' => ∀ r, rows[i]? = some r → RowG K H' y (rowOf r)) (fun i y H1 H2 h s r e => (h r e).same s) (fun i x H' D' zs Q' hxi sx nD eD' qq => ?_) (fun D4 H4 ys s4 nD eD4 ly hy => ?_)
      · obtain ⟨r, b, er, rfl, hb⟩ := row_at hp hxi
        obtain ⟨x, xs, rfl⟩ : ∃ x xs, r = x :: xs := by
          cases r with
          | nil => exact absurd rfl (hr9 _ (List.mem_of_getElem? er)).1
          | cons x xs => exact ⟨_, _, rfl⟩
        have hb' := sx _ _ (s03 _ _ hb)
        refine ⟨rfl, _, rfl, (show Seq K H' (.ref b) ((x :: xs).map .str) from ⟨b, rfl, .inl (SqL.of hb')⟩).ix (x := .str x) (show atI ((x :: xs).map V.str) ((0 : Nat) : Int) = some (.str x) from atI_nat rfl) ?_⟩
        refine ⟨_, rfl, 1, rfl, b, _, rfl, SqL.of hb', fun d1 n1 => ?_⟩
        have k2 : cutV ((x :: xs).map V.str) (some 1) none = xs.map V.str := by
          have := cut_from (xs := (x :: xs).map V.str) (i := 1) (by rw [List.length_map, List.length_cons]; omega)
          exact this
        have sd := same_upd (o := HO.lst (cutV ((x :: xs).map V.str) (some 1) none)) n1
        have ed : upd H' d1 (HO.lst (cutV ((x :: xs).map V.str) (some 1) none)) d1 = some (HO.lst (xs.map V.str)) := by rw [upd_same, k2]
        refine ⟨(show 2 ≤ sizeLine by decide), fun t nt => ?_⟩
        have st := same_upd (o := HO.tup [V.str x, V.ref d1]) nt
        refine qq _ _ (sd.trans st) fun r' er' => ?_
        rw [er] at er'
        cases er'
        have eD5 := st _ _ (sd _ _ eD')
        have dD : d1 ≠ D' := fun z => by rw [z, eD'] at n1; cases n1
        have tD : t ≠ D' := fun z => by rw [z, sd _ _ eD'] at nt; cases nt
        refine ⟨.ref d1, ⟨t, rfl, .inr (SqT.of ?_)⟩, d1, rfl, .inl (SqL.of ?_)⟩
        · rw [hide_ne tD]
          exact upd_same
        · rw [hide_ne dD]
          exact st _ _ ed
      · have hp4 : Paired (RowG K (hide D4 H4)) ys (rows.map rowOf) := paired_ofT (by rw [ly, List.length_map, lv]) fun i y r' hy' hr' => by
          rw [List.getElem?_map] at hr'
          obtain ⟨r, er, rfl⟩ := Option.map_eq_some_iff.mp hr'
          exact hy i y hy' r er
        refine fun x dx nx ndx _ => ?_
        have su := mk_up (C := CW) nx ndx
        refine ⟨x, dx, .ref D4, rfl, upd_same, .inr ⟨ys, rows.map rowOf, ⟨D4, rfl, .inl (SqL.of (su _ _ eD4))⟩, Paired.imp (fun _ _ r => (r.same hide_le).same su) hp4, g, fun H5 s5 w5 => ⟨rfl, q H5 x (s03.trans (s4.trans (su.trans (s5.trans hide_le)))) w5⟩⟩⟩
end
end K21
end L2
set_option Elab.async false
set_option linter.all false
set_option maxRecDepth 100000
set_option maxHeartbeats 8000000
namespace L2
namespace K21
open PySem PySem.Spec PyProof.Rows K1 WL TL TX TS SrtR
section
variable {P : Program} {w : World} {K : PySem.W.Frag} {mg : Str → Option Value} {base : Heap} {f : Addr} {fd : FuncData}
/-! ### read -/
abbrev nmRE : List Str := ["text", "lines", "rest", "wrong", "rows", "line"]
theorem sc_re : FnScope nmRE ["text"] (defScope s_read) := ⟨rfl, rfl, rfl, by decide +kernel, rfl, by decide +kernel, by decide +kernel⟩
noncomputable def wrL (ls : List Str) (rest : Str) : Option Nat :=
  match badLine ls with
  | some i => some (i + 1)
  | none => if rest ≠ "" ∨ ls = [] ∨ ls = [WEB] then some (ls.length + 1) else none
theorem rdB_some {ls : List Str} {rest : Str} {n : Nat} (h : wrL ls rest = some n) : rdB ls rest = some n := by
  unfold wrL at h
  unfold rdB
  cases hb : badLine ls with
  | some i => rw [hb] at h; exact h
  | none =>
    rw [hb] at h
    dsimp only at h ⊢
    by_cases hc : rest ≠ "" ∨ ls = [] ∨ ls = [WEB]
    · rw [if_pos hc] at h ⊢
      exact h
    · rw [if_neg hc] at h
      cases h
theorem rdB_none {ls : List Str} {rest : Str} (h : wrL ls rest = none) : rdB ls rest = if ls.getD 0 "" = WEB then (unkRow (ls.tail.map wds)).map (· + 2) else none := by
  unfold wrL at h
  unfold rdB
  cases hb : badLine ls with
  | some i => rw [hb] at h; cases h
  | none =>
    rw [hb] at h
    dsimp only at h ⊢
    by_cases hc : rest ≠ "" ∨ ls = [] ∨ ls = [WEB]
    · rw [if_pos hc] at h
      cases h
    · rw [if_neg hc]
theorem ok_read {CW CP fpi : Addr} {fdpi : FuncData} (T : Bl mg) (Wp : Pt' K mg CP) (Mp : Mk K CP fpi) (Gpi : FnOk P w K mg base (L2.CX P w) 4 fpi fdpi ["self", "lots"] (spInitP K CP (He.ga K "BadProgram"))) (bpi : Binds K fdpi ["self", "lots"] [])
    (Cf : Cal P w K mg base "first_wrong_line" ["lines"] 3 (spFwl K)) (EB : Er P w K mg base "BadText" "line")
    (Cw : ∃ f fd, FnOk P w K mg base (L2.CX P w) 8 f fd ["rows"] (spWof K CW (He.ga K "BadText")) ∧ mg "web_of" = some (.ref f) ∧ PySem.W.keepIn K (.ref f) = true ∧ Binds K fd ["rows"] [])
    (F : FnP K "read" "read" s_read f fd) : FnOk P w K mg base (L2.CX P w) 9 f fd ["text"] (spRead K CW CP (He.ga K "BadText")) := by
  obtain ⟨fdB, GB, bB⟩ := EB.ex
  obtain ⟨ff, fdf, Gf, gf, kf, bf⟩ := Cf.ex
  obtain ⟨fo, fdo, Go, go, ko, bo⟩ := Cw
  refine F.ok sc_re (fun vs H Q E h => ?_) (fun cdv A outer s H vs Q E hr h => ?_)
  · obtain ⟨z, ls, rest, rfl, _⟩ := h
    rfl
  · have nd := sc_re.nd
    have h2 := hr.mono (show 2 ≤ 8 by decide)
    have h3 := hr.mono (show 3 ≤ 8 by decide)
    have h5 := hr.mono (show 5 ≤ 8 by decide)
    have hu := hr.units
    refine ⟨_, pss_cons (ps_asg (pe_split (pv 0) pe_str) (pg_star (n := 2) rfl (pgs_star (pg_name (i := 1) nd rfl (Or.inl rfl)) (pgs_cons (pg_name (i := 2) nd rfl (Or.inl rfl)) pgs_nil))))
      (pss_cons (ps_set (i := 3) nd rfl (Or.inl rfl) (pe_call Gf h3 rfl gf kf bf .nil pass0 (pa_cons (pv 1) pa_nil)))
      (pss_cons (ps_if (PW.pt (pw_and (pt_cmpR op_isN (pv 3) pe_non (nomark _)) (pw_and1 (PW.pt (pw_or (pt_cmpR op_ne (pv 2) pe_str (nomark _)) (pw_or (pt_cmpR (op_eqD hu) (pv 1) (pe_lst pa_nil) (nomark _)) (pw_or1 (pt_cmpR (op_eqD hu) (pv 1) (pe_lst (pa_cons pe_str pa_nil)) (nomark _)))))))))
          (pss_one (ps_set (i := 3) nd rfl (Or.inl rfl) (pe_op op_add (pe_callB call_len rfl T.f_len boot_len (pa_cons (pv 1) pa_nil)) pe_int))) pss_nil)
      (pss_cons (ps_if (pt_cmpR op_notN (pv 3) pe_non (nomark _)) (pss_one (ps_raiseE rfl (takes_of rfl rfl rfl rfl) EB.c EB.iC EB.tI GB h2 bB rfl EB.g (pv 3))) pss_nil)
      (pss_cons (ps_setLc (i := 4) (own := [("line", 5)]) (g := gName 5) (tt := tYes) (te := tM1 (fun x xs H Q => ∃ a b, x = .str a ∧ xs = [.str b] ∧ (b.length == 0) = false ∧ a.length + 2 ≤ sizeLine ∧ rNewStrs (Txt.split a b) H Q) (tVar 5) (tC (.str (Str.ofString " ")))) rfl nd rfl rfl (sw_true rfl rfl rfl (by decide +kernel)) (pi_seq (pe_slice sl_list (pv 1) (po_some pe_int) po_none)) (blkOk_by (N := nmRE) (sc := defScope s_read) (by decide +kernel))
        (fun _ _ _ _ _ => pg_name (i := 5) nd rfl (Or.inl rfl)) (fun _ _ _ _ _ => pts_nil) (fun _ _ _ _ _ => pe_split (pv 5) pe_str))
      (pss_cons (ps_if (pt_cmpR op_eq (pe_ix ix_seq (pv 1) pe_int fun _ _ => rfl) pe_str (nomark _)) (pss_one (ps_ret (pe_make Mp Gpi h5 rfl Wp.mg bpi .nil (E := ENo) passNT (pa_cons (pv 4) pa_nil)))) pss_nil)
      (pss_one (ps_ret (pe_call Go hr rfl go ko bo .nil (passes_call (takes_of rfl rfl rfl rfl) fun _ _ _ _ h => h) (pa_cons (pv 4) pa_nil))))))))), ?_⟩
    obtain ⟨z, ls, rest, rfl, hs, hz, hl, ok, hx⟩ := h
    have lm : ∀ l ∈ ls, l.length ≤ 800 ∧ sOk [l] := fun l m => by
      have mm : l ∈ Txt.split z "\n" := by rw [hs]; exact List.mem_append_left _ m
      refine ⟨?_, fun x mx c mc => ?_⟩
      · have k := len_join_mem (y := "\n") mm
        rw [join_split tl_nl kind_nl] at k
        omega
      · rw [List.mem_singleton.mp mx] at mc
        exact ok z (List.mem_singleton.mpr rfl) c ((split_sub tl_nl kind_nl mm).1 c mc)
    have okl : sOk ls := fun l m c mc => (lm l m).2 l (List.mem_singleton.mpr rfl) c mc
    refine t_seqAsgT ?_
    refine ⟨_, rfl, ⟨_, rfl⟩, z, "\n", rfl, rfl, rfl, by rw [sizeLine_eq]; omega, fun p np => ?_⟩
    have sp := same_upd (o := HO.lst ((Txt.split z "\n").map .str)) np
    have ep : upd H p (.lst ((Txt.split z "\n").map .str)) p = some (.lst (ls.map V.str ++ [.str rest])) := by rw [upd_same, hs, List.map_append]; rfl
    generalize upd H p (.lst ((Txt.split z "\n").map .str)) = H1 at *
    refine ⟨p, ls.map V.str, [.str rest], rfl, SqL.of ep, rfl, by rw [List.length_append, List.length_map, List.length_singleton]; omega, fun D nD => ?_⟩
    have sD := same_upd (o := HO.lst (ls.map V.str)) nD
    have eD : upd H1 D (.lst (ls.map V.str)) D = some (.lst (ls.map V.str)) := upd_same
    have s1 := sp.trans sD
    generalize upd H1 D (.lst (ls.map V.str)) = H2 at *
    refine ⟨_, _, rfl, ⟨_, _, rfl, rfl, ?_⟩⟩
    try dsimp only
    refine t_seqAsgT ?_
    refine ⟨_, rfl, D, ls, rfl, SqL.of eD, by omega, lm, fun H3 s3 => ?_⟩
    have s13 := s1.trans s3
    have eD3 := s3 _ _ eD
    refine g_nm ?_
    try dsimp only
    refine seq_tailS (fun σ' H' => σ' = [some (.str z), some (.ref D), some (.str rest), some (optV (wrL ls rest)), none, none] ∧ Same H3 H') ?_ fun tail => ?_
    · rintro σ' H4 ⟨rfl, s4⟩
      have s14 := s13.trans s4
      have eD4 := s4 _ _ eD3
      refine t_seqIfT ?_
      refine ⟨_, rfl, rfl, _, rfl, ?_⟩
      cases hw : wrL ls rest with
      | some n =>
        have er := rdB_some hw
        refine iteP rfl ?_
        refine raiseE_mk ?_
        refine ⟨_, rfl, ?_⟩
        rcases hx with ⟨n', en, rz⟩ | ⟨en, _⟩ | ⟨en, _⟩
        · rw [er] at en
          cases en
          exact raiseE_end (W := fun cls d _ H => E cls d H) (v := .int ((n : Nat) : Int)) fun H6 d s6 nd6 e6 => rz H6 d (s14.trans s6) e6
        · rw [er] at en
          cases en
        · rw [er] at en
          cases en
      | none =>
        have er := rdB_none hw
        refine iteN rfl ?_
        refine t_next ?_
        try dsimp only
        refine t_seqAsgT ?_
        have ne : ls ≠ [] := fun e => by
          unfold wrL at hw
          cases hb : badLine ls with
          | some i => rw [hb] at hw; cases hw
          | none =>
            rw [hb] at hw
            dsimp only at hw
            rw [if_pos (.inr (.inl e))] at hw
            cases hw
        obtain ⟨l0, lt, rfl⟩ : ∃ l0 lt, ls = l0 :: lt := by
          cases ls with
          | nil => exact absurd rfl ne
          | cons x y => exact ⟨_, _, rfl⟩
        have hll : lt.length ≤ 61 := by rw [List.length_cons] at hl; omega
        refine lc_relS (xs := lt.map V.str) (fun R r => ⟨_, rfl, 1, rfl, D, _, rfl, SqL.of eD4, fun d1 n1 => ?_⟩) (by rw [List.length_map]; omega) (fun i y H' => ∀ l, lt[i]? = some l → PthV H' y (wds l)) (fun i y Ha Hb h s l e => let ⟨b, e2, h2⟩ := h l e; ⟨b, e2, s _ _ h2⟩) (fun i x H' D' zs Q' hxi sx eD' qq => ?_) (fun D5 H5 ys s5 eD5 ly hy => ?_)
        · have k2 : cutV ((l0 :: lt).map V.str) (some 1) none = lt.map V.str := cut_from (xs := (l0 :: lt).map V.str) (i := 1) (by rw [List.length_map, List.length_cons]; omega)
          rw [k2]
          exact r _ d1 (same_upd n1) upd_same
        · rw [List.getElem?_map] at hxi
          obtain ⟨l, el, rfl⟩ := Option.map_eq_some_iff.mp hxi
          have ml := lm l (List.mem_cons_of_mem _ (List.mem_of_getElem? el))
          refine ⟨rfl, _, rfl, ⟨_, rfl⟩, l, " ", rfl, rfl, rfl, by rw [sizeLine_eq]; have := ml.1; omega, fun d nd' => ?_⟩
          have sd := same_upd (o := HO.lst ((wds l).map .str)) nd'
          refine qq _ _ sd fun l' el' => ?_
          rw [el] at el'
          cases el'
          have dD : d ≠ D' := fun z => by rw [z, eD'] at nd'; cases nd'
          exact ⟨d, rfl, by rw [hide_ne dD]; exact upd_same⟩
        have hp5 : Paired (PthV H5) ys (lt.map wds) := paired_ofT (by rw [ly, List.length_map, List.length_map]) fun i y r hy' hr' => by
          rw [List.getElem?_map] at hr'
          obtain ⟨l, el, rfl⟩ := Option.map_eq_some_iff.mp hr'
          obtain ⟨b, e2, h2⟩ := hy i y hy' l el
          exact ⟨b, e2, hide_le _ _ h2⟩
        have s15 := s14.trans s5
        have eDl := s5 _ _ eD4
        refine g_nm ?_
        try dsimp only
        refine t_seqIfT ?_
        refine ⟨_, rfl, (show Seq K H5 (.ref D) ((l0 :: lt).map .str) from ⟨D, rfl, .inl (SqL.of eDl)⟩).ix (x := .str l0) (show atI ((l0 :: lt).map V.str) ((0 : Nat) : Int) = some (.str l0) from atI_nat rfl) ⟨rfl, _, rfl, ?_⟩⟩
        have w9 : ∀ l ∈ l0 :: lt, (wds l).length ≤ 900 := fun l m => by
          have := (words_of (lm l m).1 (lm l m).2).1
          omega
        have h0 : (l0 :: lt).getD 0 "" = l0 := rfl
        have hrr : ∀ r ∈ lt.map wds, r ≠ [] ∧ r.length ≤ 900 := fun r m => by
          obtain ⟨l, ml, rfl⟩ := List.mem_map.mp m
          exact ⟨spS_ne l, w9 l (List.mem_cons_of_mem _ ml)⟩
        refine ite2 (fun hp => ?_) fun hp => ?_
        · have e0 : l0 = PRG := V.str.inj (of_decide_eq_true hp)
          have nw : ¬ (l0 :: lt).getD 0 "" = WEB := by rw [h0, e0]; exact prg_ne
          rcases hx with ⟨n', en, rz⟩ | ⟨en, hw', _⟩ | ⟨en, _, q⟩
          · rw [er, if_neg nw] at en
            cases en
          · exact absurd hw' nw
          obtain ⟨_, gp0, _⟩ := rdB_prog en nw (by omega) w9
          have gp : GoodP (lt.map wds) := gp0
          refine t_retMk ?_
          refine ⟨_, rfl, fun x dx nx ndx _ => ?_⟩
          have hpl : Paired (LotIs K H5) ys ((lt.map wds).map some) := by
            refine paired_ofT (by rw [ly, List.length_map, List.length_map, List.length_map]) fun i y o hy' ho => ?_
            rw [List.getElem?_map] at ho
            obtain ⟨r, er', rfl⟩ := Option.map_eq_some_iff.mp ho
            obtain ⟨r2, er2, b, rfl, hb⟩ := Paired.getL hp5 hy'
            rw [er'] at er2
            cases er2
            have mr := List.mem_of_getElem? er'
            exact lot_strs ⟨b, rfl, .inl (SqL.of hb)⟩ (gp.l9 r mr) (lot_z (gp.ok r mr))
          refine prog_mk nx ndx ⟨D5, rfl, .inl (SqL.of eD5)⟩ (by rw [ly, List.length_map]; omega) hpl ⟨lt.map wds, by rw [List.length_map]; omega, fun o m => ?_⟩ (fun o m => ?_) fun H6 s6 w6 => ?_
          · obtain ⟨r, mr, rfl⟩ := List.mem_map.mp m
            show sortS r ∈ _
            rw [gp.up r mr]
            exact mr
          · obtain ⟨r, mr, rfl⟩ := List.mem_map.mp m
            show lotOk (sortS r) = true
            rw [gp.up r mr]
            exact gp.ok r mr
          · rw [up_asc gp.up] at w6
            exact q H6 x (s15.trans s6) w6 gp
        · have np : ¬ l0 = PRG := fun e => hp (decide_eq_true (by rw [e]))
          refine t_next ?_
          try dsimp only
          refine ⟨_, rfl, D5, lt.map wds, rfl, ⟨ys, SqL.of eD5, hp5⟩, by rw [List.length_map]; omega, hrr, ?_⟩
          rcases hx with ⟨n', en, rz⟩ | ⟨en, hw', q⟩ | ⟨en, nw, q⟩
          · rw [er] at en
            by_cases hw' : (l0 :: lt).getD 0 "" = WEB
            · rw [if_pos hw'] at en
              obtain ⟨i, ei, rfl⟩ := Option.map_eq_some_iff.mp en
              exact .inl ⟨i, ei, rz.up s15⟩
            · rw [if_neg hw'] at en
              cases en
          · obtain ⟨_, _, g, hu', _⟩ := rdB_web en hw' (by omega) w9
            exact .inr ⟨hu', g, fun H6 q6 s6 w6 => q H6 q6 (s15.trans s6) w6 g⟩
          · obtain ⟨_, _, ee⟩ := rdB_prog en nw (by omega) w9
            exact absurd (List.cons.inj ee).1 np
    · refine t_seqIfT ?_
      refine ⟨_, rfl, rfl, _, rfl, ?_⟩
      cases hb : badLine ls with
      | some i =>
        have ew : wrL ls rest = some (i + 1) := by unfold wrL; rw [hb]
        refine iteN rfl ?_
        refine iteN rfl ?_
        refine t_next ?_
        refine tail _ _ ⟨?_, Same.refl _⟩
        rw [ew]
        rfl
      | none =>
        have ew : wrL ls rest = if rest ≠ "" ∨ ls = [] ∨ ls = [WEB] then some (ls.length + 1) else none := by unfold wrL; rw [hb]
        refine iteP rfl ?_
        have mid : ∀ H4, Same H3 H4 → (rest ≠ "" ∨ ls = [] ∨ ls = [WEB]) → [some (V.str z), some (.ref D), some (.str rest), some (.int ((ls.length : Int) + 1)), none, none] = [some (.str z), some (.ref D), some (.str rest), some (optV (wrL ls rest)), none, none] ∧ Same H3 H4 := fun H4 s4 hc => by
          refine ⟨?_, s4⟩
          rw [ew, if_pos hc]
          rfl
        refine ⟨_, rfl, rfl, _, rfl, ?_⟩
        have d1 : (!decide (V.str rest = V.str (Str.ofString ""))) = !decide (rest = "") := congrArg _ (dec_str rest "")
        by_cases c1 : rest = ""
        · refine iteN (by rw [d1, decide_eq_true c1]; rfl) ?_
          refine ⟨_, rfl, (show 0 ≤ sizeLine by decide), fun b nb => ?_⟩
          have sb := same_upd (o := HO.lst []) nb
          refine ⟨.list (dS ls), .list [], .lst (SqL.of (sb _ _ eD3)) (dp_strs _), .lst (SqL.of upd_same) .nil, shape_lst okl, shape_nil, _, rfl, ?_⟩
          have d2 : PyData.eqv (.list (dS ls)) (.list []) = decide (ls = []) := eqv_strs ls []
          generalize upd H3 b (.lst []) = H4 at *
          by_cases c2 : ls = []
          · refine iteP (by rw [d2]; exact decide_eq_true c2) ?_
            refine iteP rfl ?_
            refine t_oneAT ?_
            refine ⟨_, rfl, .ref D, ls.length, rfl, .inl ⟨_, SqL.of ((sb) _ _ eD3), by rw [List.length_map]⟩, (ls.length : Nat), 1, rfl, rfl, ?_⟩
            exact tail _ _ (mid _ (sb) (.inr (.inl c2)))
          · refine iteN (by rw [d2]; exact decide_eq_false c2) ?_
            refine ⟨_, rfl, (show 1 ≤ sizeLine by decide), fun b2 nb2 => ?_⟩
            have sb2 := same_upd (o := HO.lst [V.str WEB]) nb2
            refine ⟨.list (dS ls), .list (dS [WEB]), .lst (SqL.of (sb2 _ _ (sb _ _ eD3))) (dp_strs _), .lst (SqL.of upd_same) (dp_strs [WEB]), shape_lst okl, shape_lst (sOk_lit (by decide +kernel)), _, rfl, ?_⟩
            have d3 : PyData.eqv (.list (dS ls)) (.list (dS [WEB])) = decide (ls = [WEB]) := eqv_strs ls [WEB]
            by_cases c3 : ls = [WEB]
            · refine iteP (by rw [d3]; exact decide_eq_true c3) ?_
              refine t_oneAT ?_
              refine ⟨_, rfl, .ref D, ls.length, rfl, .inl ⟨_, SqL.of (((sb.trans sb2)) _ _ eD3), by rw [List.length_map]⟩, (ls.length : Nat), 1, rfl, rfl, ?_⟩
              exact tail _ _ (mid _ ((sb.trans sb2)) (.inr (.inr c3)))
            · refine iteN (by rw [d3]; exact decide_eq_false c3) ?_
              refine t_next ?_
              refine tail _ _ ⟨?_, sb.trans sb2⟩
              rw [ew, if_neg (fun h => h.elim (fun h => h c1) fun h => h.elim c2 c3)]
              rfl
        · refine iteP (by rw [d1, decide_eq_false c1]; rfl) ?_
          refine iteP rfl ?_
          refine t_oneAT ?_
          refine ⟨_, rfl, .ref D, ls.length, rfl, .inl ⟨_, SqL.of (((Same.refl _)) _ _ eD3), by rw [List.length_map]⟩, (ls.length : Nat), 1, rfl, rfl, ?_⟩
          exact tail _ _ (mid _ ((Same.refl _)) (.inl c1))
end
end K21
end L2
set_option Elab.async false
set_option linter.all false
set_option maxRecDepth 100000
set_option maxHeartbeats 8000000
namespace L2
namespace K21
open PySem PySem.Spec PyProof.Rows K1 WL TL TX TS LamX
section
variable {P : Program} {w : World} {K : PySem.W.Frag} {mg : Str → Option Value} {base : Heap} {f : Addr} {fd : FuncData}
theorem wds_web : wds WEB = [WEB] := by
  have h : wds (Txt.join " " [WEB]) = [WEB] := split_row (by simp) fun z m => web_sp m
  have e : Txt.join " " [WEB] = WEB := by decide +kernel
  rw [e] at h
  exact h
theorem wds_prg : wds PRG = [PRG] := by
  have h : wds (Txt.join " " [PRG]) = [PRG] := split_row (by simp) fun z m => prg_sp m
  have e : Txt.join " " [PRG] = PRG := by decide +kernel
  rw [e] at h
  exact h
/-! ### _law_met -/
abbrev nmME : List Str := ["_law_text", "e"]
theorem sc_me : FnScope nmME ["_law_text"] (defScope s_met) := ⟨rfl, rfl, rfl, by decide +kernel, rfl, by decide +kernel, by decide +kernel⟩
theorem ok_met {CW CP ra : Addr} {frd : FuncData} (T : Bl mg) (Cwr : Cal P w K mg base "written" ["thing"] 5 (spWr K CW CP)) (Grd : FnOk P w K mg base (L2.CX P w) 9 ra frd ["text"] (spRead K CW CP (He.ga K "BadText"))) (grd : mg "read" = some (.ref ra)) (krd : PySem.W.keepIn K (.ref ra) = true) (brd : Binds K frd ["text"] [])
    (ET : Er P w K mg base "BadText" "line") (nU : PySem.W.findIn K (.ref (He.ga K "BadText")) "line" = some none) (x1 : PySem.W.exmOne K (.ref (He.ga K "BadText")) (.ref (He.ga K "BadText")) = some true)
    (F : FnP K "_law_met" "_law_met" s_met f fd) : FnOk P w K mg base CX0 10 f fd ["_law_text"] spMet21 := by
  obtain ⟨fw, fdw, Gw, gw, kw, bw⟩ := Cwr.ex
  refine F.ok sc_me (fun vs H Q E h => ?_) (fun cdv A outer s H vs Q E hr h => ?_)
  · obtain ⟨z, ls, rest, rfl, _⟩ := h
    rfl
  · have nd := sc_me.nd
    have h5 := hr.mono (show 5 ≤ 9 by decide)
    refine ⟨_, PSs.nox (pss_one (ps_try_all (Wo := fun _ _ _ _ => False) (tb := fun W => tRet (tCall (spWr K CW CP) [] E0 (tCons (tCall (spRead K CW CP (He.ga K "BadText")) [] (fun cls d H => ∀ σ : St, σ.length = 2 → W cls d σ H) (tCons (tVar 0) tNil)) tNil)))
      (l := [(.ref (He.ga K "BadText"), some 1, fun a cls d => tRet (tXd (He.ga K "BadText") a cls d "line" (tVar 1)))])
      rfl rfl L2.takes0
      (fun W' pn xe tk _ => pss_one (ps_ret (pe_call Gw h5 rfl gw kw bw .nil pass0 (pa_cons (pe_call Grd hr rfl grd krd brd .nil (passLen tk) (pa_cons (pv 0) pa_nil)) pa_nil))))
      (.named ⟨rfl, by decide, Or.inl ET.g⟩ nd rfl rfl (fun a oe cls d pn hz hf => pss_one (ps_ret (pe_xd ET.c nU hz hf (pv 1)))) .nil))), ?_⟩
    obtain ⟨z, ls, rest, rfl, tk, hs, qs, qn⟩ := h
    obtain ⟨l60, lz⟩ := tk.lines hs
    have w9 : ∀ l ∈ ls, (wds l).length ≤ 900 := fun l m => by
      have := lz l (List.mem_append_left _ m)
      have := (words_of (Nat.le_trans this.1 (by decide)) this.2).1
      omega
    have two : ∀ σ : St, σ.length = 2 → ∃ a b, σ = [a, b] := fun σ hl => by
      match σ, hl with
      | [a, b], _ => exact ⟨a, b, rfl⟩
    refine ⟨_, rfl, z, ls, rest, rfl, hs, Nat.le_trans tk.ln (by decide), by omega, tk.ok, ?_⟩
    cases er : rdB ls rest with
    | some n =>
      refine .inl ⟨n, rfl, fun H' d s' e σ hl => ?_⟩
      obtain ⟨a0, b0, rfl⟩ := two σ hl
      refine ⟨true, x1, fun _ a na => ?_, fun z => nomatch z⟩
      exact ⟨_, rfl, rfl, rfl, d, _, rfl, e, qs n er H' s'⟩
    | none =>
      by_cases hw : ls.getD 0 "" = WEB
      · obtain ⟨hr0, _, g, _, e0⟩ := rdB_web er hw (by omega) w9
        refine .inr (.inl ⟨rfl, hw, fun H' x s' wx _ => ?_⟩)
        refine .inl ⟨x, _, rfl, wx, g, ?_, fun r m => (g.sr r m).1, fun H2 s2 => ?_⟩
        · rw [List.length_map, List.length_map, List.length_tail]
          omega
        · have et : txt ([WEB] :: wRows ((ls.tail.map wds).map rowOf)) = z := by
            rw [wRows_of]
            have e1 : [WEB] :: ls.tail.map wds = ls.map wds := by
              conv => rhs; rw [e0]
              rw [List.map_cons, wds_web]
            rw [e1]
            refine txt_split (by rw [hs, hr0])
          rw [et]
          exact qn er H2 (s'.trans s2)
      · obtain ⟨hr0, gp, e0⟩ := rdB_prog er hw (by omega) w9
        refine .inr (.inr ⟨rfl, hw, fun H' x s' wx _ => ?_⟩)
        refine .inr ⟨x, _, rfl, wx, gp, ?_, gp.l9, fun H2 s2 => ?_⟩
        · rw [List.length_map, List.length_tail]
          omega
        · have et : txt ([PRG] :: ls.tail.map wds) = z := by
            have e1 : [PRG] :: ls.tail.map wds = ls.map wds := by
              conv => rhs; rw [e0]
              rw [List.map_cons, wds_prg]
            rw [e1]
            refine txt_split (by rw [hs, hr0])
          rw [et]
          exact qn er H2 (s'.trans s2)
end
end K21
end L2
set_option Elab.async false
set_option linter.all false
set_option maxRecDepth 100000
set_option maxHeartbeats 4000000
namespace L2
namespace K21
open PySem PySem.Spec PyProof.Rows K1 WL
section
variable {P : Program} {w : World} {K : PySem.W.Frag} {mg : Str → Option Value} {base : Heap} {f : Addr} {fd : FuncData}
/-! ### _law_cell -/
theorem sc_cell : FnScope ["_law_script", "_law_k"] ["_law_script", "_law_k"] (defScope s_cell) := ⟨rfl, rfl, rfl, by decide +kernel, rfl, by decide +kernel, by decide +kernel⟩
theorem ok_cell (T : Bl mg) (F : FnP K "_law_cell" "_law_cell" s_cell f fd) : FnOk P w K mg base CX0 1 f fd ["_law_script", "_law_k"] (spCellL K) := by
  refine F.ok sc_cell (fun vs H Q E h => ?_) (fun cdv A outer s H vs Q E hr h => ?_)
  · obtain ⟨l, ns, j, rfl, _⟩ := h
    rfl
  · refine ⟨_, PSs.nox (pss_cons (ps_if (pt_cmpR op_lt (pv 1) (pe_callB call_len rfl T.f_len boot_len (pa_cons (pv 0) pa_nil)) (nomark _)) (pss_one (ps_ret (pe_ix ix_list (pv 0) (pv 1) fun _ _ => rfl))) pss_nil)
      (pss_one (ps_ret pe_int))), ?_⟩
    obtain ⟨l, ns, j, rfl, hs, q⟩ := h
    refine ⟨_, rfl, _, rfl, V.ref l, (ns.map V.int).length, rfl, .inl ⟨_, hs, rfl⟩, (j : Nat), ((ns.map V.int).length : Nat), rfl, rfl, _, rfl, ?_⟩
    refine ite2 (fun z => ?_) fun z => ?_
    · have hj : j < ns.length := by
        have z2 := of_decide_eq_true z
        rw [List.length_map] at z2
        omega
      exact ⟨_, rfl, _, rfl, l, _, _, _, rfl, rfl, hs, atI_cell hj, q _⟩
    · exact q 0
/-! ### _law_pool -/
theorem sc_pool : FnScope ["_law_cell_here", "_law_folded"] ["_law_cell_here"] (defScope s_pool) := ⟨rfl, rfl, rfl, by decide +kernel, rfl, by decide +kernel, by decide +kernel⟩
theorem ok_pool (T : Bl mg) (F : FnP K "_law_pool" "_law_pool" s_pool f fd) : FnOk P w K mg base CX0 1 f fd ["_law_cell_here"] spPoolL := by
  refine F.ok sc_pool (fun vs H Q E h => ?_) (fun cdv A outer s H vs Q E hr h => ?_)
  · obtain ⟨g, rfl, _⟩ := h
    rfl
  · refine ⟨_, PSs.nox (pss_cons (ps_set (i := 1) sc_pool.nd rfl (Or.inl rfl) (pe_op op_mul pe_int (pv 0)))
      (pss_cons (ps_if (pt_cmpR op_lt (pv 0) pe_int (nomark _)) (pss_one (ps_set (i := 1) sc_pool.nd rfl (Or.inl rfl) (pe_op op_sub (pe_op op_sub pe_int (pe_op op_mul pe_int (pv 0))) pe_int))) pss_nil)
      (pss_cons (ps_if (pt_cmpR op_ge (pv 1) (pe_op op_pow pe_int pe_int) (nomark _)) (pss_one (ps_ret (pe_lst (pa_cons (pv 1) (pa_cons (pe_op op_mod (pe_callTy call_int1 rfl T.f_int PyProof.Rows.boot_int (pa_cons (pv 1) pa_nil)) pe_int) (pa_cons pe_int pa_nil)))))) pss_nil)
      (pss_one (ps_ret (pe_lst (pa_cons pe_int (pa_cons (pe_op op_mod (pe_callTy call_int1 rfl T.f_int PyProof.Rows.boot_int (pa_cons (pv 1) pa_nil)) pe_int) (pa_cons pe_int pa_nil))))))))), ?_⟩
    obtain ⟨g, rfl, q0⟩ := h
    have q : ∀ p a b, H p = none → 0 ≤ a → 0 ≤ b → b < 1000000007 → Q (.ref p) (upd H p (.lst [.int a, .int b, .int 0])) := fun p a b hp ha hb hb1 => q0 p _ hp ⟨a, b, 0, upd_same, ha, hb, hb1, Int.le_refl 0, Int.le_refl 0⟩
    have tail : ∀ (n : Int), 0 ≤ n → (tSeq (tIfS (tTest (tOp (rI0 fun i j => .bl (decide (j ≤ i))) (tVar 1) (tOp (rI CPow fun i j => .int (i ^ j.toNat)) (tC (.int 10)) (tC (.int 18)))))
        (tRet (tLst (tCons (tVar 1) (tCons (tOp (rI (fun _ j => 0 < j) fun i j => .int (i % j)) (tCB (fun xs H Q => (∃ i, xs = [.int i] ∧ Q (.int i) H) ∨ ∃ k, xs = [.bl k] ∧ Q (.int (if k then 1 else 0)) H) (tCons (tVar 1) tNil)) (tC (.int 1000000007))) (tCons (tC (.int 0)) tNil))))) tNext)
        (tRet (tLst (tCons (tC (.int 0)) (tCons (tOp (rI (fun _ j => 0 < j) fun i j => .int (i % j)) (tCB (fun xs H Q => (∃ i, xs = [.int i] ∧ Q (.int i) H) ∨ ∃ k, xs = [.bl k] ∧ Q (.int (if k then 1 else 0)) H) (tCons (tVar 1) tNil)) (tC (.int 1000000007))) (tCons (tC (.int 0)) tNil))))))
        { nx := fun _ H' => Q .non H', rt := Q } [some (.int g), some (.int n)] H := by
      intro n hn
      have m0 : 0 ≤ n % 1000000007 := Int.emod_nonneg n (by decide)
      have m1 : n % 1000000007 < 1000000007 := Int.emod_lt_of_pos n (by decide)
      refine ⟨_, rfl, 10, 18, rfl, rfl, ⟨by decide, by decide, by decide⟩, _, _, rfl, rfl, _, rfl, ?_⟩
      refine ite2 (fun _ => ?_) fun _ => ?_
      · exact ⟨_, rfl, _, rfl, .inl ⟨n, rfl, n, 1000000007, rfl, rfl, (show (0 : Int) < 1000000007 by decide), (show 3 ≤ sizeLine by decide), fun p hp => q p n (n % 1000000007) hp hn m0 m1⟩⟩
      · exact ⟨_, rfl, .inl ⟨n, rfl, n, 1000000007, rfl, rfl, (show (0 : Int) < 1000000007 by decide), (show 3 ≤ sizeLine by decide), fun p hp => q p 0 (n % 1000000007) hp (Int.le_refl 0) m0 m1⟩⟩
    refine ⟨_, rfl, 2, g, rfl, rfl, .inl ⟨by decide, by decide⟩, ?_⟩
    refine ⟨_, rfl, _, _, rfl, rfl, _, rfl, ?_⟩
    refine ite2 (fun hg => ?_) fun hg => ?_
    · have hg' : g < 0 := of_decide_eq_true hg
      refine ⟨_, rfl, 2, g, rfl, rfl, .inl ⟨by decide, by decide⟩, _, _, rfl, rfl, _, _, rfl, rfl, ?_⟩
      exact tail (0 - 2 * g - 1) (by omega)
    · have hg' : ¬ g < 0 := fun z => hg (decide_eq_true z)
      exact tail (2 * g) (by omega)
/-! ### _law_take -/
abbrev nmTK : List Str := ["_law_pool_here", "_law_many", "_law_draw", "_law_mixed_here"]
theorem sc_take : FnScope nmTK ["_law_pool_here", "_law_many"] (defScope s_take) := ⟨rfl, rfl, rfl, by decide +kernel, rfl, by decide +kernel, by decide +kernel⟩
theorem ok_take (T : Bl mg) (F : FnP K "_law_take" "_law_take" s_take f fd) : FnOk P w K mg base CX0 1 f fd ["_law_pool_here", "_law_many"] spTakeL := by
  refine F.ok sc_take (fun vs H Q E h => ?_) (fun cdv A outer s H vs Q E hr h => ?_)
  · obtain ⟨p, m, n, rfl, _⟩ := h
    rfl
  · refine ⟨_, PSs.nox (pss_cons (ps_if (pt_cmpR op_gt (pe_ix ix_list (pv 0) pe_int fun _ _ => rfl) pe_int (nomark _))
        (pss_cons (ps_set (i := 2) sc_take.nd rfl (Or.inl rfl) (pe_op op_mod (pe_callTy call_int1 rfl T.f_int PyProof.Rows.boot_int (pa_cons (pe_ix ix_list (pv 0) pe_int fun _ _ => rfl) pa_nil)) (pv 1)))
        (pss_cons (ps_asg (pe_op op_fdiv (pe_ix ix_list (pv 0) pe_int fun _ _ => rfl) (pv 1)) (pg_sub (pv 0) pe_int set_list))
        (pss_one (ps_ret (pv 2))))) pss_nil)
      (pss_cons (ps_asg (pe_op op_add (pe_ix ix_list (pv 0) pe_int fun _ _ => rfl) pe_int) (pg_sub (pv 0) pe_int set_list))
      (pss_cons (ps_set (i := 3) sc_take.nd rfl (Or.inl rfl) (pe_op op_mod (pe_callTy call_int1 rfl T.f_int PyProof.Rows.boot_int (pa_cons (pe_op op_pow (pe_op op_add (pe_op op_add (pe_ix ix_list (pv 0) pe_int fun _ _ => rfl) (pe_op op_mul pe_int (pe_ix ix_list (pv 0) pe_int fun _ _ => rfl))) pe_int) pe_int) pa_nil)) pe_int))
      (pss_one (ps_ret (pe_op op_mod (pe_op op_mod (pe_callTy call_int1 rfl T.f_int PyProof.Rows.boot_int (pa_cons (pe_op op_mul (pe_op op_add (pv 3) (pe_ix ix_list (pv 0) pe_int fun _ _ => rfl)) pe_int) pa_nil)) pe_int) (pv 1))))))), ?_⟩
    obtain ⟨p, m, n, rfl, hm0, hm1, ⟨a, b, c, hp, ha, hb0, hb1, hc0, hcn⟩, hn, q0⟩ := h
    have q : ∀ r a' c', 0 ≤ r → r < m → 0 ≤ a' → 0 ≤ c' → c' ≤ c + 1 → Q (.int r) (upd H p (.lst [.int a', .int b, .int c'])) := fun r a' c' h1 h2 h3 h4 h5 => by
      have e := q0 r.toNat (upd H p (.lst [.int a', .int b, .int c'])) (by omega) hide_updp ⟨a', b, c', upd_same, h3, hb0, hb1, h4, by omega⟩
      rw [Int.toNat_of_nonneg h1] at e
      exact e
    refine ⟨_, rfl, p, _, 0, .int a, rfl, rfl, SqL.of hp, rfl, a, 0, rfl, rfl, _, rfl, ?_⟩
    refine ite2 (fun hg => ?_) fun hg => ?_
    · have hg' : 0 < a := of_decide_eq_true hg
      refine ⟨_, rfl, p, _, 0, .int a, rfl, rfl, SqL.of hp, rfl, .inl ⟨a, rfl, _, rfl, a, m, rfl, rfl, hm0, ?_⟩⟩
      refine ⟨_, rfl, p, _, 0, .int a, rfl, rfl, SqL.of hp, rfl, _, rfl, a, m, rfl, rfl, ⟨hm0, by omega⟩, _, rfl, p, _, 0, 0, rfl, rfl, hp, rfl, ?_⟩
      exact ⟨_, rfl, q (a % m) (a / m) c (Int.emod_nonneg a (by omega)) (Int.emod_lt_of_pos a hm0) (Int.ediv_nonneg ha (by omega)) hc0 (by omega)⟩
    · refine ⟨_, rfl, p, _, 2, .int c, rfl, rfl, SqL.of hp, rfl, c, 1, rfl, rfl, _, rfl, p, _, 2, 2, rfl, rfl, hp, rfl, ?_⟩
      have h1 : (upd H p (.lst [.int a, .int b, .int (c + 1)])) p = some (.lst [.int a, .int b, .int (c + 1)]) := upd_same
      have e1 : 0 ≤ b + 7919 * (c + 1) + 104729 := by omega
      have e2 : b + 7919 * (c + 1) + 104729 < 2 ^ 60 := by
        have : (2 : Int) ^ 60 = 1152921504606846976 := by decide
        omega
      refine ⟨_, rfl, p, _, 1, .int b, rfl, rfl, SqL.of h1, rfl, _, rfl, p, _, 2, .int (c + 1), rfl, rfl, SqL.of h1, rfl, 7919, c + 1, rfl, rfl, .inl ⟨by decide, by decide⟩, b, _, rfl, rfl, _, _, rfl, rfl, _, 5, rfl, rfl, ⟨by decide, by decide, ?_⟩, .inl ⟨_, rfl, _, 2147483647, rfl, rfl, (show (0 : Int) < 2147483647 by decide), ?_⟩⟩
      · have : (2 : Int) ^ 60 = 1152921504606846976 := by decide
        have : (2 : Nat) ^ 64 = 18446744073709551616 := by decide
        omega
      · refine ⟨_, rfl, _, rfl, p, _, 2, .int (c + 1), rfl, rfl, SqL.of h1, rfl, _, _, rfl, rfl, _, 40692, rfl, rfl, .inr ⟨by decide, by decide⟩, .inl ⟨_, rfl, _, 2147483629, rfl, rfl, (show (0 : Int) < 2147483629 by decide), _, rfl, _, m, rfl, rfl, hm0, ?_⟩⟩
        exact q _ a (c + 1) (Int.emod_nonneg _ (by omega)) (Int.emod_lt_of_pos _ hm0) ha (by omega) (Int.le_refl _)
end
end K21
end L2
set_option Elab.async false
set_option linter.all false
set_option maxRecDepth 100000
set_option maxHeartbeats 8000000
namespace L2
namespace K21
open PySem PySem.Spec PyProof.Rows K1 WL TL TX TS LamX
section
variable {P : Program} {w : World} {K : PySem.W.Frag} {mg : Str → Option Value} {base : Heap} {f : Addr} {fd : FuncData}
/-! ### _law_bent -/
abbrev nmBE : List Str := ["_law_pool_here", "_law_text", "_law_signs", "_law_turn", "_law_at", "_law_way", "_law_sign"]
theorem sc_be : FnScope nmBE ["_law_pool_here", "_law_text"] (defScope s_bent) := ⟨rfl, rfl, rfl, by decide +kernel, rfl, by decide +kernel, by decide +kernel⟩
abbrev SG : Str := "ab z\n\nAweb"
theorem tl_cutTo (z : Str) (i : Nat) : tl (cutS z none (some (i : Int))) = (tl z).take i := by
  unfold cutS
  show ((tl z).drop _).take _ = _
  have e : HT.sIx z.length z.length (some (i : Int)) = min i z.length := HT.sIx_nat _ _ _
  rw [e]
  show ((tl z).drop 0).take (min i z.length - 0) = _
  rw [List.drop_zero, Nat.sub_zero, len_tl z]
  rcases Nat.le_total i (tl z).length with h | h
  · rw [Nat.min_eq_left h]
  · rw [Nat.min_eq_right h, List.take_length, List.take_of_length_le h]
theorem tl_cutFrom (z : Str) (i : Nat) : tl (cutS z (some (i : Int)) none) = (tl z).drop i := by
  unfold cutS
  show ((tl z).drop _).take _ = _
  have e : HT.sIx z.length 0 (some (i : Int)) = min i z.length := HT.sIx_nat _ _ _
  rw [e]
  show ((tl z).drop (min i z.length)).take (z.length - min i z.length) = _
  rw [len_tl z]
  rcases Nat.le_total i (tl z).length with h | h
  · rw [Nat.min_eq_left h, List.take_of_length_le (by rw [List.length_drop]; omega)]
  · rw [Nat.min_eq_right h, List.drop_length, List.drop_of_length_le h, List.take_nil]
/-- a text with a few more signs -/
structure Bnt (z0 z : Str) (i : Nat) : Prop where
  ln : z.length ≤ z0.length + i
  nl : nls z ≤ nls z0 + i
  ok : sOk [z]
theorem bnt_step {z0 z sg : Str} {i a b : Nat} (h : Bnt z0 z i) (hab : a ≤ b) (hs : sg.length ≤ 1) (so : sOk [sg]) : Bnt z0 (cutS z none (some (a : Int)) ++ sg ++ cutS z (some (b : Int)) none) (i + 1) := by
  have et : tl (cutS z none (some (a : Int)) ++ sg ++ cutS z (some (b : Int)) none) = (tl z).take a ++ tl sg ++ (tl z).drop b := by rw [tl_append, tl_append, tl_cutTo, tl_cutFrom]
  have split : tl z = (tl z).take a ++ (tl z).drop a := (List.take_append_drop a (tl z)).symm
  have sub : ((tl z).drop b).Sublist ((tl z).drop a) := List.drop_sublist_drop_left _ hab
  have hsl : (tl sg).length ≤ 1 := by rw [← len_tl]; exact hs
  refine ⟨?_, ?_, fun x m c mc => ?_⟩
  · rw [len_tl, et, List.length_append, List.length_append]
    have h1 := h.ln
    rw [len_tl z] at h1
    have h2 := sub.length_le
    have h3 := congrArg List.length split
    rw [List.length_append] at h3
    omega
  · have h1 := h.nl
    unfold nls at h1 ⊢
    rw [et, List.count_append, List.count_append]
    have h2 := sub.count_le 10
    have h3 := congrArg (List.count 10) split
    rw [List.count_append] at h3
    have h4 := List.count_le_length (a := 10) (l := tl sg)
    omega
  · rw [List.mem_singleton.mp m] at mc
    have mc : c ∈ (tl z).take a ++ tl sg ++ (tl z).drop b := et ▸ mc
    rcases List.mem_append.mp mc with mc | mc
    · rcases List.mem_append.mp mc with mc | mc
      · exact h.ok z (List.mem_singleton.mpr rfl) c (List.mem_of_mem_take mc)
      · exact so sg (List.mem_singleton.mpr rfl) c mc
    · exact h.ok z (List.mem_singleton.mpr rfl) c (List.mem_of_mem_drop mc)
theorem sg_at {r : Nat} (h : r < 10) : ∃ c, SG.cps.toList[r]? = some c ∧ c < 1114112 := by
  have hl : SG.cps.toList.length = 10 := by decide +kernel
  have ha : ∀ c ∈ SG.cps.toList, c < 1114112 := by decide +kernel
  exact ⟨_, List.getElem?_eq_getElem (by rw [hl]; exact h), ha _ (List.getElem_mem _)⟩
theorem ok_be (T : Bl mg) (Ct : Cal P w K mg base "_law_take" ["_law_pool_here", "_law_many"] 1 spTakeL) (F : FnP K "_law_bent" "_law_bent" s_bent f fd) : FnOk P w K mg base CX0 2 f fd ["_law_pool_here", "_law_text"] spBent21 := by
  obtain ⟨ft, fdt, Gt, gt, kt, bt⟩ := Ct.ex
  refine F.ok sc_be (fun vs H Q E h => ?_) (fun cdv A outer s H vs Q E hr h => ?_)
  · obtain ⟨p, z, n, rfl, _⟩ := h
    rfl
  · have nd := sc_be.nd
    refine ⟨_, PSs.nox (pss_cons (ps_set (i := 2) nd rfl (Or.inl rfl) pe_str)
      (pss_cons (ps_for PassesOwn.never rfl (pi_range1 rfl T.f_range (pa_cons (pe_call Gt hr rfl gt kt bt .nil pass0 (pa_cons (pv 0) (pa_cons pe_int pa_nil))) pa_nil)) (pg_name (i := 3) nd rfl (Or.inl rfl))
        (pss_cons (ps_set (i := 4) nd rfl (Or.inl rfl) (pe_call Gt hr rfl gt kt bt .nil pass0 (pa_cons (pv 0) (pa_cons (pe_op op_add (pe_callB call_len_str rfl T.f_len boot_len (pa_cons (pv 1) pa_nil)) pe_int) pa_nil))))
        (pss_cons (ps_set (i := 5) nd rfl (Or.inl rfl) (pe_call Gt hr rfl gt kt bt .nil pass0 (pa_cons (pv 0) (pa_cons pe_int pa_nil))))
        (pss_cons (ps_set (i := 6) nd rfl (Or.inl rfl) (pe_ix ix_str (pv 2) (pe_call Gt hr rfl gt kt bt .nil pass0 (pa_cons (pv 0) (pa_cons (pe_callB call_len_str rfl T.f_len boot_len (pa_cons (pv 2) pa_nil)) pa_nil))) fun _ _ => rfl))
        (pss_one (ps_set (i := 1) nd rfl (Or.inl rfl) (pe_op op_add_str (pe_op op_add_str (pe_slice sl_str (pv 1) po_none (po_some (pv 4))) (pe_ix ix_list (pe_lst (pa_cons pe_str (pa_cons (pv 6) (pa_cons (pv 6) pa_nil)))) (pv 5) fun _ _ => rfl)) (pe_slice sl_str (pv 1) (po_some (pe_op op_add (pv 4) (pe_callTy call_int1 rfl T.f_int PyProof.Rows.boot_int (pa_cons (pe_cmpR op_ne (pv 5) pe_int (nomark _)) pa_nil)))) po_none))))))))
      (pss_one (ps_ret (pv 1))))), ?_⟩
    obtain ⟨p, z, n, rfl, hz, hn, so, hP, hn7, q⟩ := h
    have sgl : SG.length = 10 := by decide +kernel
    refine t_seqAsgT ?_
    refine g_nm ?_
    try dsimp only
    refine t_seqF ?_
    refine ⟨_, rfl, p, 3, n, rfl, by decide, by decide, hP, by omega, fun m H1 hm h1 P1 => ?_⟩
    refine ⟨_, rfl, by omega, by omega, ?_⟩
    rw [Int.toNat_natCast]
    have hm3 : m < 3 := by omega
    refine for_range (n := m) (fun i σ H' => ∃ (y : Str) (o3 o4 o5 o6 : Option V), σ = [some (.ref p), some (.str y), some (.str SG), o3, o4, o5, o6] ∧ Bnt z y i ∧ Same (hide p H) (hide p H') ∧ Pl H' p (n + 1 + 3 * i)) ⟨z, _, _, _, _, rfl, ⟨Nat.le_refl _, Nat.le_refl _, so⟩, by rw [h1]; exact Same.refl _, P1⟩ ?_ ?_
    · rintro i σ H2 hi ⟨y, o3, o4, o5, o6, rfl, hy, s2, P2⟩
      have ly : y.length ≤ 602 := by
        have := hy.ln
        omega
      refine g_nm ?_
      try dsimp only
      refine t_seqAsgT ?_
      refine ⟨_, rfl, _, rfl, y, rfl, by rw [sizeLine_eq]; omega, (y.length : Nat), 1, rfl, rfl, p, _, _, rfl, by omega, by omega, P2, by omega, fun a H3 ha h3 P3 => ?_⟩
      refine g_nm ?_
      try dsimp only
      refine t_seqAsgT ?_
      refine ⟨_, rfl, p, 3, _, rfl, by decide, by decide, P3, by omega, fun wy H4 hw h4 P4 => ?_⟩
      refine g_nm ?_
      try dsimp only
      refine t_seqAsgT ?_
      refine ⟨_, rfl, _, rfl, _, rfl, SG, rfl, by rw [sgl, sizeLine_eq]; omega, p, _, _, rfl, by rw [sgl]; decide, by rw [sgl]; decide, P4, by omega, fun sg H5 hsg h5 P5 => ?_⟩
      obtain ⟨c, ec, c1⟩ := sg_at (r := sg) (by rw [sgl] at hsg; omega)
      refine ⟨SG, _, c, rfl, rfl, by rw [sgl, sizeLine_eq]; omega, atI_nat ec, ?_⟩
      refine g_nm ?_
      try dsimp only
      refine t_oneAT ?_
      have l1 : (cutS y none (some (a : Int))).length ≤ y.length := cutS_length _ _ _
      refine ⟨_, rfl, _, rfl, (a : Int), rfl, y, rfl, by rw [sizeLine_eq]; omega, ?_⟩
      refine ⟨_, rfl, _, rfl, (show 3 ≤ sizeLine by decide), fun d nd' => ?_⟩
      have sd := hide_new (o := HO.lst [.str "", .str ⟨#[c]⟩, .str ⟨#[c]⟩]) P5.ne nd'
      obtain ⟨v, ev, lv, sv⟩ : ∃ v : Str, ([.str "", .str ⟨#[c]⟩, .str ⟨#[c]⟩] : List V)[wy]? = some (.str v) ∧ v.length ≤ 1 ∧ sOk [v] := by
        have hc : sOk [(⟨#[c]⟩ : Str)] := fun x m d md => by
          rw [List.mem_singleton.mp m] at md
          have : d = c := by simpa using md
          rw [this]
          exact c1
        have cases3 : wy = 0 ∨ wy = 1 ∨ wy = 2 := by omega
        rcases cases3 with rfl | rfl | rfl
        · exact ⟨"", rfl, Nat.zero_le _, fun x m d md => by rw [List.mem_singleton.mp m, show (("" : Str)).cps.toList = [] from by decide +kernel] at md; cases md⟩
        · exact ⟨⟨#[c]⟩, rfl, Nat.le_refl _, hc⟩
        · exact ⟨⟨#[c]⟩, rfl, Nat.le_refl _, hc⟩
      refine ⟨_, rfl, d, _, (wy : Int), _, rfl, rfl, SqL.of upd_same, atI_nat ev, ?_⟩
      refine ⟨_, _, rfl, rfl, by rw [sizeLine_eq]; omega, ?_⟩
      obtain ⟨b, eb, hab⟩ : ∃ b : Nat, (a : Int) + (if (!decide ((V.int (wy : Int)) = V.int 1)) = true then 1 else 0) = (b : Int) ∧ a ≤ b := by
        cases (!decide ((V.int (wy : Int)) = V.int 1)) with
        | true => exact ⟨a + 1, by simp, by omega⟩
        | false => exact ⟨a, by simp, Nat.le_refl _⟩
      refine ⟨_, rfl, _, rfl, _, rfl, rfl, .inr ⟨_, rfl, (a : Int), _, rfl, rfl, _, rfl, y, rfl, by rw [sizeLine_eq]; omega, ?_⟩⟩
      rw [eb]
      have l2 : (cutS y (some (b : Int)) none).length ≤ y.length := cutS_length _ _ _
      have l3 : (cutS y none (some (a : Int)) ++ v).length ≤ 603 := by
        rw [str_len_app]
        omega
      refine ⟨_, _, rfl, rfl, by rw [sizeLine_eq]; omega, ?_⟩
      refine g_nm ?_
      try dsimp only
      refine ⟨_, _, _, _, _, rfl, bnt_step hy hab lv sv, ?_, ?_⟩
      · refine s2.trans ?_
        have e5 : hide p H5 = hide p H2 := by rw [h5, h4, h3]
        rw [← e5]
        exact sd.2.1
      · refine (P5.new nd').le (by omega)
    · rintro σ H2 ⟨y, o3, o4, o5, o6, rfl, hy, s2, P2⟩
      have tk : TOk y := ⟨by have := hy.ln; omega, by have := hy.nl; omega, hy.ok⟩
      exact ⟨_, rfl, q y H2 tk s2 (P2.le (by omega))⟩
end
end K21
end L2
set_option Elab.async false
set_option linter.all false
set_option maxRecDepth 100000
set_option maxHeartbeats 8000000
namespace L2
namespace K21
open PySem PySem.Spec PyProof.Rows K1 WL TL TX TS LamX
section
variable {P : Program} {w : World} {K : PySem.W.Frag} {mg : Str → Option Value} {base : Heap} {f : Addr} {fd : FuncData}
/-! ### _law_mixed_up -/
abbrev nmMU : List Str := ["_law_pool_here", "_law_lines", "_law_at", "_law_odd"]
theorem sc_mu : FnScope nmMU ["_law_pool_here", "_law_lines"] (defScope s_mixed_up) := ⟨rfl, rfl, rfl, by decide +kernel, rfl, by decide +kernel, by decide +kernel⟩
def oddA : List Str := ["", "web", "program", "a a", "b  a", " a", "a "]
def oddB : List Str := ["A", "z y x", "x y z", "abcdefghi", "zq", "zq zr", "zq zq"]
def oddM : List Str := oddA ++ oddB
theorem odd_at {r : Nat} (h : r < 14) : ∃ y, (oddM.map V.str)[r]? = some (.str y) ∧ y.length ≤ 9 ∧ 10 ∉ tl y ∧ sOk [y] := by
  have hl : oddM.length = 14 := rfl
  have ha : oddM.all (fun y => decide (y.length ≤ 9) && (decide (10 ∉ y.cps.toList) && y.cps.toList.all fun c => decide (c < 1114112))) = true := by decide +kernel
  have hr : oddM[r]? = some (oddM[r]'(by rw [hl]; exact h)) := List.getElem?_eq_getElem _
  have := List.all_eq_true.mp ha _ (List.mem_of_getElem? hr)
  rw [Bool.and_eq_true, Bool.and_eq_true] at this
  refine ⟨_, by rw [List.getElem?_map, hr]; rfl, of_decide_eq_true this.1, of_decide_eq_true this.2.1, fun x m c mc => ?_⟩
  rw [List.mem_singleton.mp m] at mc
  exact of_decide_eq_true (List.all_eq_true.mp this.2.2 c mc)
theorem ok_mu (T : Bl mg) (Ct : Cal P w K mg base "_law_take" ["_law_pool_here", "_law_many"] 1 spTakeL) (F : FnP K "_law_mixed_up" "_law_mixed_up" s_mixed_up f fd) : FnOk P w K mg base CX0 2 f fd ["_law_pool_here", "_law_lines"] (spMix21 K) := by
  obtain ⟨ft, fdt, Gt, gt, kt, bt⟩ := Ct.ex
  refine F.ok sc_mu (fun vs H Q E h => ?_) (fun cdv A outer s H vs Q E hr h => ?_)
  · obtain ⟨p, a, ls, n, rfl, _⟩ := h
    rfl
  · have nd := sc_mu.nd
    refine ⟨_, PSs.nox (pss_cons (ps_set (i := 2) nd rfl (Or.inl rfl) (pe_call Gt hr rfl gt kt bt .nil pass0 (pa_cons (pv 0) (pa_cons (pe_op op_add (pe_callB call_len rfl T.f_len boot_len (pa_cons (pv 1) pa_nil)) pe_int) pa_nil))))
      (pss_cons (ps_set (i := 3) nd rfl (Or.inl rfl) (pe_lst (pa_cons pe_str (pa_cons pe_str (pa_cons pe_str (pa_cons pe_str (pa_cons pe_str (pa_cons pe_str (pa_cons pe_str (pa_cons pe_str (pa_cons pe_str (pa_cons pe_str (pa_cons pe_str (pa_cons pe_str (pa_cons pe_str (pa_cons pe_str pa_nil))))))))))))))))
      (pss_one (ps_ret (pe_op op_cat (pe_op op_cat (pe_slice sl_list (pv 1) po_none (po_some (pv 2))) (pe_lst (pa_cons (pe_ix ix_list (pv 3) (pe_call Gt hr rfl gt kt bt .nil pass0 (pa_cons (pv 0) (pa_cons pe_int pa_nil))) fun _ _ => rfl) pa_nil)))
        (pe_slice sl_list (pv 1) (po_some (pe_op op_add (pv 2) (pe_call Gt hr rfl gt kt bt .nil pass0 (pa_cons (pv 0) (pa_cons pe_int pa_nil))))) po_none)))))), ?_⟩
    obtain ⟨p, a, ls, n, rfl, ha, l20, hP, hn7, q⟩ := h
    refine t_seqAsgT ?_
    refine ⟨_, rfl, _, rfl, .ref a, ls.length, rfl, .inl ⟨_, SqL.sm ha hide_le, by rw [List.length_map]⟩, (ls.length : Nat), 1, rfl, rfl, p, _, n, rfl, by omega, by omega, hP, by omega, fun at' H1 hat h1 P1 => ?_⟩
    refine g_nm ?_
    try dsimp only
    refine t_seqAsgT ?_
    refine ⟨(show 14 ≤ sizeLine by decide), fun d nd' => ?_⟩
    obtain ⟨dp, sd, ed⟩ := hide_new (o := HO.lst (oddM.map V.str)) P1.ne nd'
    have P2 := P1.new (o := HO.lst (oddM.map V.str)) nd'
    refine g_nm ?_
    try dsimp only
    have s2 : Same (hide p H) (hide p (upd H1 d (.lst (oddM.map V.str)))) := by rw [← h1]; exact sd
    change tRet _ _ _ (upd H1 d (.lst (oddM.map V.str)))
    generalize upd H1 d (.lst (oddM.map V.str)) = H2 at *
    have ha2 := SqL.sm ha s2
    -- lines[:at]
    refine ⟨_, rfl, _, rfl, (at' : Int), rfl, a, _, rfl, SqL.sm ha2 hide_le, fun d1 n1 => ?_⟩
    rw [cut_all]
    obtain ⟨dp1, sd1, ed1⟩ := hide_new (o := HO.lst ((ls.map V.str).take at')) P2.ne n1
    have P3 := P2.new (o := HO.lst ((ls.map V.str).take at')) n1
    generalize upd H2 d1 (.lst ((ls.map V.str).take at')) = H3 at *
    have ed3 := sd1 _ _ ed
    -- [odd[..]]
    refine ⟨_, rfl, _, rfl, p, 14, _, rfl, by decide, by decide, P3, by omega, fun r H4 hr4 h4 P4 => ?_⟩
    obtain ⟨y, ey, y9, y10, yo⟩ := odd_at (r := r) (by omega)
    have ed4 : hide p H4 d = some (.lst (oddM.map V.str)) := by rw [h4]; exact ed3
    have ed14 : hide p H4 d1 = some (.lst ((ls.map V.str).take at')) := by rw [h4]; exact ed1
    refine ⟨d, _, (r : Int), _, rfl, rfl, SqL.of (hide_le _ _ ed4), atI_nat ey, ?_⟩
    refine ⟨(show 1 ≤ sizeLine by decide), fun d2 n2 => ?_⟩
    obtain ⟨dp2, sd2, ed2⟩ := hide_new (o := HO.lst [V.str y]) P4.ne n2
    have P5 := P4.new (o := HO.lst [V.str y]) n2
    have ed15 := sd2 _ _ ed14
    generalize upd H4 d2 (.lst [V.str y]) = H5 at *
    refine ⟨d1, d2, _, _, rfl, rfl, hide_le _ _ ed15, hide_le _ _ ed2, by rw [sizeLine_eq, List.length_take, List.length_map, List.length_singleton]; omega, fun d3 n3 => ?_⟩
    obtain ⟨dp3, sd3, ed3'⟩ := hide_new (o := HO.lst ((ls.map V.str).take at' ++ [V.str y])) P5.ne n3
    have P6 := P5.new (o := HO.lst ((ls.map V.str).take at' ++ [V.str y])) n3
    generalize upd H5 d3 (.lst ((ls.map V.str).take at' ++ [V.str y])) = H6 at *
    have s36 : Same (hide p H3) (hide p H6) := by
      rw [← h4]
      exact sd2.trans sd3
    -- lines[at + ..:]
    refine ⟨_, rfl, _, rfl, _, rfl, p, 2, _, rfl, by decide, by decide, P6, by omega, fun r2 H7 hr7 h7 P7 => ?_⟩
    have s27 : Same (hide p H) (hide p H7) := by
      rw [h7]
      exact s2.trans (sd1.trans s36)
    have ha7 := SqL.sm ha s27
    refine ⟨(at' : Int), (r2 : Nat), rfl, rfl, ((at' + r2 : Nat) : Int), (by show V.int ((at' : Int) + (r2 : Nat)) = _; congr 1), a, _, rfl, SqL.sm ha7 hide_le, fun d4 n4 => ?_⟩
    rw [cut_off]
    obtain ⟨dp4, sd4, ed4'⟩ := hide_new (o := HO.lst ((ls.map V.str).drop (at' + r2))) P7.ne n4
    have P8 := P7.new (o := HO.lst ((ls.map V.str).drop (at' + r2))) n4
    generalize upd H7 d4 (.lst ((ls.map V.str).drop (at' + r2))) = H8 at *
    have ed38 : hide p H8 d3 = some (.lst ((ls.map V.str).take at' ++ [V.str y])) := sd4 _ _ (by rw [h7]; exact ed3')
    have hll : ((ls.map V.str).take at' ++ [V.str y]).length + ((ls.map V.str).drop (at' + r2)).length ≤ ls.length + 1 := by
      rw [List.length_append, List.length_take, List.length_drop, List.length_map, List.length_singleton]
      omega
    refine ⟨d3, d4, _, _, rfl, rfl, hide_le _ _ ed38, hide_le _ _ ed4', by rw [sizeLine_eq]; omega, fun d5 n5 => ?_⟩
    obtain ⟨dp5, sd5, ed5⟩ := hide_new (o := HO.lst (((ls.map V.str).take at' ++ [V.str y]) ++ (ls.map V.str).drop (at' + r2))) P8.ne n5
    have P9 := P8.new (o := HO.lst (((ls.map V.str).take at' ++ [V.str y]) ++ (ls.map V.str).drop (at' + r2))) n5
    have n5' : hide p H d5 = none := by
      have := (s27.trans sd4).free (H' := hide p H8) (hide_none n5)
      exact this
    have ee : ((ls.map V.str).take at' ++ [V.str y]) ++ (ls.map V.str).drop (at' + r2) = ((ls.take at' ++ [y]) ++ ls.drop (at' + r2)).map V.str := by
      rw [List.map_append, List.map_append, List.map_take, List.map_drop]
      rfl
    refine q ((ls.take at' ++ [y]) ++ ls.drop (at' + r2)) _ d5 (fun x mx => ?_) ?_ (s27.trans (sd4.trans sd5)) n5' (by rw [← ee]; exact ed5) (P9.le (by omega))
    · rcases List.mem_append.mp mx with mx | mx
      · rcases List.mem_append.mp mx with mx | mx
        · exact .inl (List.mem_of_mem_take mx)
        · rw [List.mem_singleton.mp mx]
          exact .inr ⟨y9, y10, yo⟩
      · exact .inl (List.mem_of_mem_drop mx)
    · rw [List.length_append, List.length_append, List.length_take, List.length_drop, List.length_singleton]
      omega
end
end K21
end L2
set_option Elab.async false
set_option linter.all false
set_option maxRecDepth 100000
set_option maxHeartbeats 4000000
namespace L2
namespace K21
open PySem PySem.Spec PyProof.Rows K1 WL
section
variable {P : Program} {w : World} {K : PySem.W.Frag} {mg : Str → Option Value} {base : Heap} {f : Addr} {fd : FuncData}
/-! ### _law_mixed -/
abbrev nmMX : List Str := ["_law_pool_here", "_law_things", "_law_left", "_law_found", "_law_k", "_law_at"]
theorem sc_mixed : FnScope nmMX ["_law_pool_here", "_law_things"] (defScope s_mixed) := ⟨rfl, rfl, rfl, by decide +kernel, rfl, by decide +kernel, by decide +kernel⟩
theorem ok_mixed (T : Bl mg) (Ct : Cal P w K mg base "_law_take" ["_law_pool_here", "_law_many"] 1 spTakeL) (F : FnP K "_law_mixed" "_law_mixed" s_mixed f fd) : FnOk P w K mg base CX0 2 f fd ["_law_pool_here", "_law_things"] (spMixed K) := by
  obtain ⟨ft, fdt, Gt, gt, kt, bt⟩ := Ct.ex
  refine F.ok sc_mixed (fun vs H Q E h => ?_) (fun cdv A outer s H vs Q E hr h => ?_)
  · obtain ⟨p, v, xs, n, rfl, _⟩ := h
    rfl
  · have nd := sc_mixed.nd
    refine ⟨_, PSs.nox (pss_cons (ps_set (i := 2) nd rfl (Or.inl rfl) (pe_callTy call_list_of rfl T.f_list PyProof.Rows.boot_list (pa_cons (pv 1) pa_nil)))
      (pss_cons (ps_set (i := 3) nd rfl (Or.inl rfl) (pe_lst pa_nil))
      (pss_cons (ps_for PassesOwn.never rfl (pi_range1 rfl T.f_range (pa_cons (pe_callB call_len rfl T.f_len boot_len (pa_cons (pv 1) pa_nil)) pa_nil)) (pg_name (i := 4) nd rfl (Or.inl rfl))
        (pss_cons (ps_set (i := 5) nd rfl (Or.inl rfl) (pe_call Gt hr rfl gt kt bt .nil pass0 (pa_cons (pv 0) (pa_cons (pe_callB call_len rfl T.f_len boot_len (pa_cons (pv 2) pa_nil)) pa_nil))))
        (pss_cons (ps_expr (pe_bm PySem.F.plainAttrs_list PySem.F.slot_list_append PySem.F.type_list_append mt_append (pv 3) (pa_cons (pe_ix ix_list (pv 2) (pv 5) fun _ _ => rfl) pa_nil)))
        (pss_one (ps_set (i := 2) nd rfl (Or.inl rfl) (pe_op op_cat (pe_slice sl_list (pv 2) po_none (po_some (pv 5))) (pe_slice sl_list (pv 2) (po_some (pe_op op_add (pv 5) pe_int)) po_none)))))))
      (pss_one (ps_ret (pv 3)))))), ?_⟩
    obtain ⟨p, v, xs, n, rfl, hs, hl, hP, hn, q⟩ := h
    have hsH : Seq K H v xs := hs.same hide_le
    obtain ⟨a, rfl, hq⟩ := hsH
    refine ⟨_, rfl, a, xs, rfl, hq, fun l nl => ?_⟩
    obtain ⟨lp, sl, el⟩ := hide_new (o := .lst xs) hP.ne nl
    have P1 := hP.new (o := .lst xs) nl
    refine ⟨(show 0 ≤ sizeLine by decide), fun c nc => ?_⟩
    obtain ⟨cp, sc, ec⟩ := hide_new (o := .lst []) P1.ne nc
    have P2 := P1.new (o := .lst []) nc
    have s2 := sl.trans sc
    have el2 := sc _ _ el
    have hs2 := (hs.same s2).same hide_le
    refine g_nm ?_
    dsimp only
    refine t_seqF ?_
    have fresh : hide p H c = none := by
      rw [hide_ne cp]
      by_cases e : c = l
      · rw [e]
        exact nl
      · rw [← upd_ne (H := H) (o := .lst xs) e]
        exact nc
    have lc : l ≠ c := ne_of_none upd_same nc
    refine ⟨_, rfl, .ref a, xs.length, rfl, hs2.len, _, rfl, by omega, by omega, ?_⟩
    rw [Int.toNat_natCast]
    refine for_range (fun i σ H' => ∃ (l : Addr) (left found : List V) (o4 o5 : Option V), σ = [some (.ref p), some (.ref a), some (.ref l), some (.ref c), o4, o5] ∧ Same (hide p H) (hide p H') ∧ Pl H' p (n + i) ∧ l ≠ p ∧ l ≠ c ∧ H' l = some (.lst left) ∧ H' c = some (.lst found) ∧
      (found ++ left).Perm xs ∧ left.length + i = xs.length) ⟨l, xs, [], _, _, rfl, s2, P2, lp, lc, (hide_some el2).2, upd_same, List.Perm.refl _, rfl⟩ ?_ ?_
    · rintro i σ H3 hi ⟨l, left, found, o4, o5, rfl, s3, P3, lp, lc, el, ef, hp, hlen⟩
      refine ⟨_, rfl, _, rfl, .ref l, left.length, rfl, .inl ⟨_, SqL.of el, rfl⟩, p, left.length, n + i, rfl, by omega, by omega, P3, by omega, fun r H4 hr4 h4 P4 => ?_⟩
      have eat : ∀ b o, b ≠ p → H3 b = some o → H4 b = some o := fun b o hb e => by
        rw [← hide_ne (H := H4) hb, h4, hide_ne hb]
        exact e
      have el4 := eat _ _ lp el
      have ef4 := eat _ _ cp ef
      have hr5 : r < left.length := by omega
      obtain ⟨x, hx⟩ : ∃ x, left[r]? = some x := ⟨_, List.getElem?_eq_getElem hr5⟩
      obtain ⟨k1, k2⟩ := cut_ix hx
      refine ⟨_, rfl, .inl ⟨rfl, _, SqL.of ef4⟩, _, rfl, _, rfl, l, left, _, x, rfl, rfl, SqL.of el4, atI_nat hx, c, found, x, rfl, rfl, ef4, ?_, ?_⟩
      · rw [sizeLine_eq]
        have := hp.length_eq
        rw [List.length_append] at this
        omega
      have el5 : (upd H4 c (.lst (found ++ [x]))) l = some (.lst left) := by rw [upd_ne lc]; exact el4
      have P5 := P4.upd (o := .lst (found ++ [x])) cp
      generalize h5 : upd H4 c (.lst (found ++ [x])) = H5 at *
      have ef5 : H5 c = some (.lst (found ++ [x])) := by rw [← h5]; exact upd_same
      have s5 : Same (hide p H) (hide p H5) := by
        rw [← h5, hide_upd cp]
        refine same_over fresh ?_
        rw [h4]
        exact s3
      refine ⟨_, rfl, _, rfl, (r : Int), rfl, l, left, rfl, SqL.of el5, fun d1 n1 => ?_⟩
      rw [cut_to (by omega)]
      have P6 := P5.new (o := .lst (left.take r)) n1
      obtain ⟨dp1, sd1, _⟩ := hide_new (o := .lst (left.take r)) P5.ne n1
      have el6 := same_upd (o := .lst (left.take r)) n1 _ _ el5
      have ef6 := same_upd (o := .lst (left.take r)) n1 _ _ ef5
      refine ⟨_, rfl, _, rfl, (r : Int), 1, rfl, rfl, _, rfl, l, left, rfl, SqL.of el6, fun d2 n2 => ?_⟩
      rw [show ((r : Int) + 1) = ((r + 1 : Nat) : Int) by omega, cut_from (by omega)]
      have P7 := P6.new (o := .lst (left.drop (r + 1))) n2
      obtain ⟨dp2, sd2, _⟩ := hide_new (o := .lst (left.drop (r + 1))) P6.ne n2
      have ef7 := same_upd (o := .lst (left.drop (r + 1))) n2 _ _ ef6
      refine ⟨d1, d2, left.take r, left.drop (r + 1), rfl, rfl, same_upd n2 _ _ upd_same, upd_same, ?_, fun d3 n3 => ?_⟩
      · rw [sizeLine_eq, List.length_take, List.length_drop]
        omega
      have P8 := P7.new (o := .lst (left.take r ++ left.drop (r + 1))) n3
      obtain ⟨dp3, sd3, _⟩ := hide_new (o := .lst (left.take r ++ left.drop (r + 1))) P7.ne n3
      have ef8 := same_upd (o := .lst (left.take r ++ left.drop (r + 1))) n3 _ _ ef7
      refine ⟨d3, left.take r ++ left.drop (r + 1), found ++ [x], _, _, rfl, ((s5.trans sd1).trans sd2).trans sd3, P8, dp3, fun z => ?_, upd_same, ef8, ?_, by omega⟩
      · rw [z] at n3
        rw [n3] at ef7
        cases ef7
      · rw [List.append_assoc]
        exact (k2.append_left found).trans hp
    · rintro σ H3 ⟨l, left, found, o4, o5, rfl, s3, P3, lp, lc, el, ef, hp, hlen⟩
      have e0 : left = [] := List.length_eq_zero_iff.mp (by omega)
      subst e0
      rw [List.append_nil] at hp
      exact ⟨_, rfl, q found H3 c s3 P3 hp fresh (by rw [hide_ne cp]; exact ef)⟩
end
end K21
end L2
set_option Elab.async false
set_option linter.all false
set_option maxRecDepth 100000
set_option maxHeartbeats 4000000
namespace L2
namespace K21
open PySem PySem.Spec PyProof.Rows K1 WL
section
variable {P : Program} {w : World} {K : PySem.W.Frag} {mg : Str → Option Value} {base : Heap} {f : Addr} {fd : FuncData}
/-! ### _law_names -/
abbrev nmNS : List Str := ["_law_pool_here", "_law_many", "_law_found", "_law_k", "_law_size", "_law_name", "_law_spare", "_law_j", "_law_letter", "_law_each"]
theorem sc_names : FnScope nmNS ["_law_pool_here", "_law_many"] (defScope s_names) := ⟨rfl, rfl, rfl, by decide +kernel, rfl, by decide +kernel, by decide +kernel⟩
theorem ok_names (T : Bl mg) (Ct : Cal P w K mg base "_law_take" ["_law_pool_here", "_law_many"] 1 spTakeL) (F : FnP K "_law_names" "_law_names" s_names f fd) : FnOk P w K mg base CX0 2 f fd ["_law_pool_here", "_law_many"] (spNames K) := by
  obtain ⟨ft, fdt, Gt, gt, kt, bt⟩ := Ct.ex
  refine F.ok sc_names (fun vs H Q E h => ?_) (fun cdv A outer s H vs Q E hr h => ?_)
  · obtain ⟨p, m, n, rfl, _⟩ := h
    rfl
  · have nd := sc_names.nd
    refine ⟨_, PSs.nox (pss_cons (ps_set (i := 2) nd rfl (Or.inr rfl) (pe_lst pa_nil))
      (pss_cons (ps_for PassesOwn.never rfl (pi_range1 rfl T.f_range (pa_cons (pv 1) pa_nil)) (pg_name (i := 3) nd rfl (Or.inl rfl))
        (pss_cons (ps_set (i := 4) nd rfl (Or.inl rfl) (pe_ix ix_list (pe_lst (pa_cons pe_int (pa_cons pe_int (pa_cons pe_int (pa_cons pe_int (pa_cons pe_int pa_nil)))))) (pe_call Gt hr rfl gt kt bt .nil pass0 (pa_cons (pv 0) (pa_cons pe_int pa_nil))) fun _ _ => rfl))
        (pss_cons (ps_set (i := 5) nd rfl (Or.inl rfl) (pe_join pe_str (pe_lc (own := [("_law_j", 7)]) (g := gName 7) (tt := tYes) rfl nd (pi_range1 rfl T.f_range (pa_cons (pv 4) pa_nil)) (blkOk_by (N := nmNS) (sc := defScope s_names) (by decide +kernel))
          (fun _ _ _ _ _ => pg_name (i := 7) nd rfl (Or.inl rfl)) (fun _ _ _ _ _ => pts_nil) (fun _ _ _ _ _ => pe_ix ix_str pe_str (pe_call Gt hr rfl gt kt bt .nil pass0 (pa_cons (pv 0) (pa_cons pe_int pa_nil))) fun _ _ => rfl))))
        (pss_cons (ps_set (i := 6) nd rfl (Or.inl rfl) (pe_op op_cat (pe_lst (pa_cons (pv 5) pa_nil)) (pe_lc (own := [("_law_letter", 8)]) (g := gName 8) (tt := tYes) rfl nd (pi_str pe_str) (blkOk_by (N := nmNS) (sc := defScope s_names) (by decide +kernel))
          (fun _ _ _ _ _ => pg_name (i := 8) nd rfl (Or.inl rfl)) (fun _ _ _ _ _ => pts_nil) (fun _ _ _ _ _ => pe_op op_add_str (pe_op op_add_str pe_str (pv 8)) pe_str))))
        (pss_one (ps_expr (pe_bm PySem.F.plainAttrs_list PySem.F.slot_list_append PySem.F.type_list_append mt_append (pv 2) (pa_cons (pe_ix ix_list (pe_lc (own := [("_law_each", 9)]) (g := gName 9) (tt := tTest (tOp (rIn K true) (tVar 9) (tVar 2))) rfl nd (pi_list (pv 6)) (blkOk_by (N := nmNS) (sc := defScope s_names) (by decide +kernel))
          (fun _ _ _ _ _ => pg_name (i := 9) nd rfl (Or.inl rfl)) (fun _ _ _ _ _ => pts_one (pt_cmpR op_notIn_seq (pv 9) (pv 2) rfl)) (fun _ _ _ _ _ => pv 9)) pe_int fun _ _ => rfl) pa_nil))))))))
      (pss_one (ps_ret (pv 2))))), ?_⟩
    obtain ⟨p, m, n, rfl, hm1, hm12, hP, hn, q⟩ := h
    refine ⟨(show 0 ≤ sizeLine by decide), fun c nc => ?_⟩
    obtain ⟨cp, sc, ec⟩ := hide_new (o := .lst []) hP.ne nc
    have P1 := hP.new (o := .lst []) nc
    have fresh : hide p H c = none := by
      rw [hide_ne cp]
      exact nc
    refine g_nm ?_
    dsimp only
    refine t_seqF ?_
    refine ⟨_, rfl, _, rfl, by omega, by omega, ?_⟩
    rw [Int.toNat_natCast]
    refine for_range (fun i σ H' => ∃ (zs : List Str) (o3 o4 o5 o6 : Option V), σ = [some (.ref p), some (.int (m : Nat)), some (.ref c), o3, o4, o5, o6, none, none, none] ∧ Same (hide p H) (hide p H') ∧ Pl H' p (n + 9 * i) ∧ H' c = some (.lst (zs.map .str)) ∧
      zs.length = i ∧ zs.Nodup ∧ ∀ z ∈ zs, lawNm z) ⟨[], _, _, _, _, rfl, sc, P1, upd_same, rfl, List.nodup_nil, fun z hz => nomatch hz⟩ ?_ ?_
    · rintro i σ H1 hi ⟨zs, o3, o4, o5, o6, rfl, s1, P1, ec, hzl, hznd, hznm⟩
      -- the size
      refine g_nm ?_
      refine t_seqAsg ?_
      refine ⟨(show 5 ≤ sizeLine by decide), fun d1 n1 => ?_⟩
      obtain ⟨dp1, sd1, ed1⟩ := hide_new (o := .lst [.int 1, .int 1, .int 2, .int 3, .int 8]) P1.ne n1
      have P2 := P1.new (o := .lst [.int 1, .int 1, .int 2, .int 3, .int 8]) n1
      have ec1 : hide p H1 c = some (.lst (zs.map .str)) := by rw [hide_ne cp]; exact ec
      refine ⟨_, rfl, p, 5, n + 9 * i, rfl, by decide, by decide, P2, by omega, fun r H2 hr h2 P3 => ?_⟩
      have e1 : hide p H2 d1 = some (.lst [.int 1, .int 1, .int 2, .int 3, .int 8]) := by rw [h2]; exact ed1
      have s2 : Same (hide p H1) (hide p H2) := by rw [h2]; exact sd1
      obtain ⟨sz, hsz, z1, z8⟩ := size_at (r := r) (by omega)
      refine ⟨d1, _, (r : Int), _, rfl, rfl, SqL.of (hide_some e1).2, atI_nat hsz, ?_⟩
      -- the name
      refine g_nm ?_
      dsimp only
      refine t_seqAsg ?_
      refine ⟨⟨_, rfl⟩, _, rfl, _, rfl, by omega, by omega, fun D nD => ?_⟩
      rw [Int.toNat_natCast]
      obtain ⟨dpD, sD, eD⟩ := hide_new (o := .lst []) P3.ne nD
      refine lc_it walk_range (fun j H' => ∃ cs : List Nat, cs.length = j ∧ (∀ c ∈ cs, 97 ≤ c ∧ c ≤ 121) ∧ Same (hide p H2) (hide p H') ∧ Pl H' p (n + 9 * i + 1 + j) ∧ H' D = some (.lst (cs.map fun c => .str ⟨#[c]⟩)))
        ⟨[], rfl, (fun c hc => nomatch hc), sD, P3.new nD, upd_same⟩ (fun _ _ _ _ => trivial) ?_ ?_
      · rintro j x H3 H3' hj ⟨cs, hcl, hcc, s3, P4, e3⟩ ⟨rfl, rfl⟩
        refine ⟨rfl, _, rfl, p, 25, n + 9 * i + 1 + j, rfl, by decide, by decide, P4, by omega, fun r2 H4 hr2 h4 P5 => ?_⟩
        have e4 : H4 D = some (.lst (cs.map fun c => .str ⟨#[c]⟩)) := by rw [← hide_ne (H := H4) dpD, h4, hide_ne dpD]; exact e3
        refine ⟨abc25, _, 97 + r2, rfl, rfl, by rw [sizeLine_eq]; decide, abc25_at (by omega), _, e4, ?_, cs ++ [97 + r2], ?_, ?_, ?_, ?_, ?_⟩
        · rw [List.length_map, sizeLine_eq]
          omega
        · rw [List.length_append, hcl]
          rfl
        · intro c hc
          rcases List.mem_append.mp hc with hc | hc
          · exact hcc c hc
          · have : c = 97 + r2 := by simpa using hc
            omega
        · rw [hide_upd dpD]
          refine same_over (hide_none nD) ?_
          rw [h4]
          exact s3
        · exact (P5.upd dpD).le (by omega)
        · rw [upd_same, List.map_append]
          rfl
      · rintro H3 ⟨cs, hcl, hcc, s3, P4, e3⟩
        have hcm : (cs.map fun c => (V.str ⟨#[c]⟩ : V)) = (cs.map fun c => (⟨#[c]⟩ : Str)).map V.str := by
          rw [List.map_map]
          rfl
        rw [hcm] at e3
        have nmok : lawNm (Txt.join ("" : Str) (cs.map fun c => (⟨#[c]⟩ : Str))) := nm_of (join_signs cs) (by omega) (by omega) hcc
        refine ⟨_, D, cs.map fun c => (⟨#[c]⟩ : Str), rfl, rfl, .inl (SqL.of e3), ?_, ?_⟩
        · rw [List.map_map]
          have := sum_ones cs
          show (List.map (fun _ => 1) cs).sum + _ * 0 ≤ _
          rw [this]
          omega
        generalize Txt.join ("" : Str) (cs.map fun c => (⟨#[c]⟩ : Str)) = name at nmok ⊢
        have ec3 := s3 _ _ (s2 _ _ ec1)
        have P5 : Pl H3 p (n + 9 * (i + 1)) := P4.le (by omega)
        have s13 := s2.trans s3
        clear P4 s3 e3 hcm
        -- the candidates
        refine g_nm ?_
        refine t_seqAsg ?_
        refine ⟨_, rfl, (show 1 ≤ sizeLine by decide), fun d5 n5 => ?_⟩
        obtain ⟨dp5, sd5, ed5⟩ := hide_new (o := .lst [.str name]) P5.ne n5
        have P6 := P5.new (o := .lst [.str name]) n5
        refine ⟨abc16, rfl, fun D2 nD2 => ?_⟩
        refine lc_it walk_str (fun j H' => Same (upd H3 d5 (.lst [.str name])) H' ∧ H' D2 = some (.lst (((abc16.cps.toList.take j).map spare).map .str))) ⟨same_upd nD2, upd_same⟩ (fun _ _ _ _ => trivial) ?_ ?_
        · rintro j x H4 H4' hj ⟨s4, e4⟩ ⟨rfl, ch, hch, rfl⟩
          have hch' : abc16.cps.toList[j]? = some ch := by rw [← hch]; simp
          refine ⟨rfl, _, rfl, _, _, rfl, rfl, (show 2 ≤ sizeLine by decide), _, _, rfl, rfl, (show 3 ≤ sizeLine by decide), _, e4, ?_, same_over nD2 s4, ?_⟩
          · rw [List.length_map, List.length_map, List.length_take, sizeLine_eq]
            have : abc16.cps.toList.length = 16 := by decide +kernel
            omega
          · rw [upd_same, List.take_succ, hch', List.map_append, List.map_append]
            rfl
        rintro H4 ⟨s4, e4⟩
        have e4' : H4 D2 = some (.lst (spares.map .str)) := by
          rw [e4]
          have : abc16.cps.size = abc16.cps.toList.length := by simp
          rw [this, List.take_length]
          rfl
        refine ⟨d5, D2, [.str name], spares.map .str, rfl, rfl, s4 _ _ upd_same, e4', ?_, fun d6 n6 => ?_⟩
        · rw [List.length_map, spares_len]
          exact (show 17 ≤ sizeLine by decide)
        have s34 : Same H3 (upd H4 d6 (.lst ([.str name] ++ spares.map .str))) := (((same_upd n5).trans s4).trans (same_upd n6))
        have P7 := P5.same s34
        have ec6 := hide_same s34 _ _ ec3
        have s16 := s13.trans (hide_same (p := p) s34)
        have e6 : (upd H4 d6 (.lst ([.str name] ++ spares.map .str))) d6 = some (.lst ((name :: spares).map .str)) := upd_same
        generalize upd H4 d6 (.lst ([.str name] ++ spares.map .str)) = H6 at *
        refine g_nm ?_
        -- the first free one
        have ecH := (hide_some ec6).2
        refine ⟨_, rfl, .inl ⟨rfl, _, SqL.of ecH⟩, _, rfl, d6, rfl, ⟨_, SqL.of e6⟩, fun D3 nD3 => ?_⟩
        refine lc_it (walk_list (xs := (name :: spares).map .str)) (fun j H' => Same H6 H' ∧ H' D3 = some (.lst ((((name :: spares).take j).filter fun z => decide (z ∉ zs)).map .str))) ⟨same_upd nD3, upd_same⟩ (fun _ H' _ p => SqL.of (p.1 _ _ e6)) ?_ ?_
        · rintro j x H7 H7' hj ⟨s7, e7⟩ ⟨rfl, hx⟩
          rw [List.getElem?_map] at hx
          obtain ⟨z, hz, rfl⟩ := Option.map_eq_some_iff.mp hx
          have tk : (name :: spares).take (j + 1) = (name :: spares).take j ++ [z] := by rw [List.take_succ, hz]; rfl
          refine ⟨rfl, _, rfl, _, rfl, c, _, rfl, .inl (SqL.of (s7 _ _ ecH)), rfl, flat_strs' _, _, rfl, ?_⟩
          by_cases hin : z ∈ zs
          · have eb : (!inV (.str z) (zs.map V.str)) = false := by rw [in_strs, decide_eq_true hin]; rfl
            refine iteN eb ⟨s7, ?_⟩
            rw [e7, tk, List.filter_append, List.filter_cons, if_neg (by simpa using hin)]
            simp
          · have eb : (!inV (.str z) (zs.map V.str)) = true := by rw [in_strs, decide_eq_false hin]; rfl
            refine iteP eb ⟨_, rfl, _, e7, ?_, same_over nD3 s7, ?_⟩
            · rw [List.length_map, sizeLine_eq]
              have l1 := List.length_filter_le (fun z => decide (z ∉ zs)) ((name :: spares).take j)
              rw [List.length_take] at l1
              have := spares_len
              rw [List.length_cons] at l1
              omega
            · rw [upd_same, tk, List.filter_append, List.filter_cons, if_pos (by simpa using hin), List.map_append]
              rfl
        rintro H7 ⟨s7, e7⟩
        rw [List.length_map, List.take_length] at e7
        obtain ⟨z, rest, ez, nz, okz⟩ := first_free (found := zs) (by omega) nmok
        rw [ez] at e7
        refine ⟨D3, _, 0, .str z, rfl, rfl, SqL.of e7, atI_nat (j := 0) rfl, c, _, .str z, rfl, rfl, s7 _ _ ecH, ?_, ?_⟩
        · rw [List.length_map, sizeLine_eq]
          omega
        refine ⟨zs ++ [z], _, _, _, _, rfl, ?_, (P7.same s7).upd cp, ?_, ?_, ?_, ?_⟩
        · rw [hide_upd cp]
          exact same_over fresh ((s1.trans s16).trans (hide_same s7))
        · rw [upd_same, List.map_append]
          rfl
        · rw [List.length_append, hzl]
          rfl
        · rw [List.nodup_append]
          refine ⟨hznd, by simp, fun a ha b hb => ?_⟩
          have : b = z := by simpa using hb
          rw [this]
          exact fun e => nz (e ▸ ha)
        · intro y hy
          rcases List.mem_append.mp hy with hy | hy
          · exact hznm y hy
          · have : y = z := by simpa using hy
            rw [this]
            exact okz
    · rintro σ H1 ⟨zs, o3, o4, o5, o6, rfl, s1, P1, ec, hzl, hznd, hznm⟩
      exact ⟨_, rfl, q zs H1 c s1 P1 hzl hznd hznm fresh (by rw [hide_ne cp]; exact ec)⟩
end
end K21
end L2
set_option Elab.async false
set_option linter.all false
set_option maxRecDepth 100000
set_option maxHeartbeats 4000000
namespace L2
namespace K21
open PySem PySem.Spec PyProof.Rows K1 WL
section
variable {P : Program} {w : World} {K : PySem.W.Frag} {mg : Str → Option Value} {base : Heap} {f : Addr} {fd : FuncData}
/-! ### _law_web -/
abbrev nmWB : List Str := ["_law_pool_here", "_law_most", "_law_many", "_law_names_here", "_law_rows", "_law_name"]
theorem sc_web : FnScope nmWB ["_law_pool_here", "_law_most", "_law_many"] (defScope s_web) := ⟨rfl, rfl, rfl, by decide +kernel, rfl, by decide +kernel, by decide +kernel⟩
theorem ok_web (T : Bl mg) (Ct : Cal P w K mg base "_law_take" ["_law_pool_here", "_law_many"] 1 spTakeL) (Cm : Cal P w K mg base "_law_mixed" ["_law_pool_here", "_law_things"] 2 (spMixed K)) (Cn : Cal P w K mg base "_law_names" ["_law_pool_here", "_law_many"] 2 (spNames K))
    (F : FnP K "_law_web" "_law_web" s_web f fd) : FnOk P w K mg base CX0 3 f fd ["_law_pool_here", "_law_most", "_law_many"] (spWeb K) := by
  obtain ⟨ft, fdt, Gt, gt, kt, bt⟩ := Ct.ex
  obtain ⟨fm, fdm, Gm, gm, km, bm⟩ := Cm.ex
  obtain ⟨fn', fdn, Gn, gn, kn, bn⟩ := Cn.ex
  refine F.ok sc_web (fun vs H Q E h => ?_) (fun cdv A outer s H vs Q E hr h => ?_)
  · obtain ⟨p, most, many, n, rfl, _⟩ := h
    rfl
  · have nd := sc_web.nd
    have h1 := hr.mono (show 1 ≤ 2 by decide)
    refine ⟨_, PSs.nox (pss_cons (ps_set (i := 3) nd rfl (Or.inl rfl) (pe_call Gn hr rfl gn kn bn .nil pass0 (pa_cons (pv 0) (pa_cons (pe_op op_add pe_int (pe_call Gt h1 rfl gt kt bt .nil pass0 (pa_cons (pv 0) (pa_cons (pv 1) pa_nil)))) pa_nil))))
      (pss_cons (ps_set (i := 4) nd rfl (Or.inl rfl) (pe_lst pa_nil))
      (pss_cons (ps_for PassesOwn.never rfl (pi_list (pv 3)) (pg_name (i := 5) nd rfl (Or.inl rfl))
        (pss_one (ps_expr (pe_bm PySem.F.plainAttrs_list PySem.F.slot_list_append PySem.F.type_list_append mt_append (pv 4) (pa_cons (pe_tup (pa_cons (pv 5) (pa_cons
          (pe_slice sl_list (pe_call Gm hr rfl gm km bm .nil pass0 (pa_cons (pv 0) (pa_cons (pv 3) pa_nil))) po_none (po_some (pe_call Gt h1 rfl gt kt bt .nil pass0 (pa_cons (pv 0)
            (pa_cons (pe_op op_add (pe_callB (call_min2 rfl) rfl T.f_min (by decide +kernel) (pa_cons (pv 2) (pa_cons (pe_callB call_len rfl T.f_len boot_len (pa_cons (pv 3) pa_nil)) pa_nil))) pe_int) pa_nil))))) pa_nil))) pa_nil)))))
      (pss_one (ps_ret (pv 4)))))), ?_⟩
    obtain ⟨p, most, many, n, rfl, hm1, hm12, hmy, hP, hn, q⟩ := h
    have cst : ∀ r : Nat, V.int (1 + (r : Int)) = V.int ((1 + r : Nat) : Int) := fun r => by rw [show ((1 + r : Nat) : Int) = 1 + (r : Int) by omega]
    refine ⟨_, rfl, _, rfl, _, rfl, p, most, n, rfl, by omega, by omega, hP, by omega, fun r H1 hr1 e1 P1 => ?_⟩
    refine ⟨1, r, rfl, rfl, ?_⟩
    refine ⟨p, 1 + r, n + 1, (show ([V.ref p, V.int (1 + (r : Int))] : List V) = [V.ref p, V.int ((1 + r : Nat) : Int)] by rw [cst]), by omega, by omega, P1, by omega, fun zs H2 l s2 P2 hlen hnd hnm fl el => ?_⟩
    refine g_nm ?_
    dsimp only
    refine t_seqAsg ?_
    refine ⟨(show 0 ≤ sizeLine by decide), fun c nc => ?_⟩
    obtain ⟨cp, sc, ec⟩ := hide_new (o := .lst []) P2.ne nc
    have P3 := P2.new (o := .lst []) nc
    have ncH : hide p H c = none := by
      have z : hide p H2 c = none := hide_none nc
      rw [e1] at s2
      cases e : hide p H c with
      | none => rfl
      | some o =>
        have := s2 _ _ e
        rw [z] at this
        cases this
    have sH : Same (hide p H) (hide p H2) := by
      rw [e1] at s2
      exact s2
    have elc := sc _ _ el
    refine g_nm ?_
    refine t_seqF ?_
    refine ⟨_, rfl, l, rfl, ⟨_, SqL.of (hide_some elc).2⟩, ?_⟩
    refine for_it (walk_list (xs := zs.map .str)) (fun i σ H' => ∃ (rs : Rws) (vl : List V) (o5 : Option V), σ = [some (.ref p), some (.int (most : Nat)), some (.int (many : Nat)), some (.ref l), some (.ref c), o5] ∧ Same (hide p H2) (hide p H') ∧ Pl H' p (n + 1 + 9 * (1 + r) + 13 * i) ∧
      hide p H' c = some (.lst vl) ∧ Paired (RowT (hide c (hide p H'))) vl rs ∧ rs.map Prod.fst = zs.take i ∧ ∀ w ∈ rs, w.2.Nodup ∧ w.2.length ≤ many ∧ w.2.length ≤ zs.length ∧ ∀ s ∈ w.2, s ∈ zs)
      ⟨[], [], _, rfl, sc, P3, ec, .nil, rfl, fun w hw => nomatch hw⟩ (fun i σ H' _ ⟨rs, vl, o5, _, s3, _⟩ => SqL.of (hide_some (s3 _ _ el)).2) ?_ ?_
    · rintro i x σ H3 H3' hi ⟨rs, vl, o5, rfl, s3, P4, ec3, hrow, hfst, hsr⟩ ⟨rfl, hx⟩
      rw [List.getElem?_map] at hx
      obtain ⟨z, hz, rfl⟩ := Option.map_eq_some_iff.mp hx
      have el3 := s3 _ _ el
      have hzl : zs.length ≤ 12 := by omega
      have il : i < zs.length := (List.getElem?_eq_some_iff.mp hz).1
      refine g_nm ?_
      refine ⟨_, rfl, .inl ⟨rfl, _, SqL.of (hide_some ec3).2⟩, _, rfl, _, rfl, _, rfl, p, .ref l, zs.map .str, n + 1 + 9 * (1 + r) + 13 * i, rfl, ⟨l, rfl, .inl (SqL.of el3)⟩, by rw [List.length_map]; omega, P4, by omega, fun ys H4 d s4 P5 hperm fd ed => ?_⟩
      obtain ⟨ss, rfl, hss⟩ := perm_strs hperm
      have el4 := s4 _ _ el3
      rw [List.length_map] at P5
      refine ⟨_, rfl, _, rfl, _, rfl, .ref l, (zs.map V.str).length, rfl, .inl ⟨_, SqL.of (hide_some el4).2, rfl⟩, many, ((zs.map V.str).length : Nat), rfl, ?_⟩
      have hmin : 0 ≤ (if (((zs.map V.str).length : Nat) : Int) < (many : Int) then (((zs.map V.str).length : Nat) : Int) else (many : Int)) ∧ (if (((zs.map V.str).length : Nat) : Int) < (many : Int) then (((zs.map V.str).length : Nat) : Int) else (many : Int)) ≤ (many : Int) := by
        split <;> omega
      generalize (if (((zs.map V.str).length : Nat) : Int) < (many : Int) then (((zs.map V.str).length : Nat) : Int) else (many : Int)) = mn at hmin ⊢
      refine ⟨_, 1, rfl, rfl, p, _, n + 1 + 9 * (1 + r) + 13 * i + zs.length, rfl, by omega, by omega, P5, by omega, fun j H5 hj h5 P6 => ?_⟩
      have ed5 : hide p H5 d = some (.lst (ss.map .str)) := by rw [h5]; exact ed
      have s35 : Same (hide p H3') (hide p H5) := by rw [h5]; exact s4
      refine ⟨_, rfl, d, ss.map .str, rfl, SqL.of (hide_some ed5).2, fun d2 n2 => ?_⟩
      have hjs : j ≤ many := by omega
      have hss2 : ss.length = zs.length := hss.length_eq
      have hcut : cutV (ss.map V.str) none (some (j : Int)) = (ss.take j).map V.str := by
        unfold cutV
        rw [HT.sIx_nat, List.length_map]
        show ((ss.map V.str).drop 0).take (min j ss.length - 0) = _
        rw [List.drop_zero, Nat.sub_zero, List.map_take]
        by_cases hh : j ≤ ss.length
        · rw [Nat.min_eq_left hh]
        · rw [Nat.min_eq_right (by omega), List.take_of_length_le (by simp), List.take_of_length_le (by rw [List.length_map]; omega)]
      rw [hcut]
      obtain ⟨dp2, sd2, ed2⟩ := hide_new (o := .lst ((ss.take j).map V.str)) P6.ne n2
      have P7 := P6.new (o := .lst ((ss.take j).map V.str)) n2
      refine ⟨(show 2 ≤ sizeLine by decide), fun t nt => ?_⟩
      obtain ⟨tp, st, et⟩ := hide_new (o := .tup [.str z, .ref d2]) P7.ne nt
      have P8 := P7.new (o := .tup [.str z, .ref d2]) nt
      have s3t := (s35.trans sd2).trans st
      have ec8 := s3t _ _ ec3
      refine ⟨c, vl, .ref t, rfl, rfl, (hide_some ec8).2, ?_, ?_⟩
      · rw [Paired.length hrow, ← List.length_map (f := Prod.fst), hfst, List.length_take, sizeLine_eq]
        omega
      have ncH2 : hide p H2 c = none := hide_none nc
      have hrow2 := Paired.imp (fun _ _ (r : RowT _ _ _) => r.same (hide_same (p := c) s3t)) hrow
      have ed8 := st _ _ ed2
      have tc : t ≠ c := fun e => by
        have := (hide_some (sd2 _ _ (s35 _ _ ec3))).2
        rw [← e, nt] at this
        cases this
      have dc : d2 ≠ c := fun e => by
        have := (hide_some (s35 _ _ ec3)).2
        rw [← e, n2] at this
        cases this
      refine ⟨rs ++ [(z, ss.take j)], vl ++ [.ref t], _, rfl, ?_, (P8.upd cp).le (by omega), ?_, ?_, ?_, ?_⟩
      · rw [hide_upd cp]
        exact same_over ncH2 (s3.trans s3t)
      · rw [hide_upd cp, upd_same]
      · have e9 : hide c (hide p (upd (upd (upd H5 d2 (.lst ((ss.take j).map V.str))) t (.tup [.str z, .ref d2])) c (.lst (vl ++ [.ref t])))) = hide c (hide p (upd (upd H5 d2 (.lst ((ss.take j).map V.str))) t (.tup [.str z, .ref d2]))) := by
          rw [hide_upd cp, hide_updp]
        rw [e9]
        refine Paired.snoc hrow2 ⟨t, d2, rfl, ?_, ?_⟩
        · rw [hide_ne tc]
          exact et
        · rw [hide_ne dc]
          exact ed8
      · rw [List.map_append, hfst, List.take_succ, hz]
        rfl
      · intro w hw
        rcases List.mem_append.mp hw with hw | hw
        · exact hsr w hw
        · have ew : w = (z, ss.take j) := by simpa using hw
          subst ew
          refine ⟨((hss.nodup_iff).mpr hnd).sublist (List.take_sublist ..), ?_, ?_, fun s hs => hss.mem_iff.mp (List.mem_of_mem_take hs)⟩
          · rw [List.length_take]
            omega
          · rw [List.length_take]
            omega
    · rintro σ H3 ⟨rs, vl, o5, rfl, s3, P4, ec3, hrow, hfst, hsr⟩
      rw [List.length_map, List.take_length] at hfst
      rw [List.length_map] at P4
      have hl : rs.length = zs.length := by
        rw [← List.length_map (f := Prod.fst), hfst]
      refine ⟨_, rfl, q rs H3 c (sH.trans s3) (P4.le (by omega)) ⟨by rw [hfst]; exact hnd, by omega, by omega, fun w hw => hnm _ ?_, fun w hw => ?_⟩ ncH ⟨vl, ec3, Paired.imp (fun _ _ r => r.same hide_le) hrow⟩⟩
      · rw [← hfst]
        exact List.mem_map.mpr ⟨w, hw, rfl⟩
      · obtain ⟨a1, a2, a3, a4⟩ := hsr w hw
        exact ⟨a1, a2, by omega, fun s hs => by rw [hfst]; exact a4 s hs⟩
end
end K21
end L2
set_option Elab.async false
set_option linter.all false
set_option maxRecDepth 100000
set_option maxHeartbeats 4000000
namespace L2
namespace K21
open PySem PySem.Spec PyProof.Rows K1 WL
section
variable {P : Program} {w : World} {K : PySem.W.Frag} {mg : Str → Option Value} {base : Heap} {f : Addr} {fd : FuncData}
theorem cut_upto {zs : List Str} {j : Nat} : cutV (zs.map V.str) none (some (j : Int)) = (zs.take j).map V.str := by
  unfold cutV
  rw [HT.sIx_nat, List.length_map]
  show ((zs.map V.str).drop 0).take (min j zs.length - 0) = _
  rw [List.drop_zero, Nat.sub_zero, List.map_take]
  by_cases hh : j ≤ zs.length
  · rw [Nat.min_eq_left hh]
  · rw [Nat.min_eq_right (by omega), List.take_of_length_le (by simp), List.take_of_length_le (by rw [List.length_map]; omega)]
/-! ### _law_program -/
abbrev nmPR : List Str := ["_law_pool_here", "_law_names_here", "_law_most", "_law_lots", "_law_k"]
theorem sc_prog : FnScope nmPR ["_law_pool_here", "_law_names_here", "_law_most"] (defScope s_program) := ⟨rfl, rfl, rfl, by decide +kernel, rfl, by decide +kernel, by decide +kernel⟩
theorem ok_prog (T : Bl mg) (Ct : Cal P w K mg base "_law_take" ["_law_pool_here", "_law_many"] 1 spTakeL) (Cm : Cal P w K mg base "_law_mixed" ["_law_pool_here", "_law_things"] 2 (spMixed K))
    (F : FnP K "_law_program" "_law_program" s_program f fd) : FnOk P w K mg base CX0 3 f fd ["_law_pool_here", "_law_names_here", "_law_most"] (spLProg K) := by
  obtain ⟨ft, fdt, Gt, gt, kt, bt⟩ := Ct.ex
  obtain ⟨fm, fdm, Gm, gm, km, bm⟩ := Cm.ex
  refine F.ok sc_prog (fun vs H Q E h => ?_) (fun cdv A outer s H vs Q E hr h => ?_)
  · obtain ⟨p, a, names, most, n, rfl, _⟩ := h
    rfl
  · have nd := sc_prog.nd
    have h1 := hr.mono (show 1 ≤ 2 by decide)
    refine ⟨_, PSs.nox (pss_cons (ps_set (i := 3) nd rfl (Or.inl rfl) (pe_lst pa_nil))
      (pss_cons (ps_for PassesOwn.never rfl (pi_range1 rfl T.f_range (pa_cons (pe_call Gt h1 rfl gt kt bt .nil pass0 (pa_cons (pv 0) (pa_cons (pe_op op_add (pv 2) pe_int) pa_nil))) pa_nil)) (pg_name (i := 4) nd rfl (Or.inl rfl))
        (pss_one (ps_expr (pe_bm PySem.F.plainAttrs_list PySem.F.slot_list_append PySem.F.type_list_append mt_append (pv 3) (pa_cons
          (pe_slice sl_list (pe_call Gm hr rfl gm km bm .nil pass0 (pa_cons (pv 0) (pa_cons (pv 1) pa_nil))) po_none (po_some (pe_op op_add pe_int (pe_call Gt h1 rfl gt kt bt .nil pass0 (pa_cons (pv 0) (pa_cons
            (pe_callB (call_min2 rfl) rfl T.f_min (by decide +kernel) (pa_cons pe_int (pa_cons (pe_callB call_len rfl T.f_len boot_len (pa_cons (pv 1) pa_nil)) pa_nil))) pa_nil)))))) pa_nil)))))
      (pss_one (ps_ret (pv 3))))), ?_⟩
    obtain ⟨p, a, names, most, n, rfl, ha, n1, n12, nnd, m12, hP, hn, q⟩ := h
    refine ⟨(show 0 ≤ sizeLine by decide), fun c nc => ?_⟩
    obtain ⟨cp, sc, ec⟩ := hide_new (o := .lst []) hP.ne nc
    have P1 := hP.new (o := .lst []) nc
    have ncH : hide p H c = none := hide_none nc
    have ha1 := SqL.sm ha sc
    generalize upd H c (.lst []) = H1 at *
    refine g_nm ?_
    dsimp only
    refine t_seqF ?_
    refine ⟨_, rfl, _, rfl, (most : Int), 1, rfl, rfl, p, (most : Int) + 1, n, rfl, by omega, by omega, P1, by omega, fun r H2 hr h2 P2 => ?_⟩
    have s12 : Same (hide p H) (hide p H2) := by rw [h2]; exact sc
    have ec2 : hide p H2 c = some (.lst []) := by rw [h2]; exact ec
    have ha2 : SqL K (hide p H2) a (names.map .str) := by rw [h2]; exact ha1
    refine ⟨_, rfl, by omega, by omega, ?_⟩
    rw [Int.toNat_natCast]
    refine for_range (fun i σ H' => ∃ (ls : Lots) (vl : List V) (o4 : Option V), σ = [some (.ref p), some (.ref a), some (.int (most : Nat)), some (.ref c), o4] ∧ Same (hide p H) (hide p H') ∧ SqL K (hide p H') a (names.map .str) ∧ Pl H' p (n + 1 + 13 * i) ∧
      hide p H' c = some (.lst vl) ∧ Paired (PthV (hide c (hide p H'))) vl ls ∧ LotsOk names ls i)
      ⟨[], [], _, rfl, s12, ha2, P2, ec2, .nil, ⟨Nat.le_refl _, fun l m => (by cases m), fun l m => (by cases m), fun l m => (by cases m), fun l m => (by cases m)⟩⟩ ?_ ?_
    · rintro i σ H3 hi ⟨ls, vl, o4, rfl, s3, ha3, P3, ec3, hls, ok⟩
      refine g_nm ?_
      refine ⟨_, rfl, .inl ⟨rfl, _, SqL.of (hide_some ec3).2⟩, _, rfl, _, rfl, p, .ref a, names.map .str, _, rfl, ⟨a, rfl, .inl ha3⟩, by rw [List.length_map]; omega, P3, by omega, fun ys H4 d s4 P4 hperm fd ed => ?_⟩
      obtain ⟨ss, rfl, hss⟩ := perm_strs hperm
      rw [List.length_map] at P4
      have ha4 := SqL.sm ha3 s4
      have ec4 := s4 _ _ ec3
      refine ⟨_, rfl, _, rfl, .ref a, (names.map V.str).length, rfl, .inl ⟨_, SqL.sm ha4 hide_le, rfl⟩, 3, ((names.map V.str).length : Nat), rfl, ?_⟩
      have hmin : 1 ≤ (if (((names.map V.str).length : Nat) : Int) < (3 : Int) then (((names.map V.str).length : Nat) : Int) else (3 : Int)) ∧ (if (((names.map V.str).length : Nat) : Int) < (3 : Int) then (((names.map V.str).length : Nat) : Int) else (3 : Int)) ≤ (3 : Int) := by
        rw [List.length_map]
        split <;> omega
      generalize (if (((names.map V.str).length : Nat) : Int) < (3 : Int) then (((names.map V.str).length : Nat) : Int) else (3 : Int)) = mn at hmin ⊢
      refine ⟨p, mn, _, rfl, by omega, by omega, P4, by omega, fun j H5 hj h5 P5 => ?_⟩
      have ed5 : hide p H5 d = some (.lst (ss.map .str)) := by rw [h5]; exact ed
      have s35 : Same (hide p H3) (hide p H5) := by rw [h5]; exact s4
      refine ⟨1, (j : Int), rfl, rfl, _, rfl, d, ss.map .str, rfl, SqL.of (hide_some ed5).2, fun d2 n2 => ?_⟩
      have hcut : cutV (ss.map V.str) none (some (1 + (j : Int))) = (ss.take (1 + j)).map V.str := by
        rw [show (1 + (j : Int)) = ((1 + j : Nat) : Int) by omega]
        exact cut_upto
      rw [hcut]
      obtain ⟨dp2, sd2, ed2⟩ := hide_new (o := .lst ((ss.take (1 + j)).map V.str)) P5.ne n2
      have P7 := P5.new (o := .lst ((ss.take (1 + j)).map V.str)) n2
      have s3t := s35.trans sd2
      have ec8 := s3t _ _ ec3
      refine ⟨c, vl, .ref d2, rfl, rfl, (hide_some ec8).2, ?_, ?_⟩
      · have := Paired.length hls
        have := ok.ln
        rw [sizeLine_eq]
        omega
      have hls2 := Paired.imp (fun _ _ (r : PthV _ _ _) => r.same (hide_same (p := c) s3t)) hls
      have dc : d2 ≠ c := fun e => by
        have := (hide_some (s35 _ _ ec3)).2
        rw [← e, n2] at this
        cases this
      have hss2 : ss.length = names.length := hss.length_eq
      refine ⟨ls ++ [ss.take (1 + j)], vl ++ [.ref d2], _, rfl, ?_, ?_, (P7.upd cp).le (by omega), ?_, ?_, ?_⟩
      · rw [hide_upd cp]
        exact same_over ncH (s3.trans s3t)
      · rw [hide_upd cp]
        exact SqL.sm ha (same_over ncH (s3.trans s3t))
      · rw [hide_upd cp, upd_same]
      · have e9 : hide c (hide p (upd (upd H5 d2 (.lst ((ss.take (1 + j)).map V.str))) c (.lst (vl ++ [.ref d2])))) = hide c (hide p (upd H5 d2 (.lst ((ss.take (1 + j)).map V.str)))) := by
          rw [hide_upd cp, hide_updp]
        rw [e9]
        refine Paired.snoc hls2 ⟨d2, rfl, ?_⟩
        rw [hide_ne dc]
        exact ed2
      · have new : ∀ l ∈ ls ++ [ss.take (1 + j)], l ∈ ls ∨ l = ss.take (1 + j) := fun l m => (List.mem_append.mp m).imp id fun m => List.mem_singleton.mp m
        refine ⟨by rw [List.length_append]; have := ok.ln; show ls.length + 1 ≤ _; omega, fun l m => ?_, fun l m => ?_, fun l m => ?_, fun l m => ?_⟩
        · rcases new l m with m | rfl
          · exact ok.ne l m
          · intro e
            have := congrArg List.length e
            rw [List.length_take] at this
            have : ([] : List Str).length = 0 := rfl
            omega
        · rcases new l m with m | rfl
          · exact ok.l12 l m
          · rw [List.length_take]
            omega
        · rcases new l m with m | rfl
          · exact ok.nd l m
          · exact ((hss.nodup_iff).mpr nnd).sublist (List.take_sublist ..)
        · rcases new l m with m | rfl
          · exact ok.sub l m
          · exact fun z mz => hss.mem_iff.mp (List.mem_of_mem_take mz)
    · rintro σ H3 ⟨ls, vl, o4, rfl, s3, ha3, P3, ec3, hls, ok⟩
      have hrm : r ≤ most := by omega
      exact ⟨_, rfl, q ls H3 c s3 (P3.le (by omega)) ⟨Nat.le_trans ok.ln hrm, ok.ne, ok.l12, ok.nd, ok.sub⟩ ncH ⟨vl, ec3, Paired.imp (fun _ _ r => r.same hide_le) hls⟩⟩
end
end K21
end L2
set_option Elab.async false
set_option linter.all false
set_option maxRecDepth 100000
set_option maxHeartbeats 8000000
namespace L2
namespace K21
open PySem PySem.Spec PyProof.Rows K1 WL TL TX TS SrtR
section
variable {P : Program} {w : World} {K : PySem.W.Frag} {mg : Str → Option Value} {base : Heap} {f : Addr} {fd : FuncData}
/-! ### law -/
abbrev nmLW : List Str := ["_law_script", "_law_k", "_law_pool_here", "_law_rows", "_law_lines", "_law_lots", "_law_good", "_law_texts", "_law_text", "_law_due_here", "_law_told", "_law_cell_here", "_law_sources", "_law_lot", "_law_turn"]
theorem sc_law : FnScope nmLW ["_law_script"] (defScope s_law) := ⟨rfl, rfl, rfl, by decide +kernel, rfl, by decide +kernel, by decide +kernel⟩
def spLaw (K : PySem.W.Frag) : Sp := fun vs H Q _ => ∃ (a : Addr) (ns : List Int), vs = [.ref a] ∧ SqL K H a (ns.map V.int) ∧ ∀ H', Q (.bl true) H'
theorem fourteen {r : List (Option V)} (h : r.length = 14) : ∃ o1 o2 o3 o4 o5 o6 o7 o8 o9 o10 o11 o12 o13 o14 : Option V, r = [o1, o2, o3, o4, o5, o6, o7, o8, o9, o10, o11, o12, o13, o14] := by
  match r, h with
  | [o1, o2, o3, o4, o5, o6, o7, o8, o9, o10, o11, o12, o13, o14], _ => exact ⟨o1, o2, o3, o4, o5, o6, o7, o8, o9, o10, o11, o12, o13, o14, rfl⟩
abbrev rJoin (K : PySem.W.Frag) : V → List V → Hp → VK → Prop := fun x xs H Q => ∃ a p, ∃ ys : List Str, x = .str a ∧ xs = [.ref p] ∧ (SqL K H p (ys.map V.str) ∨ SqT K H p (ys.map V.str)) ∧ (ys.map (·.length)).sum + ys.length * a.length ≤ 16777216 ∧ Q (.str (Txt.join a ys)) H
/-- one text before others -/
theorem t_oneStr {te : TE} {z : Str} {σ : St} {H : Hp} {Q : VK} {ys : List Str} (h9 : ys.length ≤ 900)
    (ht : ∀ (H1 : Hp) (R : VK), Same H H1 → (∀ H' D, Same H1 H' → H' D = some (.lst (ys.map .str)) → R (.ref D) H') → te σ H1 R)
    (q : ∀ H' D, Same H H' → H D = none → H' D = some (.lst ((z :: ys).map .str)) → Q (.ref D) H') : tOp rCat (tLst (tCons (tC (.str z)) tNil)) te σ H Q := by
  refine ⟨(show 1 ≤ sizeLine by decide), fun q1 n1 => ?_⟩
  have s1 := same_upd (o := HO.lst [V.str z]) n1
  have e1 : upd H q1 (.lst [V.str z]) q1 = some (.lst [V.str z]) := upd_same
  refine ht _ _ s1 fun H' D s' eD => ?_
  refine ⟨q1, D, _, _, rfl, rfl, s' _ _ e1, eD, by rw [sizeLine_eq, List.length_singleton, List.length_map]; omega, fun q4 n4 => ?_⟩
  have s4 := same_upd (o := HO.lst ([V.str z] ++ ys.map V.str)) n4
  exact q _ q4 (s1.trans (s'.trans s4)) ((s1.trans s').free n4) upd_same
theorem off_pool {p d : Addr} {H H' : Hp} {o : HO} (hp : H p ≠ none) (nd : H d = none) (e : H' d = some o) : hide p H' d = some o := by
  rw [hide_ne fun z => hp (by rw [← z]; exact nd)]
  exact e
theorem t_seqDT {t : TE} {u : TS} {D : Ends} {σ : St} {H : Hp} (h : t σ H fun _ H1 => u D σ H1) : tSeq (tDrop t) u D σ H := h
theorem perm_strs {ls : List Str} {ys : List V} (h : ys.Perm (ls.map V.str)) : ∃ yl : List Str, ys = yl.map V.str ∧ yl.Perm ls := by
  refine ⟨strsOf ys, ?_, ?_⟩
  · have : ∀ y ∈ ys, ∃ z, y = V.str z := fun y m => by
      obtain ⟨z, _, e⟩ := List.mem_map.mp (h.mem_iff.mp m)
      exact ⟨z, e.symm⟩
    clear h
    induction ys with
    | nil => rfl
    | cons y ys ih =>
      obtain ⟨z, rfl⟩ := this y (List.mem_cons_self ..)
      have ih := ih fun x m => this x (List.mem_cons_of_mem _ m)
      show V.str z :: ys = V.str z :: (strsOf ys).map V.str
      rw [← ih]
  · have e : strsOf (ls.map V.str) = ls := strsOf_map ls
    have p : (strsOf ys).Perm (strsOf (ls.map V.str)) := by
      unfold strsOf
      exact h.filterMap _
    rw [e] at p
    exact p
theorem ok_law (T : Bl mg) (fs : mg "sorted" = none) (fb : mg "bool" = none)
    (Cdu : Cal P w K mg base "_law_due" ["_law_text"] 3 spDue21) (Cme : Cal P w K mg base "_law_met" ["_law_text"] 10 spMet21) (Cbe : Cal P w K mg base "_law_bent" ["_law_pool_here", "_law_text"] 2 spBent21) (Cmu : Cal P w K mg base "_law_mixed_up" ["_law_pool_here", "_law_lines"] 2 (spMix21 K))
    (Cc : Cal P w K mg base "_law_cell" ["_law_script", "_law_k"] 1 (spCellL K)) (Cp : Cal P w K mg base "_law_pool" ["_law_cell_here"] 1 spPoolL) (Ct : Cal P w K mg base "_law_take" ["_law_pool_here", "_law_many"] 1 spTakeL) (Cm : Cal P w K mg base "_law_mixed" ["_law_pool_here", "_law_things"] 2 (spMixed K)) (Cwb : Cal P w K mg base "_law_web" ["_law_pool_here", "_law_most", "_law_many"] 3 (spWeb K))
    (Cpr : Cal P w K mg base "_law_program" ["_law_pool_here", "_law_names_here", "_law_most"] 3 (spLProg K)) (F : FnP K "law" "law" s_law f fd) :
    FnOk P w K mg base CX0 11 f fd ["_law_script"] (spLaw K) := by
  obtain ⟨fc, fdc, Gc, gc, kc, bc⟩ := Cc.ex
  obtain ⟨fp, fdp, Gp, gp, kp, bp⟩ := Cp.ex
  obtain ⟨ft, fdt, Gt, gt, kt, bt⟩ := Ct.ex
  obtain ⟨fm, fdm, Gm, gm, km, bm⟩ := Cm.ex
  obtain ⟨fwb, fdwb, Gwb, gwb, kwb, bwb⟩ := Cwb.ex
  obtain ⟨fpr, fdpr, Gpr, gpr, kpr, bpr⟩ := Cpr.ex
  obtain ⟨fdu, fddu, Gdu, gdu, kdu, bdu⟩ := Cdu.ex
  obtain ⟨fme, fdme, Gme, gme, kme, bme⟩ := Cme.ex
  obtain ⟨fbe, fdbe, Gbe, gbe, kbe, bbe⟩ := Cbe.ex
  obtain ⟨fmu, fdmu, Gmu, gmu, kmu, bmu⟩ := Cmu.ex
  refine F.ok sc_law (fun vs H Q E h => ?_) (fun cdv A outer s H vs Q E hr h => ?_)
  · obtain ⟨a, ns, rfl, _⟩ := h
    rfl
  · have nd := sc_law.nd
    have hus : (A.deeper (envOfC "law" (defScope s_law) s.heap.objs.size f cdv)).units + 64 < cLine := by
      have := hr.un
      omega
    have h1 := hr.mono (show 1 ≤ 10 by decide)
    have h2 := hr.mono (show 2 ≤ 10 by decide)
    have h3 := hr.mono (show 3 ≤ 10 by decide)
    refine ⟨_, PSs.nox (pss_cons (ps_for PassesOwn.never rfl (pi_range1 rfl T.f_range (pa_cons pe_int pa_nil)) (pg_name (i := 1) nd rfl (Or.inl rfl))
      (pss_cons (ps_set (i := 2) nd rfl (Or.inr rfl) (pe_call Gp h1 rfl gp kp bp .nil pass0 (pa_cons (pe_op op_add (pe_call Gc h1 rfl gc kc bc .nil pass0 (pa_cons (pv 0) (pa_cons (pv 1) pa_nil))) (pv 1)) pa_nil)))
      (pss_cons (ps_set (i := 3) nd rfl (Or.inl rfl) (pe_call Gwb h3 rfl gwb kwb bwb .nil pass0 (pa_cons (pv 2) (pa_cons pe_int (pa_cons pe_int pa_nil)))))
      (pss_cons (ps_set (i := 4) nd rfl (Or.inr rfl) (pe_op op_cat (pe_lst (pa_cons pe_str pa_nil)) (pe_lc (own := [("_law_cell_here", 11), ("_law_sources", 12)]) (g := gTup K 2 (gCons (gName 11) (gCons (gName 12) gNil))) (tt := tYes) (te := tM1 (rJoin K) (tC (.str (Str.ofString " "))) (tOp rCat (tLst (tCons (tVar 11) tNil)) (tVar 12))) rfl nd (pi_list (pv 3)) (blkOk_by (N := nmLW) (sc := defScope s_law) (by decide +kernel))
        (fun _ _ _ _ _ => pg_tup rfl (pgs_cons (pg_name (i := 11) nd rfl (Or.inl rfl)) (pgs_cons (pg_name (i := 12) nd rfl (Or.inl rfl)) pgs_nil))) (fun _ _ _ _ _ => pts_nil) (fun _ _ _ _ _ => pe_join pe_str (pe_op op_cat (pe_lst (pa_cons (pv 11) pa_nil)) (pv 12))))))
      (pss_cons (ps_if (pt_cmpR op_eq (pe_call Gt h1 rfl gt kt bt .nil pass0 (pa_cons (pv 2) (pa_cons pe_int pa_nil))) pe_int (nomark _))
        (pss_cons (ps_set (i := 5) nd rfl (Or.inl rfl) (pe_call Gpr h3 rfl gpr kpr bpr .nil pass0 (pa_cons (pv 2) (pa_cons (pe_lc (own := [("_law_cell_here", 11), ("_law_sources", 12)]) (g := gTup K 2 (gCons (gName 11) (gCons (gName 12) gNil))) (tt := tYes) (te := tVar 11) rfl nd (pi_list (pv 3)) (blkOk_by (N := nmLW) (sc := defScope s_law) (by decide +kernel))
          (fun _ _ _ _ _ => pg_tup rfl (pgs_cons (pg_name (i := 11) nd rfl (Or.inl rfl)) (pgs_cons (pg_name (i := 12) nd rfl (Or.inl rfl)) pgs_nil))) (fun _ _ _ _ _ => pts_nil) (fun _ _ _ _ _ => pv 11)) (pa_cons pe_int pa_nil)))))
        (pss_one (ps_set (i := 4) nd rfl (Or.inr rfl) (pe_op op_cat (pe_lst (pa_cons pe_str pa_nil)) (pe_lc (own := [("_law_lot", 13)]) (g := gName 13) (tt := tYes) (te := tM1 (rJoin K) (tC (.str (Str.ofString " "))) (tCB (rSortTx K w) (tCons (tVar 13) tNil))) rfl nd (pi_list (pv 5)) (blkOk_by (N := nmLW) (sc := defScope s_law) (by decide +kernel))
          (fun _ _ _ _ _ => pg_name (i := 13) nd rfl (Or.inl rfl)) (fun _ _ _ _ _ => pts_nil) (fun _ _ _ _ _ => pe_join pe_str (pe_callB (cr_sortTx rfl hus) rfl fs (by decide +kernel) (pa_cons (pv 13) pa_nil))))))))
        pss_nil)
      (pss_cons (ps_set (i := 6) nd rfl (Or.inr rfl) (pe_op op_add_str (pe_join pe_str (pv 4)) pe_str))
      (pss_cons (ps_set (i := 7) nd rfl (Or.inl rfl) (pe_lst (pa_cons (pv 6) (pa_cons (pe_slice sl_str (pv 6) po_none (po_some (pe_un un_neg pe_int))) (pa_cons (pe_op op_add_str (pv 6) pe_str) (pa_cons pe_str (pa_cons pe_str (pa_cons pe_str (pa_cons pe_str (pa_cons pe_str pa_nil))))))))))
      (pss_cons (ps_set (i := 7) nd rfl (Or.inl rfl) (pe_op op_cat (pv 7) (pe_lc (own := [("_law_turn", 14)]) (g := gName 14) (tt := tYes) (te := tCall spBent21 [] E0 (tCons (tVar 2) (tCons (tVar 6) tNil))) rfl nd (pi_range1 rfl T.f_range (pa_cons pe_int pa_nil)) (blkOk_by (N := nmLW) (sc := defScope s_law) (by decide +kernel))
        (fun _ _ _ _ _ => pg_name (i := 14) nd rfl (Or.inl rfl)) (fun _ _ _ _ _ => pts_nil) (fun _ _ _ _ _ => pe_call Gbe h2 rfl gbe kbe bbe .nil pass0 (pa_cons (pv 2) (pa_cons (pv 6) pa_nil))))))
      (pss_cons (ps_set (i := 7) nd rfl (Or.inl rfl) (pe_op op_cat (pv 7) (pe_lc (own := [("_law_turn", 14)]) (g := gName 14) (tt := tYes) (te := tOp (fun x y H Q => ∃ i j, x = .str i ∧ y = .str j ∧ i.length + j.length ≤ sizeLine ∧ Q (.str (i ++ j)) H) (tM1 (rJoin K) (tC (.str (Str.ofString "\n"))) (tCall (spMix21 K) [] E0 (tCons (tVar 2) (tCons (tVar 4) tNil)))) (tC (.str (Str.ofString "\n")))) rfl nd (pi_range1 rfl T.f_range (pa_cons pe_int pa_nil)) (blkOk_by (N := nmLW) (sc := defScope s_law) (by decide +kernel))
        (fun _ _ _ _ _ => pg_name (i := 14) nd rfl (Or.inl rfl)) (fun _ _ _ _ _ => pts_nil) (fun _ _ _ _ _ => pe_op op_add_str (pe_join pe_str (pe_call Gmu h2 rfl gmu kmu bmu .nil pass0 (pa_cons (pv 2) (pa_cons (pv 4) pa_nil)))) pe_str))))
      (pss_cons (ps_expr (pe_bm PySem.F.plainAttrs_list PySem.F.slot_list_append PySem.F.type_list_append mt_append (pv 7) (pa_cons (pe_op op_add_str (pe_join pe_str (pe_call Gm h2 rfl gm km bm .nil pass0 (pa_cons (pv 2) (pa_cons (pv 4) pa_nil)))) pe_str) pa_nil)))
      (pss_one (ps_for PassesOwn.never rfl (pi_seq (pv 7)) (pg_name (i := 8) nd rfl (Or.inl rfl))
        (pss_cons (ps_set (i := 9) nd rfl (Or.inl rfl) (pe_call Gdu h3 rfl gdu kdu bdu .nil pass0 (pa_cons (pv 8) pa_nil)))
        (pss_cons (ps_set (i := 10) nd rfl (Or.inl rfl) (pe_call Gme hr rfl gme kme bme .nil pass0 (pa_cons (pv 8) pa_nil)))
        (pss_one (ps_if (PW.pt (pw_or (PW.pt (pw_and (pt_cmpR op_eq (pv 9) pe_int (nomark _)) (pw_and1 (pt_cmpR op_ne (pv 10) (pv 8) (nomark _))))) (pw_or1 (PW.pt (pw_and (pt_cmpR op_gt (pv 9) pe_int (nomark _)) (pw_and1 (PW.pt (pw_or (pt_cmpR op_ne (pv 10) (pv 9) (nomark _)) (pw_or1 (pt_val (pe_callB call_isi rfl T.f_isinstance boot_isinstance (pa_cons (pv 10) (pa_cons (pe_bltn (v := .ty "bool") rfl fb PyProof.Rows.boot_bool rfl) pa_nil)))))))))))))
          (pss_one (ps_ret pe_bl)) pss_nil))))))))))))))))
      (pss_one (ps_ret pe_bl))), ?_⟩
    obtain ⟨l, ns, rfl, hl, hQ⟩ := h
    refine t_seqF ?_
    refine ⟨5, rfl, by decide, by decide, for_range (n := 5) (fun _ σ H => SqL K H l (ns.map V.int) ∧ ∃ r, σ = some (.ref l) :: r ∧ r.length = 14) ⟨hl, _, rfl, rfl⟩ ?turn ?last⟩
    case last =>
      rintro σ H1 ⟨_, r, rfl, _⟩
      exact hQ _
    case turn =>
      rintro i σ H1 hi ⟨hl1, r, rfl, hr16⟩
      obtain ⟨o1, o2, o3, o4, o5, o6, o7, o8, o9, o10, o11, o12, o13, o14, rfl⟩ := fourteen hr16
      refine ⟨_, rfl, _, rfl, l, ns, i, (show ([V.ref l, V.int (0 + (i : Int))] : List V) = [V.ref l, V.int ((i : Nat) : Int)] by rw [Int.zero_add]), hl1, fun gr => ?_⟩
      refine ⟨_, rfl, gr, _, rfl, rfl, _, rfl, fun p o np hP => ?_⟩
      have hl2 := SqL.hid hl1 np
      have e0 : hide p (upd H1 p o) = hide p H1 := hide_updp
      rw [← e0] at hl2
      generalize upd H1 p o = H2 at *
      refine g_nm ?_
      try dsimp only
      refine t_seqAsgT ?_
      refine ⟨_, rfl, p, 4, 3, 0, rfl, by decide, by decide, by decide, hP, by decide, fun rs H3 q s3 P3 LR fq hrow => ?_⟩
      have hl3 := SqL.sm hl2 s3
      have LG := LR.good (by decide) (by decide)
      have hlen4 : rs.length ≤ 4 := LR.lm
      have hsrc : ∀ r ∈ rs, r.2.length ≤ 3 := fun r m => (LR.sr r m).2.1
      obtain ⟨vs, eq3, hvs⟩ := hrow
      have hvl := Paired.length hvs
      refine g_nm ?_
      try dsimp only
      refine t_seqAsgT ?_
      -- the lines of the web
      have lokW : ∀ r ∈ rs, LOk (Txt.join " " (r.1 :: r.2)) ∧ ((r.1 :: r.2).map (·.length)).sum + (r.1 :: r.2).length * 1 ≤ 16777216 := fun r mr => row_lok (by rw [List.length_cons]; have := hsrc r mr; omega) fun z mz => by
        rcases List.mem_cons.mp mz with rfl | mz
        · exact LG.nm r mr
        · exact good_src LG r mr z mz
      refine t_oneStr (z := WEB) (ys := rs.map fun r => Txt.join " " (r.1 :: r.2)) (by rw [List.length_map]; omega) (fun H4 R s4 k => ?_) (fun H4 la s4 nla ela => ?_)
      · have hv4 : Paired (RowT H4) vs rs := Paired.imp (fun _ _ r => (r.same hide_le).same s4) hvs
        refine lcl (SqL.of (s4 _ _ (hide_le _ _ eq3))) (fun Q q => ⟨_, rfl, q⟩) (by omega) (fun i => .str (Txt.join " " ((rs.getD i ("", [])).1 :: (rs.getD i ("", [])).2))) (fun j y H6 Q' hy s6 qq => ?_) (fun D H6 nD s6 e6 => ?_)
        · obtain ⟨r, er, t, u, rfl, et, eu⟩ := Paired.getL hv4 hy
          have eg : rs.getD j ("", []) = r := by rw [List.getD_eq_getElem?_getD, er]; rfl
          rw [eg] at qq
          refine ⟨t, [.str r.1, .ref u], rfl, SqT.of (s6 _ _ et), rfl, _, _, rfl, _, _, rfl, rfl, rfl, ⟨_, rfl⟩, ?_⟩
          refine ⟨_, rfl, (show 1 ≤ sizeLine by decide), fun d nd' => ?_⟩
          have sd := same_upd (o := HO.lst [V.str r.1]) nd'
          refine ⟨_, rfl, d, u, _, _, rfl, rfl, upd_same, sd _ _ (s6 _ _ eu), by
            rw [sizeLine_eq, List.length_singleton, List.length_map]
            have := hsrc r (List.mem_of_getElem? er)
            omega, fun d2 nd2 => ?_⟩
          have sd2 := same_upd (o := HO.lst ([V.str r.1] ++ r.2.map .str)) nd2
          exact ⟨" ", d2, r.1 :: r.2, rfl, rfl, .inl (SqL.of upd_same), (lokW r (List.mem_of_getElem? er)).2, qq _ (sd.trans sd2)⟩
        · refine k H6 D s6 ?_
          rw [e6, hvl, rngF (xs := rs) (f := fun r => V.str (Txt.join " " (r.1 :: r.2))) ("", []), List.map_map]
          rfl
      have P4 := P3.same s4
      have hs4 := hide_same (p := p) s4
      have elaP := off_pool P3.ne nla ela
      refine g_nm ?_
      try dsimp only
      have lokL : ∀ y ∈ WEB :: rs.map (fun r => Txt.join " " (r.1 :: r.2)), LOk y := fun y m => by
        rcases List.mem_cons.mp m with rfl | m
        · exact lit_lok (by decide +kernel)
        · obtain ⟨r, mr, rfl⟩ := List.mem_map.mp m
          exact (lokW r mr).1
      -- or those of a program
      refine seq_tailS (fun σ' H' => ∃ (la' : Addr) (ls : List Str) (u5 : Option V), σ' = [some (.ref l), some (.int (0 + (i : Int))), some (.ref p), some (.ref q), some (.ref la'), u5, o6, o7, o8, o9, o10, o11, o12, o13, o14] ∧ SqL K (hide p H') l (ns.map V.int) ∧ hide p H' la' = some (.lst (ls.map .str)) ∧ (∀ y ∈ ls, LOk y) ∧ ls.length ≤ 5 ∧ Pl H' p 1000) ?_ fun tail => ?_
      rotate_left
      · refine t_seqIfN ?_
        refine ⟨_, rfl, p, 2, 300, rfl, by decide, by decide, P4.le (by decide), by decide, fun tk H5 htk h5 P5 => ⟨rfl, _, rfl, ?_⟩⟩
        have hl5 : SqL K (hide p H5) l (ns.map V.int) := by rw [h5]; exact SqL.sm hl3 hs4
        have ela5 : hide p H5 la = some (.lst ((WEB :: rs.map fun r => Txt.join " " (r.1 :: r.2)).map .str)) := by rw [h5]; exact elaP
        have eq5 : hide p H5 q = some (.lst vs) := by rw [h5]; exact hs4 _ _ eq3
        have hvs5 : Paired (RowT (hide p H5)) vs rs := by rw [h5]; exact Paired.imp (fun _ _ r => r.same hs4) hvs
        refine ite2 (fun _ => ?_) fun _ => ?_
        · refine t_seqAsgT ?_
          refine ⟨_, rfl, ?_⟩
          refine lcl (SqL.of (hide_le _ _ eq5)) (fun Q q => ⟨_, rfl, q⟩) (by omega) (fun i => .str ((rs.map Prod.fst).getD i Str.empty)) (fun j y H6 Q' hy s6 qq => ?_) (fun D H6 nD s6 e6 => ?_)
          · obtain ⟨r, t, u, hr, rfl, et, eu, ed⟩ := rows_names hvs5 hy
            refine ⟨t, [.str r.1, .ref u], rfl, SqT.of (s6 _ _ (hide_le _ _ et)), rfl, _, _, rfl, _, _, rfl, rfl, rfl, _, rfl, ?_⟩
            have := qq _ (Same.refl _)
            rw [ed] at this
            exact this
          have eDn : H6 D = some (.lst ((rs.map Prod.fst).map .str)) := by rw [e6, ← rngS, List.length_map, hvl]
          have P6 := P5.same s6
          have hs6 := hide_same (p := p) s6
          have eDP := off_pool P5.ne nD eDn
          have nnm : ∀ z ∈ rs.map Prod.fst, lawNm z := fun z m => by
            obtain ⟨r, mr, rfl⟩ := List.mem_map.mp m
            exact LR.nm r mr
          refine ⟨p, D, rs.map Prod.fst, 4, 301, rfl, SqL.of eDP, by rw [List.length_map]; exact LR.l1, by rw [List.length_map]; omega, LR.nd, by decide, P6, by decide, fun lots H7 lq s7 P7 ok7 f7 e7 => ?_⟩
          have LL := lawLots_of ok7 (by decide) nnm
          have sh4 := lots_short ok7 (n := 4) (by rw [List.length_map]; omega)
          obtain ⟨lv, elq, hlv⟩ := e7
          have llv := Paired.length hlv
          have ln4 := ok7.ln
          refine g_nm ?_
          try dsimp only
          refine t_oneAT ?_
          have lokP : ∀ m ∈ lots, LOk (Txt.join " " (sortS m)) ∧ ((sortS m).map (·.length)).sum + (sortS m).length * 1 ≤ 16777216 := fun m mm => row_lok (by rw [(sortS_pm m).length_eq]; exact sh4 m mm) fun z mz => LL.nm m mm z ((sortS_pm m).mem_iff.mp mz)
          refine t_oneStr (z := PRG) (ys := lots.map fun m => Txt.join " " (sortS m)) (by rw [List.length_map]; omega) (fun H8 R s8 k => ?_) (fun H8 la' s8 nla' ela' => ?_)
          · have hv8 : Paired (PthV H8) lv lots := pth_imp (pth_imp hlv hide_le) s8
            refine lcl (SqL.of (s8 _ _ (hide_le _ _ elq))) (fun Q q => ⟨_, rfl, q⟩) (by omega) (fun i => .str (Txt.join " " (sortS (lots.getD i [])))) (fun j y H9 Q' hy s9 qq => ?_) (fun D2 H9 nD2 s9 e9 => ?_)
            · obtain ⟨m, em, b, rfl, eb⟩ := Paired.getL hv8 hy
              have eg : lots.getD j [] = m := by rw [List.getD_eq_getElem?_getD, em]; rfl
              rw [eg] at qq
              refine ⟨rfl, ⟨_, rfl⟩, _, rfl, b, m, rfl, .inl ⟨b, rfl, .inl (SqL.of (s9 _ _ eb))⟩, by have := sh4 m (List.mem_of_getElem? em); omega, fun d nd' => ?_⟩
              have sd := same_upd (o := HO.lst ((sortS m).map .str)) nd'
              exact ⟨" ", d, sortS m, rfl, rfl, .inl (SqL.of upd_same), (lokP m (List.mem_of_getElem? em)).2, qq _ sd⟩
            · refine k H9 D2 s9 ?_
              rw [e9, llv, rngF (xs := lots) (f := fun m => V.str (Txt.join " " (sortS m))) [], List.map_map]
              rfl
          have P8 := P7.same s8
          have hs8 := hide_same (p := p) s8
          refine g_nm ?_
          refine tail _ _ ⟨la', PRG :: lots.map (fun m => Txt.join " " (sortS m)), _, rfl, SqL.sm hl5 ((hs6.trans s7).trans hs8), off_pool P7.ne nla' ela', fun y m => ?_, by rw [List.length_cons, List.length_map]; omega, P8.le (by decide)⟩
          rcases List.mem_cons.mp m with rfl | m
          · exact lit_lok (by decide +kernel)
          · obtain ⟨x, mx, rfl⟩ := List.mem_map.mp m
            exact (lokP x mx).1
        · exact tail _ _ ⟨la, _, _, rfl, hl5, ela5, lokL, by rw [List.length_cons, List.length_map]; omega, P5.le (by decide)⟩
      clear lokL lokW
      rintro σ' H5 ⟨la', ls, u5, rfl, hl5, el5, lok, l5, P5⟩
      clear elaP hs4 P4 ela nla s4 hvl hvs eq3 hsrc LG hl3 LR P3 s3 fq hl2 e0 hl1 hl hP
      -- the good text
      obtain ⟨j1, j2, j3, j4, j5⟩ := jn_ok lok (by omega)
      have one : ("\n" : Str).length = 1 := rfl
      refine t_seqAsgT ?_
      refine ⟨⟨_, rfl⟩, _, rfl, "\n", la', ls, rfl, rfl, .inl (SqL.of (hide_le _ _ el5)), by rw [one]; exact j2, _, _, rfl, rfl, by rw [one, sizeLine_eq]; omega, ?_⟩
      change gName 6 (.str (jn ls)) _ _ _
      refine g_nm ?_
      try dsimp only
      generalize jn ls = gd at *
      have tg : TOk gd := ⟨by omega, by omega, j5⟩
      have tgn : TOk (gd ++ ("\n" : Str)) := by
        have := bnt_step (z0 := gd) (z := gd) (sg := ("\n" : Str)) (i := 0) (a := gd.length) (b := gd.length) ⟨Nat.le_refl _, Nat.le_refl _, j5⟩ (Nat.le_refl _) (Nat.le_of_eq one) (sOk_lit (by decide +kernel))
        have e : cutS gd none (some ((gd.length : Nat) : Int)) ++ ("\n" : Str) ++ cutS gd (some ((gd.length : Nat) : Int)) none = gd ++ ("\n" : Str) := by
          refine ext_tl ?_
          rw [tl_append, tl_append, tl_cutTo, tl_cutFrom, len_tl, List.take_length, List.drop_length, List.append_nil, tl_append]
        rw [e] at this
        exact ⟨by have := this.ln; omega, by have := this.nl; omega, this.ok⟩
      -- the texts
      refine t_seqAsgT ?_
      refine ⟨_, rfl, _, rfl, 1, rfl, (-1), rfl, gd, rfl, by rw [sizeLine_eq]; omega, _, rfl, _, _, rfl, rfl, by rw [one, sizeLine_eq]; omega, (show 8 ≤ sizeLine by decide), fun d0 n0 => ?_⟩
      obtain ⟨ts, hts⟩ : ∃ ts : List Str, ts = [gd, cutS gd none (some (-1)), gd ++ ("\n" : Str), "", "\n", "web", "web\n", "program\n"] := ⟨_, rfl⟩
      have okts : ∀ t ∈ ts, TOk t := fun t m => by
        rw [hts] at m
        simp only [List.mem_cons, List.not_mem_nil, or_false] at m
        rcases m with rfl | rfl | rfl | rfl | rfl | rfl | rfl | rfl
        · exact tg
        · exact cut_tok tg _ _
        · exact tgn
        · exact lit_tok (by decide +kernel)
        · exact lit_tok (by decide +kernel)
        · exact lit_tok (by decide +kernel)
        · exact lit_tok (by decide +kernel)
        · exact lit_tok (by decide +kernel)
      have lts : ts.length = 8 := by rw [hts]; rfl
      obtain ⟨dp0, sd0, ed0⟩ := hide_new (o := HO.lst (ts.map V.str)) P5.ne n0
      have P6 := P5.new (o := HO.lst (ts.map V.str)) n0
      rw [hts] at ed0 sd0 P6
      change gName 7 (.ref d0) _ (upd H5 d0 (.lst ([gd, cutS gd none (some (-1)), gd ++ ("\n" : Str), "", "\n", "web", "web\n", "program\n"].map V.str))) _
      generalize upd H5 d0 (.lst ([gd, cutS gd none (some (-1)), gd ++ ("\n" : Str), "", "\n", "web", "web\n", "program\n"].map V.str)) = H6 at *
      rw [← hts] at ed0
      have hl6 := SqL.sm hl5 sd0
      have el6 := sd0 _ _ el5
      clear hts sd0 hl5 el5 P5 n0 tgn j1 j2
      refine g_nm ?_
      try dsimp only
      -- bent ones
      refine t_seqAsgT ?_
      refine ⟨_, rfl, ?_⟩
      refine lc_pool (p := p) (n := 1000) (m := 4) (Pz := TOk) (fun R r => r) (by decide) P6 (fun j x H' Q' hj s' P' qq => ?_) (fun D1 H7 zs nD1 s7 P7 e7 hz7 l7 => ?_)
      · exact ⟨rfl, _, rfl, _, rfl, p, gd, _, rfl, by omega, by omega, j5, P', by omega, fun z' H'' tz s'' P'' => qq z' H'' tz s'' (P''.le (by omega))⟩
      refine ⟨d0, D1, _, _, rfl, rfl, hide_le _ _ (s7 _ _ ed0), hide_le _ _ e7, by rw [sizeLine_eq, List.length_map, List.length_map]; omega, fun d2 n2 => ?_⟩
      obtain ⟨dp2, sd2, ed2⟩ := hide_new (o := HO.lst (ts.map V.str ++ zs.map V.str)) P7.ne n2
      have P8 := P7.new (o := HO.lst (ts.map V.str ++ zs.map V.str)) n2
      generalize upd H7 d2 (.lst (ts.map V.str ++ zs.map V.str)) = H8 at *
      obtain ⟨ts2, hts2⟩ : ∃ ts2 : List Str, ts2 = ts ++ zs := ⟨_, rfl⟩
      rw [← List.map_append, ← hts2] at ed2
      have okts2 : ∀ t ∈ ts2, TOk t := fun t m => by
        rw [hts2] at m
        exact (List.mem_append.mp m).elim (okts t) (hz7 t)
      have lts2 : ts2.length = 12 := by rw [hts2, List.length_append]; omega
      have hl8 := SqL.sm hl6 (s7.trans sd2)
      have el8 := (s7.trans sd2) _ _ el6
      clear hts2 okts lts sd2 n2 e7 hz7 l7 s7 P7 nD1 hl6 el6 P6 ed0
      refine g_nm ?_
      try dsimp only
      -- mixed up ones
      refine t_seqAsgT ?_
      refine ⟨_, rfl, ?_⟩
      refine lc_pool (p := p) (n := 1040) (m := 4) (Pz := TOk) (fun R r => r) (by decide) P8 (fun j x H' Q' hj s' P' qq => ?_) (fun D1 H9 zs nD1 s9 P9 e9 hz9 l9 => ?_)
      · refine ⟨rfl, ⟨_, rfl⟩, _, rfl, _, rfl, p, la', ls, _, rfl, SqL.of (s' _ _ el8), by omega, P', by omega, fun ys H'' D hy ly s'' nD eD P'' => ?_⟩
        obtain ⟨k1, k2, k3, k4, k5⟩ := jn_ok (ls := ys) (fun y m => (hy y m).elim (lok y) fun h => ⟨Nat.le_trans h.1 (by decide), h.2.1, h.2.2⟩) (by omega)
        exact ⟨"\n", D, ys, rfl, rfl, .inl (SqL.of (hide_le _ _ eD)), by rw [one]; exact k2, _, _, rfl, rfl, by rw [one, sizeLine_eq]; omega, qq (jn ys) H'' ⟨by omega, by omega, k5⟩ s'' (P''.le (by omega))⟩
      refine ⟨d2, D1, _, _, rfl, rfl, hide_le _ _ (s9 _ _ ed2), hide_le _ _ e9, by rw [sizeLine_eq, List.length_map, List.length_map]; omega, fun d3 n3 => ?_⟩
      obtain ⟨dp3, sd3, ed3⟩ := hide_new (o := HO.lst (ts2.map V.str ++ zs.map V.str)) P9.ne n3
      have P10 := P9.new (o := HO.lst (ts2.map V.str ++ zs.map V.str)) n3
      generalize upd H9 d3 (.lst (ts2.map V.str ++ zs.map V.str)) = H10 at *
      obtain ⟨ts3, hts3⟩ : ∃ ts3 : List Str, ts3 = ts2 ++ zs := ⟨_, rfl⟩
      rw [← List.map_append, ← hts3] at ed3
      have okts3 : ∀ t ∈ ts3, TOk t := fun t m => by
        rw [hts3] at m
        exact (List.mem_append.mp m).elim (okts2 t) (hz9 t)
      have lts3 : ts3.length = 16 := by rw [hts3, List.length_append]; omega
      have hl10 : SqL K (hide d3 (hide p H10)) l (ns.map V.int) := SqL.sm (SqL.sm hl8 s9) (same_hideB sd3 (hide_none n3))
      have el10 := (s9.trans sd3) _ _ el8
      have dp3' : d3 ≠ p := dp3
      clear hts3 okts2 lts2 sd3 n3 e9 hz9 l9 s9 P9 nD1 hl8 el8 P8 ed2
      refine g_nm ?_
      try dsimp only
      -- the lines in another order
      refine t_seqDT ?_
      refine ⟨_, rfl, .inl ⟨rfl, _, SqL.of (hide_le _ _ ed3)⟩, ⟨_, rfl⟩, _, rfl, _, rfl, p, .ref la', ls.map V.str, _, rfl, ⟨la', rfl, .inl (SqL.of el10)⟩, by rw [List.length_map]; omega, P10, by omega, fun ys H11 D s11 P11 hpm nD eD => ?_⟩
      obtain ⟨yl, rfl, hyl⟩ := perm_strs hpm
      obtain ⟨k1, k2, k3, k4, k5⟩ := jn_ok (ls := yl) (fun y m => lok y (hyl.mem_iff.mp m)) (by rw [hyl.length_eq]; omega)
      have ed11 := s11 _ _ ed3
      refine ⟨"\n", D, yl, rfl, rfl, .inl (SqL.of (hide_le _ _ eD)), by rw [one]; exact k2, _, _, rfl, rfl, by rw [one, sizeLine_eq]; omega, ?_⟩
      change (fun vs H1 => _) [V.str (jn yl)] H11
      refine ⟨d3, _, .str (jn yl), rfl, rfl, hide_le _ _ ed11, by rw [sizeLine_eq, List.length_map]; omega, ?_⟩
      obtain ⟨ts4, hts4⟩ : ∃ ts4 : List Str, ts4 = ts3 ++ [jn yl] := ⟨_, rfl⟩
      have okts4 : ∀ t ∈ ts4, TOk t := fun t m => by
        rw [hts4] at m
        rcases List.mem_append.mp m with m | m
        · exact okts3 t m
        · rw [List.mem_singleton.mp m]
          exact ⟨by omega, by omega, k5⟩
      have ed12 : upd H11 d3 (.lst (ts3.map V.str ++ [V.str (jn yl)])) d3 = some (.lst (ts4.map V.str)) := by
        rw [upd_same, hts4, List.map_append]
        rfl
      have hl12 : SqL K (upd H11 d3 (.lst (ts3.map V.str ++ [V.str (jn yl)]))) l (ns.map V.int) := by
        have h0 : hide d3 (hide p (upd H11 d3 (.lst (ts3.map V.str ++ [V.str (jn yl)])))) = hide d3 (hide p H11) := by rw [hide_upd dp3', hide_updp]
        have h1 := SqL.sm hl10 (hide_same s11)
        rw [← h0] at h1
        exact SqL.sm h1 (hide_le.trans hide_le)
      change tFor _ _ _ _ _ (upd H11 d3 (.lst (ts3.map V.str ++ [V.str (jn yl)])))
      generalize upd H11 d3 (.lst (ts3.map V.str ++ [V.str (jn yl)])) = H12 at *
      clear hts4 okts3 ed11 k1 k2 k3 k4 k5 hyl eD nD hpm P11 s11 el10 hl10 ed3 P10
      refine for_seq (v := .ref d3) (xs := ts4.map V.str) (H0 := H12) ⟨d3, rfl, .inl (SqL.of ed12)⟩ (fun Q q => ⟨_, rfl, q⟩) (fun j σ H' => Same H12 H' ∧ ∃ u8 u9 u10, σ = [some (.ref l), some (.int (0 + (i : Int))), some (.ref p), some (.ref q), some (.ref la'), u5, some (.str gd), some (.ref d3), u8, u9, u10, o11, o12, o13, o14]) ⟨Same.refl _, _, _, _, rfl⟩ (fun j σ H' q => q.1) ?_ ?_
      · rintro j v σ H13 hv ⟨s13, u8, u9, u10, rfl⟩
        rw [List.getElem?_map] at hv
        obtain ⟨t, et, rfl⟩ := Option.map_eq_some_iff.mp hv
        have tk := okts4 t (List.mem_of_getElem? et)
        obtain ⟨tl', rest, es, _⟩ := split_last t
        refine g_nm ?_
        try dsimp only
        refine t_seqAsgT ?_
        refine ⟨_, rfl, t, tl', rest, rfl, tk, es, fun H14 s14 => ?_⟩
        refine g_nm ?_
        try dsimp only
        refine t_seqAsgT ?_
        refine ⟨_, rfl, t, tl', rest, rfl, tk, es, fun n en H15 s15 => ?_, fun en H15 s15 => ?_⟩
        · have np := rdB_pos en
          rw [en]
          refine g_nm ?_
          try dsimp only
          refine t_oneI ?_
          have f0 : decide (V.int (((some n).getD 0 : Nat) : Int) = V.int 0) = false := decide_eq_false fun h => by
            have := V.int.inj h
            have h2 : ((n : Nat) : Int) = 0 := this
            omega
          refine ⟨_, rfl, rfl, _, rfl, iteN f0 ?_⟩
          refine iteN rfl ?_
          have f1 : decide ((0 : Int) < (((some n).getD 0 : Nat) : Int)) = true := decide_eq_true (by show (0 : Int) < (n : Nat); omega)
          refine ⟨_, rfl, _, _, rfl, rfl, _, rfl, iteP f1 ?_⟩
          refine ⟨_, rfl, _, rfl, rfl, _, rfl, iteN (by show (!decide (V.int ((n : Nat) : Int) = V.int ((n : Nat) : Int))) = false; rw [decide_eq_true rfl]; rfl) ?_⟩
          refine ⟨_, rfl, V.int ((n : Nat) : Int), .ty "bool", _, _, false, rfl, .ty "bool", .base (.int _), kit_ty (by decide +kernel), false, rfl, ?_⟩
          exact iteN rfl ⟨s13.trans (s14.trans s15), _, _, _, rfl⟩
        · rw [en]
          refine g_nm ?_
          try dsimp only
          refine t_oneI ?_
          refine ⟨_, rfl, rfl, _, rfl, iteP (decide_eq_true rfl) ?_⟩
          refine ⟨_, rfl, _, rfl, rfl, _, rfl, iteN (by rw [decide_eq_true rfl]; rfl) ?_⟩
          refine ⟨_, rfl, _, _, rfl, rfl, _, rfl, iteN (decide_eq_false (by show ¬ (0 : Int) < ((0 : Nat) : Int); omega)) ?_⟩
          exact iteN rfl ⟨s13.trans (s14.trans s15), _, _, _, rfl⟩
      · rintro σ H13 ⟨s13, u8, u9, u10, rfl⟩
        exact ⟨SqL.sm hl12 s13, _, rfl, rfl⟩
end
end K21
end L2
set_option Elab.async false
set_option linter.all false
set_option maxRecDepth 100000
set_option maxHeartbeats 0
namespace L2
namespace K21
open PySem PySem.Spec PyProof.Rows K1 WL LamX
section
variable {P : Program} {w : World} {K : PySem.W.Frag} {mg : Str → Option Value} {base : Heap}
theorem sc_badweb : FnScope ["self", "index"] ["self", "index"] (defScope s_BadWeb) := ⟨rfl, rfl, rfl, by decide +kernel, rfl, by decide +kernel, by decide +kernel⟩
theorem ini_badweb {f : Addr} {fd : FuncData} (ox : OexC K (He.ga K "BadWeb")) (fN : PySem.W.findIn K (.ref (He.ga K "BadWeb")) "index" = some none) (F : FnP K "__init__" "BadWeb.__init__" s_BadWeb f fd) : FnOk P w K mg base CX0 1 f fd ["self", "index"] (spI (He.ga K "BadWeb") "index") := by
  refine F.ok sc_badweb (fun vs H Q E h => ?_) (fun cdv A outer s H vs Q E hr h => ⟨_, PSs.nox (pss_one (ps_ost (pv 0) (pv 1))), ?_⟩)
  · obtain ⟨a, v, rfl, _⟩ := h
    rfl
  · obtain ⟨a, v, rfl, e, q⟩ := h
    exact ⟨v, rfl, .ref a, rfl, a, _, rfl, ox, fN, .inl ⟨e, fun dx n ne => q dx n ne⟩⟩
theorem sc_unknowncell : FnScope ["self", "cell"] ["self", "cell"] (defScope s_UnknownCell) := ⟨rfl, rfl, rfl, by decide +kernel, rfl, by decide +kernel, by decide +kernel⟩
theorem ini_unknowncell {f : Addr} {fd : FuncData} (ox : OexC K (He.ga K "UnknownCell")) (fN : PySem.W.findIn K (.ref (He.ga K "UnknownCell")) "cell" = some none) (F : FnP K "__init__" "UnknownCell.__init__" s_UnknownCell f fd) : FnOk P w K mg base CX0 1 f fd ["self", "cell"] (spI (He.ga K "UnknownCell") "cell") := by
  refine F.ok sc_unknowncell (fun vs H Q E h => ?_) (fun cdv A outer s H vs Q E hr h => ⟨_, PSs.nox (pss_one (ps_ost (pv 0) (pv 1))), ?_⟩)
  · obtain ⟨a, v, rfl, _⟩ := h
    rfl
  · obtain ⟨a, v, rfl, e, q⟩ := h
    exact ⟨v, rfl, .ref a, rfl, a, _, rfl, ox, fN, .inl ⟨e, fun dx n ne => q dx n ne⟩⟩
theorem sc_badprogram : FnScope ["self", "index"] ["self", "index"] (defScope s_BadProgram) := ⟨rfl, rfl, rfl, by decide +kernel, rfl, by decide +kernel, by decide +kernel⟩
theorem ini_badprogram {f : Addr} {fd : FuncData} (ox : OexC K (He.ga K "BadProgram")) (fN : PySem.W.findIn K (.ref (He.ga K "BadProgram")) "index" = some none) (F : FnP K "__init__" "BadProgram.__init__" s_BadProgram f fd) : FnOk P w K mg base CX0 1 f fd ["self", "index"] (spI (He.ga K "BadProgram") "index") := by
  refine F.ok sc_badprogram (fun vs H Q E h => ?_) (fun cdv A outer s H vs Q E hr h => ⟨_, PSs.nox (pss_one (ps_ost (pv 0) (pv 1))), ?_⟩)
  · obtain ⟨a, v, rfl, _⟩ := h
    rfl
  · obtain ⟨a, v, rfl, e, q⟩ := h
    exact ⟨v, rfl, .ref a, rfl, a, _, rfl, ox, fN, .inl ⟨e, fun dx n ne => q dx n ne⟩⟩
theorem sc_badtext : FnScope ["self", "line"] ["self", "line"] (defScope s_BadText) := ⟨rfl, rfl, rfl, by decide +kernel, rfl, by decide +kernel, by decide +kernel⟩
theorem ini_badtext {f : Addr} {fd : FuncData} (ox : OexC K (He.ga K "BadText")) (fN : PySem.W.findIn K (.ref (He.ga K "BadText")) "line" = some none) (F : FnP K "__init__" "BadText.__init__" s_BadText f fd) : FnOk P w K mg base CX0 1 f fd ["self", "line"] (spI (He.ga K "BadText") "line") := by
  refine F.ok sc_badtext (fun vs H Q E h => ?_) (fun cdv A outer s H vs Q E hr h => ⟨_, PSs.nox (pss_one (ps_ost (pv 0) (pv 1))), ?_⟩)
  · obtain ⟨a, v, rfl, _⟩ := h
    rfl
  · obtain ⟨a, v, rfl, e, q⟩ := h
    exact ⟨v, rfl, .ref a, rfl, a, _, rfl, ox, fN, .inl ⟨e, fun dx n ne => q dx n ne⟩⟩
theorem facts {l : PySem.W.OpenLaw} {h : Heap} {f : Addr} (hP : l.prog = P) (X : K.In h) (G : h.Ns mainGlobals mg) (hfa : mg ("law" : Str) = some (.ref f)) (c : He.SaysD (fa ++ fa2) fn K) (e : ex K = true) : LawAtS l w K CX0 11 63 "_law_script" mg f h := by
  subst hP
  have T : Bl mg := bl_mk X G c
  obtain ⟨x1, e⟩ := He.ba (show (_ && _) = true from e)
  obtain ⟨x2, e⟩ := He.ba e
  obtain ⟨x3, e⟩ := He.ba e
  obtain ⟨x4, e⟩ := He.ba e
  obtain ⟨x5, e⟩ := He.ba e
  obtain ⟨x6, e⟩ := He.ba e
  obtain ⟨x7, e⟩ := He.ba e
  obtain ⟨x8, e⟩ := He.ba e
  obtain ⟨x9, e⟩ := He.ba e
  obtain ⟨x10, e⟩ := He.ba e
  obtain ⟨x11, x12⟩ := He.ba e
  obtain ⟨x5a, x5z⟩ := He.ba x5
  obtain ⟨x5b, x5c⟩ := He.ba x5z
  obtain ⟨x6a, x6z⟩ := He.ba x6
  obtain ⟨x6b, x6c⟩ := He.ba x6z
  obtain ⟨x7a, x7z⟩ := He.ba x7
  obtain ⟨x7b, x7c⟩ := He.ba x7z
  obtain ⟨x8a, x8z⟩ := He.ba x8
  obtain ⟨x8b, x8c⟩ := He.ba x8z
  obtain ⟨y91, y92⟩ := He.ba x9
  obtain ⟨y93, y94⟩ := He.ba y92
  obtain ⟨y95, y96⟩ := He.ba y94
  obtain ⟨y101, y102⟩ := He.ba x10
  obtain ⟨y103, y104⟩ := He.ba y102
  obtain ⟨y105, y106⟩ := He.ba y104
  obtain ⟨x12, eB⟩ := He.ba (show (_ && exB K) = true from x12)
  obtain ⟨z1, eB⟩ := He.ba (show (_ && _) = true from eB)
  obtain ⟨z2, eB⟩ := He.ba eB
  obtain ⟨z3, eB⟩ := He.ba eB
  obtain ⟨z4, z5⟩ := He.ba eB
  obtain ⟨d0, F0⟩ := c.def_ 0 (d := dfn "is_list" s_is_list) rfl
  obtain ⟨d1, F1⟩ := c.def_ 1 (d := dfn "is_name" s_is_name) rfl
  obtain ⟨d2, F2⟩ := c.def_ 2 (d := dfn "is_name_list" s_is_name_list) rfl
  obtain ⟨d3, F3⟩ := c.def_ 3 (d := mth "BadWeb" "__init__" "BadWeb.__init__" s_BadWeb) rfl
  obtain ⟨d4, F4⟩ := c.def_ 4 (d := mth "UnknownCell" "__init__" "UnknownCell.__init__" s_UnknownCell) rfl
  obtain ⟨d5, F5⟩ := c.def_ 5 (d := mth "BadProgram" "__init__" "BadProgram.__init__" s_BadProgram) rfl
  obtain ⟨d6, F6⟩ := c.def_ 6 (d := mth "BadText" "__init__" "BadText.__init__" s_BadText) rfl
  obtain ⟨d7, F7⟩ := c.def_ 7 (d := mth "Web" "__init__" "Web.__init__" s_Web_init) rfl
  obtain ⟨d8, F8⟩ := c.def_ 8 (d := mth "Web" "cells_with_source" "Web.cells_with_source" s_Web_cells_with) rfl
  obtain ⟨d9, F9⟩ := c.def_ 9 (d := mth "Web" "sources" "Web.sources" s_Web_sources) rfl
  obtain ⟨d10, F10⟩ := c.def_ 10 (d := mth "Web" "targets" "Web.targets" s_Web_targets) rfl
  obtain ⟨d11, F11⟩ := c.def_ 11 (d := mth "Web" "__contains__" "Web.__contains__" s_Web_contains) rfl
  obtain ⟨d12, F12⟩ := c.def_ 12 (d := mth "Web" "__len__" "Web.__len__" s_Web_len) rfl
  obtain ⟨d13, F13⟩ := c.def_ 13 (d := mth "Web" "__iter__" "Web.__iter__" s_Web_iter) rfl
  obtain ⟨d14, F14⟩ := c.def_ 14 (d := mth "Web" "__eq__" "Web.__eq__" s_Web_eq) rfl
  obtain ⟨d15, F15⟩ := c.def_ 15 (d := dfn "check_rows" s_check_rows) rfl
  obtain ⟨d16, F16⟩ := c.def_ 16 (d := dfn "first_wrong_row" s_first_wrong_row) rfl
  obtain ⟨d17, F17⟩ := c.def_ 17 (d := dfn "is_row" s_is_row) rfl
  obtain ⟨d18, F18⟩ := c.def_ 18 (d := dfn "check_cells" s_check_cells) rfl
  obtain ⟨d19, F19⟩ := c.def_ 19 (d := mth "Program" "__init__" "Program.__init__" s_Program_init) rfl
  obtain ⟨d20, F20⟩ := c.def_ 20 (d := mth "Program" "times" "Program.times" s_Program_times) rfl
  obtain ⟨d21, F21⟩ := c.def_ 21 (d := mth "Program" "renewings" "Program.renewings" s_Program_renewings) rfl
  obtain ⟨d22, F22⟩ := c.def_ 22 (d := mth "Program" "renewed" "Program.renewed" s_Program_renewed) rfl
  obtain ⟨d23, F23⟩ := c.def_ 23 (d := mth "Program" "__add__" "Program.__add__" s_Program_add) rfl
  obtain ⟨d24, F24⟩ := c.def_ 24 (d := mth "Program" "__len__" "Program.__len__" s_Program_len) rfl
  obtain ⟨d25, F25⟩ := c.def_ 25 (d := mth "Program" "__iter__" "Program.__iter__" s_Program_iter) rfl
  obtain ⟨d26, F26⟩ := c.def_ 26 (d := mth "Program" "__eq__" "Program.__eq__" s_Program_eq) rfl
  obtain ⟨d27, F27⟩ := c.def_ 27 (d := dfn "ascending_lots" s_ascending_lots) rfl
  obtain ⟨d28, F28⟩ := c.def_ 28 (d := dfn "ascending_texts" s_ascending_texts) rfl
  obtain ⟨d29, F29⟩ := c.def_ 29 (d := dfn "is_lot" s_is_lot) rfl
  obtain ⟨d30, F30⟩ := c.def_ 30 (d := dfn "written" s_written) rfl
  obtain ⟨d31, F31⟩ := c.def_ 31 (d := dfn "read" s_read) rfl
  obtain ⟨d32, F32⟩ := c.def_ 32 (d := dfn "first_wrong_line" s_first_wrong_line) rfl
  obtain ⟨d33, F33⟩ := c.def_ 33 (d := dfn "web_of" s_web_of) rfl
  obtain ⟨d34, F34⟩ := c.def_ 34 (d := dfn "_law_cell" s_cell) rfl
  obtain ⟨d35, F35⟩ := c.def_ 35 (d := dfn "_law_pool" s_pool) rfl
  obtain ⟨d36, F36⟩ := c.def_ 36 (d := dfn "_law_take" s_take) rfl
  obtain ⟨d37, F37⟩ := c.def_ 37 (d := dfn "_law_mixed" s_mixed) rfl
  obtain ⟨d38, F38⟩ := c.def_ 38 (d := dfn "_law_names" s_names) rfl
  obtain ⟨d39, F39⟩ := c.def_ 39 (d := dfn "_law_web" s_web) rfl
  obtain ⟨d40, F40⟩ := c.def_ 40 (d := dfn "_law_program" s_program) rfl
  obtain ⟨d41, F41⟩ := c.def_ 41 (d := dfn "_law_are_names" s_are_names) rfl
  obtain ⟨d42, F42⟩ := c.def_ 42 (d := dfn "_law_stands" s_stands) rfl
  obtain ⟨d43, F43⟩ := c.def_ 43 (d := dfn "_law_due" s_due) rfl
  obtain ⟨d44, F44⟩ := c.def_ 44 (d := dfn "_law_met" s_met) rfl
  obtain ⟨d45, F45⟩ := c.def_ 45 (d := dfn "_law_bent" s_bent) rfl
  obtain ⟨d46, F46⟩ := c.def_ 46 (d := dfn "_law_mixed_up" s_mixed_up) rfl
  obtain ⟨fd, F⟩ := c.def_ 47 (d := dfn "law" s_law) rfl
  have e0 := hfa.symm.trans (He.glo_ok X G (c.fact 33 (f := .glo "law") rfl))
  cases e0
  have b := FunD.bindsA (ps := ["_law_script"]) F fun _ _ _ _ _ _ us hl => match us, hl with | [_], _ => rfl
  refine ⟨fd, [], spLaw K, (fun p hp => nomatch hp), (fun p hp => nomatch hp), (fun p hp => nomatch hp), fun s v => b s [v] rfl, fun H a ns hl _ hH hS => ⟨a, ns, rfl, hS, fun _ => rfl⟩, fun base _ _ hTB => ?_⟩
  have W : Wt K mg (He.ga K "Web") := ⟨He.cls_ok (c.fact 49 (f := .cls "Web") rfl), He.noat_ok (c.fact 58 (f := .noat "Web" "cells") rfl), He.noat_ok (c.fact 59 (f := .noat "Web" "sources_of") rfl), He.noat_ok (c.fact 60 (f := .noat "Web" "arrows") rfl), He.noat_ok (c.fact 61 (f := .noat "Web" "targets_of") rfl), He.glo_ok X G (c.fact 7 (f := .glo "Web") rfl)⟩
  have Wp : Pt' K mg (He.ga K "Program") := ⟨He.cls_ok (c.fact 62 (f := .cls "Program") rfl), He.noat_ok (c.fact 71 (f := .noat "Program" "unlike_lots") rfl), He.noat_ok (c.fact 72 (f := .noat "Program" "lots") rfl), He.glo_ok X G (c.fact 12 (f := .glo "Program") rfl)⟩
  have EB : Er l.prog w K mg base "BadWeb" "index" := ⟨He.glo_ok X G (c.fact 3 (f := .glo "BadWeb") rfl), xcB_ok x1, He.eqO_ok x5b, of_decide_eq_true x5c, _, ini_badweb (xcB_ok x1).ox (He.eqO_ok x5a) F3, F3.bindsN fun _ _ _ _ _ _ us hl => match us, hl with | [_, _], _ => rfl⟩
  have EU : Er l.prog w K mg base "UnknownCell" "cell" := ⟨He.glo_ok X G (c.fact 4 (f := .glo "UnknownCell") rfl), xcB_ok x2, He.eqO_ok x6b, of_decide_eq_true x6c, _, ini_unknowncell (xcB_ok x2).ox (He.eqO_ok x6a) F4, F4.bindsN fun _ _ _ _ _ _ us hl => match us, hl with | [_, _], _ => rfl⟩
  have EP : Er l.prog w K mg base "BadProgram" "index" := ⟨He.glo_ok X G (c.fact 5 (f := .glo "BadProgram") rfl), xcB_ok x3, He.eqO_ok x7b, of_decide_eq_true x7c, _, ini_badprogram (xcB_ok x3).ox (He.eqO_ok x7a) F5, F5.bindsN fun _ _ _ _ _ _ us hl => match us, hl with | [_, _], _ => rfl⟩
  have fr : mg "range" = none := T.f_range
  have fb : mg "bool" = none := He.free_ok X G (c.fact 47 (f := .free "bool") rfl)
  have fso : mg "sorted" = none := He.free_ok X G (c.fact 48 (f := .free "sorted") rfl)
  have C0 : Cal l.prog w K mg base "is_list" ["thing"] 1 (spIsList K) := ⟨_, d0, ok_is_list T F0, He.glo_ok X G (c.fact 0 (f := .glo "is_list") rfl), F0.kp, F0.bindsN fun _ _ _ _ _ _ us hl => match us, hl with | [_], _ => rfl⟩
  have C1 : Cal l.prog w K mg base "is_name" ["thing"] 1 (spIsName K) := ⟨_, d1, ok_is_name T F1, He.glo_ok X G (c.fact 1 (f := .glo "is_name") rfl), F1.kp, F1.bindsN fun _ _ _ _ _ _ us hl => match us, hl with | [_], _ => rfl⟩
  have C2 : Cal l.prog w K mg base "is_name_list" ["thing"] 2 (spNameList K) := ⟨_, d2, ok_is_name_list T C0 C1 F2, He.glo_ok X G (c.fact 2 (f := .glo "is_name_list") rfl), F2.kp, F2.bindsN fun _ _ _ _ _ _ us hl => match us, hl with | [_], _ => rfl⟩
  have C15 : Cal l.prog w K mg base "is_row" ["thing"] 3 (spIsRow K) := ⟨_, d17, ok_is_row T C0 C1 C2 F17, He.glo_ok X G (c.fact 10 (f := .glo "is_row") rfl), F17.kp, F17.bindsN fun _ _ _ _ _ _ us hl => match us, hl with | [_], _ => rfl⟩
  have C14 : Cal l.prog w K mg base "first_wrong_row" ["rows"] 4 (spFirst K) := ⟨_, d16, ok_first T C0 C15 F16, He.glo_ok X G (c.fact 9 (f := .glo "first_wrong_row") rfl), F16.kp, F16.bindsN fun _ _ _ _ _ _ us hl => match us, hl with | [_], _ => rfl⟩
  have mC := He.meth_ok (c.fact 54 (f := .meth "Web" "__contains__") rfl)
  have mL := He.meth_ok (c.fact 55 (f := .meth "Web" "__len__") rfl)
  have mIt := He.meth_ok (c.fact 56 (f := .meth "Web" "__iter__") rfl)
  have b5 := F7.bindsN (ps := ["self", "rows"]) fun _ _ _ _ _ _ us hl => match us, hl with | [_, _], _ => rfl
  have b6 := F8.bindsN (ps := ["self", "source"]) fun _ _ _ _ _ _ us hl => match us, hl with | [_, _], _ => rfl
  have b9 := F11.bindsN (ps := ["self", "x"]) fun _ _ _ _ _ _ us hl => match us, hl with | [_, _], _ => rfl
  have b10 := F12.bindsN (ps := ["self"]) fun _ _ _ _ _ _ us hl => match us, hl with | [_], _ => rfl
  have bIt := F13.bindsN (ps := ["self"]) fun _ _ _ _ _ _ us hl => match us, hl with | [_], _ => rfl
  have bpi := F19.bindsN (ps := ["self", "lots"]) fun _ _ _ _ _ _ us hl => match us, hl with | [_, _], _ => rfl
  have Gc := ok_con (P := l.prog) (w := w) (base := base) T W C1 F11
  have Gl := ok_len (P := l.prog) (w := w) (base := base) T W F12
  have Mi := own_it (P := l.prog) (w := w) (base := base) T W ⟨mIt.at_, mIt.fn⟩ bIt F13
  have Gi := ok_web_init (P := l.prog) (w := w) (base := base) T W ⟨_, d15, ok_check_rows T C14 EB EU F15, He.glo_ok X G (c.fact 8 (f := .glo "check_rows") rfl), F15.kp, F15.bindsN fun _ _ _ _ _ _ us hl => match us, hl with | [_], _ => rfl⟩ (ok_cells_with T W F8) b6 (He.meth_ok (c.fact 51 (f := .meth "Web" "cells_with_source") rfl)) F7
  have Mw := He.mkr_ok (c.fact 50 (f := .mkr "Web") rfl)
  have Mp := He.mkr_ok (c.fact 63 (f := .mkr "Program") rfl)
  have Ccc : ∃ f fd, FnOk l.prog w K mg base (L2.CX l.prog w) 3 f fd ["web", "things"] (spCC K (He.ga K "Web") (He.ga K "UnknownCell")) ∧ mg "check_cells" = some (.ref f) ∧ PySem.W.keepIn K (.ref f) = true ∧ Binds K fd ["web", "things"] [] := ⟨_, d18, ok_cc T ⟨mC.at_, mC.fn⟩ Gc b9 EU F18, He.glo_ok X G (c.fact 11 (f := .glo "check_cells") rfl), F18.kp, F18.bindsN fun _ _ _ _ _ _ us hl => match us, hl with | [_, _], _ => rfl⟩
  have Cat : Cal l.prog w K mg base "ascending_texts" ["thing"] 2 (spAscT K) := ⟨_, d28, ok_at T fso C0 F28, He.glo_ok X G (c.fact 14 (f := .glo "ascending_texts") rfl), F28.kp, F28.bindsN fun _ _ _ _ _ _ us hl => match us, hl with | [_], _ => rfl⟩
  have Cal_ : Cal l.prog w K mg base "ascending_lots" ["things"] 3 (spAscL K) := ⟨_, d27, ok_al T Cat F27, He.glo_ok X G (c.fact 13 (f := .glo "ascending_lots") rfl), F27.kp, F27.bindsN fun _ _ _ _ _ _ us hl => match us, hl with | [_], _ => rfl⟩
  have Cil : Cal l.prog w K mg base "is_lot" ["texts"] 3 (spIsLot K) := ⟨_, d29, ok_il T C1 C2 F29, He.glo_ok X G (c.fact 15 (f := .glo "is_lot") rfl), F29.kp, F29.bindsN fun _ _ _ _ _ _ us hl => match us, hl with | [_], _ => rfl⟩
  have Gpi := ok_prog_init (P := l.prog) (w := w) (base := base) T fso Wp C0 Cal_ Cil EP F19
  have Cce : Cal l.prog w K mg base "_law_cell" ["_law_script", "_law_k"] 1 (spCellL K) := ⟨_, d34, ok_cell T F34, He.glo_ok X G (c.fact 20 (f := .glo "_law_cell") rfl), F34.kp, F34.bindsN fun _ _ _ _ _ _ us hl => match us, hl with | [_, _], _ => rfl⟩
  have Cpl : Cal l.prog w K mg base "_law_pool" ["_law_cell_here"] 1 spPoolL := ⟨_, d35, ok_pool T F35, He.glo_ok X G (c.fact 21 (f := .glo "_law_pool") rfl), F35.kp, F35.bindsN fun _ _ _ _ _ _ us hl => match us, hl with | [_], _ => rfl⟩
  have Ct : Cal l.prog w K mg base "_law_take" ["_law_pool_here", "_law_many"] 1 spTakeL := ⟨_, d36, ok_take T F36, He.glo_ok X G (c.fact 22 (f := .glo "_law_take") rfl), F36.kp, F36.bindsN fun _ _ _ _ _ _ us hl => match us, hl with | [_, _], _ => rfl⟩
  have Cm : Cal l.prog w K mg base "_law_mixed" ["_law_pool_here", "_law_things"] 2 (spMixed K) := ⟨_, d37, ok_mixed T Ct F37, He.glo_ok X G (c.fact 23 (f := .glo "_law_mixed") rfl), F37.kp, F37.bindsN fun _ _ _ _ _ _ us hl => match us, hl with | [_, _], _ => rfl⟩
  have Cn : Cal l.prog w K mg base "_law_names" ["_law_pool_here", "_law_many"] 2 (spNames K) := ⟨_, d38, ok_names T Ct F38, He.glo_ok X G (c.fact 24 (f := .glo "_law_names") rfl), F38.kp, F38.bindsN fun _ _ _ _ _ _ us hl => match us, hl with | [_, _], _ => rfl⟩
  have Cwb : Cal l.prog w K mg base "_law_web" ["_law_pool_here", "_law_most", "_law_many"] 3 (spWeb K) := ⟨_, d39, ok_web T Ct Cm Cn F39, He.glo_ok X G (c.fact 25 (f := .glo "_law_web") rfl), F39.kp, F39.bindsN fun _ _ _ _ _ _ us hl => match us, hl with | [_, _, _], _ => rfl⟩
  have Cpr : Cal l.prog w K mg base "_law_program" ["_law_pool_here", "_law_names_here", "_law_most"] 3 (spLProg K) := ⟨_, d40, ok_prog T Ct Cm F40, He.glo_ok X G (c.fact 26 (f := .glo "_law_program") rfl), F40.kp, F40.bindsN fun _ _ _ _ _ _ us hl => match us, hl with | [_, _, _], _ => rfl⟩
  have Wwi : Wk K (He.ga K "Web") := ⟨fun e => .base (.ins e W.cl (He.eqO_ok y91) (He.eqO_ok y93) (of_decide_eq_true y95) (of_decide_eq_true y96)), of_decide_eq_true x11⟩
  have Wpi : Wk K (He.ga K "Program") := ⟨fun e => .base (.ins e Wp.cl (He.eqO_ok y101) (He.eqO_ok y103) (of_decide_eq_true y105) (of_decide_eq_true y106)), of_decide_eq_true x12⟩
  have msr := He.meth_ok (c.fact 52 (f := .meth "Web" "sources") rfl)
  have bsr := F9.bindsN (ps := ["self", "cell"]) fun _ _ _ _ _ _ us hl => match us, hl with | [_, _], _ => rfl
  have Gsr := ok_sources (P := l.prog) (w := w) (base := base) T W Ccc F9
  have Cwr : Cal l.prog w K mg base "written" ["thing"] 5 (spWr K (He.ga K "Web") (He.ga K "Program")) := ⟨_, d30, ok_wr T W Wwi Wp Wpi.ins (of_decide_eq_true z1) Mi msr Gsr bsr F30, He.glo_ok X G (c.fact 16 (f := .glo "written") rfl), F30.kp, F30.bindsN fun _ _ _ _ _ _ us hl => match us, hl with | [_], _ => rfl⟩
  have ET : Er l.prog w K mg base "BadText" "line" := ⟨He.glo_ok X G (c.fact 6 (f := .glo "BadText") rfl), xcB_ok x4, He.eqO_ok x8b, of_decide_eq_true x8c, _, ini_badtext (xcB_ok x4).ox (He.eqO_ok x8a) F6, F6.bindsN fun _ _ _ _ _ _ us hl => match us, hl with | [_, _], _ => rfl⟩
  have Cfw : Cal l.prog w K mg base "first_wrong_line" ["lines"] 3 (spFwl K) := ⟨_, d32, ok_fw T fso C2 F32, He.glo_ok X G (c.fact 18 (f := .glo "first_wrong_line") rfl), F32.kp, F32.bindsN fun _ _ _ _ _ _ us hl => match us, hl with | [_], _ => rfl⟩
  have Cwo : ∃ f fd, FnOk l.prog w K mg base (L2.CX l.prog w) 8 f fd ["rows"] (spWof K (He.ga K "Web") (He.ga K "BadText")) ∧ mg "web_of" = some (.ref f) ∧ PySem.W.keepIn K (.ref f) = true ∧ Binds K fd ["rows"] [] := ⟨_, d33, ok_wo T W Mw Gi b5 ET F33, He.glo_ok X G (c.fact 19 (f := .glo "web_of") rfl), F33.kp, F33.bindsN fun _ _ _ _ _ _ us hl => match us, hl with | [_], _ => rfl⟩
  have Grd := ok_read (P := l.prog) (w := w) (base := base) T Wp Mp Gpi bpi Cfw ET Cwo F31
  have brd := F31.bindsN (ps := ["text"]) fun _ _ _ _ _ _ us hl => match us, hl with | [_], _ => rfl
  have Can : Cal l.prog w K mg base "_law_are_names" ["_law_words"] 1 (spAre K) := ⟨_, d41, ok_an T F41, He.glo_ok X G (c.fact 27 (f := .glo "_law_are_names") rfl), F41.kp, F41.bindsN fun _ _ _ _ _ _ us hl => match us, hl with | [_], _ => rfl⟩
  have Cst : Cal l.prog w K mg base "_law_stands" ["_law_lines", "_law_at"] 2 (spStands K) := ⟨_, d42, ok_ls T fso Can F42, He.glo_ok X G (c.fact 28 (f := .glo "_law_stands") rfl), F42.kp, F42.bindsN fun _ _ _ _ _ _ us hl => match us, hl with | [_, _], _ => rfl⟩
  have Cdu : Cal l.prog w K mg base "_law_due" ["_law_text"] 3 spDue21 := ⟨_, d43, ok_du T Cst F43, He.glo_ok X G (c.fact 29 (f := .glo "_law_due") rfl), F43.kp, F43.bindsN fun _ _ _ _ _ _ us hl => match us, hl with | [_], _ => rfl⟩
  have Cme : Cal l.prog w K mg base "_law_met" ["_law_text"] 10 spMet21 := ⟨_, d44, ok_met T Cwr Grd (He.glo_ok X G (c.fact 17 (f := .glo "read") rfl)) F31.kp brd ET (He.eqO_ok x8a) (He.exm_ok (c.fact 73 (f := .exm "BadText" "BadText" true) rfl)) F44, He.glo_ok X G (c.fact 30 (f := .glo "_law_met") rfl), F44.kp, F44.bindsN fun _ _ _ _ _ _ us hl => match us, hl with | [_], _ => rfl⟩
  have Cbe : Cal l.prog w K mg base "_law_bent" ["_law_pool_here", "_law_text"] 2 spBent21 := ⟨_, d45, ok_be T Ct F45, He.glo_ok X G (c.fact 31 (f := .glo "_law_bent") rfl), F45.kp, F45.bindsN fun _ _ _ _ _ _ us hl => match us, hl with | [_, _], _ => rfl⟩
  have Cmu : Cal l.prog w K mg base "_law_mixed_up" ["_law_pool_here", "_law_lines"] 2 (spMix21 K) := ⟨_, d46, ok_mu T Ct F46, He.glo_ok X G (c.fact 32 (f := .glo "_law_mixed_up") rfl), F46.kp, F46.bindsN fun _ _ _ _ _ _ us hl => match us, hl with | [_, _], _ => rfl⟩
  exact ok_law T fso fb Cdu Cme Cbe Cmu Cce Cpl Ct Cm Cwb Cpr F
end
end K21
end L2
open PySem PySem.W PySem.Calls PyProof.Rows
theorem PySem.Challenge.cw_lotmarks_k21_lines_refused_holds : PySem.Challenge.rw_lotmarks_k21_lines_refused.Holds := by
  w_on; o_law
  refine HandSHeadRun.head_any (r := OpenLaw.row PySem.Challenge.rw_lotmarks_k21_lines_refused) (q := view (OpenLaw.row PySem.Challenge.rw_lotmarks_k21_lines_refused).prog [41]) (H := L2.K21.hk) (ob := L2.K21.ob) (M := 60000) (loose := L2.K21.loose)
    (d := HandSHeadRun.topDef (OpenLaw.row PySem.Challenge.rw_lotmarks_k21_lines_refused).prog 41) (kwd := []) L2.K21.ob_eq
    (by kernel_rfl) (fun s => by kernel_rfl) L2.K21.run (by kernel_rfl) (by kernel_rfl) (by kernel_rfl) (by rfl) (by first | assumption | decide +kernel) (by decide +kernel) ⟨rfl, rfl, rfl, rfl, rfl, by decide +kernel⟩ ?hw ?hc
  case hw => w_witness2
  case hc =>
    refine LamX.walk_ofTsE (l := PySem.Challenge.rw_lotmarks_k21_lines_refused) (n := 63) (k := 11) (x := "_law_script") (CX := fun _ => L2.CX0) rfl (by decide) (by kernel_rfl) ⟨rfl, by decide, by decide⟩ ?F (fun _ _ _ _ _ z => z)
    intro w mg fa h Y G hmg0
    obtain ⟨K, KX, c, e, cc, pt, tf⟩ := Y
    have hmg : mg ("law" : PySem.Str) = some (.ref fa) := by
      have e : (HandSHeadRun.topDef (OpenLaw.row PySem.Challenge.rw_lotmarks_k21_lines_refused).prog 41).name = ("law" : PySem.Str) := by kernel_rfl
      rw [← e]
      exact hmg0
    exact ⟨K, KX, L2.K21.facts rfl KX G hmg c e⟩
