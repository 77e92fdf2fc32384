/- Contracts of New of package part and of the document's NewPart. -/
import Derived.Test.YtodkdjgpmfegcaaUnite2
namespace Go.Proofs.Ytodkdjgpmfegcaa
open Go.RowKit
set_option linter.unusedVariables false

/-- How many elements New makes. -/
def cutN (n : Int) : Nat := (min (max n 0) 65536).toNat
theorem cutN_le (n : Int) : cutN n ≤ 65536 := by unfold cutN; omega
theorem cutN_cast (n : Int) : ((cutN n : Nat) : Int) = min (max n 0) 65536 := by unfold cutN; omega
theorem cutN_nat {n : Nat} (h : n ≤ 65536) : cutN n = n := by unfold cutN; omega

theorem owns_box {w : World} {base e g n : Nat} {xs : List Value} (h : w.ownsRow base e 1 (.slice (some ⟨g, 0, none⟩) n n) n xs) : Box w g e xs := by
  rcases h.2 with ⟨e1, _⟩ | ⟨g', cap, cur, e1, _, hg, _, _, hsz, ht⟩
  · cases e1
  · cases e1
    unfold Box
    rw [hg]
    have : cur.toList = xs := by rw [← ht, List.take_of_length_le (by simp; omega)]
    rw [← this]

/-- Behind k rounds. -/
def newK (n k : Nat) : List Nat := List.range k ++ List.replicate (n - k) 0
theorem newK_length {n k : Nat} (h : k ≤ n) : (newK n k).length = n := by simp [newK]; omega
theorem newK_zero (n : Nat) : newK n 0 = List.replicate n 0 := by simp [newK]
theorem newK_all (n : Nat) : newK n n = List.range n := by simp [newK]
theorem newK_succ {n k : Nat} (h : k < n) : (newK n k).set k k = newK n (k + 1) := by
  unfold newK
  rw [List.set_append_right k k (by simp)]
  have e : n - k = (n - (k + 1)) + 1 := by omega
  rw [e, List.replicate_succ]
  simp [List.range_succ]

set_option maxRecDepth 100000 in
theorem new_any (n : Int) (w : World) :
    Calls Try.prog 13 #[.int .i64 n] w fun e w' => ∃ g, e = .returned (.slice (some ⟨g, 0, none⟩) (cutN n) (cutN n)) ∧ w.heap.size ≤ g ∧ g < w'.heap.size ∧ Box w' g 3 (intsOf (List.range (cutN n))) ∧ Below w.heap.size w w' := by
  obtain ⟨i0, hi0, hz0, hz1, hz2⟩ := info_parts Try.info3
  obtain ⟨c, hc⟩ : ∃ c, Hid (c = cutN n) := ⟨_, rfl⟩
  have hc0 : c ≤ 65536 := by rw [hc.out]; exact cutN_le n
  have hcc : (c : Int) = min (max n 0) 65536 := by rw [hc.out]; exact cutN_cast n
  have E1 : (if n < 0 then 0 else n) = max n 0 := by split <;> omega
  have E2 : (if (65536 : Int) < max n 0 then 65536 else max n 0) = (c : Int) := by rw [hcc]; split <;> omega
  rw [← hc.out]
  clear hcc
  go_enter Try.func13, Try.ntmps13
  go_wp2_with (at_make; refine wpList_make_full _ rfl _ _ 22 rfl w.heap.size 3 i0 (.int .i64 0) 1 Try.underlying22 hi0 hz0 hz1 _ _ _ _ c rfl rfl rfl rfl ?m1 ?m2 ?m3 ?_)
  case m1 => rw [hz2]; omega
  case m2 => unfold maxLen; omega
  case m3 => simp
  intro w1 hown hgr
  rw [toList_madeCells_one] at hown
  have hb1 : Below w.heap.size w w1 := (Below.refl _ _).grown hgr (Nat.le_refl _) (by simp)
  have hs1 : w.heap.size < w1.heap.size := (hown.lt w.heap.size rfl).2
  clear hgr E1 E2
  go_wp2
  go_loopw [11] (fun i wr => ∃ k : Nat, k ≤ c ∧ i = .int .i64 k ∧ wr.ownsRow w.heap.size 3 1 (.slice (some ⟨w.heap.size, 0, none⟩) c c) c (intsOf (newK c k)) ∧ Below w.heap.size w wr) (fun i _ => c - (intOf i).toNat)
  case atStart => exact ⟨0, Nat.zero_le _, rfl, by rw [newK_zero]; simpa [intsOf] using hown, hb1⟩
  case round =>
    clear hown hb1 hs1
    obtain ⟨k, hk, rfl, hown, hb⟩ := hrel
    by_cases hlt : k < c
    · have hg2 := (hown.lt w.heap.size rfl).2
      have ck := (hown.cellAt k (by omega)).trans (intsOf_get (by rw [newK_length hk]; exact hlt))
      have fk := hown.frozenAt k
      have hst := (hown.stored k (.int .i64 (k : Int))).1
      rw [intsOf_set, newK_succ hlt] at hst
      have HST := Lib.hid hst
      have HOWN := Lib.hid hown
      generalize el (newK c k) k = z at *
      clear hst hown
      go_wp2_with fail
      go_roundw
      case rel => exact ⟨k + 1, by omega, by go_num, HST.out, hb.setCell (Nat.le_refl _) _⟩
      case measure => simp [intOf]; omega
    · obtain rfl : k = c := by omega
      go_wp2_with fail
      go_ret
      rw [newK_all] at hown
      have hg2 := (hown.lt w.heap.size rfl).2
      exact ⟨_, rfl, Nat.le_refl _, hg2, owns_box hown, hb⟩

theorem Box.rowN {w : World} {g lo hi n : Nat} {p : List Nat} (h : Box w g 3 (intsOf p)) (hl : p.length = n) (h1 : lo ≤ g) (h2 : g < hi) : RowN lo hi w (some ⟨g, 0, none⟩) n p :=
  ⟨hl, .inr ⟨g, 0, rfl, h1, h2, fun i hi => by rw [Nat.zero_add, h.cell i, intsOf_get (by omega)]; rfl⟩⟩

set_option maxRecDepth 100000 in
theorem rnew_any (n : Int) (w : World) :
    Calls Try.prog 14 #[.int .i64 n] w fun e w' => ∃ a c, e = .returned (.slice a (cutN n) c) ∧ RowN w.heap.size w'.heap.size w' a (cutN n) (List.range (cutN n)) ∧ (a = none → c = 0) ∧ Below w.heap.size w w' := by
  obtain ⟨i0, hi0, hz0, hz1, hz2⟩ := info_parts Try.info3
  obtain ⟨c, hc⟩ : ∃ c, Hid (c = cutN n) := ⟨_, rfl⟩
  have hc0 : c ≤ 65536 := by rw [hc.out]; exact cutN_le n
  have hcc : Hid ((c : Int) = min (max n 0) 65536) := by rw [hc.out]; exact cutN_cast n
  rw [← hc.out]
  go_enter Try.func14, Try.ntmps14
  go_wp2
  go_loopw [3, 4] (fun v i wr => ∃ k : Nat, k ≤ c ∧ i = .int .i64 k ∧ wr.ownsRow w.heap.size 3 1 v k (intsOf (List.range k)) ∧ Below w.heap.size w wr) (fun _ i _ => c - (intOf i).toNat)
  case atStart => exact ⟨0, Nat.zero_le _, rfl, World.ownsRow_nil _ _ _ _, Below.refl _ _⟩
  case round =>
    obtain ⟨k, hk, rfl, hown, hb⟩ := hrel
    by_cases hlt : k < c
    · have h1 : (k : Int) < n := by have := hcc.out; omega
      have h2 : (k : Int) < 65536 := by omega
      have hs := hb.size
      go_wp2_with (at_builtin; refine wpList_append_own _ rfl _ _ 22 rfl w.heap.size 3 i0 (.int .i64 0) 1 8 Try.underlying22 hi0 hz0 hz1 hz2 rfl (by decide) _ k (intsOf (List.range k)) rfl (hown.alloc _) ⟨wr.heap.size, 0, none⟩ 1 1 [.int .i64 k] rfl rfl ?c1 ?c2 ?c3 ?c4 ?c5 ?_)
      case c1 =>
        intro j u hj
        match j, hj with
        | 0, hj => simp at hj; subst hj; simp [Addr.add]
      case c2 => intro u hu; simp at hu; subst hu; rfl
      case c3 => unfold maxLen; omega
      case c4 => omega
      case c5 => simp; omega
      intro v' w4 hown4 hgr4 _
      have hb4 : Below w.heap.size w w4 := (hb.alloc (by omega) _).grown hgr4 (by simp; omega) (fun j hj => (hown.lt j hj).1)
      have e : intsOf (List.range k) ++ [.int .i64 (k : Int)] = intsOf (List.range (k + 1)) := by simp [intsOf, List.range_succ]
      rw [e] at hown4
      clear hgr4 e hown
      go_wp2_with fail
      go_roundw
      case rel => exact ⟨k + 1, by omega, by go_num, hown4, hb4⟩
      case measure => simp [intOf]; omega
    · obtain rfl : k = c := by omega
      by_cases h1 : (k : Int) < n
      · have h2 : ¬ (k : Int) < 65536 := by have := hcc.out; omega
        go_wp2_with fail
        go_ret
        obtain ⟨a', c', rfl, hr, hnl⟩ := RowF.owned hown (by simp)
        exact ⟨_, _, rfl, hr, hnl, hb⟩
      · go_wp2_with fail
        go_ret
        obtain ⟨a', c', rfl, hr, hnl⟩ := RowF.owned hown (by simp)
        exact ⟨_, _, rfl, hr, hnl, hb⟩

end Go.Proofs.Ytodkdjgpmfegcaa
