/- The walk of the law PartOrder: it returns true and changes nothing that was there. -/
import Derived.Test.YtodkdjgpmfegcaaLawmade
namespace Go.Proofs.Ytodkdjgpmfegcaa
open Go.RowKit
set_option linter.unusedVariables false

/-- The pairs from the last to the first, begun elsewhere, each turned round and as it is: behind so many. -/
def ordK (l : List (Int × Int)) (m t k : Nat) : List (Int × Int) := (List.range k).flatMap fun i => [((l.getD ((m - 1 - i + t) % m) (0, 0)).2, (l.getD ((m - 1 - i + t) % m) (0, 0)).1), l.getD ((m - 1 - i + t) % m) (0, 0)]
theorem ordK_succ (l : List (Int × Int)) (m t k : Nat) : ordK l m t (k + 1) = ordK l m t k ++ [((l.getD ((m - 1 - k + t) % m) (0, 0)).2, (l.getD ((m - 1 - k + t) % m) (0, 0)).1), l.getD ((m - 1 - k + t) % m) (0, 0)] := by
  unfold ordK; rw [List.range_succ, List.flatMap_append]; simp
theorem ordK_length (l : List (Int × Int)) (m t : Nat) : ∀ k, (ordK l m t k).length = 2 * k
  | 0 => rfl
  | k + 1 => by rw [ordK_succ, List.length_append, ordK_length l m t k]; simp; omega
theorem ord_mem {l : List (Int × Int)} {m t k : Nat} (hm : l.length = m) {q : Int × Int} (h : q ∈ ordK l m t k) (hk : k ≤ m) : q ∈ l ∨ (q.2, q.1) ∈ l := by
  unfold ordK at h
  obtain ⟨i, hi, h⟩ := List.mem_flatMap.1 h
  have hi : i < k := by simpa using hi
  have hmem := getD_mem (ps := l) (k := (m - 1 - i + t) % m) (by rw [hm]; exact Nat.mod_lt _ (by omega))
  simp only [List.mem_cons, List.not_mem_nil, or_false] at h
  rcases h with rfl | rfl
  · exact .inr hmem
  · exact .inl hmem
theorem mem_ord {l : List (Int × Int)} {m t : Nat} (hm : l.length = m) {q : Int × Int} (h : q ∈ l) : q ∈ ordK l m t m := by
  obtain ⟨j, hj, rfl⟩ := List.mem_iff_getElem.1 h
  have hj : j < m := by omega
  have hd := Nat.div_add_mod (t + (m - 1 - j)) m
  have hlt := Nat.mod_lt (t + (m - 1 - j)) (show m > 0 by omega)
  unfold ordK
  refine List.mem_flatMap.2 ⟨(t + (m - 1 - j)) % m, by simpa using hlt, ?_⟩
  have e : m - 1 - (t + (m - 1 - j)) % m + t = m * ((t + (m - 1 - j)) / m) + j := by
    generalize m * ((t + (m - 1 - j)) / m) = A at *
    generalize (t + (m - 1 - j)) % m = i at *
    omega
  rw [e, Nat.mul_add_mod, Nat.mod_eq_of_lt hj]
  have : l.getD j (0, 0) = l[j]'(by omega) := by simp [List.getD, show j < l.length by omega]
  rw [this]
  simp
theorem of_ord {n : Nat} {l : List (Int × Int)} {m t : Nat} (hm : l.length = m) : ofL n l = ofL n (ordK l m t m) :=
  of_congr (fun q hq => .inl (mem_ord hm hq)) (fun q hq => ord_mem hm hq (Nat.le_refl _))

set_option maxRecDepth 100000 in
set_option maxHeartbeats 2000000 in
theorem order_law (a : Option Addr) (la ca : Nat) (xa : List Nat) (n t : Nat) (w : World) (hn : n ≤ 255) (ht : t ≤ 255) (ha : RowY 0 w.heap.size w a la xa) (ba : ∀ i, i < la → xa.getD i 0 ≤ 255) :
    Calls Try.prog 5 #[.int .u8 (n : Int), .slice a la ca, .int .u8 (t : Int)] w fun e w' => e = .returned (.bool true) ∧ Below w.heap.size w w' := by
  have hA := Lib.hid ha
  have hbA := Lib.hid ba
  clear ha ba
  obtain ⟨k, hk⟩ : ∃ k : Nat, (n : Int) % 30 = (k : Int) := ⟨n % 30, by omega⟩
  have hk30 : k < 30 := by omega
  by_cases h1 : 60 < la
  · go_enter Try.func5, Try.ntmps5
    go_wp2_with (go_at_call 9; refine (awake_any _).mono ?_; rintro e w' ⟨rfl, hb⟩)
    go_ret
    exact ⟨rfl, hb⟩
  · obtain ⟨i0, hi0, hz0, hz1, hz2⟩ := info_parts Try.info35
    go_enter Try.func5, Try.ntmps5
    go_wp2_with fail
    refine (pairs_m _ _ _ xa k _ hA.out hbA.out (Nat.le_refl _) (by omega) (by omega)).mono ?_
    rintro e w1 ⟨a1, m1, c1, rfl, hm1, hr1, _, hb1⟩
    have hs1 := hb1.size
    have HL := Lib.hid hr1
    have HD := Lib.hid hb1
    have HF : Hid (∀ q ∈ prs xa k, fits q.1 ∧ fits q.2) := prs_fits (by omega)
    obtain ⟨l, hl⟩ : ∃ l, prs xa k = l := ⟨_, rfl⟩
    rw [hl] at HL HF
    clear hr1 hb1 hl
    have HLN : Hid (l.length = m1) := HL.out.1
    go_wp2_with fail
    go_loopw [9, 10] (fun v i wr => ∃ j : Nat, j ≤ m1 ∧ i = .int .i64 j ∧ wr.ownsRow w1.heap.size 35 2 v (2 * j) (cellsP (ordK l m1 t j)) ∧ Below w1.heap.size w1 wr) (fun _ i _ => m1 - (intOf i).toNat)
    case atStart => exact ⟨0, Nat.zero_le _, rfl, World.ownsRow_nil _ _ _ _, Below.refl _ _⟩
    case round =>
      obtain ⟨j, hj, rfl, hown, hb⟩ := hrel
      by_cases hlt : j < m1
      · obtain ⟨J, hJ⟩ : ∃ J, (m1 - 1 - j + t) % m1 = J := ⟨_, rfl⟩
        have hJlt : J < m1 := by rw [← hJ]; exact Nat.mod_lt _ (by omega)
        have hJi : ((m1 : Int) - 1 - (j : Int) + (t : Int)) % (m1 : Int) = (J : Int) := by
          rw [← hJ]
          have : (m1 : Int) - 1 - (j : Int) + (t : Int) = ((m1 - 1 - j + t : Nat) : Int) := by omega
          rw [this]; exact (Int.natCast_emod _ _).symm
        obtain ⟨bp, op, rfl, _, hbp, hc⟩ := HL.out.at_ hJlt
        have hck := hc J hJlt
        have hO := ordK_succ l m1 t j
        rw [hJ] at hO
        obtain ⟨q, hq⟩ : ∃ q, q = l.getD J (0, 0) := ⟨_, rfl⟩
        rw [← hq] at hck hO
        obtain ⟨u, v⟩ := q
        dsimp only at hck hO
        have hs := hb.size
        have ck1 := (hb.cell (p := ⟨bp, op + J * 2, none⟩) (by show bp < _; omega)).trans hck.1
        have ck2 := (hb.cell (p := ⟨bp, op + J * 2 + 1, none⟩) (by show bp < _; omega)).trans hck.2
        have hbw : bp < wr.heap.size := by omega
        have HO := Lib.hid hO
        have HOWN := Lib.hid hown
        have g0 : (0 : Int) ≤ (m1 : Int) - 1 - (j : Int) := by omega
        have g1 : (0 : Int) ≤ (m1 : Int) - 1 - (j : Int) + (t : Int) := by omega
        clear hJ hc hck hO hq hown
        have HB := Lib.hid hb
        have HNEW : Hid (∀ (i : Nat) (y : Value), [Value.int .i64 v, Value.int .i64 u, Value.int .i64 u, Value.int .i64 v][i]? = some y → ((wr.alloc (.cells #[.int .i64 u, .int .i64 v] 35)).alloc (.cells #[.int .i64 v, .int .i64 u, .int .i64 u, .int .i64 v] 35)).cell? (Addr.add ⟨wr.heap.size + 1, 0, none⟩ i) = some y) := by
          intro i y hy
          match i, hy with
          | 0, hy => simp at hy; subst hy; simp [Addr.add]
          | 1, hy => simp at hy; subst hy; simp [Addr.add]
          | 2, hy => simp at hy; subst hy; simp [Addr.add]
          | 3, hy => simp at hy; subst hy; simp [Addr.add]
        have HONE : Hid (∀ y ∈ [Value.int .i64 v, Value.int .i64 u, Value.int .i64 u, Value.int .i64 v], y.oneCell' = true) := by
          intro y hy; simp at hy; rcases hy with rfl | rfl | rfl | rfl <;> rfl
        clear hb
        go_wp2_with (at_builtin; refine wpList_append_own _ rfl (.tmp 42) (.tmp 49) 32 rfl w1.heap.size 35 i0 (.agg #[.int .i64 0, .int .i64 0]) 2 16 Try.underlying32 hi0 hz0 hz1 hz2 rfl (by decide) _ (2 * j) _ rfl ((HOWN.out.alloc _).alloc _) ⟨wr.heap.size + 1, 0, none⟩ 2 2 [.int .i64 v, .int .i64 u, .int .i64 u, .int .i64 v] rfl rfl HNEW.out HONE.out ?c3 ?c4 ?c5 ?_)
        case c3 => unfold maxLen; omega
        case c4 => omega
        case c5 => simp; omega
        intro v9 w9 hown9 hgr9 _
        have hb9 : Below w1.heap.size w1 w9 := ((HB.out.alloc hs _).alloc (by simp; omega) _).grown hgr9 (by simp; omega) (fun q hq => (HOWN.out.lt q hq).1)
        have e9 : cellsP (ordK l m1 t j) ++ [.int .i64 v, .int .i64 u, .int .i64 u, .int .i64 v] = cellsP (ordK l m1 t (j + 1)) := by rw [HO.out, cellsP_append]; rfl
        rw [e9] at hown9
        clear hgr9 e9
        go_wp2_with fail
        go_roundw
        case rel => exact ⟨j + 1, by omega, by go_num, hown9, hb9⟩
        case measure => simp [intOf]; omega
      · obtain rfl : j = m1 := by omega
        obtain ⟨a9, c9, rfl, hr9, _⟩ := RowP.owned hown (ordK_length _ _ _ _)
        have hF9 : ∀ q ∈ ordK l j t j, fits q.1 ∧ fits q.2 := fun q hq => by
          rcases ord_mem HLN.out hq (Nat.le_refl _) with h | h
          · exact HF.out q h
          · exact ⟨(HF.out _ h).2, (HF.out _ h).1⟩
        have HF9 := Lib.hid hF9
        have hs := hb.size
        have hl := HL.out.below hb (Nat.le_refl _)
        have kD := HD.out.trans (hb.mono HD.out.size)
        have HE : Hid (ofL k l = ofL k (ordK l j t j)) := of_ord HLN.out
        have HL2 := Lib.hid hl
        have HR9 := Lib.hid hr9
        clear hown hF9 hl hr9 hb
        go_wp2_with fail
        refine (of_nat k _ _ _ l _ HL2.out hs (by omega) HF.out (by omega)).mono ?_
        rintro e w2 ⟨a2, c2, rfl, hr2, hb2⟩
        have hs2 := hb2.size
        have k2 := kD.trans (hb2.mono (by omega))
        have HR2 := Lib.hid hr2
        have HR92 := Lib.hid (HR9.out.below hb2 (Nat.le_refl _))
        clear hr2 hb2 kD
        go_wp2_with fail
        refine (of_nat k _ _ _ (ordK l j t j) _ HR92.out hs2 (by omega) HF9.out (by omega)).mono ?_
        rintro e w3 ⟨a3, c3, rfl, hr3, hb3⟩
        have hs3 := hb3.size
        have k3 := k2.trans (hb3.mono (by omega))
        have HR3 := Lib.hid hr3
        have HR23 := Lib.hid (HR2.out.below hb3 (Nat.le_refl _))
        clear hr3 hb3 k2
        go_wp2_with fail
        refine (ints_b _ _ _ _ _ _ _ _ _ HR23.out HR3.out (by omega) true (by rw [← HE.out]; simp)).mono ?_
        rintro e w4 ⟨rfl, hb4⟩
        have k4 := k3.trans (hb4.mono (by omega))
        have hs4 := hb4.size
        clear hb4 k3
        go_wp2_with fail
        refine (awake_any _).mono ?_
        rintro e w5 ⟨rfl, hb5⟩
        go_wp2_with fail
        go_ret
        exact ⟨rfl, k4.trans (hb5.mono (by omega))⟩

end Go.Proofs.Ytodkdjgpmfegcaa
