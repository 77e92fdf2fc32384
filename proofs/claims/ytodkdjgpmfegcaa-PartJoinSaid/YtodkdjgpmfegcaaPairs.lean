/- Contract of the statements' own Pairs. -/
import Derived.Test.YtodkdjgpmfegcaaOf
import Derived.Deep.RegionHeld3
import Derived.Deep.AppendLies
import Derived.IntWalk
namespace Go.Proofs.Ytodkdjgpmfegcaa
open Go.RowKit Go.Maps
set_option linter.unusedVariables false

/-- A slice of bytes. -/
abbrev RowY := RowF (fun n : Nat => Value.int .u8 (n : Int)) (0 : Nat)

theorem Try.info35 : (Try.prog.info? 35).map (fun i => (i.zero, i.size, i.bytes)) = some (some (.agg #[.int .i64 0, .int .i64 0]), 2, 16) := by kernel_rfl

def cellsP (ps : List (Int × Int)) : List Value := ps.flatMap fun q => [.int .i64 q.1, .int .i64 q.2]
theorem cellsP_length : ∀ ps : List (Int × Int), (cellsP ps).length = ps.length * 2
  | [] => rfl
  | q :: r => by have := cellsP_length r; unfold cellsP at *; simp [List.flatMap_cons, this]; omega
theorem cellsP_at : ∀ (ps : List (Int × Int)) (i : Nat), i < ps.length → (cellsP ps)[i * 2]? = some (.int .i64 (ps.getD i (0, 0)).1) ∧ (cellsP ps)[i * 2 + 1]? = some (.int .i64 (ps.getD i (0, 0)).2)
  | q :: r, 0, _ => by simp [cellsP, List.flatMap_cons]
  | q :: r, i + 1, h => by
    have := cellsP_at r i (by simpa using h)
    have e : cellsP (q :: r) = .int .i64 q.1 :: .int .i64 q.2 :: cellsP r := by simp [cellsP, List.flatMap_cons]
    rw [e, show (i + 1) * 2 = i * 2 + 1 + 1 by omega]
    simpa using this
theorem cellsP_append (ps qs : List (Int × Int)) : cellsP (ps ++ qs) = cellsP ps ++ cellsP qs := by simp [cellsP]
theorem cellsP_one (ps : List (Int × Int)) : ∀ u ∈ cellsP ps, u.oneCell' = true := by
  intro u hu
  simp only [cellsP, List.mem_flatMap] at hu
  obtain ⟨q, _, hq⟩ := hu
  simp at hq
  rcases hq with rfl | rfl <;> rfl

theorem RowP.owned {w : World} {base : Nat} {v : Value} {n : Nat} {ps : List (Int × Int)} (h : w.ownsRow base 35 2 v n (cellsP ps)) (hl : ps.length = n) : ∃ a c, v = .slice a n c ∧ RowP base w.heap.size w a n ps ∧ (a = none → n = 0 ∧ c = 0) := by
  obtain ⟨_, h | ⟨g, cap, cur, rfl, hb, hg, hn, hcap, hsz, ht⟩⟩ := h
  · obtain ⟨rfl, h⟩ := h
    exact ⟨none, 0, by rw [h], ⟨hl, .inl h⟩, fun _ => ⟨h, rfl⟩⟩
  · have key : ∀ (j : Nat) (u : Value), (cellsP ps)[j]? = some u → w.cell? ⟨g, 0 + j, none⟩ = some u := fun j u hj => by
      rw [Nat.zero_add, cell_of_row w g j cur _ (0, 0) hg]
      rw [← ht, List.getElem?_take] at hj
      split at hj
      · simpa using hj
      · cases hj
    refine ⟨_, _, rfl, ⟨hl, .inr ⟨g, 0, rfl, hb, (Array.getElem?_eq_some_iff.1 hg).1, fun i hi => ?_⟩⟩, fun h => by cases h⟩
    have := cellsP_at ps i (by omega)
    exact ⟨key _ _ this.1, key _ _ this.2⟩

theorem RowP.news {lo hi : Nat} {w : World} {a : Addr} {n : Nat} {ps : List (Int × Int)} (h : RowP lo hi w (some a) n ps) : ∀ j u, (cellsP ps)[j]? = some u → w.cell? (a.add j) = some u := by
  intro j u hu
  have hj : j < n * 2 := by have := (List.getElem?_eq_some_iff.1 hu).1; rw [cellsP_length, h.1] at this; exact this
  obtain ⟨b, off, e, _, _, hc⟩ := h.at_ (i := 0) (by omega)
  cases e
  rw [Addr.add_lit]
  have h1 := hc (j / 2) (by omega)
  have h2 := cellsP_at ps (j / 2) (by rw [h.1]; omega)
  rcases Nat.mod_two_eq_zero_or_one j with e | e
  · have ej : j / 2 * 2 = j := by omega
    rw [ej] at h1 h2
    rw [h1.1, ← hu, h2.1]
  · have ej : j / 2 * 2 + 1 = j := by omega
    have ej2 : off + j / 2 * 2 + 1 = off + j := by omega
    rw [ej2] at h1
    rw [ej] at h2
    rw [h1.2, ← hu, h2.2]

/-- The pairs that numbers make, of so many elements. -/
def prsK (ns : List Nat) (n k : Nat) : List (Int × Int) := (List.range k).map fun i => (((ns.getD (i * 2) 0 % n : Nat) : Int), ((ns.getD (i * 2 + 1) 0 % n : Nat) : Int))
def prs (ns : List Nat) (n : Nat) : List (Int × Int) := if 0 < n then prsK ns n (ns.length / 2) else []
theorem prsK_length (ns : List Nat) (n k : Nat) : (prsK ns n k).length = k := by simp [prsK]
theorem prsK_succ (ns : List Nat) (n k : Nat) : prsK ns n (k + 1) = prsK ns n k ++ [(((ns.getD (k * 2) 0 % n : Nat) : Int), ((ns.getD (k * 2 + 1) 0 % n : Nat) : Int))] := by simp [prsK, List.range_succ]
theorem prs_length_le (ns : List Nat) (n : Nat) : (prs ns n).length ≤ ns.length / 2 := by
  unfold prs; split
  · rw [prsK_length]; exact Nat.le_refl _
  · simp
theorem prs_mem {ns : List Nat} {n : Nat} {q : Int × Int} (h : q ∈ prs ns n) : 0 ≤ q.1 ∧ q.1 < n ∧ 0 ≤ q.2 ∧ q.2 < n := by
  unfold prs at h
  split at h
  · rename_i hn
    simp only [prsK, List.mem_map] at h
    obtain ⟨i, _, rfl⟩ := h
    have := Nat.mod_lt (ns.getD (i * 2) 0) hn
    have := Nat.mod_lt (ns.getD (i * 2 + 1) 0) hn
    dsimp only
    omega
  · cases h
theorem prs_fits {ns : List Nat} {n : Nat} (hn : n ≤ 65536) : ∀ q ∈ prs ns n, fits q.1 ∧ fits q.2 := fun q hq => by
  have := prs_mem hq
  unfold fits; omega

theorem below_alloc {B : Nat} {w w' : World} (h : Below B w w') (hB : B ≤ w.heap.size) (o : Obj) : Below B w (w'.alloc o) := h.alloc (Nat.le_trans hB h.size) o
theorem below_grown {B : Nat} {w w' w'' : World} {row : Option Nat} (h : Below B w w') (hg : w'.grownBy w'' row) (hB : B ≤ w.heap.size) (hr : ∀ q, row = some q → B ≤ q) : Below B w w'' := h.grown hg (Nat.le_trans hB h.size) hr

set_option maxRecDepth 100000 in
set_option maxHeartbeats 1000000 in
theorem pairs_any (a : Option Addr) (la ca : Nat) (ns : List Nat) (n : Nat) (w : World) {lo hi : Nat} (hp : RowY lo hi w a la ns) (hby : ∀ i, i < la → ns.getD i 0 ≤ 255) (hhi : hi ≤ w.heap.size) (hm : la ≤ 1000) (hn : n ≤ 65536) :
    Calls Try.prog 23 #[.slice a la ca, .int .i64 n] w fun e w' => ∃ a' c', e = .returned (.slice a' (prs ns n).length c') ∧ RowP w.heap.size w'.heap.size w' a' (prs ns n).length (prs ns n) ∧ (a' = none → (prs ns n).length = 0 ∧ c' = 0) ∧ Below w.heap.size w w' := by
  by_cases h0 : 0 < n
  · obtain ⟨i0, hi0, hz0, hz1, hz2⟩ := info_parts Try.info35
    obtain ⟨M, hM⟩ : ∃ M, Hid (M = la / 2) := ⟨_, rfl⟩
    have hM1 : M * 2 ≤ la := by have := hM.out; omega
    have hM2 : la < M * 2 + 2 := by have := hM.out; omega
    have e : prs ns n = prsK ns n M := by unfold prs; rw [if_pos h0, hp.1, hM.out]
    rw [e, prsK_length]
    have HP := Lib.hid hp
    have HB := Lib.hid hby
    have h0i : (0 : Int) < n := by omega
    clear e hp hby
    go_enter Try.func23, Try.ntmps23
    go_wp2_with fail
    go_loopw [5, 6] (fun v i wr => ∃ k : Nat, k ≤ M ∧ i = .int .i64 (k * 2 : Nat) ∧ wr.ownsRow w.heap.size 35 2 v k (cellsP (prsK ns n k)) ∧ Below w.heap.size w wr) (fun _ i _ => la - (intOf i).toNat)
    case atStart => exact ⟨0, Nat.zero_le _, rfl, World.ownsRow_nil _ _ _ _, Below.refl _ _⟩
    case round =>
      obtain ⟨k, hk, rfl, hown, hb⟩ := hrel
      by_cases hlt : k < M
      · obtain ⟨b, off, rfl, _, hbb, hc⟩ := HP.out.2.resolve_left (by omega)
        have ck := (hb.cell (p := ⟨b, off + k * 2, none⟩) (by show b < _; omega)).trans (hc (k * 2) (by omega))
        have ck2 := (hb.cell (p := ⟨b, off + (k * 2 + 1), none⟩) (by show b < _; omega)).trans (hc (k * 2 + 1) (by omega))
        have d1 := hc (k * 2) (by omega)
        have d2 := hc (k * 2 + 1) (by omega)
        have b1 := HB.out (k * 2) (by omega)
        have b2 := HB.out (k * 2 + 1) (by omega)
        have hs := hb.size
        have hbw : b < wr.heap.size := by omega
        have HS := Lib.hid (prsK_succ ns n k)
        generalize ns.getD (k * 2) 0 = x at *
        generalize ns.getD (k * 2 + 1) 0 = y at *
        obtain ⟨j, hj⟩ : ∃ j, j = k * 2 := ⟨_, rfl⟩
        rw [← hj] at ck ck2 d1 d2 ⊢
        have HJ := Lib.hid hj
        have hj1 : j + 1 < la := by omega
        have hj2 : (j : Int) + 1 < la := by omega
        have hj3 : (0 : Int) ≤ (j : Int) + 1 := by omega
        have hj4 : (0 : Int) ≤ (j : Int) := by omega
        have hj5 : (j : Int) < la := by omega
        have hj6 : j < la := by omega
        have hn0 : ¬ n = 0 := by omega
        have hn1 : ((n : Int) == 0) = false := by simp; omega
        clear hc hj
        have w1 : IntKind.i64.wrap ((j : Int) + 1) = (j : Int) + 1 := IntWalk.i64_in _ (by omega)
        have w2 : ((j : Int) + 1).toNat = j + 1 := by omega
        have w3 : IntKind.i64.wrap (x : Int) = (x : Int) := IntWalk.i64_in _ (by omega)
        have w4 : IntKind.i64.wrap (y : Int) = (y : Int) := IntWalk.i64_in _ (by omega)
        obtain ⟨X, hX⟩ : ∃ X : Nat, x % n = X := ⟨_, rfl⟩
        obtain ⟨Y, hY⟩ : ∃ Y : Nat, y % n = Y := ⟨_, rfl⟩
        have w5 : (x : Int).tmod (n : Int) = (X : Int) := by rw [← hX]; exact (Int.ofNat_tmod x n).symm
        have w6 : (y : Int).tmod (n : Int) = (Y : Int) := by rw [← hY]; exact (Int.ofNat_tmod y n).symm
        have w7 : IntKind.i64.wrap (X : Int) = (X : Int) := IntWalk.i64_in _ (by have := Nat.mod_le x n; omega)
        have w8 : IntKind.i64.wrap (Y : Int) = (Y : Int) := IntWalk.i64_in _ (by have := Nat.mod_le y n; omega)
        rw [hX, hY] at HS
        clear hX hY
        have K : ∀ w', Below w.heap.size w w' → (Below w.heap.size w w' ∧ w'.cell? ⟨b, off + j, none⟩ = some (.int .u8 (x : Int)) ∧ w'.cell? ⟨b, off + (j + 1), none⟩ = some (.int .u8 (y : Int))) := fun w' h =>
          ⟨h, (h.cell (p := ⟨b, off + j, none⟩) (by show b < _; omega)).trans d1, (h.cell (p := ⟨b, off + (j + 1), none⟩) (by show b < _; omega)).trans d2⟩
        have HK := Lib.hid K
        have HBW := Lib.hid hb
        have HOWN := Lib.hid (hown.alloc (.cells #[.int .i64 (X : Int), .int .i64 (Y : Int)] 35))
        have HV : Hid (∀ q, u5.ownBlock = some q → w.heap.size ≤ q) := fun q hq => (hown.lt q hq).1
        have HNEWS : Hid (∀ (q : Nat) (u : Value), [Value.int .i64 (X : Int), Value.int .i64 (Y : Int)][q]? = some u → (wr.alloc (.cells #[.int .i64 (X : Int), .int .i64 (Y : Int)] 35)).cell? (Addr.add ⟨wr.heap.size, 0, none⟩ q) = some u) := by
          intro q u hq
          match q, hq with
          | 0, hq => simp at hq; subst hq; simp [Addr.add]
          | 1, hq => simp at hq; subst hq; simp [Addr.add]
        have HONE : Hid (∀ u ∈ [Value.int .i64 (X : Int), Value.int .i64 (Y : Int)], u.oneCell' = true) := by
          intro u hu; simp at hu; rcases hu with rfl | rfl <;> rfl
        have q1 : k + 1 ≤ maxLen := by unfold maxLen; omega
        have q2 : (k + 1) * 16 ≤ 140737488355328 := by omega
        have q3 : w.heap.size ≤ (wr.alloc (.cells #[.int .i64 (X : Int), .int .i64 (Y : Int)] 35)).heap.size := by simp; omega
        have Q1 := Lib.hid q1
        have Q2 := Lib.hid q2
        have Q3 := Lib.hid q3
        clear K hb hown q1 q2 q3 d1 d2
        go_wp2_with fail
        go_region_held3 (fun w' => Below w.heap.size w w' ∧ w'.cell? ⟨b, off + j, none⟩ = some (.int .u8 (x : Int)) ∧ w'.cell? ⟨b, off + (j + 1), none⟩ = some (.int .u8 (y : Int)))
          (first
            | exact HK.out _ HBW.out.drew
            | exact HK.out _ (below_alloc (And.left (by assumption)) (Nat.le_refl _) _)
            | exact HK.out _ (below_grown (And.left (by assumption)) hgrow (Nat.le_refl _) HV.out))
          (first
            | (refine step_append_lies _ rfl _ _ _ rfl w.heap.size 35 i0 (.agg #[.int .i64 0, .int .i64 0]) 2 16 Try.underlying32 hi0 hz0 hz1 hz2 rfl (by decide) _ k (cellsP (prsK ns n k)) rfl HOWN.out ⟨wr.heap.size, 0, none⟩ 1 1 [.int .i64 (X : Int), .int .i64 (Y : Int)] rfl rfl HNEWS.out HONE.out (by decide) Q1.out Q2.out Q3.out _ rfl ?_; intro g cap w9 hown9 hgrow hat hlt9))
        have hb9 : Below w.heap.size w w9 := And.left (by assumption)
        have e9 : cellsP (prsK ns n k) ++ [.int .i64 (X : Int), .int .i64 (Y : Int)] = cellsP (prsK ns n (k + 1)) := by rw [HS.out, cellsP_append]; rfl
        rw [e9] at hown9
        clear hgrow hat e9
        go_wp2_with fail
        go_roundw
        case rel => exact ⟨k + 1, by omega, by have := HJ.out; go_num, hown9, hb9⟩
        case measure => simp [intOf]; omega
      · obtain rfl : k = M := by omega
        have hge : ¬ ((k * 2 : Nat) : Int) + 1 < la := by omega
        go_wp2_with fail
        go_ret
        obtain ⟨a', c', rfl, hr, hnl⟩ := RowP.owned hown (prsK_length _ _ _)
        exact ⟨_, _, rfl, hr, hnl, hb⟩
  · obtain rfl : n = 0 := by omega
    have e : prs ns 0 = [] := rfl
    rw [e]
    go_enter Try.func23, Try.ntmps23
    go_wp2_with fail
    refine wp_loop_rounds 1 ?_
    rw [rounds_succ]
    go_wp2_with fail
    all_goals
      go_ret
      exact ⟨_, _, rfl, ⟨rfl, .inl rfl⟩, by simp, Below.refl _ _⟩

end Go.Proofs.Ytodkdjgpmfegcaa
