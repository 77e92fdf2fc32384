/- Contracts of the document's NewPart, of the statements' own Ops. -/
import Derived.Test.YthhcchdjeeigpaaDoorTwo
import Derived.Test.YthhcchdjeeigpaaDoorCaw
import Derived.Deep.RegionHeld3
namespace Go.Proofs.YthhcchdjeeigpaaDoor
open Go.RowKit
set_option linter.unusedVariables false
set_option linter.unusedSimpArgs false

/-- How many elements New makes. -/
def cutN (n : Int) : Nat := (min (max n 0) 65536).toNat
theorem cutN_le (n : Int) : cutN n ≤ 65536 := by unfold cutN; omega
theorem cutN_cast (n : Int) : ((cutN n : Nat) : Int) = min (max n 0) 65536 := by unfold cutN; omega
theorem cutN_nat {n : Nat} (h : n ≤ 65536) : cutN n = n := by unfold cutN; omega

set_option maxRecDepth 100000 in
theorem rnew_any (n : Int) (w : World) :
    Calls Tryd.prog 23 #[.int .i64 n] w fun e w' => ∃ a c, e = .returned (.slice a (cutN n) c) ∧ RowN w.heap.size w'.heap.size w' a (cutN n) (List.range (cutN n)) ∧ (a = none → c = 0) ∧ Below w.heap.size w w' := by
  obtain ⟨i0, hi0, hz0, hz1, hz2⟩ := info_parts Tryd.info3
  obtain ⟨c, hc⟩ : ∃ c, Hid (c = cutN n) := ⟨_, rfl⟩
  have hc0 : c ≤ 65536 := by rw [hc.out]; exact cutN_le n
  have hcc : Hid ((c : Int) = min (max n 0) 65536) := by rw [hc.out]; exact cutN_cast n
  rw [← hc.out]
  go_enter Tryd.func23, Tryd.ntmps23
  go_wp2
  go_loopw [3, 4] (fun v i wr => ∃ k : Nat, k ≤ c ∧ i = .int .i64 k ∧ wr.ownsRow w.heap.size 3 1 v k (intsOf (List.range k)) ∧ Below w.heap.size w wr) (fun _ i _ => c - (intOf i).toNat)
  case atStart => exact ⟨0, Nat.zero_le _, rfl, World.ownsRow_nil _ _ _ _, Below.refl _ _⟩
  case round =>
    obtain ⟨k, hk, rfl, hown, hb⟩ := hrel
    by_cases hlt : k < c
    · have h1 : (k : Int) < n := by have := hcc.out; omega
      have h2 : (k : Int) < 65536 := by omega
      have hs := hb.size
      go_wp2_with (at_builtin; refine wpList_append_own _ rfl _ _ 22 rfl w.heap.size 3 i0 (.int .i64 0) 1 8 Tryd.underlying22 hi0 hz0 hz1 hz2 rfl (by decide) _ k (intsOf (List.range k)) rfl (hown.alloc _) ⟨wr.heap.size, 0, none⟩ 1 1 [.int .i64 k] rfl rfl ?c1 ?c2 ?c3 ?c4 ?c5 ?_)
      case c1 =>
        intro j u hj
        match j, hj with
        | 0, hj => simp at hj; subst hj; simp [Addr.add]
      case c2 => intro u hu; simp at hu; subst hu; rfl
      case c3 => unfold maxLen; omega
      case c4 => omega
      case c5 => simp; omega
      intro v' w4 hown4 hgr4 _
      have hb4 : Below w.heap.size w w4 := (hb.alloc (by omega) _).grown hgr4 (by simp; omega) (fun j hj => (hown.lt j hj).1)
      have e : intsOf (List.range k) ++ [.int .i64 (k : Int)] = intsOf (List.range (k + 1)) := by simp [intsOf, List.range_succ]
      rw [e] at hown4
      clear hgr4 e hown
      go_wp2_with fail
      go_roundw
      case rel => exact ⟨k + 1, by omega, by go_num, hown4, hb4⟩
      case measure => simp [intOf]; omega
    · obtain rfl : k = c := by omega
      by_cases h1 : (k : Int) < n
      · have h2 : ¬ (k : Int) < 65536 := by have := hcc.out; omega
        go_wp2_with fail
        go_ret
        obtain ⟨a', c', rfl, hr, hnl⟩ := RowF.owned hown (by simp)
        exact ⟨_, _, rfl, hr, hnl, hb⟩
      · go_wp2_with fail
        go_ret
        obtain ⟨a', c', rfl, hr, hnl⟩ := RowF.owned hown (by simp)
        exact ⟨_, _, rfl, hr, hnl, hb⟩


/-- Operations that may begin on n elements. -/
def okO (n : Nat) (q : Nat × Nat × Nat) : Prop := 1 ≤ q.1 ∧ q.1 ≤ 3 ∧ q.2.1 < n ∧ q.2.2 < n
def cellsO (os : List (Nat × Nat × Nat)) : List Value := os.flatMap fun q => [.int .i64 (q.1 : Int), .int .i64 (q.2.1 : Int), .int .i64 (q.2.2 : Int)]
theorem cellsO_length : ∀ os : List (Nat × Nat × Nat), (cellsO os).length = os.length * 3
  | [] => rfl
  | q :: r => by have := cellsO_length r; unfold cellsO at *; simp [List.flatMap_cons, this]; omega
theorem cellsO_snoc (os : List (Nat × Nat × Nat)) (a b c : Nat) : cellsO (os ++ [(a, b, c)]) = cellsO os ++ [.int .i64 (a : Int), .int .i64 (b : Int), .int .i64 (c : Int)] := by
  unfold cellsO; simp [List.flatMap_append]
theorem cellsO_at : ∀ (os : List (Nat × Nat × Nat)) (i : Nat), i < os.length → (cellsO os)[i * 3]? = some (.int .i64 ((os.getD i (0, 0, 0)).1 : Int)) ∧ (cellsO os)[i * 3 + 1]? = some (.int .i64 ((os.getD i (0, 0, 0)).2.1 : Int)) ∧ (cellsO os)[i * 3 + 2]? = some (.int .i64 ((os.getD i (0, 0, 0)).2.2 : Int))
  | q :: r, 0, _ => by simp [cellsO, List.flatMap_cons]
  | q :: r, i + 1, h => by
    have ih := cellsO_at r i (by simpa using h)
    have e : (i + 1) * 3 = i * 3 + 1 + 1 + 1 := by omega
    unfold cellsO at *
    rw [List.flatMap_cons, e]
    simpa using ih

/-- A slice of operations that may begin. -/
def OpsOf (base la n : Nat) (w : World) (v : Value) : Prop := ∃ (m : Nat) (os : List (Nat × Nat × Nat)), m ≤ la ∧ w.ownsRow base 40 3 v m (cellsO os) ∧ ∀ q ∈ os, okO n q

theorem op_v (a b c n A B C : Nat) (w : World) (hn : 0 < n) (h6 : n ≤ 1000000) (ha : a ≤ 255) (hb : b ≤ 255) (hc : c ≤ 255) (hA : 1 + a % 3 = A) (hB : b % n = B) (hC : c % n = C) :
    Calls Tryd.prog 43 #[.int .u8 (a : Int), .int .u8 (b : Int), .int .u8 (c : Int), .int .i64 (n : Int)] w fun e w' => e = .returned (.agg #[.int .i64 (A : Int), .int .i64 (B : Int), .int .i64 (C : Int)]) ∧ Below w.heap.size w w' := by
  subst hA hB hC
  exact op_any a b c n w hn h6 ha hb hc

set_option maxRecDepth 100000 in
set_option maxHeartbeats 2000000 in
theorem ops_any (a : Option Addr) (la ca : Nat) (ns : List Nat) (n : Nat) (w : World) {lo hi : Nat} (hp : RowY lo hi w a la ns) (hby : ∀ i, i < la → ns.getD i 0 ≤ 255) (hhi : hi ≤ w.heap.size) (hm : la ≤ 1000) (hn0 : 0 < n) (hn : n ≤ 1000) :
    Calls Tryd.prog 22 #[.slice a la ca, .int .i64 (n : Int)] w fun e w' => ∃ v, e = .returned v ∧ OpsOf w.heap.size la n w' v ∧ Below w.heap.size w w' := by
  obtain ⟨i0, hi0, hz0, hz1, hz2⟩ := info_parts Tryd.opInfo
  have HP := Lib.hid hp
  have HB := Lib.hid hby
  have h0i : (0 : Int) < n := by omega
  clear hp hby
  go_enter Tryd.func22, Tryd.ntmps22
  go_wp2_with fail
  go_loopw [5, 6] (fun v i wr => ∃ (k : Nat) (os : List (Nat × Nat × Nat)), k * 3 ≤ la ∧ i = .int .i64 (k * 3 : Nat) ∧ wr.ownsRow w.heap.size 40 3 v k (cellsO os) ∧ Hid (∀ q ∈ os, okO n q) ∧ Below w.heap.size w wr) (fun _ i _ => la - (intOf i).toNat)
  case atStart => exact ⟨0, [], by omega, rfl, World.ownsRow_nil _ _ _ _, fun q hq => absurd hq (by simp), Below.refl _ _⟩
  case round =>
    obtain ⟨k, os, hk, rfl, hown, hok, hb⟩ := hrel
    obtain ⟨j, hj⟩ : ∃ j, j = k * 3 := ⟨_, rfl⟩
    by_cases hlt : k * 3 + 2 < la
    · obtain ⟨b, off, rfl, _, hbb, hc⟩ := HP.out.2.resolve_left (by omega)
      have d1 := hc j (by omega)
      have d2 := hc (j + 1) (by omega)
      have d3 := hc (j + 2) (by omega)
      have b1 := HB.out j (by omega)
      have b2 := HB.out (j + 1) (by omega)
      have b3 := HB.out (j + 2) (by omega)
      have hs := hb.size
      have hbw : b < wr.heap.size := by omega
      rw [← hj]
      generalize ns.getD j 0 = x at *
      generalize ns.getD (j + 1) 0 = y at *
      generalize ns.getD (j + 2) 0 = z at *
      have hj1 : j + 1 < la := by omega
      have hj2 : (j : Int) + 1 < la := by omega
      have hj3 : (0 : Int) ≤ (j : Int) + 1 := by omega
      have hj4 : (0 : Int) ≤ (j : Int) := by omega
      have hj5 : (j : Int) < la := by omega
      have hj6 : j < la := by omega
      have hj7 : j + 2 < la := by omega
      have hj8 : (j : Int) + 2 < la := by omega
      have hj9 : (0 : Int) ≤ (j : Int) + 2 := by omega
      have HJ := Lib.hid hj
      clear hc hj
      have w1 : IntKind.i64.wrap ((j : Int) + 1) = (j : Int) + 1 := IntWalk.i64_in _ (by omega)
      have w2 : ((j : Int) + 1).toNat = j + 1 := by omega
      have w3 : IntKind.i64.wrap ((j : Int) + 2) = (j : Int) + 2 := IntWalk.i64_in _ (by omega)
      have w4 : ((j : Int) + 2).toNat = j + 2 := by omega
      obtain ⟨A, hA⟩ : ∃ A : Nat, 1 + x % 3 = A := ⟨_, rfl⟩
      obtain ⟨B, hB⟩ : ∃ B : Nat, y % n = B := ⟨_, rfl⟩
      obtain ⟨C, hC⟩ : ∃ C : Nat, z % n = C := ⟨_, rfl⟩
      have HOK : Hid (∀ q ∈ os ++ [(A, B, C)], okO n q) := by
        intro q hq
        rcases List.mem_append.1 hq with h | h
        · exact hok.out q h
        · simp at h; subst h
          have := Nat.mod_lt y hn0
          have := Nat.mod_lt z hn0
          refine ⟨by show 1 ≤ A; omega, by show A ≤ 3; omega, by show B < n; omega, by show C < n; omega⟩
      have HOP : Hid (∀ w', Calls Tryd.prog 43 #[.int .u8 (x : Int), .int .u8 (y : Int), .int .u8 (z : Int), .int .i64 (n : Int)] w' fun e w'' => e = .returned (.agg #[.int .i64 (A : Int), .int .i64 (B : Int), .int .i64 (C : Int)]) ∧ Below w'.heap.size w' w'') := fun w' => op_v x y z n A B C w' hn0 (by omega) b1 b2 b3 hA hB hC
      have K : ∀ w', Below w.heap.size w w' → (Below w.heap.size w w' ∧ w'.cell? ⟨b, off + j, none⟩ = some (.int .u8 (x : Int)) ∧ w'.cell? ⟨b, off + (j + 1), none⟩ = some (.int .u8 (y : Int)) ∧ w'.cell? ⟨b, off + (j + 2), none⟩ = some (.int .u8 (z : Int))) := fun w' h =>
        ⟨h, (h.cell (p := ⟨b, off + j, none⟩) (by show b < _; omega)).trans d1, (h.cell (p := ⟨b, off + (j + 1), none⟩) (by show b < _; omega)).trans d2, (h.cell (p := ⟨b, off + (j + 2), none⟩) (by show b < _; omega)).trans d3⟩
      have HK := Lib.hid K
      have HBW := Lib.hid hb
      have HOWN := Lib.hid hown.drew
      have HV : Hid (∀ q, u5.ownBlock = some q → w.heap.size ≤ q) := fun q hq => (hown.lt q hq).1
      have HNEWS : Hid (∀ (W : World) (q : Nat) (u : Value), [Value.int .i64 (A : Int), Value.int .i64 (B : Int), Value.int .i64 (C : Int)][q]? = some u → (W.alloc (.cells #[.int .i64 (A : Int), .int .i64 (B : Int), .int .i64 (C : Int)] 40)).cell? (Addr.add ⟨W.heap.size, 0, none⟩ q) = some u) := by
        intro W q u hq
        match q, hq with
        | 0, hq => simp at hq; subst hq; simp [Addr.add]
        | 1, hq => simp at hq; subst hq; simp [Addr.add]
        | 2, hq => simp at hq; subst hq; simp [Addr.add]
      have HONE : Hid (∀ u ∈ [Value.int .i64 (A : Int), Value.int .i64 (B : Int), Value.int .i64 (C : Int)], u.oneCell' = true) := by
        intro u hu; simp at hu; rcases hu with rfl | rfl | rfl <;> rfl
      have q1 : k + 1 ≤ maxLen := by unfold maxLen; omega
      have q2 : (k + 1) * 24 ≤ 140737488355328 := by omega
      have Q1 := Lib.hid q1
      have Q2 := Lib.hid q2
      have HS := Lib.hid hs
      have Q3 : Hid (∀ W : World, wr.heap.size ≤ W.heap.size → w.heap.size ≤ (W.alloc (.cells #[.int .i64 (A : Int), .int .i64 (B : Int), .int .i64 (C : Int)] 40)).heap.size) := fun W hW => by simp; have := HS.out; omega
      clear K hb hown q1 q2 d1 d2 d3 hA hB hC hok b1 b2 b3
      go_wp2_with fail
      go_region_held3 (fun w' => Below w.heap.size w w' ∧ w'.cell? ⟨b, off + j, none⟩ = some (.int .u8 (x : Int)) ∧ w'.cell? ⟨b, off + (j + 1), none⟩ = some (.int .u8 (y : Int)) ∧ w'.cell? ⟨b, off + (j + 2), none⟩ = some (.int .u8 (z : Int)))
        (first
          | exact HK.out _ HBW.out.drew
          | exact HK.out _ (below_next HBW.out.drew hbz HS.out)
          | exact HK.out _ (below_next (And.left (by assumption)) hbz (Nat.le_refl _))
          | exact HK.out _ (below_alloc (And.left (by assumption)) (Nat.le_refl _) _)
          | exact HK.out _ (below_grown (And.left (by assumption)) hgrow (Nat.le_refl _) HV.out))
        (first
          | (go_at_call 43; (with_reducible refine (HOP.out _).mono ?_); rintro e wz ⟨rfl, hbz⟩)
          | (refine step_append_lies _ rfl _ _ _ rfl w.heap.size 40 i0 (.agg #[.int .i64 0, .int .i64 0, .int .i64 0]) 3 24 Tryd.underlying43 hi0 hz0 hz1 hz2 rfl (by decide) _ k (cellsO os) rfl ((ownsRow_below HOWN.out hbz).alloc _) ⟨wz.heap.size, 0, none⟩ 1 1 [.int .i64 (A : Int), .int .i64 (B : Int), .int .i64 (C : Int)] rfl rfl (HNEWS.out _) HONE.out (by decide) Q1.out Q2.out (Q3.out _ hbz.size) _ rfl ?_; intro g cap w9 hown9 hgrow hat hlt9))
      have hb9 : Below w.heap.size w w9 := And.left (by assumption)
      have e9 : cellsO os ++ [.int .i64 (A : Int), .int .i64 (B : Int), .int .i64 (C : Int)] = cellsO (os ++ [(A, B, C)]) := (cellsO_snoc _ _ _ _).symm
      rw [e9] at hown9
      clear hgrow hat e9
      go_wp2_with fail
      go_roundw
      case rel => exact ⟨k + 1, _, by have := HJ.out; omega, by have := HJ.out; go_num, hown9, HOK, hb9⟩
      case measure => simp [intOf]; omega
    · have hge : ¬ ((k * 3 : Nat) : Int) + 2 < la := by omega
      go_wp2_with fail
      go_ret
      exact ⟨_, rfl, ⟨k, os, by omega, hown, hok.out⟩, hb⟩

end Go.Proofs.YthhcchdjeeigpaaDoor
