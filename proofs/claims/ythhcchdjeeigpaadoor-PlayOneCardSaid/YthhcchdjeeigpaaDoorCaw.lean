/- Contracts of the statements' own awake, op, Prio. -/
import Derived.Test.YthhcchdjeeigpaaDoorCstep
import Derived.Laws.MakeOwn
import Derived.IntWalk
namespace Go.Proofs.YthhcchdjeeigpaaDoor
open Go.RowKit
set_option linter.unusedVariables false
set_option linter.unusedSimpArgs false

/-- A slice of bytes. -/
abbrev RowY := RowF (fun n : Nat => Value.int .u8 (n : Int)) (0 : Nat)

theorem awake_step (b1 b2 : Nat) (w : World) {lo hi : Nat} (hp : RowN lo hi w (some ⟨b1, 0, none⟩) 1 [0]) (hq : RowN lo hi w (some ⟨b2, 0, none⟩) 1 [0]) (hh : hi ≤ w.heap.size) :
    Calls Tryd.prog 60 #[.slice (some ⟨b1, 0, none⟩) 1 1, .slice (some ⟨b2, 0, none⟩) 1 1, .agg #[.int .i64 1, .int .i64 0, .int .i64 0, .int .i64 1, .int .i64 0, .int .i64 0, .int .i64 0, .int .i64 0, .bool false, .int .i64 0]] w fun e w' =>
      ∃ g c, e = .returned (.tuple #[.slice (some ⟨g, 0, none⟩) 1 c, .agg #[.int .i64 1, .int .i64 0, .int .i64 0, .int .i64 1, .int .i64 0, .int .i64 0, .int .i64 0, .int .i64 0, .bool true, .int .i64 0]]) ∧ Below w.heap.size w w' := by
  have I : Inv 1 [0] [0] ⟨1, 0, 0, 1, 0, 0, 0, 0, false, 0⟩ := inv_new (by omega) (by omega) (by omega) (by omega)
  have h := step_any (some ⟨b1, 0, none⟩) (some ⟨b2, 0, none⟩) 1 1 1 [0] [0] ⟨1, 0, 0, 1, 0, 0, 0, 0, false, 0⟩ w I hp hh hq.ints hh (by omega)
  exact h.mono fun e w' ⟨g, c, h1, _, _, h4⟩ => ⟨g, c, h1, h4⟩

theorem Tryd.opInfo : (Tryd.prog.info? 40).map (fun i => (i.zero, i.size, i.bytes)) = some (some (.agg #[.int .i64 0, .int .i64 0, .int .i64 0]), 3, 24) := by kernel_rfl

set_option maxRecDepth 100000 in
set_option maxHeartbeats 1000000 in
theorem op_any (a b c n : Nat) (w : World) (hn : 0 < n) (h6 : n ≤ 1000000) (ha : a ≤ 255) (hb : b ≤ 255) (hc : c ≤ 255) :
    Calls Tryd.prog 43 #[.int .u8 (a : Int), .int .u8 (b : Int), .int .u8 (c : Int), .int .i64 (n : Int)] w fun e w' => e = .returned (.agg #[.int .i64 ((1 + a % 3 : Nat) : Int), .int .i64 ((b % n : Nat) : Int), .int .i64 ((c % n : Nat) : Int)]) ∧ Below w.heap.size w w' := by
  have hn0 : ¬ n = 0 := by omega
  have hn1 : ((n : Int) == 0) = false := by simp; omega
  have w3 : IntKind.i64.wrap (a : Int) = (a : Int) := IntWalk.i64_in _ (by omega)
  have w4 : IntKind.i64.wrap (b : Int) = (b : Int) := IntWalk.i64_in _ (by omega)
  have w5 : IntKind.i64.wrap (c : Int) = (c : Int) := IntWalk.i64_in _ (by omega)
  obtain ⟨A, hA⟩ : ∃ A : Nat, a % 3 = A := ⟨_, rfl⟩
  obtain ⟨B, hB⟩ : ∃ B : Nat, b % n = B := ⟨_, rfl⟩
  obtain ⟨C, hC⟩ : ∃ C : Nat, c % n = C := ⟨_, rfl⟩
  have v1 : (a : Int).tmod 3 = (A : Int) := by rw [← hA]; exact (Int.ofNat_tmod a 3).symm
  have v2 : (b : Int).tmod (n : Int) = (B : Int) := by rw [← hB]; exact (Int.ofNat_tmod b n).symm
  have v3 : (c : Int).tmod (n : Int) = (C : Int) := by rw [← hC]; exact (Int.ofNat_tmod c n).symm
  have b1 : A < 3 := by omega
  have b2 : B < n := by rw [← hB]; exact Nat.mod_lt _ hn
  have b3 : C < n := by rw [← hC]; exact Nat.mod_lt _ hn
  have v4 : IntKind.i64.wrap (A : Int) = (A : Int) := IntWalk.i64_in _ (by omega)
  have v5 : IntKind.i64.wrap (B : Int) = (B : Int) := IntWalk.i64_in _ (by omega)
  have v6 : IntKind.i64.wrap (C : Int) = (C : Int) := IntWalk.i64_in _ (by omega)
  have v7 : IntKind.i64.wrap (1 + (A : Int)) = 1 + (A : Int) := IntWalk.i64_in _ (by omega)
  rw [hA, hB, hC]
  have eA : ((1 + A : Nat) : Int) = 1 + (A : Int) := by omega
  rw [eA]
  clear hA hB hC eA
  go_enter Tryd.func43, Tryd.ntmps43
  go_wp2_with fail
  go_region
  go_wp2_with fail
  refine bodyPost_ret (v := .agg #[.int .i64 (1 + (A : Int)), .int .i64 (B : Int), .int .i64 (C : Int)]) (by simp only [results, Tryd.results43]; go_simp) rfl ⟨rfl, ?_⟩
  exact ((Below.refl _ _).alloc (Nat.le_refl _) _).drew

set_option maxRecDepth 100000 in
set_option maxHeartbeats 1000000 in
theorem prio_any (a : Option Addr) (la ca : Nat) (ns : List Nat) (n : Nat) (w : World) {lo hi : Nat} (hp : RowY lo hi w a la ns) (hby : ∀ i, i < la → ns.getD i 0 ≤ 255) (hhi : hi ≤ w.heap.size) (hl : la ≤ 9223372036854775807) (hn : n ≤ 1000) :
    Calls Tryd.prog 20 #[.slice a la ca, .int .i64 (n : Int)] w fun e w' => ∃ g pr, e = .returned (.slice (some ⟨g, 0, none⟩) n n) ∧ w.heap.size ≤ g ∧ Row w.heap.size w'.heap.size w' (some ⟨g, 0, none⟩) n pr ∧ Below w.heap.size w w' := by
  obtain ⟨i0, hi0, hz0, hz1, hz2⟩ := info_parts Tryd.info3
  have HP := Lib.hid hp
  have HB := Lib.hid hby
  clear hp hby
  go_enter Tryd.func20, Tryd.ntmps20
  go_wp2_with (at_make; refine wpList_make_full _ rfl _ _ 22 rfl w.heap.size 3 i0 (.int .i64 0) 1 Tryd.underlying22 hi0 hz0 hz1 _ _ _ _ n rfl rfl rfl rfl ?m1 ?m2 ?m3 ?_)
  case m1 => rw [hz2]; omega
  case m2 => unfold maxLen; omega
  case m3 => simp
  intro w1 hown hgr
  rw [toList_madeCells_one] at hown
  have hb1 : Below w.heap.size w w1 := (Below.refl _ _).grown hgr (Nat.le_refl _) (by simp)
  clear hgr
  go_wp2_with fail
  go_loopw [6] (fun i wr => ∃ (k : Nat) (xs : List Int), k ≤ n ∧ i = .int .i64 (k : Int) ∧ wr.ownsRow w.heap.size 3 1 (.slice (some ⟨w.heap.size, 0, none⟩) n n) n (xs.map (Value.int .i64)) ∧ Below w.heap.size w wr) (fun i _ => n - (intOf i).toNat)
  case atStart => exact ⟨0, List.replicate n 0, Nat.zero_le _, rfl, by simpa using hown, hb1⟩
  case round =>
    clear hown hb1
    obtain ⟨k, xs, hk, rfl, hown, hb⟩ := hrel
    have hxl : xs.length = n := by have := hown.1; simpa using this
    by_cases hlt : k < n
    · by_cases h0 : 0 < la
      · obtain ⟨b, off, rfl, _, hbb, hc⟩ := HP.out.2.resolve_left (by omega)
        obtain ⟨r, hr⟩ : ∃ r : Nat, k % la = r := ⟨_, rfl⟩
        have hrl : r < la := by rw [← hr]; exact Nat.mod_lt _ h0
        have cr := (hb.cell (p := ⟨b, off + r, none⟩) (by show b < _; omega)).trans (hc r hrl)
        have br := HB.out r hrl
        generalize ns.getD r 0 = y at *
        have hs := hb.size
        have hg2 := (hown.lt w.heap.size rfl).2
        have ck := (hown.cellAt k (by omega)).trans (show (xs.map (Value.int .i64))[k]? = some (.int .i64 (xs.getD k 0)) by simp [List.getD, show k < xs.length by omega])
        have fk := hown.frozenAt k
        have hst := (hown.stored k (.int .i64 ((y % 5 : Nat) : Int))).1
        have e5 : (xs.map (Value.int .i64)).set k (.int .i64 ((y % 5 : Nat) : Int)) = (xs.set k ((y % 5 : Nat) : Int)).map (Value.int .i64) := by rw [List.map_set]
        rw [e5] at hst
        have HST := Lib.hid hst
        have HOWN := Lib.hid hown
        have hla0 : ((la : Int) == 0) = false := by simp; omega
        have hbw : b < wr.heap.size := by omega
        have w1' : ((k : Int) % (la : Int)) = (r : Int) := by rw [← hr]; rfl
        have w2' : (y : Int) % 5 = ((y % 5 : Nat) : Int) := rfl
        obtain ⟨z, hz⟩ : ∃ z : Nat, y % 5 = z := ⟨_, rfl⟩
        rw [hz] at w2' HST
        have hr0 : (0 : Int) ≤ r := by omega
        have hr1 : (r : Int) < la := by omega
        generalize xs.getD k 0 = q at *
        clear hst hown e5 hc hr hz hxl
        go_wp2_with fail
        go_roundw
        case rel => exact ⟨k + 1, _, by omega, by go_num, HST.out, hb.setCell (Nat.le_refl _) _⟩
        case measure => simp [intOf]; omega
      · obtain rfl : la = 0 := by omega
        go_wp2_with fail
        go_ret
        have h2 := RowF.of_owns (f := Value.int .i64) (d := (0 : Int)) (xs := xs) (by rw [hxl]; exact hown)
        rw [hxl] at h2
        obtain ⟨a', c', e', hr⟩ := h2
        cases e'
        exact ⟨_, xs, rfl, Nat.le_refl _, hr, hb⟩
    · obtain rfl : k = n := by omega
      go_wp2_with fail
      go_ret
      have h2 := RowF.of_owns (f := Value.int .i64) (d := (0 : Int)) (xs := xs) (by rw [hxl]; exact hown)
      rw [hxl] at h2
      obtain ⟨a', c', e', hr⟩ := h2
      cases e'
      exact ⟨_, xs, rfl, Nat.le_refl _, hr, hb⟩

end Go.Proofs.YthhcchdjeeigpaaDoor
