/- Contracts of root, link, flat, rising of package part. -/
import Derived.Test.YtodkdjgpmfegcaaNew
namespace Go.Proofs.Ytodkdjgpmfegcaa
open Go.RowKit
set_option linter.unusedVariables false

theorem grown_set {a w : World} {g : Nat} (h : a.grownBy w (some g)) (i : Nat) (v : Value) : a.grownBy (w.setCell ⟨g, i, none⟩ v) (some g) :=
  ⟨h.os, h.tape, h.output, by simpa [World.setCell] using h.size, fun k hk hne => (Below.heap_setCell w _ v k (fun e => hne (congrArg some e))).trans (h.block k hk hne)⟩
theorem grown_andThen {a b c : World} {g : Nat} (h : a.grownBy b (some g)) (k : b.grownBy c (some g)) : a.grownBy c (some g) :=
  ⟨k.os.trans h.os, k.tape.trans h.tape, k.output.trans h.output, Nat.le_trans h.size k.size, fun i hi hne => (k.block i (Nat.lt_of_lt_of_le hi h.size) hne).trans (h.block i hi hne)⟩

theorem box_set {w : World} {g i v : Nat} {u : List Nat} (h : Box w g 3 (intsOf u)) : Box (w.setCell ⟨g, i, none⟩ (.int .i64 (v : Int))) g 3 (intsOf (u.set i v)) := by
  rw [← intsOf_set]; exact h.set i _

theorem box_el {w : World} {g i : Nat} {u : List Nat} (h : Box w g 3 (intsOf u)) (hi : i < u.length) : w.cell? ⟨g, i, none⟩ = some (.int .i64 (el u i : Nat)) := by
  rw [h.cell i, intsOf_get hi]

def Same (u u' : List Nat) : Prop := u'.length = u.length ∧ Up u' ∧ ∀ z, z < u.length → rt u' z = rt u z
theorem Same.refl {u : List Nat} (h : Up u) : Same u u := ⟨rfl, h, fun _ _ => rfl⟩
theorem Same.trans {u v w : List Nat} (h : Same u v) (k : Same v w) : Same u w := ⟨k.1.trans h.1, k.2.1, fun z hz => (k.2.2 z (by rw [h.1]; exact hz)).trans (h.2.2 z hz)⟩
theorem Same.half {u v : List Nat} (h : Same u v) {x : Nat} (hx : x < u.length) : Same u (v.set x (el v (el v x))) :=
  h.trans ⟨by simp, up_half h.2.1 (by rw [h.1]; exact hx), rt_half h.2.1 (by rw [h.1]; exact hx)⟩

theorem root_any (g n c : Nat) (u : List Nat) (x : Nat) (w : World) (hb : Box w g 3 (intsOf u)) (hl : u.length = n) (hu : Up u) (hx : x < n) (hm : n ≤ 65536) :
    Calls Try.prog 31 #[.slice (some ⟨g, 0, none⟩) n c, .int .i64 x] w fun e w' => ∃ u', e = .returned (.int .i64 (rt u x : Nat)) ∧ Same u u' ∧ Box w' g 3 (intsOf u') ∧ w.grownBy w' (some g) := by
  have HL := Lib.hid hl
  have HU := Lib.hid hu
  clear hl hu
  go_enter Try.func31, Try.ntmps31
  go_wp2_with fail
  go_loopw [1] (fun s wr => ∃ (y : Nat) (u' : List Nat), s = .int .i64 y ∧ y < n ∧ Box wr g 3 (intsOf u') ∧ Hid (Same u u') ∧ Hid (rt u y = rt u x) ∧ w.grownBy wr (some g)) (fun s _ => (intOf s).toNat)
  case atStart => exact ⟨x, u, rfl, hx, hb, Same.refl HU.out, rfl, World.grownBy.refl _ _⟩
  case round =>
    clear hb hx
    obtain ⟨y, v, rfl, hy, hb, HS, HE, hg⟩ := hrel
    have hvl : v.length = n := HS.out.1.trans HL.out
    have hle := HS.out.2.1 y (by omega)
    have hle2 := HS.out.2.1 (el v y) (by omega)
    have c1 := box_el hb (i := y) (by omega)
    have c2 := box_el hb (i := el v y) (by omega)
    have f1 := hb.frozen y
    have hsz := hb.lt
    have hst := box_set (i := y) (v := el v (el v y)) hb
    have HSame := Lib.hid (HS.out.half (x := y) (by rw [HL.out]; exact hy))
    have HR : Hid (rt u (el v (el v y)) = rt u x) := by
      have s := HS.out
      have a := s.2.2 y (by rw [HL.out]; exact hy)
      have b := s.2.2 (el v (el v y)) (by rw [HL.out]; omega)
      have d := rt_step s.2.1 (x := y) (by omega)
      have d2 := rt_step s.2.1 (x := el v y) (by omega)
      exact (b.symm.trans (d2.trans (d.trans a))).trans HE.out
    by_cases he : el v y = y
    · have HF : Hid (rt u x = y) := by
        have a := HS.out.2.2 y (by rw [HL.out]; exact hy)
        rw [rt_fix he] at a
        exact HE.out.symm.trans a.symm
      rw [he] at c1
      have hs : ((y : Int) != (y : Int)) = false := by simp
      clear he hst hle hle2 c2 hvl HR HSame
      go_wp2_with fail
      go_ret
      exact ⟨v, ret_i64 (by rw [HF.out]), HS.out, hb, hg⟩
    · have hlt : el v y < y := by omega
      have hs : (((el v y : Nat) : Int) != (y : Int)) = true := by simp; omega
      have hy0 : el v y < n := by omega
      have HST := Lib.hid hst
      have HB := Lib.hid hb
      generalize el v (el v y) = v2 at *
      generalize el v y = v1 at *
      clear he hst hle hvl hb
      go_wp2_with fail
      go_roundw
      case rel => exact ⟨v2, _, rfl, by omega, HST.out, HSame, HR, grown_set hg _ _⟩
      case measure => simp [intOf]; omega

theorem link_any (g n c : Nat) (u : List Nat) (x y : Nat) (w : World) (hb : Box w g 3 (intsOf u)) (hl : u.length = n) (hu : Up u) (hx : x < n) (hy : y < n) (hm : n ≤ 65536) :
    Calls Try.prog 29 #[.slice (some ⟨g, 0, none⟩) n c, .int .i64 x, .int .i64 y] w fun e w' => ∃ u' b, e = .returned (.bool b) ∧ (b = true → rt u x ≠ rt u y) ∧ u'.length = n ∧ Up u' ∧ (∀ z, z < n → rt u' z = join (rt u x) (rt u y) (rt u z)) ∧ Box w' g 3 (intsOf u') ∧ w.grownBy w' (some g) := by
  have HL := Lib.hid hl
  have HU := Lib.hid hu
  clear hl hu
  obtain ⟨a, ha⟩ : ∃ a, rt u x = a := ⟨_, rfl⟩
  obtain ⟨b, hb'⟩ : ∃ b, rt u y = b := ⟨_, rfl⟩
  have HA := Lib.hid ha
  have HB := Lib.hid hb'
  have hb0 := Lib.hid hb
  rw [ha, hb']
  clear ha hb' hb
  go_enter Try.func29, Try.ntmps29
  go_wp2_with fail
  refine (root_any g n _ u x _ hb0.out HL.out HU.out hx hm).mono ?_
  rw [HA.out]
  rintro e w1 ⟨u1, rfl, hs1, hb1, hg1⟩
  have HS1 := Lib.hid hs1
  have HB1 := Lib.hid hb1
  clear hs1 hb1
  go_wp2_with fail
  refine (root_any g n _ u1 y _ HB1.out (HS1.out.1.trans HL.out) HS1.out.2.1 hy hm).mono ?_
  rw [HS1.out.2.2 y (by rw [HL.out]; exact hy), HB.out]
  rintro e w2 ⟨u2, rfl, hs2, hb2, hg2⟩
  have HS2 := Lib.hid (HS1.out.trans hs2)
  have hg := grown_andThen hg1 hg2
  have hl2 : u2.length = n := HS2.out.1.trans HL.out
  have haN : a < n := by rw [← HA.out, ← HL.out]; exact rt_lt HU.out (by rw [HL.out]; exact hx)
  have hbN : b < n := by rw [← HB.out, ← HL.out]; exact rt_lt HU.out (by rw [HL.out]; exact hy)
  have fa : el u2 a = a := by
    have := HS2.out.2.2 x (by rw [HL.out]; exact hx)
    rw [HA.out] at this
    rw [← this]
    exact (rt_spec HS2.out.2.1 x (by omega)).2
  have fb : el u2 b = b := by
    have := HS2.out.2.2 y (by rw [HL.out]; exact hy)
    rw [HB.out] at this
    rw [← this]
    exact (rt_spec HS2.out.2.1 y (by omega)).2
  by_cases hab : a = b
  · subst hab
    have HB2 := Lib.hid hb2
    clear hs2 hb2 hl2 fa fb
    go_wp2_with fail
    go_ret
    exact ⟨u2, false, rfl, (fun h => absurd h (by decide)), HS2.out.1.trans HL.out, HS2.out.2.1, (fun z hz => by rw [HS2.out.2.2 z (by rw [HL.out]; exact hz), join_one]), HB2.out, hg⟩
  · have hs : ((a : Int) == (b : Int)) = false := by simp; omega
    obtain ⟨A, HMin⟩ : ∃ A, Hid (A = min a b) := ⟨_, rfl⟩
    obtain ⟨B, HMax⟩ : ∃ B, Hid (B = max a b) := ⟨_, rfl⟩
    have EA : (if b < a then (b : Int) else (a : Int)) = (A : Int) := by have := HMin.out; split <;> omega
    have EB : (if a < b then (b : Int) else (a : Int)) = (B : Int) := by have := HMax.out; split <;> omega
    have hBn : B < n := by have := HMax.out; omega
    have c1 := box_el hb2 (i := B) (by omega)
    have f1 := hb2.frozen B
    have hst := box_set (i := B) (v := A) hb2
    have HST := Lib.hid hst
    have HUP : Hid (Up (u2.set B A)) := by rw [HMax.out, HMin.out]; exact up_hang HS2.out.2.1 (by omega) (by omega)
    have HRT : Hid (∀ z, z < n → rt (u2.set B A) z = join a b (rt u z)) := fun z hz => by
      rw [HMax.out, HMin.out, rt_hang HS2.out.2.1 (by omega) (by omega) fa fb hab z (by omega), HS2.out.2.2 z (by rw [HL.out]; exact hz)]
    have HLN : Hid ((u2.set B A).length = n) := by simp [Hid, hl2]
    have HNE := Lib.hid hab
    generalize el u2 B = z at *
    have hsz := hb2.lt
    clear hst hb2 fa fb hl2 hs2 hab
    go_wp2_with fail
    go_ret
    exact ⟨_, true, rfl, fun _ => HNE.out, HLN.out, HUP.out, HRT.out, HST.out, grown_set hg _ _⟩

theorem flat_any (g n c : Nat) (u : List Nat) (w : World) (hb : Box w g 3 (intsOf u)) (hl : u.length = n) (hu : Up u) (hm : n ≤ 65536) :
    Calls Try.prog 30 #[.slice (some ⟨g, 0, none⟩) n c] w fun e w' => ∃ v, e = .returned (.slice (some ⟨g, 0, none⟩) n c) ∧ v.length = n ∧ (∀ z, z < n → el v z = rt u z) ∧ Box w' g 3 (intsOf v) ∧ w.grownBy w' (some g) := by
  have HL := Lib.hid hl
  have HU := Lib.hid hu
  clear hl hu
  go_enter Try.func30, Try.ntmps30
  go_wp2_with fail
  go_loopw [6] (fun i wr => ∃ (k : Nat) (v : List Nat), k ≤ n ∧ i = .int .i64 k ∧ Box wr g 3 (intsOf v) ∧ Hid (v.length = n) ∧ Hid (∀ i, i < k → el v i = rt u i) ∧ Hid (∀ i, k ≤ i → i < n → el v i = el u i) ∧ w.grownBy wr (some g)) (fun i _ => n - (intOf i).toNat)
  case atStart => exact ⟨0, u, Nat.zero_le _, rfl, hb, HL, fun i hi => absurd hi (by omega), fun i _ _ => rfl, World.grownBy.refl _ _⟩
  case round =>
    clear hb
    obtain ⟨k, v, hk, rfl, hb, HV, H1, H2, hg⟩ := hrel
    by_cases hlt : k < n
    · have hu1 := HU.out k (by rw [HL.out]; exact hlt)
      have e1 := H2.out k (Nat.le_refl _) hlt
      have hr := flat_round HU.out (HV.out.trans HL.out.symm) (by rw [HL.out]; exact hlt) H1.out (fun i h1 h2 => H2.out i h1 (by rw [← HL.out]; exact h2))
      have c1 := box_el hb (i := k) (by rw [HV.out]; exact hlt)
      have c2 := box_el hb (i := el v k) (by rw [HV.out, e1]; omega)
      have f1 := hb.frozen k
      have hst := box_set (i := k) (v := el v (el v k)) hb
      have hle : el v k ≤ k := by omega
      rw [hr] at c2 hst
      have HST := Lib.hid hst
      have HB := Lib.hid hb
      have hsz := hb.lt
      have K1 : Hid (∀ i, i < k + 1 → el (v.set k (rt u k)) i = rt u i) := lt_succ_all (fun i hi => by rw [el_set_other (by omega)]; exact H1.out i hi) (el_set_self (by rw [HV.out]; exact hlt))
      have K2 : Hid (∀ i, k + 1 ≤ i → i < n → el (v.set k (rt u k)) i = el u i) := fun i h1 h2 => by rw [el_set_other (by omega)]; exact H2.out i (by omega) h2
      have K0 : Hid ((v.set k (rt u k)).length = n) := by simp [Hid, HV.out]
      generalize rt u k = r at *
      generalize el v k = v1 at *
      clear hst hb hr e1 hu1
      go_wp2_with fail
      go_roundw
      case rel => exact ⟨k + 1, _, by omega, by go_num, HST.out, K0, K1, K2, grown_set hg _ _⟩
      case measure => simp [intOf]; omega
    · obtain rfl : k = n := by omega
      go_wp2_with fail
      go_ret
      exact ⟨v, rfl, HV.out, H1.out, hb, hg⟩

theorem rising_any (x y : Int) (w : World) :
    Calls Try.prog 28 #[.agg #[.int .i64 x, .int .i64 y]] w fun e w' => e = .returned (.agg #[.int .i64 (min x y), .int .i64 (max x y)]) ∧ Below w.heap.size w w' := by
  obtain ⟨A, HA⟩ : ∃ A, Hid (A = min x y) := ⟨_, rfl⟩
  obtain ⟨B, HB⟩ : ∃ B, Hid (B = max x y) := ⟨_, rfl⟩
  have EA : (if y < x then y else x) = A := by have := HA.out; split <;> omega
  have EB : (if x < y then y else x) = B := by have := HB.out; split <;> omega
  rw [← HA.out, ← HB.out]
  go_enter Try.func28, Try.ntmps28
  go_wp2_with fail
  refine bodyPost_ret (v := .agg #[.int .i64 A, .int .i64 B]) (by simp only [results, Try.results28]; go_simp) rfl ⟨rfl, ?_⟩
  exact ((Below.refl _ _).alloc (Nat.le_refl _) _).alloc (by simp) _

end Go.Proofs.Ytodkdjgpmfegcaa
