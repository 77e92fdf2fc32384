/- Contracts of May of package cuf and of the document's MayUp. -/
import Derived.Test.YtigcddafiaadiaaCrow
namespace Go.Proofs.Ytigcddafiaadiaa
open Go.RowKit
set_option linter.unusedVariables false

/-- May the number at place i stand there? -/
def mayAt (xs pr : List Int) (n i : Nat) : Prop := 0 ≤ xs.getD i 0 ∧ xs.getD i 0 < n ∧ (xs.getD i 0 = i ∨ bel pr i (xs.getD i 0).toNat)
instance (xs pr : List Int) (n i : Nat) : Decidable (mayAt xs pr n i) := by unfold mayAt; infer_instance
def mayU (xs pr : List Int) : Bool := decide (xs.length = pr.length ∧ xs.length ≤ 65536 ∧ ∀ i, i < xs.length → mayAt xs pr xs.length i)

theorem mayU_yes {xs pr : List Int} {n : Nat} (hl : xs.length = n) (hp : pr.length = n) (h0 : n ≤ 65536) (h : ∀ i, i < n → mayAt xs pr n i) : mayU xs pr = true := by
  subst hl; unfold mayU; exact decide_eq_true ⟨hp.symm, h0, h⟩
theorem mayU_no {xs pr : List Int} {n k : Nat} (hl : xs.length = n) (hk : k < n) (h : ¬ mayAt xs pr n k) : mayU xs pr = false := by
  subst hl; unfold mayU; exact decide_eq_false fun h2 => h (h2.2.2 k hk)
theorem mayU_long {xs pr : List Int} {n : Nat} (hl : xs.length = n) (h : ¬ n ≤ 65536) : mayU xs pr = false := by
  subst hl; unfold mayU; exact decide_eq_false fun h2 => h h2.2.1
theorem mayU_ne {xs pr : List Int} {n m : Nat} (hl : xs.length = n) (hp : pr.length = m) (h : n ≠ m) : mayU xs pr = false := by
  subst hl hp; unfold mayU; exact decide_eq_false fun h2 => h h2.1
theorem mayU_for {n : Nat} {pr : List Int} {up : List Nat} (F : For n pr up) (hp : pr.length = n) (h0 : n ≤ 65536) : mayU (up.map fun n : Nat => (n : Int)) pr = true := by
  refine mayU_yes (by simp [F.len]) hp h0 fun i hi => ?_
  have e : (up.map fun n : Nat => (n : Int)).getD i 0 = (el up i : Nat) := by unfold el; simp [List.getD, F.len, hi]
  unfold mayAt
  rw [e]
  have h1 := F.lt i hi
  refine ⟨by omega, by omega, ?_⟩
  rcases F.ok i hi with h | h
  · left; omega
  · right; rwa [Int.toNat_natCast]
theorem for_mayU {xs pr : List Int} (h : mayU xs pr = true) : For xs.length pr (xs.map Int.toNat) ∧ (∀ i, i < xs.length → 0 ≤ xs.getD i 0) ∧ pr.length = xs.length := by
  unfold mayU at h
  obtain ⟨h1, h2, h⟩ := of_decide_eq_true h
  have e : ∀ j, j < xs.length → el (xs.map Int.toNat) j = (xs.getD j 0).toNat := fun j hj => by unfold el; simp [List.getD, hj]
  refine ⟨⟨by simp, fun i hi => ?_, fun i hi => ?_⟩, fun i hi => (h i hi).1, h1.symm⟩
  · rw [e i hi]; have := h i hi; unfold mayAt at this; omega
  · rw [e i hi]
    obtain ⟨a, b, c⟩ := h i hi
    rcases c with c | c
    · left; omega
    · exact .inr c

theorem below_v (a : Option Addr) (la ca : Nat) (pr : List Int) (x y : Nat) (w : World) {lo hi : Nat} (hp : Row lo hi w a la pr) (hx : x < la) (hy : y < la) (hm : la ≤ 1000000) (v : Bool) (hv : decide (bel pr x y) = v) :
    Calls Try.prog 23 #[.slice a la ca, .int .i64 (x : Int), .int .i64 (y : Int)] w fun e w' => e = .returned (.bool v) ∧ ∃ n, w' = w.drewN n := hv ▸ below_any a la ca pr x y w hp hx hy hm
theorem rbelow_v (a : Option Addr) (la ca : Nat) (pr : List Int) (x y : Nat) (w : World) {lo hi : Nat} (hp : Row lo hi w a la pr) (hx : x < la) (hy : y < la) (hm : la ≤ 1000000) (v : Bool) (hv : decide (bel pr x y) = v) :
    Calls Try.prog 24 #[.slice a la ca, .int .i64 (x : Int), .int .i64 (y : Int)] w fun e w' => e = .returned (.bool v) ∧ ∃ n, w' = w.drewN n := hv ▸ rbelow_any a la ca pr x y w hp hx hy hm

set_option maxRecDepth 100000 in
set_option maxHeartbeats 1000000 in
theorem may_any (a b : Option Addr) (la ca lb cb : Nat) (xs pr : List Int) (w : World) {lo hi lo2 hi2 : Nat} (hx : Row lo hi w a la xs) (hy : Row lo2 hi2 w b lb pr) (hm : la ≤ 1000000) (hm2 : lb ≤ 1000000) :
    Calls Try.prog 11 #[.slice a la ca, .slice b lb cb] w fun e w' => e = .returned (.bool (mayU xs pr)) ∧ ∃ n, w' = w.drewN n := by
  by_cases hne : la = lb
  · obtain rfl := hne
    by_cases h6 : la ≤ 65536
    · have HL := Lib.hid hx.1
      have HP := Lib.hid hx.2
      have HB := Lib.hid hy
      clear hx hy
      go_enter Try.func11, Try.ntmps11
      go_wp2_with fail
      go_loopw [19] (fun i wr => ∃ k n : Nat, k ≤ la ∧ i = .int .i64 k ∧ wr = w.drewN n ∧ Hid (∀ i, i < k → mayAt xs pr la i)) (fun i _ => la - (intOf i).toNat)
      case atStart => exact ⟨0, 0, Nat.zero_le _, rfl, rfl, fun i hi => absurd hi (by omega)⟩
      case round =>
        obtain ⟨k, n, hk, rfl, rfl, hp⟩ := hrel
        by_cases hlt : k < la
        · obtain ⟨bx, off, rfl, _, _, hc⟩ := HP.out.resolve_left (by omega)
          have ck := hc k hlt
          have hk0 : (0 : Int) ≤ k := by omega
          have hk1 : (k : Int) < la := by omega
          clear hc
          by_cases he : mayAt xs pr la k
          · have HN := Lib.hid (lt_succ_all hp.out he)
            obtain ⟨e1, e2, e3⟩ := he
            obtain ⟨u, hu⟩ : ∃ u : Nat, xs.getD k 0 = u := ⟨(xs.getD k 0).toNat, by omega⟩
            rw [hu] at ck e1 e2 e3
            rw [Int.toNat_natCast] at e3
            by_cases e4 : u = k
            · subst e4
              have hs : ((u : Int) != (u : Int)) = false := by simp
              clear hp hu e3
              go_wp2_with fail
              go_roundw
              case rel => exact ⟨u + 1, _, by omega, by go_num, rfl, HN⟩
              case measure => simp [intOf]; omega
            · have hs : ((u : Int) != (k : Int)) = true := by simp; omega
              have hb := Lib.hid (decide_eq_true (e3.resolve_left (by omega)))
              have hul : u < la := by omega
              clear hp hu e3 e4
              go_wp2_with fail
              refine (below_v _ _ _ pr k u _ (HB.out.drewN' _) hlt hul hm true hb.out).mono ?_
              rintro e w' ⟨rfl, m, rfl⟩
              go_wp2_with fail
              go_roundw
              case rel => exact ⟨k + 1, _, by omega, by go_num, rfl, HN⟩
              case measure => simp [intOf]; omega
          · have HN := Lib.hid (mayU_no HL.out hlt he)
            by_cases e1 : 0 ≤ xs.getD k 0 ∧ xs.getD k 0 < la
            · obtain ⟨u, hu⟩ : ∃ u : Nat, xs.getD k 0 = u := ⟨(xs.getD k 0).toNat, by omega⟩
              rw [hu] at ck e1
              have e3 : ¬ bel pr k u := fun e3 => he ⟨by rw [hu]; exact e1.1, by rw [hu]; exact e1.2, .inr (by rw [hu]; simpa using e3)⟩
              have e4 : ¬ u = k := fun e4 => he ⟨by rw [hu]; exact e1.1, by rw [hu]; exact e1.2, .inl (by rw [hu, e4])⟩
              have hs : ((u : Int) != (k : Int)) = true := by simp; omega
              have hb := Lib.hid (decide_eq_false e3)
              have hul : u < la := by omega
              clear hp hu e3 e4 he e1
              go_wp2_with fail
              refine (below_v _ _ _ pr k u _ (HB.out.drewN' _) hlt hul hm false hb.out).mono ?_
              rintro e w' ⟨rfl, m, rfl⟩
              go_wp2_with fail
              go_ret
              exact ⟨ret_bool HN.out.symm, _, rfl⟩
            · have HO := Lib.hid e1
              have hs : (xs.getD k 0 != (k : Int)) = true := bne_iff_ne.2 (by omega)
              generalize xs.getD k 0 = v at *
              clear hp he e1
              go_wp2_with fail
              refine (below_out _ _ _ k v _ hlt HO.out hm).mono ?_
              rintro e w' ⟨rfl, rfl⟩
              go_wp2_with fail
              go_ret
              exact ⟨ret_bool HN.out.symm, _, rfl⟩
        · obtain rfl : k = la := by omega
          have HN := Lib.hid (mayU_yes HL.out HB.out.1 h6 hp.out)
          clear hp
          go_wp2_with fail
          go_ret
          exact ⟨ret_bool HN.out.symm, _, rfl⟩
    · have HN := Lib.hid (mayU_long (pr := pr) hx.1 h6)
      clear hx hy
      go_enter Try.func11, Try.ntmps11
      go_wp2_with fail
      go_ret
      exact ⟨ret_bool HN.out.symm, 0, rfl⟩
  · have HN := Lib.hid (mayU_ne hx.1 hy.1 hne)
    have hs : ((la : Int) != (lb : Int)) = true := by simp; omega
    clear hx hy
    go_enter Try.func11, Try.ntmps11
    go_wp2_with fail
    go_ret
    exact ⟨ret_bool HN.out.symm, 0, rfl⟩

set_option maxRecDepth 100000 in
set_option maxHeartbeats 1000000 in
theorem rmay_any (a b : Option Addr) (la ca lb cb : Nat) (xs pr : List Int) (w : World) {lo hi lo2 hi2 : Nat} (hx : Row lo hi w a la xs) (hy : Row lo2 hi2 w b lb pr) (hm : la ≤ 1000000) (hm2 : lb ≤ 1000000) :
    Calls Try.prog 12 #[.slice a la ca, .slice b lb cb] w fun e w' => e = .returned (.bool (mayU xs pr)) ∧ ∃ n, w' = w.drewN n := by
  by_cases hne : la = lb
  · obtain rfl := hne
    by_cases h6 : la ≤ 65536
    · have HL := Lib.hid hx.1
      have HP := Lib.hid hx.2
      have HB := Lib.hid hy
      clear hx hy
      go_enter Try.func12, Try.ntmps12
      go_wp2_with fail
      go_loopw [5] (fun i wr => ∃ k n : Nat, k ≤ la ∧ i = .int .i64 k ∧ wr = w.drewN n ∧ Hid (∀ i, i < k → mayAt xs pr la i)) (fun i _ => la - (intOf i).toNat)
      case atStart => exact ⟨0, 0, Nat.zero_le _, rfl, rfl, fun i hi => absurd hi (by omega)⟩
      case round =>
        obtain ⟨k, n, hk, rfl, rfl, hp⟩ := hrel
        by_cases hlt : k < la
        · obtain ⟨bx, off, rfl, _, _, hc⟩ := HP.out.resolve_left (by omega)
          have ck := hc k hlt
          have hk0 : (0 : Int) ≤ k := by omega
          have hk1 : (k : Int) < la := by omega
          clear hc
          by_cases he : mayAt xs pr la k
          · have HN := Lib.hid (lt_succ_all hp.out he)
            obtain ⟨e1, e2, e3⟩ := he
            obtain ⟨u, hu⟩ : ∃ u : Nat, xs.getD k 0 = u := ⟨(xs.getD k 0).toNat, by omega⟩
            rw [hu] at ck e1 e2 e3
            rw [Int.toNat_natCast] at e3
            by_cases e4 : u = k
            · subst e4
              have hs : ((u : Int) != (u : Int)) = false := by simp
              clear hp hu e3
              go_wp2_with (go_at_call 22; (with_reducible refine (rthere_yes _ _ _ e1 e2).mono ?_); rintro e w' ⟨rfl, rfl⟩)
              go_roundw
              case rel => exact ⟨u + 1, _, by omega, by go_num, rfl, HN⟩
              case measure => simp [intOf]; omega
            · have hs : ((u : Int) != (k : Int)) = true := by simp; omega
              have hb := Lib.hid (decide_eq_true (e3.resolve_left (by omega)))
              have hul : u < la := by omega
              clear hp hu e3 e4
              go_wp2_with (go_at_call 22; (with_reducible refine (rthere_yes _ _ _ e1 e2).mono ?_); rintro e w' ⟨rfl, rfl⟩)
              refine (rbelow_v _ _ _ pr k u _ (HB.out.drewN' _) hlt hul hm true hb.out).mono ?_
              rintro e w' ⟨rfl, m, rfl⟩
              go_wp2_with fail
              go_roundw
              case rel => exact ⟨k + 1, _, by omega, by go_num, rfl, HN⟩
              case measure => simp [intOf]; omega
          · have HN := Lib.hid (mayU_no HL.out hlt he)
            by_cases e1 : 0 ≤ xs.getD k 0 ∧ xs.getD k 0 < la
            · obtain ⟨u, hu⟩ : ∃ u : Nat, xs.getD k 0 = u := ⟨(xs.getD k 0).toNat, by omega⟩
              rw [hu] at ck e1
              have e3 : ¬ bel pr k u := fun e3 => he ⟨by rw [hu]; exact e1.1, by rw [hu]; exact e1.2, .inr (by rw [hu]; simpa using e3)⟩
              have e4 : ¬ u = k := fun e4 => he ⟨by rw [hu]; exact e1.1, by rw [hu]; exact e1.2, .inl (by rw [hu, e4])⟩
              have hs : ((u : Int) != (k : Int)) = true := by simp; omega
              have hb := Lib.hid (decide_eq_false e3)
              have hul : u < la := by omega
              obtain ⟨e5, e6⟩ := e1
              clear hp hu e3 e4 he
              go_wp2_with (go_at_call 22; (with_reducible refine (rthere_yes _ _ _ e5 e6).mono ?_); rintro e w' ⟨rfl, rfl⟩)
              refine (rbelow_v _ _ _ pr k u _ (HB.out.drewN' _) hlt hul hm false hb.out).mono ?_
              rintro e w' ⟨rfl, m, rfl⟩
              go_wp2_with fail
              go_ret
              exact ⟨ret_bool HN.out.symm, _, rfl⟩
            · have HO := Lib.hid e1
              generalize xs.getD k 0 = v at *
              clear hp he e1
              go_wp2_with (go_at_call 22; (with_reducible refine (rthere_no _ _ _ HO.out).mono ?_); rintro e w' ⟨rfl, rfl⟩)
              go_ret
              exact ⟨ret_bool HN.out.symm, _, rfl⟩
        · obtain rfl : k = la := by omega
          have HN := Lib.hid (mayU_yes HL.out HB.out.1 h6 hp.out)
          clear hp
          go_wp2_with fail
          go_ret
          exact ⟨ret_bool HN.out.symm, _, rfl⟩
    · have HN := Lib.hid (mayU_long (pr := pr) hx.1 h6)
      clear hx hy
      go_enter Try.func12, Try.ntmps12
      go_wp2_with fail
      go_ret
      exact ⟨ret_bool HN.out.symm, 0, rfl⟩
  · have HN := Lib.hid (mayU_ne hx.1 hy.1 hne)
    have hs : ((la : Int) != (lb : Int)) = true := by simp; omega
    clear hx hy
    go_enter Try.func12, Try.ntmps12
    go_wp2_with fail
    go_ret
    exact ⟨ret_bool HN.out.symm, 0, rfl⟩

end Go.Proofs.Ytigcddafiaadiaa
