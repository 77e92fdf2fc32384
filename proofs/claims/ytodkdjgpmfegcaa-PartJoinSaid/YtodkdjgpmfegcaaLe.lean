/- Contracts of Le of package part and of the document. -/
import Derived.Test.YtodkdjgpmfegcaaSmall
namespace Go.Proofs.Ytodkdjgpmfegcaa
open Go.RowKit
set_option linter.unusedVariables false

theorem RowF.drewN {α : Type} {f : α → Value} {d : α} {lo hi : Nat} {w : World} {a : Option Addr} {len : Nat} {xs : List α} (h : RowF f d lo hi w a len xs) (n : Nat) : RowF f d lo hi (w.drewN n) a len xs := h

theorem leB_len {p q : List Nat} (h : p.length ≠ q.length) : leB p q = false := by unfold leB; simp [h]
theorem leB_yes {p q : List Nat} {n : Nat} (h1 : p.length = n) (h2 : q.length = n) (h : ∀ i, i < n → el q i = el q (el p i)) : leB p q = true := leB_iff.2 ⟨h1.trans h2.symm, by rw [h1]; exact h⟩
theorem leB_no {p q : List Nat} {n k : Nat} (h1 : p.length = n) (hk : k < n) (h : el q k ≠ el q (el p k)) : leB p q = false := by
  rw [Bool.eq_false_iff]
  intro e
  exact h ((leB_iff.1 e).2 k (by omega))
theorem lt_succ_all {P : Nat → Prop} {k : Nat} (h : ∀ i, i < k → P i) (hk : P k) : ∀ i, i < k + 1 → P i := by
  intro i hi
  rcases Nat.lt_or_ge i k with h1 | h1
  · exact h i h1
  · obtain rfl : i = k := by omega
    exact hk

theorem le_any (a b : Option Addr) (la ca lb cb : Nat) (p q : List Nat) (w : World) {lo hi lo2 hi2 : Nat} (hp : RowN lo hi w a la p) (hq : RowN lo2 hi2 w b lb q) (hg : ∀ i, i < la → el p i < la) (hm : la ≤ 9223372036854775807) :
    Calls Try.prog 21 #[.slice a la ca, .slice b lb cb] w fun e w' => e = .returned (.bool (leB p q)) ∧ ∃ n, w' = w.drewN n := by
  by_cases hab : la = lb
  · subst hab
    have HL := Lib.hid (And.intro hp.1 hq.1)
    have HP := Lib.hid hp
    have HQ := Lib.hid hq
    have HG := Lib.hid hg
    clear hp hq hg
    go_enter Try.func21, Try.ntmps21
    go_wp2_with fail
    go_loopw [14] (fun i wr => ∃ k n : Nat, k ≤ la ∧ i = .int .i64 k ∧ wr = w.drewN n ∧ Hid (∀ i, i < k → el q i = el q (el p i))) (fun i _ => la - (intOf i).toNat)
    case atStart => exact ⟨0, 0, Nat.zero_le _, rfl, rfl, fun i hi => absurd hi (by omega)⟩
    case round =>
      obtain ⟨k, n, hk, rfl, rfl, hp⟩ := hrel
      by_cases hlt : k < la
      · obtain ⟨bA, oA, rfl, _, _, hc⟩ := HP.out.at_ hlt
        have ck := hc k hlt
        have hb := HG.out k hlt
        clear hc
        have e : sameB q k (el p k : Nat) = decide (el q k = el q (el p k)) := by
          have := HL.out.2
          unfold sameB; rw [decide_eq_decide]; simp; omega
        by_cases he : el q k = el q (el p k)
        · have HN := Lib.hid (lt_succ_all hp.out he)
          have HE := Lib.hid (e.trans (decide_eq_true he))
          generalize el p k = u at *
          clear he e hp
          go_wp2_with fail
          refine (same_any _ _ _ q _ _ _ (HQ.out.drewN n) hm).mono ?_
          rw [HE.out]
          rintro e w' ⟨rfl, m, rfl⟩
          go_wp2_with fail
          go_roundw
          case rel => exact ⟨k + 1, _, by omega, by go_num, rfl, HN⟩
          case measure => simp [intOf]; omega
        · have HN := Lib.hid (leB_no (q := q) HL.out.1 hlt he)
          have HE := Lib.hid (e.trans (decide_eq_false he))
          generalize el p k = u at *
          clear he e hp
          go_wp2_with fail
          refine (same_any _ _ _ q _ _ _ (HQ.out.drewN n) hm).mono ?_
          rw [HE.out]
          rintro e w' ⟨rfl, m, rfl⟩
          go_wp2_with fail
          go_ret
          exact ⟨ret_bool HN.out.symm, _, by first | exact rfl | exact World.drewN_drewN _ _ _⟩
      · obtain rfl : k = la := by omega
        have HN := Lib.hid (leB_yes HL.out.1 HL.out.2 hp.out)
        clear hp
        go_wp2_with fail
        go_ret
        exact ⟨ret_bool HN.out.symm, _, by first | exact rfl | exact World.drewN_drewN _ _ _⟩
  · have hne := leB_len (show p.length ≠ q.length by rw [hp.1, hq.1]; exact hab)
    have hni : ((la : Int) != (lb : Int)) = true := by simp; omega
    rw [hne]
    clear hp hq hg hne
    go_enter Try.func21, Try.ntmps21
    go_wp2_with fail
    go_ret
    exact ⟨rfl, 0, rfl⟩

theorem rle_any (a b : Option Addr) (la ca lb cb : Nat) (p q : List Nat) (w : World) {lo hi lo2 hi2 : Nat} (hp : RowN lo hi w a la p) (hq : RowN lo2 hi2 w b lb q) (hg : ∀ i, i < la → el p i < la) (hm : la ≤ 9223372036854775807) :
    Calls Try.prog 22 #[.slice a la ca, .slice b lb cb] w fun e w' => e = .returned (.bool (leB p q)) ∧ ∃ n, w' = w.drewN n := by
  by_cases hab : la = lb
  · subst hab
    have HL := Lib.hid (And.intro hp.1 hq.1)
    have HP := Lib.hid hp
    have HQ := Lib.hid hq
    have HG := Lib.hid hg
    clear hp hq hg
    go_enter Try.func22, Try.ntmps22
    go_wp2_with fail
    go_loopw [5] (fun i wr => ∃ k n : Nat, k ≤ la ∧ i = .int .i64 k ∧ wr = w.drewN n ∧ Hid (∀ i, i < k → el q i = el q (el p i))) (fun i _ => la - (intOf i).toNat)
    case atStart => exact ⟨0, 0, Nat.zero_le _, rfl, rfl, fun i hi => absurd hi (by omega)⟩
    case round =>
      obtain ⟨k, n, hk, rfl, rfl, hp⟩ := hrel
      by_cases hlt : k < la
      · obtain ⟨bA, oA, rfl, _, _, hc⟩ := HP.out.at_ hlt
        obtain ⟨bB, oB, rfl, _, _, hd⟩ := HQ.out.at_ hlt
        have ck := hc k hlt
        have hb := HG.out k hlt
        have dk := hd k hlt
        have dm := hd _ hb
        clear hc hd
        have hp2 := hp
        by_cases he : el q k = el q (el p k)
        · have HN := Lib.hid (lt_succ_all hp.out he)
          rw [← he] at dm
          have hs : (((el q k : Nat) : Int) != ((el q k : Nat) : Int)) = false := by simp
          generalize el q k = v at *
          generalize el p k = u at *
          clear he hp hp2
          have hu0 : (0 : Int) ≤ u := by omega
          have hu1 : (u : Int) < la := by omega
          have hk0 : (0 : Int) ≤ k := by omega
          have hk1 : (k : Int) < la := by omega
          go_wp2_with fail
          go_quiet (fail)
          go_wp2_with fail
          go_roundw
          case rel => exact ⟨k + 1, _, by omega, by go_num, rfl, HN⟩
          case measure => simp [intOf]; omega
        · have HN := Lib.hid (leB_no (q := q) HL.out.1 hlt he)
          have hs : (((el q k : Nat) : Int) != ((el q (el p k) : Nat) : Int)) = true := by simp; omega
          generalize el q (el p k) = x at *
          generalize el q k = v at *
          generalize el p k = u at *
          clear he hp hp2
          have hu0 : (0 : Int) ≤ u := by omega
          have hu1 : (u : Int) < la := by omega
          have hk0 : (0 : Int) ≤ k := by omega
          have hk1 : (k : Int) < la := by omega
          go_wp2_with fail
          go_quiet (fail)
          go_wp2_with fail
          go_ret
          exact ⟨ret_bool HN.out.symm, _, by first | exact rfl | exact World.drewN_drewN _ _ _⟩
      · obtain rfl : k = la := by omega
        have HN := Lib.hid (leB_yes HL.out.1 HL.out.2 hp.out)
        clear hp
        go_wp2_with fail
        go_ret
        exact ⟨ret_bool HN.out.symm, _, by first | exact rfl | exact World.drewN_drewN _ _ _⟩
  · have hne := leB_len (show p.length ≠ q.length by rw [hp.1, hq.1]; exact hab)
    have hni : ((la : Int) != (lb : Int)) = true := by simp; omega
    rw [hne]
    clear hp hq hg hne
    go_enter Try.func22, Try.ntmps22
    go_wp2_with fail
    go_ret
    exact ⟨rfl, 0, rfl⟩

end Go.Proofs.Ytodkdjgpmfegcaa
