/- Contracts of Root of package cuf and of the document. -/
import Derived.Test.YthhcchdjeeigpaaDoorCmay
namespace Go.Proofs.YthhcchdjeeigpaaDoor
open Go.RowKit
set_option linter.unusedVariables false

/-- Root of whatever number: -1 where it is none of them. -/
def rootI (up : List Nat) (x : Int) : Int := if 0 ≤ x ∧ x < up.length then (rtu up x.toNat : Nat) else -1
theorem rootI_in {up : List Nat} {n x : Nat} (hl : up.length = n) (hx : x < n) : rootI up (x : Int) = (rtu up x : Nat) := by
  subst hl; unfold rootI; rw [if_pos (by omega), Int.toNat_natCast]
theorem rootI_out {up : List Nat} {n : Nat} {x : Int} (hl : up.length = n) (hx : ¬ (0 ≤ x ∧ x < n)) : rootI up x = -1 := by
  subst hl; unfold rootI; rw [if_neg hx]

set_option maxRecDepth 100000 in
set_option maxHeartbeats 1000000 in
theorem rroot_in (a : Option Addr) (la ca : Nat) (pr : List Int) (up : List Nat) (x : Nat) (w : World) {lo hi : Nat} (F : For la pr up) (hp : RowN lo hi w a la up) (hx : x < la) (hm : la ≤ 1000000) :
    Calls Tryd.prog 26 #[.slice a la ca, .int .i64 (x : Int)] w fun e w' => e = .returned (.int .i64 (rtu up x : Nat)) ∧ w = w' := by
  have HF := Lib.hid F
  obtain ⟨b, off, rfl, _, _, hc⟩ := hp.at_ hx
  have HC := Lib.hid hc
  have hx0 : (0 : Int) ≤ x := by omega
  have hx1 : (x : Int) < la := by omega
  clear F hp hc
  go_enter Tryd.func26, Tryd.ntmps26
  go_wp2_with (go_at_call 44; (with_reducible refine (rthere_yes _ _ _ hx0 hx1).mono ?_); rintro e w' ⟨rfl, rfl⟩)
  go_loop [1] (fun xv => ∃ z : Nat, xv = .int .i64 (z : Int) ∧ z < la ∧ Hid (rtu up z = rtu up x)) (fun xv => hgt pr la (intOf xv).toNat)
  case atStart => exact ⟨x, rfl, hx, rfl⟩
  case round =>
    clear hx hx0 hx1
    obtain ⟨z, rfl, hz, hr⟩ := hrel
    have hs := (HF.out.rt_step hz)
    have hl := HF.out.lt z hz
    have ho := HF.out.ok z hz
    have hz0 : (0 : Int) ≤ z := by omega
    have hz1 : (z : Int) < la := by omega
    have cz := HC.out z hz
    by_cases e : el up z = z
    · have HR : Hid (rtu up x = z) := by
        show _ = _
        rw [← hr.out, HF.out.rt_self hz e]
      rw [e] at cz
      have hs2 : ((z : Int) != (z : Int)) = false := by simp
      clear e hs hl ho hr
      go_wp2_with fail
      go_ret
      exact ⟨ret_i64 (by rw [HR.out]), rfl⟩
    · have hb := ho.resolve_left e
      have HH := Lib.hid (hgt_lt hb hl)
      have HN : Hid (rtu up (el up z) = rtu up x) := hs.trans hr.out
      have HE := Lib.hid (fun h : (el up z : Int) = (z : Int) => e (Int.ofNat_inj.1 h))
      generalize el up z = v at *
      have hne : ((v : Int) != (z : Int)) = true := bne_iff_ne.2 HE.out
      clear e hs ho hb hr
      go_wp2_with fail
      go_round
      case rel => exact ⟨v, rfl, hl, HN⟩
      case measure => have := HH.out; simpa [intOf] using this

theorem rroot_out (a : Option Addr) (la ca : Nat) (x : Int) (w : World) (hx : ¬ (0 ≤ x ∧ x < la)) (hm : la ≤ 1000000) :
    Calls Tryd.prog 26 #[.slice a la ca, .int .i64 x] w fun e w' => e = .returned (.int .i64 (-1)) ∧ w = w' := by
  have HX := Lib.hid hx
  clear hx
  go_enter Tryd.func26, Tryd.ntmps26
  go_wp2_with (go_at_call 44; (with_reducible refine (rthere_no _ _ _ HX.out).mono ?_); rintro e w' ⟨rfl, rfl⟩)
  go_ret
  exact ⟨rfl, rfl⟩

theorem rroot_any (a : Option Addr) (la ca : Nat) (pr : List Int) (up : List Nat) (x : Int) (w : World) {lo hi : Nat} (F : For la pr up) (hp : RowN lo hi w a la up) (hm : la ≤ 1000000) :
    Calls Tryd.prog 26 #[.slice a la ca, .int .i64 x] w fun e w' => e = .returned (.int .i64 (rootI up x)) ∧ w = w' := by
  by_cases hx : 0 ≤ x ∧ x < la
  · obtain ⟨i, rfl⟩ : ∃ i : Nat, x = i := ⟨x.toNat, by omega⟩
    rw [rootI_in F.len (by omega)]
    exact rroot_in a la ca pr up i w F hp (by omega) hm
  · rw [rootI_out F.len hx]
    exact rroot_out a la ca x w hx hm

end Go.Proofs.YthhcchdjeeigpaaDoor
