/- Contract of package pick's behind. -/
import Derived.Test.YthhcchdjeeigpaaDoorSet
namespace Go.Proofs.YthhcchdjeeigpaaDoor
open Go.RowKit

theorem behind_any (a : Option Addr) (n c : Nat) (en : List Bool) (last : Int) (w : World) (h : Holds w a n en) (hen : en.length ≤ 1000) (hT : Tab w) (hon : on 0 en ≠ []) :
    Calls Tryd.prog 78 #[.slice a n c, .int .i64 last] w fun e w' => e = .returned (.int .i64 (behindI en last)) ∧ w = w' := by
  have HL := Lib.hid h.len
  by_cases h0 : last < 0
  · rw [behind_low en last hon h0]
    go_enter Tryd.func78, Tryd.ntmps78
    go_wp2_with (go_at_call 90; refine (from_any a n c en 0 0 rfl _ h hen hT (by omega)).mono ?_; rintro e w1 ⟨rfl, rfl⟩)
    go_ret
    exact ⟨rfl, rfl⟩
  · obtain ⟨k, rfl⟩ : ∃ k : Nat, last = k := ⟨last.toNat, by omega⟩
    by_cases hk : k / 64 < n
    · have hm := behind_mid en k hon
      have hr := from_range en (k + 1)
      have hn : n ≤ 17 := by have := HL.out; omega
      by_cases hf : 0 ≤ from' en (k + 1)
      · rw [if_pos hf] at hm
        rw [hm]
        generalize hgen : from' en (k + 1) = f at *
        have HG := Lib.hid hgen
        clear hm hgen
        have hk64 : (k : Int) / 64 < n := by omega
        go_enter Tryd.func78, Tryd.ntmps78
        go_wp2_with (go_at_call 90; refine (from_any a n c en _ (k + 1) (by simp) _ h hen hT (by omega)).mono ?_; rw [HG.out]; rintro e w1 ⟨rfl, rfl⟩)
        go_ret
        exact ⟨rfl, rfl⟩
      · rw [if_neg hf] at hm
        rw [hm]
        have hfe : from' en (k + 1) = -1 := by omega
        have HG := Lib.hid hfe
        clear hm hfe hr hf
        have hk64 : (k : Int) / 64 < n := by omega
        go_enter Tryd.func78, Tryd.ntmps78
        go_wp2_with fail
        refine (from_any a n c en _ (k + 1) (by simp) _ h hen hT (by omega)).mono ?_
        rw [HG.out]; rintro e w1 ⟨rfl, rfl⟩
        go_wp2_with fail
        refine (from_any a n c en 0 0 rfl _ h hen hT (by omega)).mono ?_
        rintro e w1 ⟨rfl, rfl⟩
        go_wp2
        go_ret
        exact ⟨rfl, rfl⟩
    · rw [behind_high en k hon (by have := HL.out; omega)]
      have hk64 : ¬ (k : Int) / 64 < n := by omega
      go_enter Tryd.func78, Tryd.ntmps78
      go_wp2_with (go_at_call 90; refine (from_any a n c en 0 0 rfl _ h hen hT (by omega)).mono ?_; rintro e w1 ⟨rfl, rfl⟩)
      go_ret
      exact ⟨rfl, rfl⟩

end Go.Proofs.YthhcchdjeeigpaaDoor
