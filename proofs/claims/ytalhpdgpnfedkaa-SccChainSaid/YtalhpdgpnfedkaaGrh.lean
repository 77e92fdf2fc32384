/- Package scc: Reach. -/
import Derived.Test.YtalhpdgpnfedkaaGfr
namespace Go.Proofs.Ytalhpdgpnfedkaa
open Go.RowKit Go.Maps
set_option linter.unusedVariables false
set_option linter.unusedSimpArgs false

/-- b is a, or one comes from a to b; both are nodes. -/
noncomputable def rchB (g : Gr) (a b : Int) : Bool := @decide (0 ≤ a ∧ a < g.length ∧ 0 ≤ b ∧ b < g.length ∧ Rch g a.toNat b.toNat) (Classical.propDecidable _)
theorem rchB_nat {g : Gr} {a b : Nat} (ha : a < g.length) (hb : b < g.length) : rchB g a b = true ↔ Rch g a b := by
  unfold rchB
  rw [@decide_eq_true_iff _ (Classical.propDecidable _)]
  simp only [Int.toNat_natCast]
  exact ⟨fun h => h.2.2.2.2, fun h => ⟨by omega, by omega, by omega, by omega, h⟩⟩
theorem rchB_out {g : Gr} {a b : Int} (h : ¬ (0 ≤ a ∧ a < g.length ∧ 0 ≤ b ∧ b < g.length)) : rchB g a b = false := by
  unfold rchB
  exact @decide_eq_false _ (Classical.propDecidable _) fun q => h ⟨q.1, q.2.1, q.2.2.1, q.2.2.2.1⟩

set_option maxRecDepth 100000 in
set_option maxHeartbeats 4000000 in
theorem reach_any {hi : Nat} (ag : Option Addr) (n cg : Nat) (g : Gr) (a b : Int) (w : World) (hg : GI hi w ag n g) (hh : hi ≤ w.heap.size) (hn : n ≤ 10000) :
    Calls Try.prog 12 #[.slice ag n cg, .int .i64 a, .int .i64 b] w fun e w' => e = .returned (.bool (rchB g a b)) ∧ Below w.heap.size w w' := by
  have hgl := hg.1
  by_cases ha : 0 ≤ a ∧ a < n
  · by_cases hb : 0 ≤ b ∧ b < n
    · obtain ⟨x, rfl⟩ : ∃ x : Nat, a = x := ⟨a.toNat, by omega⟩
      obtain ⟨y, rfl⟩ : ∃ y : Nat, b = y := ⟨b.toNat, by omega⟩
      have hxn : x < n := by omega
      have hyn : y < n := by omega
      have HBG := Lib.hid (begin_any ag n cg w (by omega))
      have HFR : Hid (∀ (c : WB) (w1 : World), c.base = w.heap.size → c.n = n → c.gv = .slice ag n cg → WK c w1 (.slice none 0 0) (.slice none 0 0) 0 (fun _ _ => 0) (St.zero n) → Below w.heap.size w w1 → Calls Try.prog 19 #[.pointer (some ⟨c.b, 0, none⟩), .int .i64 (x : Int)] w1 fun e w' => e = .returned (.tuple #[]) ∧ ∃ wv' ov' k' G' s', c.n = n ∧ WK c w' wv' ov' k' G' s' ∧ s'.cm.length = n ∧ (0 < el s'.cm y ↔ Rch g x y) ∧ Below w.heap.size w w') := fun c w1 h1 h2 h3 hk hb => by
        have hz : GInv g none (St.zero n) := by rw [← hgl]; exact GInv.zero g
        have hgi : GI c.base w1 ag c.n g := by rw [h1, h2]; exact (hg.below hb hh).mono hh
        refine (from_any hk (by rw [h3, h2]) hgi hz rfl (by simp) x (by rw [h2]; exact hxn) (by show el (List.replicate _ 0) x = 0; rw [el_zeros]) (by omega)).mono ?_
        rintro e w2 ⟨rfl, hb2, wv', ov', k', G', s', nx, hk2, hf, hw⟩
        refine ⟨rfl, wv', ov', k', G', s', h2, hk2, by rw [hf.inv.lc, hgl], ⟨fun hp => ?_, fun hr => hf.inv.closed hw hf.met hr⟩, hb.trans (by rw [← h1]; exact hb2)⟩
        rcases hf.from_ y hp with q | q
        · exfalso
          have : el (St.zero n).cm y = 0 := by show el (List.replicate _ 0) y = 0; rw [el_zeros]
          omega
        · exact q
      obtain ⟨R, hR⟩ : ∃ R, rchB g x y = R := ⟨_, rfl⟩
      have HR : Hid (R = true ↔ Rch g x y) := by show _ ↔ _; rw [← hR]; exact rchB_nat (by omega) (by omega)
      rw [hR]
      obtain ⟨x1, x2⟩ := ha
      obtain ⟨y1, y2⟩ := hb
      clear hg hR hgl hh
      go_enter Try.func12, Try.ntmps12
      go_wp2_with (first
        | (go_at_call 22; (with_reducible refine (there_yes _ _ _ (x : Int) _ x1 x2).mono ?_); rintro e w' ⟨rfl, rfl⟩)
        | (go_at_call 22; (with_reducible refine (there_yes _ _ _ (y : Int) _ y1 y2).mono ?_); rintro e w' ⟨rfl, rfl⟩)
        | (go_at_call 17; (with_reducible refine (HBG.out).mono ?_); rintro e w1 ⟨c, rfl, hc1, hc2, hc3, hk1, hb1⟩; have HF1 := Lib.hid (HFR.out c w1 hc1 hc2 hc3 hk1 hb1); clear hk1 hb1 hc1 hc2 hc3 HFR HBG)
        | (go_at_call 19; (with_reducible refine (HF1.out).mono ?_); rintro e w2 ⟨rfl, wv', ov', k', G', s', hcn, hk2, hl2, hiff, hb2⟩; have HMT := Lib.hid (met_any hk2 (by rw [hl2, hcn]) y (by rw [hcn]; exact hyn)); have HB2 := Lib.hid hb2; have HIF := Lib.hid hiff; clear hk2 hl2 hiff hb2 HF1 hcn)
        | (go_at_call 18; (with_reducible refine (HMT.out).mono ?_); rintro e w' ⟨rfl, rfl⟩))
      go_ret
      have e : decide (0 < el s'.cm y) = R := by
        rw [Bool.eq_iff_iff, decide_eq_true_iff, HIF.out, HR.out]
      exact ⟨by rw [e]; rfl, HB2.out⟩
    · have hf : rchB g a b = false := rchB_out (by rw [hgl]; exact fun h => hb ⟨h.2.2.1, h.2.2.2⟩)
      rw [hf]
      obtain ⟨x1, x2⟩ := ha
      clear hf hg hgl
      go_enter Try.func12, Try.ntmps12
      go_wp2_with (first
        | (go_at_call 22; (with_reducible refine (there_yes _ _ _ a _ x1 x2).mono ?_); rintro e w' ⟨rfl, rfl⟩)
        | (go_at_call 22; (with_reducible refine (there_no _ _ _ b _ hb).mono ?_); rintro e w' ⟨rfl, rfl⟩))
      go_ret
      exact ⟨rfl, Below.refl _ _⟩
  · have hf : rchB g a b = false := rchB_out (by rw [hgl]; exact fun h => ha ⟨h.1, h.2.1⟩)
    rw [hf]
    clear hf hg hgl
    go_enter Try.func12, Try.ntmps12
    go_wp2_with (go_at_call 22; (with_reducible refine (there_no _ _ _ a _ ha).mono ?_); rintro e w' ⟨rfl, rfl⟩)
    go_ret
    exact ⟨rfl, Below.refl _ _⟩

end Go.Proofs.Ytalhpdgpnfedkaa
