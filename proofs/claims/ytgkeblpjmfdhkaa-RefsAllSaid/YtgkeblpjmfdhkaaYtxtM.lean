/- The document's Texts: one list of texts in two places is one. -/
import Derived.Test.YtgkeblpjmfdhkaaZstyM
namespace Go.Proofs.Ytgkeblpjmfdhkaa
open Go.RowKit Go.Maps
set_option linter.unusedVariables false
set_option linter.unusedSimpArgs false

theorem below_drN {B : Nat} {w w' : World} (h : Below B w w') (n : Nat) : Below B w (w'.drewN n) := ⟨h.os, h.tape, h.output, h.size, h.block⟩
theorem strsC_get {l : List By} {i : Nat} {x : By} (h : l[i]? = some x) : (strsC l)[i]? = some (bC x) := by
  unfold strsC; rw [List.getElem?_map, h]; rfl
/-- A text of a list in memory. -/
theorem InC.text {S : Nat → Prop} {w : World} {l : List By} {a : Option Addr} {m c : Nat} (h : InC S w (.s l.length 1 (strsC l)) (.slice a m c)) {i : Nat} {x : By} (hx : l[i]? = some x) :
    ∃ b off, a = some ⟨b, off, none⟩ ∧ b < w.heap.size ∧ w.cell? ⟨b, off + i, none⟩ = some (.string (strB x)) := by
  obtain ⟨_, h0 | ⟨b, off, us, rfl, _, hb, hi, hc⟩⟩ := h.at_
  · have := (List.getElem?_eq_some_iff.1 hx).1; omega
  · have hlt := (List.getElem?_eq_some_iff.1 hx).1
    have hu : i < us.length := by rw [hi.1]; simpa [strsC] using hlt
    have h1 := hi.2 i _ _ (strsC_get hx) (List.getElem?_eq_getElem hu)
    have h2 := hc i _ (List.getElem?_eq_getElem hu)
    rw [h1.val] at h2
    exact ⟨b, off, rfl, hb, h2⟩

set_option maxRecDepth 100000 in
set_option maxHeartbeats 4000000 in
theorem same_texts (l : List By) (S S' : Nat → Prop) (a a' : Option Addr) (m m' c c' : Nat) (w : World) (hk : InC S w (.s l.length 1 (strsC l)) (.slice a m c)) (hk' : InC S' w (.s l.length 1 (strsC l)) (.slice a' m' c')) :
    Calls Try.prog 33 #[.slice a m c, .slice a' m' c'] w fun e w' => e = .returned (.bool true) ∧ Below w.heap.size w w' := by
  have hLm := hk.max_len
  have e1 := hk.at_.1
  have e2 := hk'.at_.1
  rw [← e2] at hLm
  obtain rfl : m' = m := by omega
  have HK := Lib.hid hk
  have HK' := Lib.hid hk'
  have HM := Lib.hid e2
  clear hk hk' e1 e2
  go_enter Try.func33, Try.ntmps33
  go_wp2_with fail
  go_loopw [5] (fun iv wr => ∃ i : Nat, i ≤ m' ∧ iv = .int .i64 (i : Int) ∧ Hid (Below w.heap.size w wr)) (fun iv _ => m' - (intOf iv).toNat)
  case atStart => exact ⟨0, Nat.zero_le _, rfl, Below.refl _ _⟩
  case round =>
    obtain ⟨i, hi, rfl, HB⟩ := hrel
    by_cases hlt : i < m'
    · obtain ⟨x, hx⟩ : ∃ x, l[i]? = some x := ⟨_, List.getElem?_eq_getElem (by rw [← HM.out]; exact hlt)⟩
      obtain ⟨b, off, rfl, hb, q0⟩ := HK.out.text hx
      obtain ⟨b', off', rfl, hb', p0⟩ := HK'.out.text hx
      have hbw : b < wr.heap.size := by have := HB.out.size; omega
      have hbw' : b' < wr.heap.size := by have := HB.out.size; omega
      replace q0 := (HB.out.cell (p := ⟨b, off + i, none⟩) hb).trans q0
      replace p0 := (HB.out.cell (p := ⟨b', off' + i, none⟩) hb').trans p0
      obtain ⟨z, hz⟩ : ∃ z, strB x = z := ⟨_, rfl⟩
      rw [hz] at q0 p0
      clear hx hz hb hb'
      go_wp2_with fail
      go_quiet (fail)
      go_wp2_with fail
      exact ⟨⟨i + 1, by omega, by go_num, below_drN HB.out _⟩, by simp [intOf]; omega⟩
    · have him : i = m' := by omega
      subst him
      go_wp2_with fail
      go_ret
      exact ⟨rfl, HB.out⟩

end Go.Proofs.Ytgkeblpjmfdhkaa
