/- The document's SameType, SameTypes: one type in two places is one. -/
import Derived.Test.YtccilgemfkdmkaaZH
namespace Go.Proofs.Ytccilgemfkdmkaa
open Go.RowKit Go.Maps
set_option linter.unusedVariables false
set_option linter.unusedSimpArgs false

def SamesT (x : Ty) : Prop := ∀ (S S' : Nat → Prop) (v v' : Value) (w : World), IsV S w (tyC x) v → IsV S' w (tyC x) v' → Calls Try.prog 64 #[v, v'] w fun e w' => e = .returned (.bool true) ∧ Below w.heap.size w w'
set_option maxRecDepth 100000 in
set_option maxHeartbeats 4000000 in
theorem same_tys (l : List Ty) (hX : ∀ x ∈ l, SamesT x) (S S' : Nat → Prop) (a a' : Option Addr) (m m' c c' : Nat) (w : World) (hk : InC S w (.s l.length 4 (tysC l)) (.slice a m c)) (hk' : InC S' w (.s l.length 4 (tysC l)) (.slice a' m' c')) :
    Calls Try.prog 32 #[.slice a m c, .slice a' m' c'] w fun e w' => e = .returned (.bool true) ∧ Below w.heap.size w w' := by
  have hLm := hk.max_len
  have e1 := hk.at_.1
  have e2 := hk'.at_.1
  rw [← e2] at hLm
  obtain rfl : m' = m := by omega
  rw [tysC_eq] at hk hk'
  have HK := Lib.hid hk
  have HK' := Lib.hid hk'
  have HM := Lib.hid e2
  have HX := Lib.hid hX
  clear hk hk' e1 e2 hX
  go_enter Try.func32, Try.ntmps32
  go_wp2_with fail
  go_loopw [5] (fun iv wr => ∃ i : Nat, i ≤ m' ∧ iv = .int .i64 (i : Int) ∧ Hid (Below w.heap.size w wr)) (fun iv _ => m' - (intOf iv).toNat)
  case atStart => exact ⟨0, Nat.zero_le _, rfl, Below.refl _ _⟩
  case round =>
    obtain ⟨i, hi, rfl, HB⟩ := hrel
    by_cases hlt : i < m'
    · obtain ⟨x, hx⟩ : ∃ x, l[i]? = some x := ⟨_, List.getElem?_eq_getElem (by rw [← HM.out]; exact hlt)⟩
      obtain ⟨b, off, us, rfl, hb, hxv, hc⟩ := HK.out.elem tyC_len hx
      obtain ⟨b', off', us', rfl, hb', hxv', hc'⟩ := HK'.out.elem tyC_len hx
      obtain ⟨z0, z1, z2, z3, z4, z5, hz9⟩ := hxv.tys
      obtain rfl := agg_inj hz9
      obtain ⟨y0, y1, y2, y3, y4, y5, hy9⟩ := hxv'.tys
      obtain rfl := agg_inj hy9
      have hbw : b < wr.heap.size := by have := HB.out.size; omega
      have hbw' : b' < wr.heap.size := by have := HB.out.size; omega
      have hcc : ∀ (j : Nat) (u : Value), ([.int .i64 z0, .int .i64 z1, .string (strB z2), .slice z3 z4 z5] : List Value)[j]? = some u → wr.cell? ⟨b, off + (i * 4 + j), none⟩ = some u := fun j u hu => (HB.out.cell (p := ⟨b, off + (i * 4 + j), none⟩) hb).trans (hc j u hu)
      have hcc' : ∀ (j : Nat) (u : Value), ([.int .i64 y0, .int .i64 y1, .string (strB y2), .slice y3 y4 y5] : List Value)[j]? = some u → wr.cell? ⟨b', off' + (i * 4 + j), none⟩ = some u := fun j u hu => (HB.out.cell (p := ⟨b', off' + (i * 4 + j), none⟩) hb').trans (hc' j u hu)
      have q0 := hcc 0 _ rfl
      have q1 := hcc 1 _ rfl
      have q2 := hcc 2 _ rfl
      have q3 := hcc 3 _ rfl
      have p0 := hcc' 0 _ rfl
      have p1 := hcc' 1 _ rfl
      have p2 := hcc' 2 _ rfl
      have p3 := hcc' 3 _ rfl
      rw [← Nat.add_assoc] at q0 q1 q2 q3 p0 p1 p2 p3
      rw [Nat.add_zero] at q0 p0
      have hxm := List.mem_of_getElem? hx
      have HC : Hid (∀ w', Below wr.heap.size wr w' → Calls Try.prog 64 #[.agg #[.int .i64 z0, .int .i64 z1, .string (strB z2), .slice z3 z4 z5], .agg #[.int .i64 y0, .int .i64 y1, .string (strB y2), .slice y3 y4 y5]] w' fun e w'' => e = .returned (.bool true) ∧ Below w'.heap.size w' w'') := fun w' hw' => by
        have h9 := HB.out.trans (hw'.mono HB.out.size)
        exact HX.out x hxm _ _ _ _ w' (hxv.under h9) (hxv'.under h9)
      clear hcc hcc' hc hc' hxv hxv' hx hxm
      go_wp2_with fail
      go_region_with (go_at_call 64; (with_reducible refine (HC.out _ (Below.refl _ _).drew).mono ?_); rintro e1 wz ⟨rfl, hbz⟩; have HBZ := Lib.hid hbz; clear hbz)
      all_goals go_wp2_with fail
      all_goals exact ⟨⟨i + 1, by omega, by go_num, HB.out.drew.trans (HBZ.out.mono HB.out.size)⟩, by simp [intOf]; omega⟩
    · have him : i = m' := by omega
      subst him
      go_wp2_with fail
      go_ret
      exact ⟨rfl, HB.out⟩

set_option maxRecDepth 100000 in
set_option maxHeartbeats 4000000 in
theorem same_ty_step (k n : Int) (s : By) (kids : List Ty) (hX : ∀ x ∈ kids, SamesT x) : SamesT (.mk k n s kids) := by
  intro S S' v v' w hv hv'
  obtain ⟨a, c, rfl, hk⟩ := hv.ty
  obtain ⟨a', c', rfl, hk'⟩ := hv'.ty
  have HC : Hid (∀ w', Below w.heap.size w w' → Calls Try.prog 32 #[.slice a kids.length c, .slice a' kids.length c'] w' fun e w'' => e = .returned (.bool true) ∧ Below w'.heap.size w' w'') := fun w' hw' => same_tys kids hX S S' a a' _ _ c c' w' (hk.under hw') (hk'.under hw')
  obtain ⟨m, hm⟩ : ∃ m, kids.length = m := ⟨_, rfl⟩
  rw [hm] at HC ⊢
  obtain ⟨z, hz⟩ : ∃ z, strB s = z := ⟨_, rfl⟩
  rw [hz]
  clear hv hv' hk hk' hX hm hz
  go_enter Try.func64, Try.ntmps64
  go_wp2_with (go_at_call 32; (with_reducible refine (HC.out _ ?_).mono ?_); (exact ((Below.refl _ w).alloc (Nat.le_refl _) _).alloc (by simp) _); rintro e1 wz ⟨rfl, hbz⟩; have HBZ := Lib.hid hbz; clear hbz)
  go_ret
  exact ⟨rfl, (((Below.refl _ w).alloc (Nat.le_refl _) _).alloc (by simp) _).trans (HBZ.out.mono (by simp; omega))⟩
/-- One type in two places is the same. -/
theorem same_ty : ∀ (d : Nat) (x : Ty), x.deep ≤ d → SamesT x
  | 0, .mk k n s kids, h => by simp only [Ty.deep] at h; omega
  | d + 1, .mk k n s kids, h => same_ty_step k n s kids fun x hx => same_ty d x (by have := Ty.deeps_mem hx; simp only [Ty.deep] at h; omega)

end Go.Proofs.Ytccilgemfkdmkaa
