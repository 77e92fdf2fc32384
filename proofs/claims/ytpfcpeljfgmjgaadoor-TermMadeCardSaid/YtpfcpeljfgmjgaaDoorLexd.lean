/- Contracts of package lex: token, skip. -/
import Derived.Test.YtpfcpeljfgmjgaaDoorLexc
namespace Go.Proofs.YtpfcpeljfgmjgaaDoor
open Go.RowKit
set_option linter.unusedVariables false
set_option linter.unusedSimpArgs false

def strB (l : By) : ByteArray := ⟨l.toArray⟩
theorem strB_data (l : By) : (strB l).data.toList = l := by simp [strB]
theorem strB_size (l : By) : (strB l).size = l.length := by simp [strB, ByteArray.size]
theorem eq_strB {s : ByteArray} {l : By} (h : s.data.toList = l) : s = strB l := by apply ByteArray.ext; rw [← h]; simp [strB]
theorem ext_data (s : ByteArray) (i j : Nat) : (s.extract i j).data.toList = (s.data.toList.drop i).take (j - i) := by
  simp [ByteArray.data_extract, Array.toList_extract, List.extract]
theorem rowL_yes {p : Nat → Bool} {c : UInt8} {r : By} (h : p c.toNat = true) : rowL p (c :: r) = c :: rowL p r := by
  conv => lhs; unfold rowL
  rw [if_pos h]
theorem rowL_no {p : Nat → Bool} {c : UInt8} {r : By} (h : ¬ p c.toNat = true) : rowL p (c :: r) = [] := by
  unfold rowL; rw [if_neg h]
theorem rowL_take (p : Nat → Bool) : ∀ l : By, rowL p l = l.take (rowL p l).length
  | [] => rfl
  | c :: r => by
    have ih := rowL_take p r
    by_cases h : p c.toNat = true
    · rw [rowL_yes h, List.length_cons, List.take_succ_cons, ← ih]
    · rw [rowL_no h]; rfl
theorem rowL_all_p (p : Nat → Bool) : ∀ l : By, (rowL p l).all (fun c => p c.toNat) = true
  | [] => rfl
  | c :: r => by
    unfold rowL
    by_cases h : p c.toNat = true
    · rw [if_pos h, List.all_cons, h, rowL_all_p p r]; rfl
    · rw [if_neg h]; rfl
theorem ext_row (s : ByteArray) (p : Nat → Bool) : (s.extract 0 (rowL p s.data.toList).length).data.toList = rowL p s.data.toList := by
  rw [ext_data, List.drop_zero, Nat.sub_zero, ← rowL_take]
theorem row_bd (s : ByteArray) (p : Nat → Bool) : (rowL p s.data.toList).length ≤ s.size := by rw [← len_data]; exact rowL_le _ _

def twOf : Option Tw → Value
  | none => noTok
  | some t => twV (t.k : Nat) (strB t.s) (t.n : Nat) (t.w : Nat)

theorem hd_tail (s : ByteArray) (h : 0 < s.size) : s.data.toList = s[0] :: s.data.toList.drop 1 := by
  have := drop_at s 0 h; rwa [List.drop_zero] at this

theorem tokL_let (s : ByteArray) (h : 0 < s.size) (hl : letN s[0].toNat = true) (x : ByteArray) (hx : x.data.toList = rowL resN s.data.toList) :
    (if kindL x.data.toList = 0 then noTok else twV (kindL x.data.toList : Nat) x 0 (x.size : Int)) = twOf (tokL s.data.toList) := by
  have e : tokL s.data.toList = if kindL (rowL resN s.data.toList) = 0 then none else some ⟨kindL (rowL resN s.data.toList), rowL resN s.data.toList, 0, (rowL resN s.data.toList).length⟩ := by
    rw [hd_tail s h, tokL_cons, if_pos hl]
  rw [e, hx]
  split
  · rfl
  · have : x.size = (rowL resN s.data.toList).length := by rw [← hx, len_data]
    show _ = twV _ (strB (rowL resN s.data.toList)) _ _
    rw [← eq_strB hx, this]; rfl
theorem tokL_dig (s : ByteArray) (h : 0 < s.size) (hl : letN s[0].toNat = false) (hd : digN s[0].toNat = true) (x : ByteArray) (hx : x.data.toList = rowL digN s.data.toList) :
    (if badInt x then noTok else twV 3 ⟨#[]⟩ (numL x.data.toList : Nat) (x.size : Int)) = twOf (tokL s.data.toList) := by
  have hxs : x.size = (rowL digN s.data.toList).length := by rw [← hx, len_data]
  have hx0 : (x.data.toList.headD 0).toNat = s[0].toNat := by
    rw [hx, hd_tail s h]; unfold rowL; rw [if_pos hd]; rfl
  have e : tokL s.data.toList = if (1 < (rowL digN s.data.toList).length ∧ s[0].toNat = 48) ∨ 2147483647 < numL (rowL digN s.data.toList) then none else some ⟨3, [], numL (rowL digN s.data.toList), (rowL digN s.data.toList).length⟩ := by
    conv => lhs; rw [hd_tail s h]
    rw [tokL_cons, if_neg (by rw [hl]; simp), if_pos hd, ← hd_tail s h]
  have hb : badInt x ↔ (1 < (rowL digN s.data.toList).length ∧ s[0].toNat = 48) ∨ 2147483647 < numL (rowL digN s.data.toList) := by
    unfold badInt; rw [hx0, hxs, hx]
  rw [e]
  by_cases hc : badInt x
  · rw [if_pos hc, if_pos (hb.1 hc)]; rfl
  · rw [if_neg hc, if_neg (fun h => hc (hb.2 h)), hx, hxs]; rfl
theorem tokL_sig (s : ByteArray) (h : 0 < s.size) (hl : letN s[0].toNat = false) (hd : digN s[0].toNat = false) (hg : sigN s[0].toNat = true) (x : ByteArray) (hx : x = s.extract 0 1) :
    twV 5 x 0 (x.size : Int) = twOf (tokL s.data.toList) := by
  have e : tokL s.data.toList = some ⟨5, [s[0]], 0, 1⟩ := by
    conv => lhs; rw [hd_tail s h]
    rw [tokL_cons, if_neg (by rw [hl]; simp), if_neg (by rw [hd]; simp), if_pos hg]
  have hxd : x.data.toList = [s[0]] := by
    rw [hx, ext_data, List.drop_zero, hd_tail s h]; rfl
  have hxs : x.size = 1 := by rw [← len_data, hxd]; rfl
  rw [e, hxs]
  show _ = twV _ (strB [s[0]]) _ _
  rw [← eq_strB hxd]; rfl
theorem tokL_arrow (s : ByteArray) (h : 0 < s.size) (hl : letN s[0].toNat = false) (hd : digN s[0].toNat = false) (hg : sigN s[0].toNat = false) :
    (if Lib.hasPrefix s.data.toList [45, 62] = true then twV 5 ⟨#[45, 62]⟩ 0 2 else noTok) = twOf (tokL s.data.toList) := by
  have e : tokL s.data.toList = if s[0].toNat = 45 ∧ (s.data.toList.drop 1).head? = some 62 then some ⟨5, [45, 62], 0, 2⟩ else none := by
    conv => lhs; rw [hd_tail s h]
    rw [tokL_cons, if_neg (by rw [hl]; simp), if_neg (by rw [hd]; simp), if_neg (by rw [hg]; simp)]
  rw [e]
  by_cases h4 : s[0] = 45
  · have hp := prefix_two s 45 62 0 h (by rw [h4]; rfl)
    rw [List.drop_zero] at hp
    rw [hp]
    have h5 : s[0].toNat = 45 := by rw [h4]; rfl
    by_cases h6 : (s.data.toList.drop 1).head? = some 62
    · rw [if_pos (by simpa using h6), if_pos ⟨h5, h6⟩]; rfl
    · rw [if_neg (by simpa using h6), if_neg (fun hh => h6 hh.2)]; rfl
  · have hp := prefix_not s 45 62 0 h h4
    rw [List.drop_zero] at hp
    rw [hp, if_neg (by simp), if_neg (fun hh => h4 (by
      have := hh.1
      exact UInt8.toNat_inj.1 (by rw [this]; rfl)))]; rfl

section
variable {w w' : World} {b : Nat} {t : TypeId} {c0 c1 c2 c3 : Value}
theorem Box.fourb (h : Box w b t [c0, c1, c2, c3]) : w.cell? ⟨b, 0, none⟩ = some c0 ∧ w.cell? ⟨b, 1, none⟩ = some c1 ∧ w.cell? ⟨b, 2, none⟩ = some c2 ∧ w.cell? ⟨b, 3, none⟩ = some c3 ∧
    w.frozen? ⟨b, 0, none⟩ = false ∧ w.frozen? ⟨b, 1, none⟩ = false ∧ w.frozen? ⟨b, 2, none⟩ = false ∧ w.frozen? ⟨b, 3, none⟩ = false :=
  ⟨h.cell 0, h.cell 1, h.cell 2, h.cell 3, h.frozen 0, h.frozen 1, h.frozen 2, h.frozen 3⟩
end
theorem below_res {w w' : World} {o : Obj} (h : Below (w.alloc o).heap.size (w.alloc o) w') (v0 v1 v2 v3 : Value) :
    Below w.heap.size w ((((w'.setCell ⟨w.heap.size, 0, none⟩ v0).setCell ⟨w.heap.size, 1, none⟩ v1).setCell ⟨w.heap.size, 2, none⟩ v2).setCell ⟨w.heap.size, 3, none⟩ v3) := by
  have h0 : Below w.heap.size w w' := ((Below.refl _ _).alloc (Nat.le_refl _) _).trans (h.mono (by simp))
  exact (((h0.setCell (p := ⟨w.heap.size, 0, none⟩) (Nat.le_refl _) _).setCell (p := ⟨w.heap.size, 1, none⟩) (Nat.le_refl _) _).setCell (p := ⟨w.heap.size, 2, none⟩) (Nat.le_refl _) _).setCell (p := ⟨w.heap.size, 3, none⟩) (Nat.le_refl _) _

end Go.Proofs.YtpfcpeljfgmjgaaDoor
