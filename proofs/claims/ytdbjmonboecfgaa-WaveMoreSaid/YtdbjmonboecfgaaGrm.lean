/- What one reaches, gone through with a list of what is to be done. No program. -/
import Derived.Test.YtdbjmonboecfgaaGmb
namespace Go.Proofs.Ytdbjmonboecfgaa
set_option linter.unusedVariables false
set_option linter.unusedSimpArgs false

def bl (L : List Bool) (y : Nat) : Bool := L.getD y false
theorem bl_set_self {L : List Bool} {i : Nat} {v : Bool} (h : i < L.length) : bl (L.set i v) i = v := by simp [bl, List.getD, h]
theorem bl_set_other {L : List Bool} {i j : Nat} {v : Bool} (h : i ≠ j) : bl (L.set i v) j = bl L j := by simp [bl, List.getD, List.getElem?_set_ne h]
theorem bl_out {L : List Bool} {i : Nat} (h : L.length ≤ i) : bl L i = false := by simp [bl, List.getD, List.getElem?_eq_none h]
theorem bl_lt {L : List Bool} {i : Nat} (h : bl L i = true) : i < L.length := by
  rcases Nat.lt_or_ge i L.length with h1 | h1
  · exact h1
  · rw [bl_out h1] at h; cases h
/-- How many are not reached yet. -/
def nf (L : List Bool) : Nat := L.countP (· == false)
theorem nf_set : ∀ {L : List Bool} {i : Nat}, i < L.length → bl L i = false → nf (L.set i true) + 1 = nf L
  | [], i, h, _ => by simp at h
  | c :: L, 0, h, h0 => by
    have : c = false := by simpa [bl] using h0
    subst this
    simp [nf, List.countP_cons]
  | c :: L, i + 1, h, h0 => by
    have h1 := nf_set (L := L) (i := i) (by simpa using h) (by simpa [bl] using h0)
    unfold nf at h1 ⊢
    simp only [List.set_cons_succ, List.countP_cons]
    omega
/-- Between two edges of x: what was reached, what is to be done (the next one first). -/
structure RI (g : Gr) (a : Nat) (x i : Nat) (L : List Bool) (todo : List Nat) : Prop where
  len : L.length = g.length
  sta : bl L a = true
  rch : ∀ y, bl L y = true → Rch g a y
  tod : ∀ y ∈ todo, bl L y = true
  don : ∀ y, bl L y = true → y ∉ todo → y ≠ x → ∀ z, ed g y z → bl L z = true
  cur : ∀ z, z < g.length → (z : Int) ∈ (rowG g x).take i → bl L z = true
section
variable {g : Gr} {a x i : Nat} {L : List Bool} {todo : List Nat}
theorem RI.start (ha : a < g.length) : RI g a a 0 ((List.replicate g.length false).set a true) [a] := by
  have hz : ∀ y, bl (List.replicate g.length false) y = false := fun y => by unfold bl; rw [List.getD_eq_getElem?_getD, List.getElem?_replicate]; split <;> rfl
  have hs : bl ((List.replicate g.length false).set a true) a = true := bl_set_self (by simpa using ha)
  have hy : ∀ y, bl ((List.replicate g.length false).set a true) y = true → y = a := fun y h => by
    by_cases e : a = y
    · exact e.symm
    · rw [bl_set_other e, hz] at h; cases h
  exact ⟨by simp, hs, fun y h => (hy y h) ▸ .refl, fun y h => by simp at h; subst h; exact hs, fun y h hn => absurd (by simp [hy y h]) hn, fun z _ h => by simp at h⟩
theorem RI.turn (h : RI g a x i L todo) (hd : i = (rowG g x).length ∨ x ∈ todo) {x' : Nat} {r : List Nat} (ht : todo = x' :: r) : RI g a x' 0 L r := by
  refine ⟨h.len, h.sta, h.rch, fun y hy => h.tod y (by rw [ht]; exact List.mem_cons_of_mem _ hy), fun y hy hn hne z hz => ?_, fun z _ h => by simp at h⟩
  have hnt : y ∉ todo := by rw [ht]; intro hm; exact (List.mem_cons.1 hm).elim hne hn
  by_cases e : y = x
  · subst e
    rcases hd with hd | hd
    · exact h.cur z hz.2 (by rw [hd, List.take_length]; exact hz.1)
    · exact absurd hd hnt
  · exact h.don y hy hnt e z hz
theorem RI.skip (h : RI g a x i L todo) {Y : Int} (hp : (rowG g x)[i]? = some Y) (hY : ∀ z : Nat, z < g.length → (z : Int) = Y → bl L z = true) : RI g a x (i + 1) L todo := by
  refine ⟨h.len, h.sta, h.rch, h.tod, h.don, fun z hz hm => ?_⟩
  rw [List.take_add_one, List.mem_append] at hm
  rcases hm with hm | hm
  · exact h.cur z hz hm
  · rw [hp] at hm
    exact hY z hz (by simpa using hm)
theorem RI.push (h : RI g a x i L todo) (hx : bl L x = true) {y : Nat} (hp : (rowG g x)[i]? = some (y : Int)) (hy : y < g.length) (h0 : bl L y = false) : RI g a x (i + 1) (L.set y true) (y :: todo) := by
  have hs : bl (L.set y true) y = true := bl_set_self (by rw [h.len]; exact hy)
  have up : ∀ {z : Nat}, bl L z = true → bl (L.set y true) z = true := fun {z} hz => by
    by_cases e : y = z
    · subst e; exact hs
    · rw [bl_set_other e]; exact hz
  have dn : ∀ {z : Nat}, bl (L.set y true) z = true → z ≠ y → bl L z = true := fun hz e => by rw [bl_set_other (fun q => e q.symm)] at hz; exact hz
  refine ⟨by simp [h.len], up h.sta, fun z hz => ?_, fun z hz => ?_, fun z hz hn hne u hu => ?_, fun z hz hm => ?_⟩
  · by_cases e : z = y
    · rw [e]; exact (h.rch x hx).trans (Rch.one ⟨List.mem_of_getElem? hp, hy⟩)
    · exact h.rch z (dn hz e)
  · rcases List.mem_cons.1 hz with rfl | hz
    · exact hs
    · exact up (h.tod z hz)
  · have hzy : z ≠ y := fun e => hn (by rw [e]; simp)
    exact up (h.don z (dn hz hzy) (fun q => hn (List.mem_cons_of_mem _ q)) hne u hu)
  · rw [List.take_add_one, List.mem_append] at hm
    rcases hm with hm | hm
    · exact up (h.cur z hz hm)
    · rw [hp] at hm
      have hm2 : (z : Int) = (y : Int) := by simpa using hm
      have : z = y := by omega
      rw [this]; exact hs
theorem RI.done (h : RI g a x i L []) (hd : i = (rowG g x).length ∨ x ∈ ([] : List Nat)) (y : Nat) (hy : y < g.length) : bl L y = true ↔ Rch g a y := by
  refine ⟨h.rch y, fun hr => hr.keep (C := fun y => bl L y = true) (fun u z hu hz => ?_) h.sta⟩
  by_cases e : u = x
  · subst e
    rcases hd with hd | hd
    · exact h.cur z hz.2 (by rw [hd, List.take_length]; exact hz.1)
    · simp at hd
  · exact h.don u hu (by simp) e z hz
end

end Go.Proofs.Ytdbjmonboecfgaa
