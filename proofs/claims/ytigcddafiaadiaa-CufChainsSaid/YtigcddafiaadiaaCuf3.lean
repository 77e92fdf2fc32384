/- Mathematics of the chain: each element under the next one. No program. -/
import Derived.Test.YtigcddafiaadiaaCuf2
namespace Go.Proofs.Ytigcddafiaadiaa
set_option linter.unusedVariables false
set_option linter.unusedSimpArgs false

def upC (k : Nat) : List Nat := (List.range k).map fun i => min (i + 1) (k - 1)
def prC (k : Nat) : List Int := (List.range k).map fun i => ((i / 3 : Nat) : Int)
theorem upC_el {k i : Nat} (h : i < k) : el (upC k) i = min (i + 1) (k - 1) := el_rangemap h
theorem prC_el {k i : Nat} (h : i < k) : pri (prC k) i = ((i / 3 : Nat) : Int) := by
  unfold pri prC; simp [List.getD, h]
theorem prC_bel {k x y : Nat} (hx : x < k) (hy : y < k) : bel (prC k) x y ↔ x < y := by
  unfold bel; rw [prC_el hx, prC_el hy]; omega
theorem forC {k : Nat} (h : 0 < k) : For k (prC k) (upC k) := by
  refine ⟨by simp [upC], fun x hx => ?_, fun x hx => ?_⟩
  · rw [upC_el hx]; omega
  · rw [upC_el hx]
    by_cases e : x + 1 < k
    · right
      rw [prC_bel hx (by omega)]; omega
    · left; omega
theorem rtC {k x : Nat} (hx : x < k) : rtu (upC k) x = k - 1 := by
  have F := forC (k := k) (by omega)
  obtain ⟨h1, h2⟩ := F.rt_spec hx
  rw [upC_el h2] at h1
  omega
theorem chain_mono {k : Nat} {up : List Nat} {t : Tk} (I : Inv k (prC k) up t) (h1 : t.k = 1) (F : For k (prC k) up) (h : ∀ i, i < k → el (upC k) i ≤ el up i) : ∀ i, i < k → el (upC k) i ≤ el (ups up (prC k) t) i := by
  intro i hi
  obtain ⟨kk, x, y, st, u, v, w, r, dn, res⟩ := t
  have hk := I.kk
  dsimp only at h1 hk
  cases dn with
  | true => simpa [ups] using h i hi
  | false =>
    by_cases e3 : st = 3
    · subst e3
      have a := (I.a rfl (.inr rfl)).1
      have b := (I.b rfl rfl).1
      have un := I.un
      have wn := I.wn
      have rn := I.rn
      dsimp only at a b un wn rn
      rw [prC_bel un wn] at a
      rw [prC_bel wn rn] at b
      by_cases e : el up u = w
      · simp only [ups, e]
        simp
        by_cases e2 : u = i
        · subst e2
          rw [el_set_self (by rw [F.len]; exact un), upC_el un]; omega
        · rw [el_set_other e2]; exact h i hi
      · simpa [ups, e] using h i hi
    · have h6 : st ≠ 6 := fun h => hk (by omega) h1
      have h8 : st ≠ 8 := fun h => hk (by omega) h1
      simpa [ups, e3, h6, h8] using h i hi

end Go.Proofs.Ytigcddafiaadiaa
