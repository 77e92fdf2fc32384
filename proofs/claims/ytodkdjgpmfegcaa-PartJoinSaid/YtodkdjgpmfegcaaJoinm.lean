/- Mathematics of PartJoin: what is reached by steps along pairs is the class. No program. -/
import Derived.Test.YtodkdjgpmfegcaaPartm
namespace Go.Proofs.Ytodkdjgpmfegcaa
set_option linter.unusedVariables false

def bl (s : List Bool) (i : Nat) : Bool := s.getD i false
/-- One pair's step. -/
def stp (s : List Bool) (q : Int × Int) : List Bool := if (bl s q.1.toNat || bl s q.2.toNat) = true then (s.set q.1.toNat true).set q.2.toNat true else s
def swp (s : List Bool) (ps : List (Int × Int)) : List Bool := ps.foldl stp s
def rnds (s : List Bool) (ps : List (Int × Int)) : Nat → List Bool
  | 0 => s
  | r + 1 => swp (rnds s ps r) ps
def start (k : Nat) : List Bool := (List.replicate k false).set 0 true
def InR (n : Nat) (ps : List (Int × Int)) : Prop := ∀ q ∈ ps, 0 ≤ q.1 ∧ q.1 < n ∧ 0 ≤ q.2 ∧ q.2 < n

theorem stp_length (s : List Bool) (q : Int × Int) : (stp s q).length = s.length := by unfold stp; split <;> simp
theorem fold_length (ps : List (Int × Int)) (s : List Bool) : (ps.foldl stp s).length = s.length := by
  induction ps generalizing s with
  | nil => rfl
  | cons q r ih => rw [List.foldl_cons, ih, stp_length]
theorem rnds_length (s : List Bool) (ps : List (Int × Int)) : ∀ r, (rnds s ps r).length = s.length
  | 0 => rfl
  | r + 1 => by rw [rnds, swp, fold_length, rnds_length s ps r]

theorem bl_set (s : List Bool) (i j : Nat) (h : i < s.length) : bl (s.set i true) j = (bl s j || (j == i)) := by
  unfold bl
  by_cases e : j = i
  · subst e; simp [List.getD, h]
  · have e' : ¬ i = j := fun h => e h.symm
    have e2 : (j == i) = false := by simpa using e
    rw [e2, List.getD_eq_getElem?_getD, List.getElem?_set_ne e']; simp
theorem bl_stp (s : List Bool) (q : Int × Int) (h1 : q.1.toNat < s.length) (h2 : q.2.toNat < s.length) (i : Nat) :
    bl (stp s q) i = (bl s i || ((bl s q.1.toNat || bl s q.2.toNat) && (i == q.1.toNat || i == q.2.toNat))) := by
  unfold stp
  split
  · rename_i h
    rw [bl_set _ _ _ (by simpa using h2), bl_set _ _ _ h1, h]
    simp [Bool.or_assoc]
  · rename_i h
    have : (bl s q.1.toNat || bl s q.2.toNat) = false := by simpa using h
    rw [this]; simp
theorem mono_fold {n : Nat} : ∀ (ps : List (Int × Int)) (s : List Bool), s.length = n → InR n ps → ∀ i, bl s i = true → bl (ps.foldl stp s) i = true
  | [], s, _, _, i, h => h
  | q :: r, s, hs, hp, i, h => by
    have := hp q (List.mem_cons_self ..)
    refine mono_fold r (stp s q) (by rw [stp_length]; exact hs) (fun q' hq' => hp q' (List.mem_cons_of_mem _ hq')) i ?_
    rw [bl_stp _ _ (by omega) (by omega), h]; rfl
/-- What is reached is of the class. -/
theorem sound_fold {n : Nat} (g : Nat → Nat) (c : Nat) : ∀ (ps : List (Int × Int)) (s : List Bool), s.length = n → InR n ps → (∀ q ∈ ps, g q.1.toNat = g q.2.toNat) → (∀ i, bl s i = true → g i = c) → ∀ i, bl (ps.foldl stp s) i = true → g i = c
  | [], s, _, _, _, hi, i, h => hi i h
  | q :: r, s, hs, hp, hg, hi, i, h => by
    have hq := hp q (List.mem_cons_self ..)
    have hgq := hg q (List.mem_cons_self ..)
    refine sound_fold g c r (stp s q) (by rw [stp_length]; exact hs) (fun q' hq' => hp q' (List.mem_cons_of_mem _ hq')) (fun q' hq' => hg q' (List.mem_cons_of_mem _ hq')) (fun j hj => ?_) i h
    rw [bl_stp _ _ (by omega) (by omega)] at hj
    simp only [Bool.or_eq_true, Bool.and_eq_true, beq_iff_eq] at hj
    rcases hj with hj | ⟨hx | hx, hj | hj⟩
    · exact hi j hj
    · subst hj; exact hi _ hx
    · subst hj; rw [← hgq]; exact hi _ hx
    · subst hj; rw [hgq]; exact hi _ hx
    · subst hj; exact hi _ hx
theorem sound_rnds {n : Nat} (g : Nat → Nat) (c : Nat) (ps : List (Int × Int)) (s : List Bool) (hs : s.length = n) (hp : InR n ps) (hg : ∀ q ∈ ps, g q.1.toNat = g q.2.toNat) (hi : ∀ i, bl s i = true → g i = c) : ∀ r i, bl (rnds s ps r) i = true → g i = c
  | 0 => hi
  | r + 1 => sound_fold g c ps (rnds s ps r) (by rw [rnds_length]; exact hs) hp hg (sound_rnds g c ps s hs hp hg hi r)

def Closed (s : List Bool) (ps : List (Int × Int)) : Prop := ∀ q ∈ ps, bl s q.1.toNat = bl s q.2.toNat
theorem closed_of_fix {n : Nat} : ∀ (ps : List (Int × Int)) (s : List Bool), s.length = n → InR n ps → (∀ i, bl (ps.foldl stp s) i = true → bl s i = true) → Closed s ps
  | [], s, _, _, _, q, hq => by cases hq
  | q :: r, s, hs, hp, hf, q', hq' => by
    have hq := hp q (List.mem_cons_self ..)
    have hpr : InR n r := fun q' hq' => hp q' (List.mem_cons_of_mem _ hq')
    have hl : (stp s q).length = n := by rw [stp_length]; exact hs
    have hb := bl_stp s q (by omega) (by omega)
    have h1 : ∀ i, bl (stp s q) i = true → bl s i = true := fun i hi => hf i (mono_fold r (stp s q) hl hpr i hi)
    have h2 : ∀ i, bl s i = true → bl (stp s q) i = true := fun i hi => by rw [hb, hi]; rfl
    have he : ∀ i, bl (stp s q) i = bl s i := fun i => Bool.eq_iff_iff.2 ⟨h1 i, h2 i⟩
    rcases List.mem_cons.1 hq' with rfl | hr
    · have a := he q'.1.toNat
      have b := he q'.2.toNat
      rw [hb] at a b
      cases hx : bl s q'.1.toNat <;> cases hy : bl s q'.2.toNat <;> simp [hx, hy] at a b ⊢
    · have := closed_of_fix r (stp s q) hl hpr (fun i hi => h2 i (hf i hi)) q' hr
      rwa [he, he] at this
theorem closed_fold {n : Nat} : ∀ (ps : List (Int × Int)) (s t : List Bool), t.length = n → InR n ps → (∀ i, bl t i = bl s i) → Closed s ps → ∀ i, bl (ps.foldl stp t) i = bl s i
  | [], s, t, _, _, he, _, i => he i
  | q :: r, s, t, ht, hp, he, hc, i => by
    have hq := hp q (List.mem_cons_self ..)
    have hcq := hc q (List.mem_cons_self ..)
    refine closed_fold r s (stp t q) (by rw [stp_length]; exact ht) (fun q' hq' => hp q' (List.mem_cons_of_mem _ hq')) (fun j => ?_) (fun q' hq' => hc q' (List.mem_cons_of_mem _ hq')) i
    rw [bl_stp _ _ (by omega) (by omega), he, he, he, hcq, Bool.or_self]
    by_cases e1 : j = q.1.toNat
    · subst e1; rw [hcq]; cases bl s q.2.toNat <;> simp
    · by_cases e2 : j = q.2.toNat
      · subst e2; cases bl s q.2.toNat <;> simp
      · have f1 : (j == q.1.toNat) = false := by simpa using e1
        have f2 : (j == q.2.toNat) = false := by simpa using e2
        rw [f1, f2]; simp

def cnt (s : List Bool) : Nat := s.countP (fun b => b)
theorem cnt_le_length (s : List Bool) : cnt s ≤ s.length := List.countP_le_length
theorem cnt_mono : ∀ s t : List Bool, s.length = t.length → (∀ i, bl s i = true → bl t i = true) → cnt s ≤ cnt t ∧ (cnt t ≤ cnt s → ∀ i, bl t i = true → bl s i = true)
  | [], [], _, _ => ⟨Nat.le_refl _, fun _ i h => h⟩
  | [], b :: t, h, _ => by simp at h
  | a :: s, [], h, _ => by simp at h
  | a :: s, b :: t, h, hi => by
    have ih := cnt_mono s t (by simpa using h) (fun i => by simpa [bl] using hi (i + 1))
    have h0 : a = true → b = true := by simpa [bl] using hi 0
    have e1 : cnt (a :: s) = cnt s + (if a = true then 1 else 0) := by unfold cnt; rw [List.countP_cons]
    have e2 : cnt (b :: t) = cnt t + (if b = true then 1 else 0) := by unfold cnt; rw [List.countP_cons]
    rw [e1, e2]
    obtain ⟨i1, i2⟩ := ih
    cases a <;> cases b
    · refine ⟨by simpa using i1, fun hle i hb => ?_⟩
      cases i with
      | zero => simp [bl] at hb
      | succ i => have := i2 (by simpa using hle) i (by simpa [bl] using hb); simpa [bl] using this
    · refine ⟨by simp; omega, fun hle => ?_⟩
      simp at hle; omega
    · exact absurd (h0 rfl) (by decide)
    · refine ⟨by simpa using i1, fun hle i hb => ?_⟩
      cases i with
      | zero => simp [bl]
      | succ i => have := i2 (by simpa using hle) i (by simpa [bl] using hb); simpa [bl] using this

theorem start_length (k : Nat) : (start k).length = k := by simp [start]
theorem start_bl {k : Nat} (hk : 0 < k) (i : Nat) : bl (start k) i = (i == 0) := by
  unfold start
  rw [bl_set _ _ _ (by simpa using hk)]
  have : bl (List.replicate k false) i = false := by unfold bl; simp [List.getD, List.getElem?_replicate]; split <;> rfl
  rw [this]; rfl

theorem rnds_closed {k : Nat} (hk : 0 < k) {ps : List (Int × Int)} (hp : InR k ps) : ∀ r, Closed (rnds (start k) ps r) ps ∨ r + 1 ≤ cnt (rnds (start k) ps r)
  | 0 => .inr (by
      obtain ⟨j, rfl⟩ : ∃ j, k = j + 1 := ⟨k - 1, by omega⟩
      show 1 ≤ cnt (start (j + 1))
      unfold cnt start
      rw [List.replicate_succ, List.set_cons_zero, List.countP_cons]
      simp)
  | r + 1 => by
    have hl : (rnds (start k) ps r).length = k := by rw [rnds_length, start_length]
    rcases rnds_closed hk hp r with h | h
    · left
      intro q hq
      have he := closed_fold ps (rnds (start k) ps r) (rnds (start k) ps r) hl hp (fun _ => rfl) h
      show bl (ps.foldl stp _) _ = bl (ps.foldl stp _) _
      rw [he, he]; exact h q hq
    · by_cases hf : ∀ i, bl (ps.foldl stp (rnds (start k) ps r)) i = true → bl (rnds (start k) ps r) i = true
      · left
        have hc := closed_of_fix ps (rnds (start k) ps r) hl hp hf
        intro q hq
        have he := closed_fold ps (rnds (start k) ps r) (rnds (start k) ps r) hl hp (fun _ => rfl) hc
        show bl (ps.foldl stp _) _ = bl (ps.foldl stp _) _
        rw [he, he]; exact hc q hq
      · right
        have hm := cnt_mono (rnds (start k) ps r) (ps.foldl stp (rnds (start k) ps r)) (by rw [fold_length]) (mono_fold ps _ hl hp)
        show r + 1 + 1 ≤ cnt (ps.foldl stp (rnds (start k) ps r))
        rcases Nat.lt_or_ge (cnt (rnds (start k) ps r)) (cnt (ps.foldl stp (rnds (start k) ps r))) with h1 | h1
        · omega
        · exact absurd (hm.2 h1) hf

/-- Behind as many rounds as elements: what is reached is the first one's class. -/
theorem reached {k : Nat} (hk : 0 < k) {ps : List (Int × Int)} (hp : InR k ps) {i : Nat} (hi : i < k) : bl (rnds (start k) ps k) i = decide (el (ofL k ps) 0 = el (ofL k ps) i) := by
  have hl : (rnds (start k) ps k).length = k := by rw [rnds_length, start_length]
  have hc : Closed (rnds (start k) ps k) ps := by
    rcases rnds_closed hk hp k with h | h
    · exact h
    · have := cnt_le_length (rnds (start k) ps k); omega
  have h0 : ∀ r, bl (rnds (start k) ps r) 0 = true := by
    intro r
    induction r with
    | zero => show bl (start k) 0 = true; rw [start_bl hk]; rfl
    | succ r ih => exact mono_fold ps _ (by rw [rnds_length, start_length]) hp 0 ih
  rw [Bool.eq_iff_iff, decide_eq_true_eq]
  constructor
  · intro h
    exact (sound_rnds (el (ofL k ps)) (el (ofL k ps) 0) ps (start k) (start_length k) hp (fun q hq => of_same k ps hq (hp q hq)) (fun j hj => by
      rw [start_bl hk] at hj; simp at hj; subst hj; rfl) k i h).symm
  · intro h
    have g := of_least (bl (rnds (start k) ps k)) k ps (fun q hq _ => hc q hq)
    rw [← g i hi, ← h, g 0 hk]
    exact h0 k

end Go.Proofs.Ytodkdjgpmfegcaa
