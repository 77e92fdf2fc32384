/- Mathematics of partitions that tell of each element the least one of its class: no program. -/
import Init
namespace Go.Proofs.Ytdbjmonboecfgaa
set_option linter.unusedVariables false
set_option linter.unusedSimpArgs false

/-- Element i of a list, nought beyond it. -/
def el (p : List Nat) (i : Nat) : Nat := p.getD i 0

theorem el_map {f : Nat → Nat} {p : List Nat} {i : Nat} (h : i < p.length) : el (p.map f) i = f (el p i) := by
  unfold el; simp [List.getD, h]
theorem el_range {n i : Nat} (h : i < n) : el (List.range n) i = i := by
  unfold el; simp [List.getD, h]
theorem el_rangemap {f : Nat → Nat} {n i : Nat} (h : i < n) : el ((List.range n).map f) i = f i := by
  unfold el; simp [List.getD, h]
theorem el_set_self {p : List Nat} {i v : Nat} (h : i < p.length) : el (p.set i v) i = v := by
  unfold el; simp [List.getD, h]
theorem el_set_other {p : List Nat} {i j v : Nat} (h : i ≠ j) : el (p.set i v) j = el p j := by
  unfold el; simp [List.getD, List.getElem?_set, h]
theorem ext_el {p q : List Nat} (hl : p.length = q.length) (h : ∀ i, i < p.length → el p i = el q i) : p = q := by
  apply List.ext_getElem hl
  intro i h1 h2
  have := h i h1
  unfold el at this
  simpa [List.getD, h1, h2] using this

/-- Is it a partition? -/
def Good (p : List Nat) : Prop := ∀ i, i < p.length → el p i ≤ i ∧ el p (el p i) = el p i

def inB (p : List Nat) (x y : Int) : Bool := decide (0 ≤ x ∧ x < (p.length : Int) ∧ 0 ≤ y ∧ y < (p.length : Int))
def sameB (p : List Nat) (x y : Int) : Bool := decide (0 ≤ x ∧ x < (p.length : Int) ∧ 0 ≤ y ∧ y < (p.length : Int) ∧ el p x.toNat = el p y.toNat)
/-- The classes with a and b for least elements made one. -/
def join (a b v : Nat) : Nat := if v = max a b then min a b else v
def uniL (p : List Nat) (x y : Int) : List Nat := if inB p x y = true then p.map (join (el p x.toNat) (el p y.toNat)) else p
def clsN (p : List Nat) : Nat := (List.range p.length).countP (fun i => el p i == i)
def leB (p q : List Nat) : Bool := decide (p.length = q.length ∧ ∀ i, i < p.length → el q i = el q (el p i))
def ofL (n : Nat) (ps : List (Int × Int)) : List Nat := ps.foldl (fun p q => uniL p q.1 q.2) (List.range n)

theorem uniL_length (p : List Nat) (x y : Int) : (uniL p x y).length = p.length := by
  unfold uniL; split <;> simp
theorem uniL_el {p : List Nat} {x y : Int} (h : inB p x y = true) {z : Nat} (hz : z < p.length) : el (uniL p x y) z = join (el p x.toNat) (el p y.toNat) (el p z) := by
  unfold uniL; rw [if_pos h, el_map hz]
theorem uniL_out {p : List Nat} {x y : Int} (h : ¬ inB p x y = true) : uniL p x y = p := by
  unfold uniL; rw [if_neg h]

theorem ofL_fold_length (ps : List (Int × Int)) (p : List Nat) : (ps.foldl (fun p q => uniL p q.1 q.2) p).length = p.length := by
  induction ps generalizing p with
  | nil => rfl
  | cons q r ih => rw [List.foldl_cons, ih, uniL_length]
theorem ofL_length (n : Nat) (ps : List (Int × Int)) : (ofL n ps).length = n := by
  unfold ofL; rw [ofL_fold_length]; simp
theorem ofL_snoc (n : Nat) (ps : List (Int × Int)) (q : Int × Int) : ofL n (ps ++ [q]) = uniL (ofL n ps) q.1 q.2 := by
  unfold ofL; rw [List.foldl_append]; rfl
theorem ofL_nil (n : Nat) : ofL n [] = List.range n := rfl

theorem join_le (a b v : Nat) : join a b v ≤ v := by unfold join; split <;> omega
theorem join_cases (a b v : Nat) : join a b v = v ∨ join a b v = a ∨ join a b v = b := by unfold join; split <;> omega
theorem join_fix (a b v : Nat) : join a b (join a b v) = join a b v := by
  unfold join; repeat' split
  all_goals omega
theorem join_one (a v : Nat) : join a a v = v := by unfold join; split <;> omega

theorem good_range (n : Nat) : Good (List.range n) := by
  intro i hi
  simp at hi
  rw [el_range hi, el_range hi]
  omega
theorem good_uni {p : List Nat} (h : Good p) (x y : Int) : Good (uniL p x y) := by
  by_cases hb : inB p x y = true
  · intro i hi
    rw [uniL_length] at hi
    have hx : x.toNat < p.length := by simp [inB] at hb; omega
    have hy : y.toNat < p.length := by simp [inB] at hb; omega
    obtain ⟨h1, h2⟩ := h i hi
    obtain ⟨h3, h4⟩ := h _ hx
    obtain ⟨h5, h6⟩ := h _ hy
    have hj := join_le (el p x.toNat) (el p y.toNat) (el p i)
    rw [uniL_el hb hi]
    refine ⟨by omega, ?_⟩
    rw [uniL_el hb (by omega)]
    have : el p (join (el p x.toNat) (el p y.toNat) (el p i)) = join (el p x.toNat) (el p y.toNat) (el p i) := by
      rcases join_cases (el p x.toNat) (el p y.toNat) (el p i) with e | e | e <;> rw [e] <;> assumption
    rw [this, join_fix]
  · rw [uniL_out hb]; exact h
theorem good_fold (ps : List (Int × Int)) (p : List Nat) (h : Good p) : Good (ps.foldl (fun p q => uniL p q.1 q.2) p) := by
  induction ps generalizing p with
  | nil => exact h
  | cons q r ih => exact ih _ (good_uni h _ _)
theorem good_of (n : Nat) (ps : List (Int × Int)) : Good (ofL n ps) := good_fold ps _ (good_range n)

/-- What is of one class stays so. -/
theorem fold_keeps (ps : List (Int × Int)) (p : List Nat) {a b : Nat} (ha : a < p.length) (hb : b < p.length) (h : el p a = el p b) :
    el (ps.foldl (fun p q => uniL p q.1 q.2) p) a = el (ps.foldl (fun p q => uniL p q.1 q.2) p) b := by
  induction ps generalizing p with
  | nil => exact h
  | cons q r ih =>
    refine ih _ (by rw [uniL_length]; exact ha) (by rw [uniL_length]; exact hb) ?_
    by_cases hi : inB p q.1 q.2 = true
    · show el (uniL p q.1 q.2) a = el (uniL p q.1 q.2) b
      rw [uniL_el hi ha, uniL_el hi hb, h]
    · show el (uniL p q.1 q.2) a = el (uniL p q.1 q.2) b
      rw [uniL_out hi]; exact h
theorem uni_same {p : List Nat} {x y : Int} (h : inB p x y = true) : el (uniL p x y) x.toNat = el (uniL p x y) y.toNat := by
  have hx : x.toNat < p.length := by simp [inB] at h; omega
  have hy : y.toNat < p.length := by simp [inB] at h; omega
  rw [uniL_el h hx, uniL_el h hy]
  unfold join; repeat' split
  all_goals omega
/-- Each pair that is there is of one class. -/
theorem of_same (n : Nat) (ps : List (Int × Int)) {q : Int × Int} (hq : q ∈ ps) (h : 0 ≤ q.1 ∧ q.1 < n ∧ 0 ≤ q.2 ∧ q.2 < n) : el (ofL n ps) q.1.toNat = el (ofL n ps) q.2.toNat := by
  obtain ⟨l, r, rfl⟩ := List.append_of_mem hq
  unfold ofL
  rw [List.foldl_append, List.foldl_cons]
  have hl : (l.foldl (fun p q => uniL p q.1 q.2) (List.range n)).length = n := by rw [ofL_fold_length]; simp
  refine fold_keeps _ _ (by rw [uniL_length, hl]; omega) (by rw [uniL_length, hl]; omega) (uni_same ?_)
  simp only [inB, hl, decide_eq_true_eq]; omega
/-- Whatever is one at each pair is one at each element and the least of its class. -/
theorem fold_least {α : Type} (g : Nat → α) (ps : List (Int × Int)) (p : List Nat) (hg : ∀ q ∈ ps, 0 ≤ q.1 ∧ q.1 < p.length ∧ 0 ≤ q.2 ∧ q.2 < p.length → g q.1.toNat = g q.2.toNat)
    (h : ∀ z, z < p.length → g (el p z) = g z) : ∀ z, z < p.length → g (el (ps.foldl (fun p q => uniL p q.1 q.2) p) z) = g z := by
  induction ps generalizing p with
  | nil => exact h
  | cons q r ih =>
    intro z hz
    refine ih (uniL p q.1 q.2) (fun q' hq' => ?_) (fun z hz => ?_) z (by rw [uniL_length]; exact hz)
    · rw [uniL_length]; exact hg q' (List.mem_cons_of_mem _ hq')
    · rw [uniL_length] at hz
      by_cases hi : inB p q.1 q.2 = true
      · rw [uniL_el hi hz]
        have hi' := hi
        simp only [inB, decide_eq_true_eq] at hi'
        have e := hg q (List.mem_cons_self ..) hi'
        have ex := h q.1.toNat (by omega)
        have ey := h q.2.toNat (by omega)
        have ez := h z hz
        unfold join
        split
        · rename_i hm
          have hx : g (max (el p q.1.toNat) (el p q.2.toNat)) = g z := by rw [← hm]; exact ez
          rcases Nat.le_total (el p q.1.toNat) (el p q.2.toNat) with hle | hle
          · rw [Nat.max_eq_right hle] at hx
            rw [Nat.min_eq_left hle, ex, e, ← ey, hx]
          · rw [Nat.max_eq_left hle] at hx
            rw [Nat.min_eq_right hle, ey, ← e, ← ex, hx]
        · exact ez
      · rw [uniL_out hi]; exact h z hz
theorem of_least {α : Type} (g : Nat → α) (n : Nat) (ps : List (Int × Int)) (hg : ∀ q ∈ ps, 0 ≤ q.1 ∧ q.1 < n ∧ 0 ≤ q.2 ∧ q.2 < n → g q.1.toNat = g q.2.toNat) :
    ∀ z, z < n → g (el (ofL n ps) z) = g z := by
  intro z hz
  exact fold_least g ps (List.range n) (by simpa using hg) (fun z hz => by rw [el_range (by simpa using hz)]) z (by simpa using hz)

theorem good_lt {p : List Nat} (h : Good p) {i : Nat} (hi : i < p.length) : el p i < p.length := Nat.lt_of_le_of_lt (h i hi).1 hi

/-- Two partitions each of which is one at the other's pairs are one. -/
theorem good_eq {p q : List Nat} (hp : Good p) (hq : Good q) (hl : p.length = q.length) (h1 : ∀ z, z < p.length → el q (el p z) = el q z) (h2 : ∀ z, z < p.length → el p (el q z) = el p z) : p = q := by
  apply ext_el hl
  intro i hi
  have a1 := h1 i hi
  have a2 := h2 i hi
  have b1 := (hq (el p i) (by rw [← hl]; exact good_lt hp hi)).1
  have b2 := (hp (el q i) (by rw [hl]; exact good_lt hq (by omega))).1
  omega
theorem of_congr {n : Nat} {l m : List (Int × Int)} (h1 : ∀ q ∈ l, q ∈ m ∨ (q.2, q.1) ∈ m) (h2 : ∀ q ∈ m, q ∈ l ∨ (q.2, q.1) ∈ l) : ofL n l = ofL n m := by
  have key : ∀ l m : List (Int × Int), (∀ q ∈ l, q ∈ m ∨ (q.2, q.1) ∈ m) → ∀ z, z < n → el (ofL n m) (el (ofL n l) z) = el (ofL n m) z := by
    intro l m h
    refine of_least _ n l fun q hq hr => ?_
    rcases h q hq with h | h
    · exact of_same n m h hr
    · exact (of_same n m h ⟨hr.2.2.1, hr.2.2.2, hr.1, hr.2.1⟩).symm
  exact good_eq (good_of _ _) (good_of _ _) (by rw [ofL_length, ofL_length]) (by rw [ofL_length]; exact key l m h1) (by rw [ofL_length]; exact key m l h2)

/-! ### Le -/
theorem leB_iff {p q : List Nat} : leB p q = true ↔ p.length = q.length ∧ ∀ i, i < p.length → el q i = el q (el p i) := by simp [leB]
theorem le_refl' {p : List Nat} (h : Good p) : leB p p = true := leB_iff.2 ⟨rfl, fun i hi => (h i hi).2.symm⟩
theorem le_trans' {p q r : List Nat} (hp : Good p) (hq : Good q) (h1 : leB p q = true) (h2 : leB q r = true) : leB p r = true := by
  obtain ⟨l1, h1⟩ := leB_iff.1 h1
  obtain ⟨l2, h2⟩ := leB_iff.1 h2
  refine leB_iff.2 ⟨l1.trans l2, fun i hi => ?_⟩
  have hlt := good_lt hp hi
  rw [h2 i (by omega), h2 (el p i) (by omega), h1 i hi]
theorem le_antisymm' {p q : List Nat} (hp : Good p) (hq : Good q) (h1 : leB p q = true) (h2 : leB q p = true) : p = q := by
  obtain ⟨l1, h1⟩ := leB_iff.1 h1
  obtain ⟨l2, h2⟩ := leB_iff.1 h2
  exact good_eq hp hq l1 (fun z hz => (h1 z hz).symm) (fun z hz => (h2 z (by omega)).symm)
theorem le_range {p : List Nat} {n : Nat} (h : p.length = n) : leB (List.range n) p = true :=
  leB_iff.2 ⟨by simp [h], fun i hi => by rw [el_range (by simpa using hi)]⟩
theorem le_of_of {n : Nat} {l m : List (Int × Int)} (h : ∀ q ∈ l, q ∈ m) : leB (ofL n l) (ofL n m) = true :=
  leB_iff.2 ⟨by rw [ofL_length, ofL_length], fun i hi => by
    rw [ofL_length] at hi
    exact (of_least (el (ofL n m)) n l (fun q hq hr => of_same n m (h q hq) hr) i hi).symm⟩

/-! ### Classes -/
theorem cls_le {p q : List Nat} (hp : Good p) (hq : Good q) (h : leB p q = true) : clsN q ≤ clsN p := by
  obtain ⟨l1, h1⟩ := leB_iff.1 h
  unfold clsN
  rw [← l1]
  apply List.countP_mono_left
  intro i hi hf
  have hi : i < p.length := by simpa using hi
  have hf : el q i = i := by simpa using hf
  have a := h1 i hi
  have b := (hp i hi).1
  have c := (hq (el p i) (by omega)).1
  have : el p i = i := by omega
  simpa using this
theorem count_one (f : Nat → Bool) (M : Nat) (hM : f M = true) : ∀ n, (List.range n).countP (fun i => f i && !(i == M)) + (if M < n then 1 else 0) = (List.range n).countP f
  | 0 => by simp
  | n + 1 => by
    have ih := count_one f M hM n
    rw [List.range_succ, List.countP_append, List.countP_append, ← ih]
    by_cases e : n = M
    · subst e
      simp [hM]
    · have e' : (n == M) = false := by simpa using e
      simp only [List.countP_singleton, e', Bool.not_false, Bool.and_true]
      by_cases hlt : M < n
      · have h2 : M < n + 1 := by omega
        simp only [hlt, h2, if_true]; omega
      · have h2 : ¬ M < n + 1 := by omega
        simp only [hlt, h2, if_false]; omega
/-- Two classes made one: one class less. -/
theorem cls_uni {p : List Nat} (hp : Good p) {x y : Int} (hi : inB p x y = true) (hne : el p x.toNat ≠ el p y.toNat) : clsN (uniL p x y) + 1 = clsN p := by
  have hi' := hi
  simp only [inB, decide_eq_true_eq] at hi'
  have hx := hp x.toNat (by omega)
  have hy := hp y.toNat (by omega)
  obtain ⟨M, hM⟩ : ∃ M, M = max (el p x.toNat) (el p y.toNat) := ⟨_, rfl⟩
  have hMlt : M < p.length := by omega
  have hMM : el p M = M := by
    rcases Nat.le_total (el p x.toNat) (el p y.toNat) with h | h
    · rw [hM, Nat.max_eq_right h]; exact hy.2
    · rw [hM, Nat.max_eq_left h]; exact hx.2
  have := count_one (fun i => el p i == i) M (by simpa using hMM) p.length
  rw [if_pos hMlt] at this
  unfold clsN
  rw [uniL_length, ← this]
  congr 1
  apply List.countP_congr
  intro i hir
  have hil : i < p.length := by simpa using hir
  have hpi := (hp i hil).1
  rw [uniL_el hi hil]
  simp only [beq_iff_eq, Bool.and_eq_true, Bool.not_eq_true', beq_eq_false_iff_ne]
  unfold join
  constructor
  · intro e
    split at e
    · omega
    · exact ⟨e, fun e2 => by rename_i h3; apply h3; rw [e2, hMM, ← hM]⟩
  · rintro ⟨e, e2⟩
    rw [if_neg (by omega)]
    exact e
theorem uni_one {p : List Nat} {x y : Int} (h : el p x.toNat = el p y.toNat) : uniL p x y = p := by
  by_cases hi : inB p x y = true
  · refine ext_el (uniL_length _ _ _) fun i hl => ?_
    rw [uniL_length] at hl
    rw [uniL_el hi hl, h, join_one]
  · exact uniL_out hi
theorem uni_ne {p : List Nat} (hp : Good p) {x y : Int} (hi : inB p x y = true) (hne : el p x.toNat ≠ el p y.toNat) : uniL p x y ≠ p := by
  intro e
  have := cls_uni hp hi hne
  rw [e] at this
  omega

/-! ### a list that tells of each element one of its class that is not above it -/
def Up (u : List Nat) : Prop := ∀ i, i < u.length → el u i ≤ i
def rt (u : List Nat) (x : Nat) : Nat := if h : el u x < x then rt u (el u x) else x
termination_by x
decreasing_by exact h

theorem rt_fix {u : List Nat} {x : Nat} (h : el u x = x) : rt u x = x := by
  rw [rt, dif_neg (by omega)]
theorem rt_step {u : List Nat} (hu : Up u) {x : Nat} (hx : x < u.length) : rt u (el u x) = rt u x := by
  have := hu x hx
  by_cases h : el u x < x
  · conv => rhs; rw [rt, dif_pos h]
  · rw [show el u x = x by omega]
theorem rt_spec {u : List Nat} (hu : Up u) : ∀ x, x < u.length → rt u x ≤ x ∧ el u (rt u x) = rt u x := by
  intro x
  induction x using Nat.strongRecOn with
  | _ x ih =>
    intro hx
    have := hu x hx
    by_cases h : el u x < x
    · have := ih _ h (by omega)
      rw [rt_step hu hx] at this
      exact ⟨by omega, this.2⟩
    · have e : el u x = x := by omega
      rw [rt_fix e]
      exact ⟨Nat.le_refl _, e⟩
theorem rt_lt {u : List Nat} (hu : Up u) {x : Nat} (hx : x < u.length) : rt u x < u.length := Nat.lt_of_le_of_lt (rt_spec hu x hx).1 hx

/-- The way made shorter: nothing turns. -/
theorem up_half {u : List Nat} (hu : Up u) {x : Nat} (hx : x < u.length) : Up (u.set x (el u (el u x))) := by
  intro i hi
  simp at hi
  have a := hu x hx
  have b := hu (el u x) (by omega)
  by_cases e : x = i
  · subst e; rw [el_set_self hx]; omega
  · rw [el_set_other e]; exact hu i hi
theorem rt_half {u : List Nat} (hu : Up u) {x : Nat} (hx : x < u.length) : ∀ z, z < u.length → rt (u.set x (el u (el u x))) z = rt u z := by
  intro z
  induction z using Nat.strongRecOn with
  | _ z ih =>
    intro hz
    have hu' := up_half hu hx
    have a := hu x hx
    have b := hu (el u x) (by omega)
    have c := hu z hz
    have hl : (u.set x (el u (el u x))).length = u.length := by simp
    rw [← rt_step hu' (by omega)]
    by_cases e : x = z
    · subst e
      rw [el_set_self hx]
      by_cases h : el u (el u x) < x
      · rw [ih _ h (by omega), rt_step hu (by omega), rt_step hu hx]
      · have e1 : el u x = x := by omega
        rw [e1, e1]
        rw [rt_fix (el_set_self hx), rt_fix e1]
    · rw [el_set_other e]
      by_cases h : el u z < z
      · rw [ih _ h (by omega), rt_step hu hz]
      · have e1 : el u z = z := by omega
        rw [e1, rt_fix (by rw [el_set_other e]; exact e1), rt_fix e1]
/-- One root hung below another one. -/
theorem up_hang {u : List Nat} (hu : Up u) {a b : Nat} (ha : a < u.length) (hb : b < u.length) : Up (u.set (max a b) (min a b)) := by
  intro i hi
  simp at hi
  by_cases e : max a b = i
  · subst e; rw [el_set_self (by omega)]; omega
  · rw [el_set_other e]; exact hu i hi
theorem rt_hang {u : List Nat} (hu : Up u) {a b : Nat} (ha : a < u.length) (hb : b < u.length) (fa : el u a = a) (fb : el u b = b) (hne : a ≠ b) :
    ∀ z, z < u.length → rt (u.set (max a b) (min a b)) z = join a b (rt u z) := by
  intro z
  induction z using Nat.strongRecOn with
  | _ z ih =>
    intro hz
    have hu' := up_hang hu ha hb
    have c := hu z hz
    have hl : (u.set (max a b) (min a b)).length = u.length := by simp
    have fM : el u (max a b) = max a b := by
      rcases Nat.le_total a b with h | h
      · rw [Nat.max_eq_right h]; exact fb
      · rw [Nat.max_eq_left h]; exact fa
    have fm : el u (min a b) = min a b := by
      rcases Nat.le_total a b with h | h
      · rw [Nat.min_eq_left h]; exact fa
      · rw [Nat.min_eq_right h]; exact fb
    rw [← rt_step hu' (by omega)]
    by_cases e : max a b = z
    · subst e
      rw [el_set_self (by omega), rt_fix fM]
      rw [rt_fix (by rw [el_set_other (by omega)]; exact fm)]
      unfold join; rw [if_pos rfl]
    · rw [el_set_other e]
      by_cases h : el u z < z
      · rw [ih _ h (by omega), rt_step hu hz]
      · have e1 : el u z = z := by omega
        rw [e1, rt_fix (by rw [el_set_other e]; exact e1), rt_fix e1]
        unfold join; rw [if_neg (Ne.symm e)]
/-- One made flat behind the other. -/
theorem flat_round {u v : List Nat} {k : Nat} (hu : Up u) (hl : v.length = u.length) (hk : k < u.length) (h1 : ∀ i, i < k → el v i = rt u i) (h2 : ∀ i, k ≤ i → i < u.length → el v i = el u i) :
    el v (el v k) = rt u k := by
  have c := hu k hk
  rw [h2 k (Nat.le_refl _) hk]
  by_cases h : el u k < k
  · rw [h1 _ h, rt_step hu hk]
  · have e : el u k = k := by omega
    rw [e, h2 k (Nat.le_refl _) hk, e, rt_fix e]

end Go.Proofs.Ytdbjmonboecfgaa
