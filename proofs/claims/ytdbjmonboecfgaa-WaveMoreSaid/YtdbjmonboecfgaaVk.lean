/- Levels told from those that lead nowhere on: the mathematics of the walk. No program. -/
import Derived.Test.YtdbjmonboecfgaaVg
namespace Go.Proofs.Ytdbjmonboecfgaa
set_option linter.unusedVariables false
set_option linter.unusedSimpArgs false

theorem nd_len {α : Type} [DecidableEq α] : ∀ {l m : List α}, l.Nodup → (∀ x ∈ l, x ∈ m) → l.length ≤ m.length
  | [], m, _, _ => Nat.zero_le _
  | x :: l, m, h, hs => by
    have h1 := List.nodup_cons.1 h
    have h2 := nd_len (l := l) (m := m.erase x) h1.2 fun y hy => (List.mem_erase_of_ne (fun e => by subst e; exact h1.1 hy)).2 (hs y (by simp [hy]))
    rw [List.length_erase_of_mem (hs x (by simp))] at h2
    have : 0 < m.length := List.length_pos_of_mem (hs x (by simp))
    simp only [List.length_cons]; omega
theorem nd_lt {l : List Nat} {m : Nat} (h : l.Nodup) (hl : ∀ s ∈ l, s < m) : l.length ≤ m := by
  have := nd_len (m := List.range m) h fun x hx => List.mem_range.2 (hl x hx)
  simpa using this
theorem fromR_nodup {P : PL} (h : P.Nodup) (t : Nat) : (fromR P t).Nodup := by
  unfold fromR
  refine List.pairwise_map.2 ?_
  refine List.Pairwise.imp_of_mem ?_ (h.filter _)
  rintro ⟨a, b⟩ ⟨c, d⟩ h1 h2 hn e
  rw [List.mem_filter] at h1 h2
  have e1 : b = t := by simpa using h1.2
  have e2 : d = t := by simpa using h2.2
  have e3 : a = c := by have : (a : Int) = (c : Int) := e; omega
  exact hn (by rw [e1, e2, e3])
theorem fromR_len {P : PL} {m : Nat} (h : P.Nodup) (hm : ∀ s t, (s, t) ∈ P → s < m) (t : Nat) : (fromR P t).length ≤ m := by
  have := nd_len (m := (List.range m).map fun n : Nat => (n : Int)) (fromR_nodup h t) fun x hx => by
    obtain ⟨s, rfl, h1⟩ := mem_fromR.1 hx
    exact List.mem_map.2 ⟨s, List.mem_range.2 (hm s t h1), rfl⟩
  simpa using this
theorem leftN_len {P : PL} {m : Nat} (h : P.Nodup) (hm : ∀ s t, (s, t) ∈ P → t < m) (s : Nat) : leftN P s ≤ m := by
  unfold leftN
  rw [List.countP_eq_length_filter]
  have := nd_len (l := (P.filter fun p => p.1 == s)) (m := (List.range m).map fun n : Nat => (s, n)) (h.filter _) fun x hx => by
    rw [List.mem_filter] at hx
    obtain ⟨a, b⟩ := x
    have e : a = s := by simpa using hx.2
    subst e
    exact List.mem_map.2 ⟨b, List.mem_range.2 (hm _ _ hx.1), rfl⟩
  simpa using this
/-- One pair more is done. -/
theorem cnt_done {P : PL} {d : Nat × Nat → Bool} {p0 : Nat × Nat} (h : P.Nodup) (hp : p0 ∈ P) (hd : d p0 = false) (s : Nat) :
    P.countP (fun p => p.1 == s && !d p) = P.countP (fun p => p.1 == s && !(d p || p == p0)) + if p0.1 = s then 1 else 0 := by
  induction P with
  | nil => simp at hp
  | cons q P ih =>
    rw [List.nodup_cons] at h
    simp only [List.countP_cons]
    by_cases e : q = p0
    · subst e
      have hrest : P.countP (fun p => p.1 == s && !d p) = P.countP (fun p => p.1 == s && !(d p || p == q)) := by
        refine List.countP_congr fun p hp => ?_
        have : p ≠ q := fun e => h.1 (e ▸ hp)
        simp [this]
      rw [hrest]
      by_cases e2 : q.1 = s <;> simp [hd, e2]
    · have hp2 : p0 ∈ P := by
        rcases List.mem_cons.1 hp with q1 | q1
        · exact absurd q1.symm e
        · exact q1
      rw [ih h.2 hp2]
      simp [e]; omega

structure KI (g : Gr) (P : PL) (D : List Nat) (i j : Nat) (lv lf : List Nat) (d : Nat × Nat → Bool) : Prop where
  nd : D.Nodup
  lt : ∀ s ∈ D, s < (grpL g).length
  ll : lv.length = (grpL g).length
  lfl : lf.length = (grpL g).length
  left : ∀ s, s < (grpL g).length → el lf s = P.countP fun p => p.1 == s && !d p
  dd : ∀ s t, (s, t) ∈ P → (d (s, t) = true ↔ t ∈ D.take i ∨ D[i]? = some t ∧ (s : Int) ∈ (fromR P t).take j)
  mem : ∀ s, s < (grpL g).length → (s ∈ D ↔ el lf s = 0)
  lev : ∀ s, s < (grpL g).length → (∀ t, (s, t) ∈ P → d (s, t) = true → lvF g t + 1 ≤ el lv s) ∧ (el lv s = 0 ∨ ∃ t, (s, t) ∈ P ∧ d (s, t) = true ∧ el lv s = lvF g t + 1)
section
variable {g : Gr} {P : PL} {D : List Nat} {i j : Nat} {lv lf : List Nat} {d : Nat × Nat → Bool}
def endsL (m : Nat) (P : PL) : List Nat := (List.range m).filter fun s => leftN P s == 0
theorem KI.zero (g : Gr) (P : PL) : KI g P (endsL (grpL g).length P) 0 0 (List.replicate (grpL g).length 0) (leftL (grpL g).length P) (fun _ => false) := by
  refine ⟨List.nodup_range.filter _, fun s hs => ?_, by simp, leftL_len, fun s hs => ?_, fun s t _ => by simp, fun s hs => ?_, fun s hs => ⟨fun t _ h => by simp at h, Or.inl (el_zeros _ _)⟩⟩
  · unfold endsL at hs
    rw [List.mem_filter, List.mem_range] at hs; exact hs.1
  · rw [leftL_el hs]; simp [leftN]
  · rw [leftL_el hs]
    unfold endsL
    rw [List.mem_filter, List.mem_range]
    simp [hs]
/-- Those of the list are told rightly. -/
theorem KI.full (h : KI g P D i j lv lf d) (hP : BI g g.length 0 P) {s : Nat} (hs : s ∈ D) : el lv s = lvF g s := by
  have hsm := h.lt s hs
  have h0 := (h.mem s hsm).1 hs
  rw [h.left s hsm, List.countP_eq_zero] at h0
  have hall : ∀ t, (s, t) ∈ P → d (s, t) = true := fun t ht => by
    have := h0 _ ht
    simpa using this
  obtain ⟨h1, h2⟩ := h.lev s hsm
  apply Nat.le_antisymm
  · rcases h2 with q | ⟨t, q1, _, q3⟩
    · omega
    · rw [q3]; exact lv_lt (hP.done.1 q1)
  · rcases lv_at hsm with q | ⟨t, q1, q2⟩
    · omega
    · rw [q2]
      have := hP.done.2 q1
      exact h1 t this (hall t this)
theorem KI.len (h : KI g P D i j lv lf d) : D.length ≤ (grpL g).length := nd_lt h.nd h.lt
/-- One that leads to it. -/
theorem KI.step (h : KI g P D i j lv lf d) (hP : BI g g.length 0 P) {s tg : Nat} (hto : D[i]? = some tg) (hs : (fromR P tg)[j]? = some (s : Int)) :
    s < (grpL g).length ∧ 0 < el lf s ∧ ∃ d', KI g P (if el lf s - 1 = 0 then D ++ [s] else D) i (j + 1) (lv.set s (max (el lv s) (el lv tg + 1))) (lf.set s (el lf s - 1)) d' := by
  have hp : (s, tg) ∈ P := by
    obtain ⟨s', e, h1⟩ := mem_fromR.1 (List.mem_of_getElem? hs)
    have : s' = s := by omega
    subst this; exact h1
  have hsm : s < (grpL g).length := (hP.done.1 hp).lt.1
  have htD : tg ∈ D := List.mem_of_getElem? hto
  have hil : i < D.length := (List.getElem?_eq_some_iff.1 hto).1
  have htk : tg ∉ D.take i := fun hm => by
    obtain ⟨k, hk, e⟩ := List.mem_take_iff_getElem.1 hm
    have h9 := List.pairwise_iff_getElem.1 h.nd k i (by omega) hil (by omega)
    exact h9 (by rw [e]; exact (List.getElem?_eq_some_iff.1 hto).2.symm)
  have hsk : (s : Int) ∉ (fromR P tg).take j := fun hm => by
    obtain ⟨k, hk, e⟩ := List.mem_take_iff_getElem.1 hm
    have hjl := (List.getElem?_eq_some_iff.1 hs).1
    have h9 := List.pairwise_iff_getElem.1 (fromR_nodup hP.nd tg) k j (by omega) hjl (by omega)
    exact h9 (by rw [e]; exact (List.getElem?_eq_some_iff.1 hs).2.symm)
  have hd0 : d (s, tg) = false := by
    rw [Bool.eq_false_iff]
    intro q
    rcases (h.dd s tg hp).1 q with q | ⟨_, q⟩
    · exact htk q
    · exact hsk q
  have hcnt := fun s' => cnt_done hP.nd hp hd0 s'
  have hpos : 0 < el lf s := by rw [h.left s hsm, hcnt s]; simp
  have hsD : s ∉ D := fun q => by have := (h.mem s hsm).1 q; omega
  have hlvto := h.full hP htD
  have hsto : s ≠ tg := fun e => hsD (e ▸ htD)
  refine ⟨hsm, hpos, fun p => d p || p == (s, tg), ?_⟩
  have hif : ∀ x, x ∈ (if el lf s - 1 = 0 then D ++ [s] else D) ↔ x ∈ D ∨ (el lf s - 1 = 0 ∧ x = s) := fun x => by
    by_cases e : el lf s - 1 = 0
    · rw [if_pos e, List.mem_append]; simp [e]
    · rw [if_neg e]; simp [e]
  have htake : (if el lf s - 1 = 0 then D ++ [s] else D).take i = D.take i := by
    split
    · rw [List.take_append_of_le_length (by omega)]
    · rfl
  have hget : (if el lf s - 1 = 0 then D ++ [s] else D)[i]? = D[i]? := by
    split
    · rw [List.getElem?_append_left hil]
    · rfl
  refine ⟨?_, fun x hx => ?_, by simp [h.ll], by simp [h.lfl], fun x hx => ?_, fun a t ha => ?_, fun x hx => ?_, fun x hx => ?_⟩
  · split
    · rw [List.nodup_append]
      exact ⟨h.nd, by simp, fun a ha b hb e => by simp at hb; subst hb; subst e; exact hsD ha⟩
    · exact h.nd
  · rcases (hif x).1 hx with q | ⟨_, rfl⟩
    · exact h.lt x q
    · exact hsm
  · by_cases e : s = x
    · subst e
      rw [el_set_self (by rw [h.lfl]; exact hsm), h.left s hsm, hcnt s]; simp
    · rw [el_set_other e, h.left x hx, hcnt x]
      simp [e]
  · rw [htake, hget]
    have h1 := h.dd a t ha
    simp only [Bool.or_eq_true, beq_iff_eq, Prod.mk.injEq, h1]
    constructor
    · rintro ((q | ⟨q1, q2⟩) | ⟨rfl, rfl⟩)
      · exact .inl q
      · exact .inr ⟨q1, by
          rw [hto] at q1
          obtain rfl := Option.some.inj q1
          exact (mem_take_succ hs).2 (.inl q2)⟩
      · exact .inr ⟨hto, (mem_take_succ hs).2 (.inr rfl)⟩
    · rintro (q | ⟨q1, q2⟩)
      · exact .inl (.inl q)
      · rw [hto] at q1
        obtain rfl := Option.some.inj q1
        rcases (mem_take_succ hs).1 q2 with q | q
        · exact .inl (.inr ⟨hto, q⟩)
        · exact .inr ⟨by omega, rfl⟩
  · rw [hif]
    by_cases e : s = x
    · subst e
      rw [el_set_self (by rw [h.lfl]; exact hsm)]
      simp [hsD]
    · rw [el_set_other e, ← h.mem x hx]
      have : ¬ x = s := fun q => e q.symm
      simp [this]
  · by_cases e : s = x
    · subst e
      rw [el_set_self (by rw [h.ll]; exact hsm), hlvto]
      obtain ⟨h1, h2⟩ := h.lev s hsm
      refine ⟨fun t ht hdt => ?_, ?_⟩
      · simp only [Bool.or_eq_true, beq_iff_eq, Prod.mk.injEq] at hdt
        rcases hdt with q | ⟨_, rfl⟩
        · have := h1 t ht q; omega
        · omega
      · by_cases e2 : el lv s ≤ lvF g tg + 1
        · exact .inr ⟨tg, hp, by simp, by omega⟩
        · rcases h2 with q | ⟨t, q1, q2, q3⟩
          · omega
          · exact .inr ⟨t, q1, by simp [q2], by omega⟩
    · rw [el_set_other e]
      obtain ⟨h1, h2⟩ := h.lev x hx
      have hxs : ¬ x = s := fun q => e q.symm
      exact ⟨fun t ht hdt => h1 t ht (by simpa [hxs] using hdt), h2.imp id fun ⟨t, q1, q2, q3⟩ => ⟨t, q1, by simp [q2], q3⟩⟩
theorem KI.turn {tg : Nat} (h : KI g P D i (fromR P tg).length lv lf d) (hto : D[i]? = some tg) : KI g P D (i + 1) 0 lv lf d := by
  refine ⟨h.nd, h.lt, h.ll, h.lfl, h.left, fun s t hp => ?_, h.mem, h.lev⟩
  rw [h.dd s t hp]
  have e : D.take (i + 1) = D.take i ++ [tg] := by rw [List.take_add_one, hto]; rfl
  rw [e, List.mem_append, List.mem_singleton]
  constructor
  · rintro (q | ⟨q1, _⟩)
    · exact .inl (.inl q)
    · rw [hto] at q1; exact .inl (.inr (Option.some.inj q1).symm)
  · rintro ((q | rfl) | ⟨_, q⟩)
    · exact .inl q
    · exact .inr ⟨hto, by rw [List.take_length]; exact mem_fromR.2 ⟨s, rfl, hp⟩⟩
    · simp at q
theorem KI.done (h : KI g P D i 0 lv lf d) (hP : BI g g.length 0 P) (hi : D.length ≤ i) : lv = lvL g := by
  have key : ∀ (k s : Nat), rkG g s ≤ k → s < (grpL g).length → s ∈ D := by
    intro k
    induction k with
    | zero =>
      intro s hk hs
      rw [h.mem s hs, h.left s hs, List.countP_eq_zero]
      rintro ⟨a, t⟩ hp hq
      simp at hq
      obtain ⟨rfl, hq⟩ := hq
      have hE := hP.done.1 hp
      have := (ranked g).down a t hE.lt.1 hE.lt.2 (gEB_iff.2 hE)
      omega
    | succ k ih =>
      intro s hk hs
      rw [h.mem s hs, h.left s hs, List.countP_eq_zero]
      rintro ⟨a, t⟩ hp hq
      simp at hq
      obtain ⟨rfl, hq⟩ := hq
      have hE := hP.done.1 hp
      have hr := (ranked g).down a t hE.lt.1 hE.lt.2 (gEB_iff.2 hE)
      have htD := ih t (by omega) hE.lt.2
      have := (h.dd a t hp).2 (.inl (by rw [List.take_of_length_le hi]; exact htD))
      rw [hq] at this; cases this
  refine ext_el (by rw [h.ll, lvL_len]) fun s hs => ?_
  rw [h.ll] at hs
  rw [lvL_el hs]
  exact h.full hP (key _ s (Nat.le_refl _) hs)
end

end Go.Proofs.Ytdbjmonboecfgaa
