/- Groups of nodes that reach one another, by a walk with a stack of its own: the mathematics. No program. -/
import Derived.Test.YtdbjmonboecfgaaPartm
namespace Go.Proofs.Ytdbjmonboecfgaa
set_option linter.unusedVariables false
set_option linter.unusedSimpArgs false

abbrev Gr := List (List Int)
/-- To where a node leads. -/
def rowG (g : Gr) (x : Nat) : List Int := g.getD x []
def ed (g : Gr) (x y : Nat) : Prop := (y : Int) ∈ rowG g x ∧ y < g.length
inductive Rch (g : Gr) (a : Nat) : Nat → Prop
  | refl : Rch g a a
  | step {b c : Nat} : Rch g a b → ed g b c → Rch g a c
theorem Rch.trans {g : Gr} {a b c : Nat} (h : Rch g a b) (k : Rch g b c) : Rch g a c := by
  induction k with
  | refl => exact h
  | step _ he ih => exact .step ih he
theorem Rch.one {g : Gr} {a b : Nat} (h : ed g a b) : Rch g a b := .step .refl h
theorem Rch.lt {g : Gr} {a b : Nat} (h : Rch g a b) (ha : a < g.length) : b < g.length := by
  cases h with
  | refl => exact ha
  | step _ he => exact he.2
/-- What is closed under edges keeps what one comes to. -/
theorem Rch.keep {g : Gr} {C : Nat → Prop} (hC : ∀ a b, C a → ed g a b → C b) {a b : Nat} (h : Rch g a b) (ha : C a) : C b := by
  induction h with
  | refl => exact ha
  | step _ he ih => exact hC _ _ ih he

/-! ### lists of numbers, set in places -/
theorem el_out {p : List Nat} {i : Nat} (h : p.length ≤ i) : el p i = 0 := by
  unfold el; simp [List.getD, List.getElem?_eq_none h]
theorem el_lt {p : List Nat} {i : Nat} (h : 0 < el p i) : i < p.length := by
  rcases Nat.lt_or_ge i p.length with h1 | h1
  · exact h1
  · rw [el_out h1] at h; omega
def setAll (l P : List Nat) (v : Nat) : List Nat := P.foldl (fun l y => l.set y v) l
theorem setAll_nil (l : List Nat) (v : Nat) : setAll l [] v = l := rfl
theorem setAll_snoc (l P : List Nat) (y v : Nat) : setAll l (P ++ [y]) v = (setAll l P v).set y v := by unfold setAll; rw [List.foldl_append]; rfl
theorem setAll_length (l P : List Nat) (v : Nat) : (setAll l P v).length = l.length := by
  induction P generalizing l with
  | nil => rfl
  | cons y P ih => show (setAll (l.set y v) P v).length = _; rw [ih]; simp
theorem setAll_el (l P : List Nat) (v i : Nat) (hi : i < l.length) : el (setAll l P v) i = if i ∈ P then v else el l i := by
  induction P generalizing l with
  | nil => simp [setAll]
  | cons y P ih =>
    show el (setAll (l.set y v) P v) i = _
    rw [ih _ (by simpa using hi)]
    by_cases h1 : i ∈ P
    · simp [h1]
    · by_cases h2 : y = i
      · subst h2; simp [h1, el_set_self hi]
      · rw [el_set_other h2]
        have : ¬ i = y := fun e => h2 e.symm
        simp [h1, this]
/-- How many are 0. -/
def um (l : List Nat) : Nat := l.countP (· == 0)
theorem um_set : ∀ {l : List Nat} {i v : Nat}, i < l.length → el l i = 0 → 0 < v → um (l.set i v) + 1 = um l
  | [], i, v, h, _, _ => by simp at h
  | c :: l, 0, v, _, h0, hv => by
    have : c = 0 := by simpa [el] using h0
    subst this
    have : ¬ v = 0 := by omega
    simp [um, List.countP_cons, this]
  | c :: l, i + 1, v, h, h0, hv => by
    have h1 := um_set (l := l) (i := i) (v := v) (by simpa using h) (by simpa [el] using h0) hv
    unfold um at h1 ⊢
    simp only [List.set_cons_succ, List.countP_cons]
    omega
/-- What is left to do at nodes that are not met. -/
def cost : Gr → List Nat → Nat
  | r :: g, c :: l => (if c = 0 then r.length + 2 else 0) + cost g l
  | _, _ => 0
theorem cost_set : ∀ {g : Gr} {l : List Nat} {i v : Nat}, i < g.length → i < l.length → el l i = 0 → 0 < v → cost g (l.set i v) + ((rowG g i).length + 2) = cost g l
  | [], _, i, v, h, _, _, _ => by simp at h
  | _ :: _, [], i, v, _, h, _, _ => by simp at h
  | r :: g, c :: l, 0, v, _, _, h0, hv => by
    have : c = 0 := by simpa [el] using h0
    subst this
    have : ¬ v = 0 := by omega
    simp [cost, rowG, this]; omega
  | r :: g, c :: l, i + 1, v, h, h2, h0, hv => by
    have h1 := cost_set (g := g) (l := l) (i := i) (v := v) (by simpa using h) (by simpa using h2) (by simpa [el] using h0) hv
    have e : rowG (r :: g) (i + 1) = rowG g i := by simp [rowG]
    rw [e]
    simp only [List.set_cons_succ, cost]
    omega
def wcost (g : Gr) : List (Nat × Nat) → Nat
  | [] => 0
  | q :: r => ((rowG g q.1).length - q.2 + 1) + wcost g r

/-! ### where the walk is -/
/-- The way (its last node first, each with the place where its row goes on), the open nodes (the last met first), how many were met, and of each node: its number, the least that it reaches, the first of its group. -/
structure St where
  way : List (Nat × Nat)
  op : List Nat
  cnt : Nat
  cm : List Nat
  er : List Nat
  fs : List Nat
abbrev St.W (s : St) : List Nat := s.way.map Prod.fst
def Gd (s : St) (a z : Nat) : Prop := 0 < el s.cm z ∧ (a ∈ s.op → z ∈ s.op → el s.er a ≤ el s.cm z) ∧ (a ∉ s.op → z ∉ s.op)

structure GInv (g : Gr) (ex : Option Nat) (s : St) : Prop where
  lc : s.cm.length = g.length
  le : s.er.length = g.length
  lf : s.fs.length = g.length
  cnt : um s.cm + s.cnt = g.length
  cle : ∀ x, el s.cm x ≤ s.cnt
  srt : s.op.Pairwise fun a b => el s.cm b < el s.cm a
  ops : ∀ x ∈ s.op, x < g.length ∧ 0 < el s.cm x
  sub : ∀ v ∈ s.W, v ∈ s.op
  wsr : s.W.Pairwise fun a b => el s.cm b < el s.cm a
  bot : ∀ a ∈ s.op, ∃ v ∈ s.W, el s.cm v ≤ el s.cm a
  up : s.W.Pairwise fun a b => Rch g b a
  out : ∀ a, 0 < el s.cm a → a ∉ s.W → ∀ z, ed g a z → Gd s a z
  ing : ∀ q ∈ s.way, q.2 ≤ (rowG g q.1).length ∧ ∀ z : Nat, (z : Int) ∈ (rowG g q.1).take q.2 → z < g.length → ex ≠ some z → Gd s q.1 z
  ear : ∀ a ∈ s.op, el s.er a ≤ el s.cm a ∧ ∃ z ∈ s.op, el s.cm z = el s.er a ∧ Rch g a z
  fin : ∀ a ∈ s.op, a ∉ s.W → el s.er a < el s.cm a ∧ ∃ v ∈ s.W, el s.cm v < el s.cm a ∧ el s.er v ≤ el s.er a ∧ ∀ v' ∈ s.W, el s.cm v' < el s.cm a → el s.cm v' ≤ el s.cm v
  dwn : ∀ v ∈ s.W, ∀ a ∈ s.op, el s.cm v ≤ el s.cm a → Rch g v a
  clo : ∀ a, 0 < el s.cm a → a ∉ s.op → el s.er a = g.length + 1 ∧ el s.fs a < g.length ∧ 0 < el s.cm (el s.fs a) ∧ el s.fs a ∉ s.op
  same : ∀ a b, 0 < el s.cm a → a ∉ s.op → 0 < el s.cm b → b ∉ s.op → (el s.fs a = el s.fs b ↔ Rch g a b ∧ Rch g b a)

section
variable {g : Gr} {ex : Option Nat} {s : St}
theorem GInv.nle (h : GInv g ex s) (x : Nat) : el s.cm x ≤ g.length := by have := h.cle x; have := h.cnt; omega
theorem GInv.opLt (h : GInv g ex s) {x : Nat} (hx : x ∈ s.op) : x < g.length := (h.ops x hx).1
theorem GInv.wLt (h : GInv g ex s) {q : Nat × Nat} (hq : q ∈ s.way) : q.1 < g.length := h.opLt (h.sub _ (List.mem_map.2 ⟨q, hq, rfl⟩))

/-! ### a node is met -/
def St.enter (s : St) (y : Nat) : St := { way := (y, 0) :: s.way, op := y :: s.op, cnt := s.cnt + 1, cm := s.cm.set y (s.cnt + 1), er := s.er.set y (s.cnt + 1), fs := s.fs }
theorem GInv.enter (h : GInv g ex s) {y : Nat} (hex : ∀ z, ex = some z → z = y) (hy : y < g.length) (h0 : el s.cm y = 0) (hl : ∀ v ∈ s.W, Rch g v y) : GInv g none (s.enter y) := by
  have hyo : y ∉ s.op := fun hm => by have := (h.ops y hm).2; omega
  have hyw : y ∉ s.W := fun hm => hyo (h.sub y hm)
  have cy : el (s.enter y).cm y = s.cnt + 1 := el_set_self (by rw [h.lc]; exact hy)
  have ey : el (s.enter y).er y = s.cnt + 1 := el_set_self (by rw [h.le]; exact hy)
  have co : ∀ {a : Nat}, a ≠ y → el (s.enter y).cm a = el s.cm a := fun hne => el_set_other fun e => hne e.symm
  have eo : ∀ {a : Nat}, a ≠ y → el (s.enter y).er a = el s.er a := fun hne => el_set_other fun e => hne e.symm
  have ne_op : ∀ {a : Nat}, a ∈ s.op → a ≠ y := fun ha e => hyo (e ▸ ha)
  have ne_w : ∀ {a : Nat}, a ∈ s.W → a ≠ y := fun ha => ne_op (h.sub _ ha)
  have hW : (s.enter y).W = y :: s.W := rfl
  have hO : (s.enter y).op = y :: s.op := rfl
  have gd : ∀ {a z : Nat}, a ≠ y → z ≠ y → Gd s a z → Gd (s.enter y) a z := by
    intro a z ha hz ⟨h1, h2, h3⟩
    refine ⟨by rw [co hz]; exact h1, fun p q => ?_, fun p q => ?_⟩
    · rw [hO, List.mem_cons] at p q
      rw [co hz, eo ha]
      exact h2 (p.resolve_left ha) (q.resolve_left hz)
    · rw [hO, List.mem_cons] at p q
      exact h3 (fun r => p (.inr r)) (q.resolve_left hz)
  have met : ∀ {a : Nat}, 0 < el (s.enter y).cm a → a ≠ y → 0 < el s.cm a := fun hp hne => by rw [co hne] at hp; exact hp
  refine ⟨by show (s.cm.set _ _).length = _; simp [h.lc], by show (s.er.set _ _).length = _; simp [h.le], h.lf, ?_, ?_, ?_, ?_, ?_, ?_, ?_, ?_, ?_, ?_, ?_, ?_, ?_, ?_, ?_⟩
  · have := um_set (l := s.cm) (i := y) (v := s.cnt + 1) (by rw [h.lc]; exact hy) h0 (by omega)
    have := h.cnt
    show um (s.cm.set y (s.cnt + 1)) + (s.cnt + 1) = _
    omega
  · intro x
    show _ ≤ s.cnt + 1
    by_cases e : x = y
    · subst e; rw [cy]; exact Nat.le_refl _
    · rw [co e]; have := h.cle x; omega
  · rw [hO, List.pairwise_cons]
    refine ⟨fun b hb => by rw [cy, co (ne_op hb)]; have := h.cle b; omega, h.srt.imp_of_mem fun ha hb hr => ?_⟩
    rw [co (ne_op ha), co (ne_op hb)]; exact hr
  · intro x hx
    rw [hO, List.mem_cons] at hx
    rcases hx with rfl | hx
    · exact ⟨hy, by rw [cy]; omega⟩
    · exact ⟨(h.ops x hx).1, by rw [co (ne_op hx)]; exact (h.ops x hx).2⟩
  · intro v hv
    rw [hW, List.mem_cons] at hv
    rw [hO, List.mem_cons]
    exact hv.imp id (h.sub v)
  · rw [hW, List.pairwise_cons]
    refine ⟨fun b hb => by rw [cy, co (ne_w hb)]; have := h.cle b; omega, h.wsr.imp_of_mem fun ha hb hr => ?_⟩
    rw [co (ne_w ha), co (ne_w hb)]; exact hr
  · intro a ha
    rw [hO, List.mem_cons] at ha
    rcases ha with rfl | ha
    · exact ⟨a, by rw [hW]; simp, Nat.le_refl _⟩
    · obtain ⟨v, hv, hle⟩ := h.bot a ha
      exact ⟨v, by rw [hW]; exact List.mem_cons_of_mem _ hv, by rw [co (ne_w hv), co (ne_op ha)]; exact hle⟩
  · rw [hW, List.pairwise_cons]
    exact ⟨hl, h.up⟩
  · intro a ha hn z hz
    rw [hW, List.mem_cons] at hn
    have hay : a ≠ y := fun e => hn (.inl e)
    have hg := h.out a (met ha hay) (fun q => hn (.inr q)) z hz
    refine gd hay (fun e => ?_) hg
    have := hg.1
    rw [e] at this; omega
  · intro q hq
    have hq : q = (y, 0) ∨ q ∈ s.way := List.mem_cons.1 hq
    rcases hq with rfl | hq
    · exact ⟨Nat.zero_le _, fun z hz => by simp at hz⟩
    · obtain ⟨h1, h2⟩ := h.ing q hq
      have hqw : q.1 ∈ s.W := List.mem_map.2 ⟨q, hq, rfl⟩
      refine ⟨h1, fun z hz hzl _ => ?_⟩
      by_cases e : z = y
      · subst e
        refine ⟨by rw [cy]; omega, fun _ _ => ?_, fun p => ?_⟩
        · rw [eo (ne_w hqw), cy]
          have := (h.ear q.1 (h.sub _ hqw)).1
          have := h.cle q.1
          omega
        · exact absurd (List.mem_cons_of_mem _ (h.sub _ hqw)) p
      · exact gd (ne_w hqw) e (h2 z hz hzl (fun q => e (hex z q)))
  · intro a ha
    rw [hO, List.mem_cons] at ha
    rcases ha with rfl | ha
    · exact ⟨by rw [cy, ey]; exact Nat.le_refl _, a, by rw [hO]; simp, by rw [cy, ey], .refl⟩
    · obtain ⟨h1, z, hz, h2, h3⟩ := h.ear a ha
      exact ⟨by rw [co (ne_op ha), eo (ne_op ha)]; exact h1, z, by rw [hO]; exact List.mem_cons_of_mem _ hz, by rw [co (ne_op hz), eo (ne_op ha)]; exact h2, h3⟩
  · intro a ha hn
    rw [hO, List.mem_cons] at ha
    rw [hW, List.mem_cons] at hn
    have hay : a ≠ y := fun e => hn (.inl e)
    obtain ⟨h1, v, hv, h2, h3, h4⟩ := h.fin a (ha.resolve_left hay) (fun q => hn (.inr q))
    refine ⟨by rw [co hay, eo hay]; exact h1, v, by rw [hW]; exact List.mem_cons_of_mem _ hv, by rw [co hay, co (ne_w hv)]; exact h2, by rw [eo hay, eo (ne_w hv)]; exact h3, fun v' hv' hlt => ?_⟩
    rw [hW, List.mem_cons] at hv'
    rcases hv' with rfl | hv'
    · rw [cy, co hay] at hlt; have := h.cle a; omega
    · rw [co (ne_w hv'), co (ne_w hv)]
      rw [co (ne_w hv'), co hay] at hlt
      exact h4 v' hv' hlt
  · intro v hv a ha hle
    rw [hW, List.mem_cons] at hv
    rw [hO, List.mem_cons] at ha
    rcases hv with rfl | hv
    · rcases ha with rfl | ha
      · exact .refl
      · rw [cy, co (ne_op ha)] at hle; have := h.cle a; omega
    · rcases ha with rfl | ha
      · exact hl v hv
      · rw [co (ne_w hv), co (ne_op ha)] at hle
        exact h.dwn v hv a ha hle
  · intro a ha hn
    rw [hO, List.mem_cons] at hn
    have hay : a ≠ y := fun e => hn (.inl e)
    obtain ⟨h1, h2, h3, h4⟩ := h.clo a (met ha hay) (fun q => hn (.inr q))
    have hfy : el s.fs a ≠ y := fun e => by rw [e, h0] at h3; omega
    refine ⟨by rw [eo hay]; exact h1, h2, ?_, ?_⟩
    · show 0 < el (s.enter y).cm (el s.fs a)
      rw [co hfy]; exact h3
    · rw [hO, List.mem_cons]
      rintro (e | e)
      · exact hfy e
      · exact h4 e
  · intro a b ha hna hb hnb
    rw [hO, List.mem_cons] at hna hnb
    have hay : a ≠ y := fun e => hna (.inl e)
    have hby : b ≠ y := fun e => hnb (.inl e)
    exact h.same a b (met ha hay) (fun q => hna (.inr q)) (met hb hby) (fun q => hnb (.inr q))

/-! ### the next edge of the last node -/
theorem GInv.bump (h : GInv g none s) {x p : Nat} {r : List (Nat × Nat)} {Y : Int} (hw : s.way = (x, p) :: r) (hp : (rowG g x)[p]? = some Y) (hz : ∀ z : Nat, (z : Int) = Y → z < g.length → ex ≠ some z → Gd s x z) : GInv g ex { s with way := (x, p + 1) :: r } := by
  have hW : St.W { s with way := (x, p + 1) :: r } = s.W := by unfold St.W; rw [hw]; rfl
  obtain ⟨hp1, hp2⟩ := List.getElem?_eq_some_iff.1 hp
  refine ⟨h.lc, h.le, h.lf, h.cnt, h.cle, h.srt, h.ops, by rw [hW]; exact h.sub, by rw [hW]; exact h.wsr, by rw [hW]; exact h.bot, by rw [hW]; exact h.up, by rw [hW]; exact h.out, ?_, h.ear, by rw [hW]; exact h.fin, by rw [hW]; exact h.dwn, h.clo, h.same⟩
  intro q hq
  have hq : q = (x, p + 1) ∨ q ∈ r := List.mem_cons.1 hq
  rcases hq with rfl | hq
  · refine ⟨hp1, fun z hzm hzl hne => ?_⟩
    dsimp only at hzm ⊢
    rw [List.take_add_one, List.mem_append] at hzm
    rcases hzm with hzm | hzm
    · exact (h.ing (x, p) (by rw [hw]; simp)).2 z hzm hzl (by simp)
    · rw [hp] at hzm
      exact hz z (by simpa using hzm) hzl hne
  · obtain ⟨h1, h2⟩ := h.ing q (by rw [hw]; exact List.mem_cons_of_mem _ hq)
    exact ⟨h1, fun z a b _ => h2 z a b (by simp)⟩
/-- One of the way reaches an earlier one. -/
theorem GInv.lower (h : GInv g none s) {x v : Nat} (hx : x ∈ s.W) (hv : v ≤ el s.er x) (hz : ∃ z ∈ s.op, el s.cm z = v ∧ Rch g x z) : GInv g none { s with er := s.er.set x v } := by
  have hxo := h.sub x hx
  have hle : ∀ a, el (s.er.set x v) a ≤ el s.er a := fun a => by
    by_cases e : x = a
    · subst e; rw [el_set_self (by rw [h.le]; exact h.opLt hxo)]; exact hv
    · rw [el_set_other e]; exact Nat.le_refl _
  have gd : ∀ {a z : Nat}, Gd s a z → Gd { s with er := s.er.set x v } a z := fun ⟨h1, h2, h3⟩ => ⟨h1, fun p q => Nat.le_trans (hle _) (h2 p q), h3⟩
  refine ⟨h.lc, by show (s.er.set _ _).length = _; simp [h.le], h.lf, h.cnt, h.cle, h.srt, h.ops, h.sub, h.wsr, h.bot, h.up, fun a p q z r => gd (h.out a p q z r), fun q hq => ⟨(h.ing q hq).1, fun z a b c => gd ((h.ing q hq).2 z a b c)⟩, fun a ha => ?_, fun a ha hn => ?_, h.dwn, fun a ha hn => ?_, h.same⟩
  · obtain ⟨h1, z, h2⟩ := h.ear a ha
    refine ⟨Nat.le_trans (hle a) h1, ?_⟩
    show ∃ z ∈ s.op, el s.cm z = el (s.er.set x v) a ∧ Rch g a z
    by_cases e : x = a
    · subst e; rw [el_set_self (by rw [h.le]; exact h.opLt hxo)]; exact hz
    · rw [el_set_other e]; exact ⟨z, h2⟩
  · obtain ⟨h1, u, hu, h2, h3, h4⟩ := h.fin a ha hn
    have e : x ≠ a := fun e => hn (e ▸ hx)
    refine ⟨by show el (s.er.set x v) a < _; rw [el_set_other e]; exact h1, u, hu, h2, ?_, h4⟩
    show el (s.er.set x v) u ≤ el (s.er.set x v) a
    rw [el_set_other e]
    exact Nat.le_trans (hle u) h3
  · obtain ⟨h1, h2⟩ := h.clo a ha hn
    have e : x ≠ a := fun e => hn (e ▸ hxo)
    exact ⟨by show el (s.er.set x v) a = _; rw [el_set_other e]; exact h1, h2⟩
end

end Go.Proofs.Ytdbjmonboecfgaa
