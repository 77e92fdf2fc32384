/- Package scc: what each round of the walk keeps. No program. -/
import Derived.Test.YtdbjmonboecfgaaGmb
namespace Go.Proofs.Ytdbjmonboecfgaa
set_option linter.unusedVariables false
set_option linter.unusedSimpArgs false

/-- Of each edge of the way the map tells where the row goes on. -/
def Gok (G : Nat → Nat → Nat) : List (Nat × Nat) → Prop
  | y :: x :: r => G x.1 y.1 = x.2 ∧ Gok G (x :: r)
  | _ => True
theorem Gok.turn {G G' : Nat → Nat → Nat} : ∀ {l : List (Nat × Nat)}, Gok G l → (∀ x y, y ∈ l.map Prod.fst → G' x y = G x y) → Gok G' l
  | [], _, _ => trivial
  | [_], _, _ => trivial
  | y :: x :: r, ⟨h1, h2⟩, h => ⟨(h _ _ (by simp)).trans h1, Gok.turn (l := x :: r) h2 fun a b hb => h a b (List.mem_cons_of_mem _ hb)⟩
theorem Gok.tail {G : Nat → Nat → Nat} {q : Nat × Nat} {l : List (Nat × Nat)} (h : Gok G (q :: l)) : Gok G l := by
  cases l with
  | nil => trivial
  | cons a l => exact h.2
theorem Gok.head {G : Nat → Nat → Nat} {x p p' : Nat} {l : List (Nat × Nat)} (h : Gok G ((x, p) :: l)) : Gok G ((x, p') :: l) := by
  cases l with
  | nil => trivial
  | cons a l => exact h

def LeftSt (s : St) (n x : Nat) (r : List (Nat × Nat)) (S1 : St) : Prop :=
  (el s.er x = el s.cm x ∧ ∃ pre rest, s.op = pre ++ x :: rest ∧ S1 = s.close (pre ++ [x]) x n rest r) ∨ (el s.er x ≠ el s.cm x ∧ S1 = { s with way := r })

structure FInv (g : Gr) (x0 : Nat) (s0 s : St) (G : Nat → Nat → Nat) (k nx : Nat) : Prop where
  inv : GInv g none s
  gok : Gok G s.way
  kle : k ≤ s.cnt
  nx : ∀ q r, s.way = q :: r → q.2 = nx
  mono : ∀ z, 0 < el s0.cm z → 0 < el s.cm z
  from_ : ∀ z, 0 < el s.cm z → 0 < el s0.cm z ∨ Rch g x0 z
  met : 0 < el s.cm x0
  way : ∀ q ∈ s.way, Rch g x0 q.1
def mu (g : Gr) (s : St) : Nat := cost g s.cm + wcost g s.way

section
variable {g : Gr} {x0 : Nat} {s0 s : St} {G : Nat → Nat → Nat} {k nx : Nat}
theorem FInv.start (h : GInv g none s) (hw : s.way = []) (hk : k ≤ s.cnt) (hx : x0 < g.length) (h0 : el s.cm x0 = 0) : FInv g x0 s (s.enter x0) G k 0 := by
  have c1 : el (s.enter x0).cm x0 = s.cnt + 1 := el_set_self (by rw [h.lc]; exact hx)
  have co : ∀ {a : Nat}, a ≠ x0 → el (s.enter x0).cm a = el s.cm a := fun hne => el_set_other fun e => hne e.symm
  have hway : (s.enter x0).way = [(x0, 0)] := by unfold St.enter; rw [hw]
  refine ⟨h.enter (by simp) hx h0 (fun v hv => by unfold St.W at hv; rw [hw] at hv; simp at hv), by rw [hway]; trivial, by show k ≤ s.cnt + 1; omega, fun q r e => by rw [hway] at e; simp at e; rw [← e.1], fun z hz => ?_, fun z hz => ?_, by rw [c1]; omega, fun q hq => ?_⟩
  · by_cases e : z = x0
    · rw [e, c1]; omega
    · rw [co e]; exact hz
  · by_cases e : z = x0
    · rw [e]; exact .inr .refl
    · rw [co e] at hz; exact .inl hz
  · rw [hway] at hq
    simp at hq
    rw [hq]; exact .refl
theorem row_ed {x p : Nat} {Y : Int} {y : Nat} (hp : (rowG g x)[p]? = some Y) (hy : (y : Int) = Y) (hyl : y < g.length) : ed g x y := ⟨by rw [hy]; exact List.mem_of_getElem? hp, hyl⟩
/-- The next edge leads to no node. -/
theorem FInv.skip (h : FInv g x0 s0 s G k nx) {x p : Nat} {r : List (Nat × Nat)} {Y : Int} (hw : s.way = (x, p) :: r) (hp : (rowG g x)[p]? = some Y) (hY : ¬ (0 ≤ Y ∧ Y < g.length)) : FInv g x0 s0 { s with way := (x, p + 1) :: r } G k (p + 1) ∧ mu g { s with way := (x, p + 1) :: r } < mu g s := by
  have hpl := (List.getElem?_eq_some_iff.1 hp).1
  refine ⟨⟨h.inv.bump hw hp fun z hz hl => absurd ⟨by omega, by omega⟩ hY, ?_, h.kle, fun q r e => by simp at e; rw [← e.1], h.mono, h.from_, h.met, ?_⟩, ?_⟩
  · have := h.gok; rw [hw] at this; exact this.head
  · intro q hq
    have hw2 := h.way
    rw [hw] at hw2
    rcases List.mem_cons.1 hq with rfl | hq
    · exact hw2 (x, p) (by simp)
    · exact hw2 q (List.mem_cons_of_mem _ hq)
  · unfold mu
    rw [hw]
    simp only [wcost]
    omega
/-- It leads to one that is met. -/
theorem FInv.low (h : FInv g x0 s0 s G k nx) {x p : Nat} {r : List (Nat × Nat)} {y : Nat} (hw : s.way = (x, p) :: r) (hp : (rowG g x)[p]? = some (y : Int)) (hy : y < g.length) (hm : 0 < el s.cm y) :
    FInv g x0 s0 { s with way := (x, p + 1) :: r, er := s.er.set x (min (el s.er x) (el s.er y)) } G k (p + 1) ∧ mu g { s with way := (x, p + 1) :: r, er := s.er.set x (min (el s.er x) (el s.er y)) } < mu g s := by
  have hpl := (List.getElem?_eq_some_iff.1 hp).1
  have hxw : x ∈ s.W := by unfold St.W; rw [hw]; simp
  have hxo := h.inv.sub x hxw
  have hxl := h.inv.opLt hxo
  have hed : ed g x y := row_ed hp rfl hy
  refine ⟨⟨?_, ?_, h.kle, fun q r e => by simp at e; rw [← e.1], h.mono, h.from_, h.met, ?_⟩, ?_⟩
  · by_cases hyo : y ∈ s.op
    · have h1 : GInv g none { s with er := s.er.set x (min (el s.er x) (el s.er y)) } := h.inv.lower hxw (Nat.min_le_left _ _) (by
        rcases Nat.le_total (el s.er x) (el s.er y) with hle | hle
        · rw [Nat.min_eq_left hle]; exact (h.inv.ear x hxo).2
        · rw [Nat.min_eq_right hle]
          obtain ⟨z, h1, h2, h3⟩ := (h.inv.ear y hyo).2
          exact ⟨z, h1, h2, (Rch.one hed).trans h3⟩)
      refine h1.bump (s := { s with er := s.er.set x (min (el s.er x) (el s.er y)) }) hw hp fun z hz hl _ => ?_
      have e : z = y := by omega
      subst e
      refine ⟨hm, fun _ _ => ?_, fun q => absurd hxo q⟩
      show el (s.er.set x (min (el s.er x) (el s.er z))) x ≤ el s.cm z
      rw [el_set_self (by rw [h.inv.le]; exact hxl)]
      have := (h.inv.ear z hyo).1
      omega
    · have h1 := (h.inv.clo y hm hyo).1
      have h2 := (h.inv.ear x hxo).1
      have h3 := h.inv.nle x
      have e : s.er.set x (min (el s.er x) (el s.er y)) = s.er := by
        rw [Nat.min_eq_left (by omega)]
        refine ext_el (by simp) fun i hi => ?_
        by_cases e : x = i
        · subst e; rw [el_set_self (by rw [h.inv.le]; exact hxl)]
        · rw [el_set_other e]
      rw [e]
      refine h.inv.bump hw hp fun z hz hl _ => ?_
      have e : z = y := by omega
      subst e
      exact ⟨hm, fun _ q => absurd q hyo, fun q => absurd hxo q⟩
  · have := h.gok; rw [hw] at this; exact this.head
  · intro q hq
    have hw2 := h.way
    rw [hw] at hw2
    rcases List.mem_cons.1 hq with rfl | hq
    · exact hw2 (x, p) (by simp)
    · exact hw2 q (List.mem_cons_of_mem _ hq)
  · unfold mu
    rw [hw]
    simp only [wcost]
    omega
/-- It leads to one that is not met. -/
theorem FInv.down (h : FInv g x0 s0 s G k nx) {x p : Nat} {r : List (Nat × Nat)} {y : Nat} (hw : s.way = (x, p) :: r) (hp : (rowG g x)[p]? = some (y : Int)) (hy : y < g.length) (hm : el s.cm y = 0) :
    FInv g x0 s0 (St.enter { s with way := (x, p + 1) :: r } y) (fun a c => if a = x ∧ c = y then p + 1 else G a c) (k + 1) 0 ∧ mu g (St.enter { s with way := (x, p + 1) :: r } y) < mu g s := by
  have hpl := (List.getElem?_eq_some_iff.1 hp).1
  have hed : ed g x y := row_ed hp rfl hy
  have hb : GInv g (some y) { s with way := (x, p + 1) :: r } := h.inv.bump hw hp fun z hz hl hne => absurd (by rw [show z = y by omega]) hne
  have hyw : y ∉ s.W := fun hmem => by have := (h.inv.ops y (h.inv.sub y hmem)).2; omega
  have hW : St.W { s with way := (x, p + 1) :: r } = s.W := by unfold St.W; rw [hw]; rfl
  have hWx : s.W = x :: r.map Prod.fst := by unfold St.W; rw [hw]; rfl
  have c1 : el (St.enter { s with way := (x, p + 1) :: r } y).cm y = s.cnt + 1 := el_set_self (by rw [h.inv.lc]; exact hy)
  have co : ∀ {a : Nat}, a ≠ y → el (St.enter { s with way := (x, p + 1) :: r } y).cm a = el s.cm a := fun hne => el_set_other fun e => hne e.symm
  have hxr : Rch g x0 x := h.way (x, p) (by rw [hw]; simp)
  refine ⟨⟨hb.enter (fun z e => (Option.some.inj e).symm) hy hm (fun v hv => ?_), ?_, by show k + 1 ≤ s.cnt + 1; have := h.kle; omega, fun q r e => by simp [St.enter] at e; rw [← e.1], fun z hz => ?_, fun z hz => ?_, ?_, fun q hq => ?_⟩, ?_⟩
  · rw [hW, hWx] at hv
    have hup := h.inv.up
    rw [hWx, List.pairwise_cons] at hup
    rcases List.mem_cons.1 hv with rfl | hv
    · exact Rch.one hed
    · exact (hup.1 v hv).trans (Rch.one hed)
  · show Gok _ ((y, 0) :: (x, p + 1) :: r)
    refine ⟨by simp, ?_⟩
    have h1 := h.gok
    rw [hw] at h1
    refine (h1.head (p' := p + 1)).turn fun a c hc => ?_
    have : c ≠ y := fun e => hyw (by rw [hWx, ← e]; exact hc)
    simp [this]
  · by_cases e : z = y
    · rw [e, c1]; omega
    · rw [co e]; exact h.mono z hz
  · by_cases e : z = y
    · rw [e]; exact .inr (hxr.trans (Rch.one hed))
    · rw [co e] at hz; exact h.from_ z hz
  · by_cases e : x0 = y
    · rw [e, c1]; omega
    · rw [co e]; exact h.met
  · have hq : q ∈ (y, 0) :: (x, p + 1) :: r := hq
    rcases List.mem_cons.1 hq with rfl | hq
    · exact hxr.trans (Rch.one hed)
    · rcases List.mem_cons.1 hq with rfl | hq
      · exact hxr
      · exact h.way q (by rw [hw]; exact List.mem_cons_of_mem _ hq)
  · have h1 := cost_set (g := g) (l := s.cm) (i := y) (v := s.cnt + 1) hy (by rw [h.inv.lc]; exact hy) hm (by omega)
    unfold mu
    rw [hw]
    show cost g (s.cm.set y (s.cnt + 1)) + wcost g ((y, 0) :: (x, p + 1) :: r) < _
    simp only [wcost]
    omega
theorem LeftSt.er_len {S1 : St} {n x : Nat} {r : List (Nat × Nat)} (h : LeftSt s n x r S1) : S1.er.length = s.er.length ∧ S1.way = r ∧ S1.cm = s.cm ∧ S1.cnt = s.cnt := by
  rcases h with ⟨_, pre, rest, _, rfl⟩ | ⟨_, rfl⟩
  · exact ⟨setAll_length _ _ _, rfl, rfl, rfl⟩
  · exact ⟨rfl, rfl, rfl, rfl⟩
theorem GInv.left (h : GInv g none s) {x p : Nat} {r : List (Nat × Nat)} (hw : s.way = (x, p) :: r) : ∃ S1, LeftSt s g.length x r S1 := by
  by_cases e : el s.er x = el s.cm x
  · obtain ⟨pre, rest, ho, _⟩ := h.split hw
    exact ⟨_, .inl ⟨e, pre, rest, ho, rfl⟩⟩
  · exact ⟨_, .inr ⟨e, rfl⟩⟩
/-- The last node is left. -/
theorem FInv.leave (h : FInv g x0 s0 s G k nx) {x p : Nat} {r : List (Nat × Nat)} {S1 : St} (hw : s.way = (x, p) :: r) (hp : p = (rowG g x).length) (hS : LeftSt s g.length x r S1) :
    (r = [] → FInv g x0 s0 S1 G k 0 ∧ mu g S1 < mu g s) ∧ ∀ t q r', r = (t, q) :: r' → FInv g x0 s0 { S1 with er := S1.er.set t (min (el S1.er t) (el S1.er x)) } (fun a d => if a = t ∧ d = x then 0 else G a d) k q ∧ mu g { S1 with er := S1.er.set t (min (el S1.er t) (el S1.er x)) } < mu g s := by
  obtain ⟨e1, e2, e3, e4⟩ := hS.er_len
  have hmu : ∀ S : St, S.cm = s.cm → S.way = r → mu g S < mu g s := fun S h1 h2 => by
    unfold mu; rw [h1, h2, hw]; simp only [wcost]; omega
  have hWx : s.W = x :: r.map Prod.fst := by unfold St.W; rw [hw]; rfl
  have hxr := h.inv.rest hw
  have hxo := h.inv.topOp hw
  have hxl := h.inv.opLt hxo
  have hwayr : ∀ q ∈ r, Rch g x0 q.1 := fun q hq => h.way q (by rw [hw]; exact List.mem_cons_of_mem _ hq)
  have hgr : Gok G r := by have := h.gok; rw [hw] at this; exact this.tail
  refine ⟨?_, ?_⟩
  · rintro rfl
    have hinv : GInv g none S1 := by
      rcases hS with ⟨he, pre, rest, ho, rfl⟩ | ⟨he, rfl⟩
      · exact h.inv.close hw hp he ho
      · have h1 := (h.inv.ear x hxo).1
        exact absurd rfl (h.inv.below hw (by omega))
    exact ⟨⟨hinv, by rw [e2]; trivial, by rw [e4]; exact h.kle, fun q r e => (by rw [e2] at e; cases e), by rw [e3]; exact h.mono, by rw [e3]; exact h.from_, by rw [e3]; exact h.met, fun q hq => by rw [e2] at hq; simp at hq⟩, hmu S1 e3 e2⟩
  · rintro t q r' rfl
    have htx := hxr t (by simp)
    have hxn : x ∉ ((t, q) :: r').map Prod.fst := fun hm => by have := (hxr x hm).2.1; omega
    refine ⟨⟨?_, ?_, by show k ≤ S1.cnt; rw [e4]; exact h.kle, fun q' r' e => by rw [show St.way { S1 with er := S1.er.set t (min (el S1.er t) (el S1.er x)) } = S1.way from rfl, e2] at e; simp at e; rw [← e.1], by show ∀ z, _ → 0 < el S1.cm z; rw [e3]; exact h.mono, by show ∀ z, 0 < el S1.cm z → _; rw [e3]; exact h.from_, by show 0 < el S1.cm x0; rw [e3]; exact h.met, by show ∀ q ∈ S1.way, _; rw [e2]; exact hwayr⟩, hmu _ e3 e2⟩
    · rcases hS with ⟨he, pre, rest, ho, rfl⟩ | ⟨he, rfl⟩
      · have hc := h.inv.close hw hp he ho
        have hex : el (s.close (pre ++ [x]) x g.length rest ((t, q) :: r')).er x = g.length + 1 := by
          show el (setAll _ _ _) x = _
          rw [setAll_el _ _ _ _ (by rw [h.inv.le]; exact hxl), if_pos (by simp)]
        have hto : t ∈ (s.close (pre ++ [x]) x g.length rest ((t, q) :: r')).op := hc.sub t (by show t ∈ ((t, q) :: r').map Prod.fst; simp)
        have h1 := (hc.ear t hto).1
        have h2 := hc.nle t
        have e : (s.close (pre ++ [x]) x g.length rest ((t, q) :: r')).er.set t (min (el (s.close (pre ++ [x]) x g.length rest ((t, q) :: r')).er t) (el (s.close (pre ++ [x]) x g.length rest ((t, q) :: r')).er x)) = (s.close (pre ++ [x]) x g.length rest ((t, q) :: r')).er := by
          rw [hex, Nat.min_eq_left (by omega)]
          refine ext_el (by simp) fun i hi => ?_
          by_cases e : t = i
          · subst e; rw [el_set_self (by rw [hc.le]; exact hc.opLt hto)]
          · rw [el_set_other e]
        rw [e]
        exact hc
      · have h1 := (h.inv.ear x hxo).1
        have htw : t ∈ s.W := by rw [hWx]; simp
        have hlow : GInv g none { s with er := s.er.set t (min (el s.er t) (el s.er x)) } := h.inv.lower htw (Nat.min_le_left _ _) (by
          rcases Nat.le_total (el s.er t) (el s.er x) with hle | hle
          · rw [Nat.min_eq_left hle]; exact (h.inv.ear t htx.1).2
          · rw [Nat.min_eq_right hle]
            obtain ⟨z, h1, h2, h3⟩ := (h.inv.ear x hxo).2
            exact ⟨z, h1, h2, htx.2.2.trans h3⟩)
        have htx2 : t ≠ x := fun e => hxn (by rw [← e]; simp)
        have q1 : el (s.er.set t (min (el s.er t) (el s.er x))) x = el s.er x := el_set_other htx2
        have q2 : el (s.er.set t (min (el s.er t) (el s.er x))) t = min (el s.er t) (el s.er x) := el_set_self (by rw [h.inv.le]; exact h.inv.opLt htx.1)
        exact hlow.pop (s := { s with er := s.er.set t (min (el s.er t) (el s.er x)) }) hw hp (by show el (s.er.set _ _) x < el s.cm x; rw [q1]; omega) (by show el (s.er.set _ _) t ≤ el (s.er.set _ _) x; rw [q1, q2]; exact Nat.min_le_right _ _)
    · show Gok _ S1.way
      rw [e2]
      refine hgr.turn fun a c hc => ?_
      have : c ≠ x := fun e => hxn (e ▸ hc)
      simp [this]
end

end Go.Proofs.Ytdbjmonboecfgaa
