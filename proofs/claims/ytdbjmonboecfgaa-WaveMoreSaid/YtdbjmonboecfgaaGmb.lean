/- Groups of nodes that reach one another: a node is left, a group is closed; what is so behind all. No program. -/
import Derived.Test.YtdbjmonboecfgaaGm
namespace Go.Proofs.Ytdbjmonboecfgaa
set_option linter.unusedVariables false
set_option linter.unusedSimpArgs false

section
variable {g : Gr} {ex : Option Nat} {s : St} {x p : Nat} {r : List (Nat × Nat)}
/-- All open nodes reach the last one of the way. -/
theorem GInv.toTop (h : GInv g none s) (hw : s.way = (x, p) :: r) : ∀ (n a : Nat), a ∈ s.op → el s.cm a ≤ n → Rch g a x := by
  have hW : s.W = x :: r.map Prod.fst := by unfold St.W; rw [hw]; rfl
  intro n
  induction n with
  | zero => intro a ha hn; have := (h.ops a ha).2; omega
  | succ n ih =>
    intro a ha hn
    by_cases hin : a ∈ s.W
    · have hu := h.up
      rw [hW] at hin hu
      rw [List.pairwise_cons] at hu
      rcases List.mem_cons.1 hin with rfl | hin
      · exact .refl
      · exact hu.1 a hin
    · obtain ⟨h1, _⟩ := h.fin a ha hin
      obtain ⟨_, z, hz, h2, h3⟩ := h.ear a ha
      exact h3.trans (ih z hz (by omega))
theorem GInv.topOp (h : GInv g none s) (hw : s.way = (x, p) :: r) : x ∈ s.op := h.sub x (by unfold St.W; rw [hw]; simp)
theorem GInv.rest (h : GInv g none s) (hw : s.way = (x, p) :: r) : ∀ v ∈ r.map Prod.fst, v ∈ s.op ∧ el s.cm v < el s.cm x ∧ Rch g v x := by
  intro v hv
  have hW : s.W = x :: r.map Prod.fst := by unfold St.W; rw [hw]; rfl
  have h1 := h.wsr
  have h2 := h.up
  rw [hW, List.pairwise_cons] at h1 h2
  exact ⟨h.sub v (by rw [hW]; exact List.mem_cons_of_mem _ hv), h1.1 v hv, h2.1 v hv⟩
/-- The least number that is not its own has a node of the way behind it. -/
theorem GInv.below (h : GInv g none s) (hw : s.way = (x, p) :: r) (hlt : el s.er x < el s.cm x) : r ≠ [] := by
  rintro rfl
  have hW : s.W = [x] := by unfold St.W; rw [hw]; rfl
  obtain ⟨_, z, hz, h2, _⟩ := h.ear x (h.topOp hw)
  obtain ⟨v, hv, h3⟩ := h.bot z hz
  rw [hW, List.mem_singleton] at hv
  subst hv
  omega
/-- A node whose edges are gone through, and that is no first one of a group, is left. -/
theorem GInv.pop (h : GInv g none s) {t q : Nat} (hw : s.way = (x, p) :: (t, q) :: r) (hp : p = (rowG g x).length) (hlt : el s.er x < el s.cm x) (ht : el s.er t ≤ el s.er x) : GInv g none { s with way := (t, q) :: r } := by
  have hW : s.W = x :: t :: r.map Prod.fst := by unfold St.W; rw [hw]; rfl
  have hW' : St.W { s with way := (t, q) :: r } = t :: r.map Prod.fst := rfl
  have hsub : ∀ {v : Nat}, v ∈ t :: r.map Prod.fst → v ∈ s.W := fun hv => by rw [hW]; exact List.mem_cons_of_mem _ hv
  have hres := h.rest (r := (t, q) :: r) hw
  have htx := hres t (by simp)
  have hxo := h.topOp hw
  have hxn : x ∉ t :: r.map Prod.fst := fun hm => by have := (hres x hm).2.1; omega
  have hsr := h.wsr
  rw [hW, List.pairwise_cons, List.pairwise_cons] at hsr
  have hup := h.up
  rw [hW, List.pairwise_cons] at hup
  have htm : ∀ v ∈ t :: r.map Prod.fst, el s.cm v ≤ el s.cm t := fun v hv => by
    rcases List.mem_cons.1 hv with rfl | hv
    · exact Nat.le_refl _
    · exact Nat.le_of_lt (hsr.2.1 v hv)
  refine ⟨h.lc, h.le, h.lf, h.cnt, h.cle, h.srt, h.ops, fun v hv => h.sub v (hsub hv), ?_, ?_, ?_, ?_, ?_, h.ear, ?_, fun v hv => h.dwn v (hsub hv), h.clo, h.same⟩
  · rw [hW', List.pairwise_cons]; exact hsr.2
  · intro a ha
    obtain ⟨v, hv, hle⟩ := h.bot a ha
    rw [hW] at hv
    rcases List.mem_cons.1 hv with rfl | hv
    · exact ⟨t, by rw [hW']; simp, by have := htx.2.1; show el s.cm t ≤ el s.cm a; omega⟩
    · exact ⟨v, hv, hle⟩
  · exact hup.2
  · intro a ha hn z hz
    by_cases e : a = x
    · subst e
      exact (h.ing (a, p) (by rw [hw]; simp)).2 z (by rw [hp, List.take_length]; exact hz.1) hz.2 (by simp)
    · exact h.out a ha (by rw [hW]; intro hm; exact (List.mem_cons.1 hm).elim e hn) z hz
  · intro q' hq'
    exact h.ing q' (by rw [hw]; exact List.mem_cons_of_mem _ hq')
  · intro a ha hn
    by_cases e : a = x
    · subst e
      exact ⟨hlt, t, by rw [hW']; simp, htx.2.1, ht, fun v' hv' _ => htm v' hv'⟩
    · obtain ⟨h1, v, hv, h2, h3, h4⟩ := h.fin a ha (by rw [hW]; intro hm; exact (List.mem_cons.1 hm).elim e hn)
      rw [hW] at hv
      rcases List.mem_cons.1 hv with rfl | hv
      · exact ⟨h1, t, by rw [hW']; simp, by have := htx.2.1; show el s.cm t < el s.cm a; omega, by show el s.er t ≤ el s.er a; omega, fun v' hv' _ => htm v' hv'⟩
      · exact ⟨h1, v, hv, h2, h3, fun v' hv' => h4 v' (hsub hv')⟩

/-! ### a group is closed -/
/-- The group's nodes are those that were met from x on. -/
def St.close (s : St) (P : List Nat) (x n : Nat) (op : List Nat) (way : List (Nat × Nat)) : St := { way := way, op := op, cnt := s.cnt, cm := s.cm, er := setAll s.er P (n + 1), fs := setAll s.fs P x }
theorem GInv.split (h : GInv g none s) (hw : s.way = (x, p) :: r) : ∃ pre rest, s.op = pre ++ x :: rest ∧ (∀ u ∈ pre, el s.cm x < el s.cm u) ∧ (∀ u ∈ rest, el s.cm u < el s.cm x) := by
  obtain ⟨pre, rest, e⟩ := List.append_of_mem (h.topOp hw)
  have hs := h.srt
  rw [e, List.pairwise_append, List.pairwise_cons] at hs
  exact ⟨pre, rest, e, fun u hu => hs.2.2 u hu x (by simp), hs.2.1.1⟩
theorem GInv.close (h : GInv g none s) (hw : s.way = (x, p) :: r) (hp : p = (rowG g x).length) (he : el s.er x = el s.cm x) {pre rest : List Nat} (ho : s.op = pre ++ x :: rest) : GInv g none (s.close (pre ++ [x]) x g.length rest r) := by
  have hs := h.srt
  rw [ho, List.pairwise_append, List.pairwise_cons] at hs
  have hpre : ∀ u ∈ pre, el s.cm x < el s.cm u := fun u hu => hs.2.2 u hu x (by simp)
  have hrest : ∀ u ∈ rest, el s.cm u < el s.cm x := hs.2.1.1
  have hW : s.W = x :: r.map Prod.fst := by unfold St.W; rw [hw]; rfl
  have hW' : (s.close (pre ++ [x]) x g.length rest r).W = r.map Prod.fst := rfl
  have hO' : (s.close (pre ++ [x]) x g.length rest r).op = rest := rfl
  have hxo := h.topOp hw
  have hxn := h.opLt hxo
  have hres := h.rest hw
  obtain ⟨P, hP⟩ : ∃ P, pre ++ [x] = P := ⟨_, rfl⟩
  have memP : ∀ {u : Nat}, u ∈ P ↔ u ∈ pre ∨ u = x := by intro u; rw [← hP]; simp
  have memO : ∀ {u : Nat}, u ∈ s.op ↔ u ∈ P ∨ u ∈ rest := by intro u; rw [ho, memP]; simp only [List.mem_append, List.mem_cons]; exact or_assoc.symm
  have Pge : ∀ {u : Nat}, u ∈ P → el s.cm x ≤ el s.cm u := fun hu => (memP.1 hu).elim (fun hu => Nat.le_of_lt (hpre _ hu)) (fun e => e ▸ Nat.le_refl _)
  have disj : ∀ {u : Nat}, u ∈ P → u ∉ rest := fun hu hr => by have := Pge hu; have := hrest _ hr; omega
  have Pop : ∀ {u : Nat}, u ∈ P → u ∈ s.op := fun hu => memO.2 (.inl hu)
  have Plt : ∀ {u : Nat}, u ∈ P → u < g.length := fun hu => h.opLt (Pop hu)
  rw [hP]
  have er1 : ∀ {u : Nat}, u ∈ P → el (setAll s.er P (g.length + 1)) u = g.length + 1 := fun hu => by rw [setAll_el _ _ _ _ (by rw [h.le]; exact Plt hu), if_pos hu]
  have er0 : ∀ {u : Nat}, u < g.length → u ∉ P → el (setAll s.er P (g.length + 1)) u = el s.er u := fun hl hu => by rw [setAll_el _ _ _ _ (by rw [h.le]; exact hl), if_neg hu]
  have fs1 : ∀ {u : Nat}, u ∈ P → el (setAll s.fs P x) u = x := fun hu => by rw [setAll_el _ _ _ _ (by rw [h.lf]; exact Plt hu), if_pos hu]
  have fs0 : ∀ {u : Nat}, u < g.length → u ∉ P → el (setAll s.fs P x) u = el s.fs u := fun hl hu => by rw [setAll_el _ _ _ _ (by rw [h.lf]; exact hl), if_neg hu]
  have met_lt : ∀ {u : Nat}, 0 < el s.cm u → u < g.length := fun hu => by rw [← h.lc]; exact el_lt hu
  have rW : ∀ {v : Nat}, v ∈ rest → v ≠ x := fun hv e => by have := hrest _ hv; rw [e] at this; omega
  have rMem : ∀ {v : Nat}, v ∈ r.map Prod.fst → v ∈ rest := fun hv => by
    obtain ⟨h1, h2, _⟩ := hres _ hv
    exact (memO.1 h1).resolve_left fun hq => by have := Pge hq; omega
  -- each of the group, and the first, reach one another
  have toX : ∀ {u : Nat}, u ∈ P → Rch g u x := fun hu => h.toTop hw _ _ (Pop hu) (Nat.le_refl _)
  have ofX : ∀ {u : Nat}, u ∈ P → Rch g x u := fun hu => h.dwn x (by rw [hW]; simp) _ (Pop hu) (Pge hu)
  -- an edge of one of the group leads to one of the group, or to a closed one
  have stay : ∀ {u z : Nat}, u ∈ P → ed g u z → 0 < el s.cm z ∧ (z ∈ P ∨ z ∉ s.op) := by
    intro u z hu hz
    have hg : Gd s u z := by
      rcases memP.1 hu with hp' | rfl
      · refine h.out u (h.ops u (Pop hu)).2 (fun hm => ?_) z hz
        rw [hW] at hm
        rcases List.mem_cons.1 hm with rfl | hm
        · have := hpre _ hp'; omega
        · exact disj hu (rMem hm)
      · exact (h.ing (u, p) (by rw [hw]; simp)).2 z (by rw [hp, List.take_length]; exact hz.1) hz.2 (by simp)
    refine ⟨hg.1, ?_⟩
    by_cases hzo : z ∈ s.op
    · left
      have h1 := hg.2.1 (Pop hu) hzo
      have h2 : el s.er x ≤ el s.er u := by
        rcases memP.1 hu with hp' | rfl
        · have huw : u ∉ s.W := fun hm => by
            rw [hW] at hm
            rcases List.mem_cons.1 hm with rfl | hm
            · have := hpre _ hp'; omega
            · exact disj hu (rMem hm)
          obtain ⟨_, v, hv, h3, h4, h5⟩ := h.fin u (Pop hu) huw
          have h6 := h5 x (by rw [hW]; simp) (hpre _ hp')
          rw [hW] at hv
          rcases List.mem_cons.1 hv with rfl | hv
          · exact h4
          · have := (hres _ hv).2.1; omega
        · exact Nat.le_refl _
      refine (memO.1 hzo).resolve_right fun hzr => ?_
      have := hrest _ hzr
      omega
    · exact .inr hzo
  have oldC : ∀ {a b : Nat}, (0 < el s.cm a ∧ a ∉ s.op) → ed g a b → 0 < el s.cm b ∧ b ∉ s.op := by
    rintro a b ⟨h1, h2⟩ he'
    have hg := h.out a h1 (fun hm => h2 (h.sub a hm)) b he'
    exact ⟨hg.1, hg.2.2 h2⟩
  have oldR : ∀ {a b : Nat}, 0 < el s.cm a → a ∉ s.op → Rch g a b → b ∉ s.op := fun h1 h2 hr => (hr.keep (C := fun a => 0 < el s.cm a ∧ a ∉ s.op) (fun _ _ => oldC) ⟨h1, h2⟩).2
  have cl : ∀ {a : Nat}, a ∉ rest → a ∈ P ∨ a ∉ s.op := fun {a} hn => by
    by_cases hin : a ∈ s.op
    · exact .inl ((memO.1 hin).resolve_right hn)
    · exact .inr hin
  have gdr : ∀ {a z : Nat}, a ∈ rest → Gd s a z → Gd (s.close P x g.length rest r) a z := by
    rintro a z ha ⟨h1, h2, h3⟩
    refine ⟨h1, fun _ hz => ?_, fun q => absurd ha q⟩
    show el (setAll s.er P (g.length + 1)) a ≤ el s.cm z
    rw [er0 (h.opLt (memO.2 (.inr ha))) (fun q => disj q ha)]
    exact h2 (memO.2 (.inr ha)) (memO.2 (.inr hz))
  refine ⟨h.lc, by show (setAll _ _ _).length = _; rw [setAll_length, h.le], by show (setAll _ _ _).length = _; rw [setAll_length, h.lf], h.cnt, h.cle, hs.2.1.2, fun u hu => h.ops u (memO.2 (.inr hu)), fun v hv => rMem hv, ?_, ?_, ?_, ?_, ?_, ?_, ?_, ?_, ?_, ?_⟩
  · have := h.wsr
    rw [hW, List.pairwise_cons] at this
    exact this.2
  · intro a ha
    obtain ⟨v, hv, hle⟩ := h.bot a (memO.2 (.inr ha))
    rw [hW] at hv
    rcases List.mem_cons.1 hv with rfl | hv
    · have := hrest a ha; omega
    · exact ⟨v, hv, hle⟩
  · have := h.up
    rw [hW, List.pairwise_cons] at this
    exact this.2
  · intro a ha hn z hz
    by_cases har : a ∈ rest
    · refine gdr har (h.out a ha (fun hm => ?_) z hz)
      rw [hW] at hm
      rcases List.mem_cons.1 hm with e | hm
      · exact rW har e
      · exact hn hm
    · have hst : 0 < el s.cm z ∧ (z ∈ P ∨ z ∉ s.op) := by
        rcases cl har with hq | hq
        · exact stay hq hz
        · have := oldC ⟨ha, hq⟩ hz
          exact ⟨this.1, .inr this.2⟩
      exact ⟨hst.1, fun q => absurd q har, fun _ hzr => hst.2.elim (fun q => disj q hzr) (fun q => q (memO.2 (.inr hzr)))⟩
  · intro q hq
    obtain ⟨h1, h2⟩ := h.ing q (by rw [hw]; exact List.mem_cons_of_mem _ hq)
    exact ⟨h1, fun z a b c => gdr (rMem (List.mem_map.2 ⟨q, hq, rfl⟩)) (h2 z a b c)⟩
  · intro a ha
    obtain ⟨h1, z, hz, h2, h3⟩ := h.ear a (memO.2 (.inr ha))
    have e := er0 (h.opLt (memO.2 (.inr ha))) (fun q => disj q ha)
    refine ⟨by show el (setAll _ _ _) a ≤ _; rw [e]; exact h1, z, ?_, by show _ = el (setAll _ _ _) a; rw [e]; exact h2, h3⟩
    refine (memO.1 hz).resolve_left fun hzP => ?_
    have := Pge hzP
    have := hrest a ha
    omega
  · intro a ha hn
    have haw : a ∉ s.W := fun hm => by
      rw [hW] at hm
      rcases List.mem_cons.1 hm with e | hm
      · exact rW ha e
      · exact hn hm
    obtain ⟨h1, v, hv, h2, h3, h4⟩ := h.fin a (memO.2 (.inr ha)) haw
    have e := er0 (h.opLt (memO.2 (.inr ha))) (fun q => disj q ha)
    rw [hW] at hv
    rcases List.mem_cons.1 hv with rfl | hv
    · have := hrest a ha; omega
    · have e2 := er0 (h.opLt (memO.2 (.inr (rMem hv)))) (fun q => disj q (rMem hv))
      refine ⟨by show el (setAll _ _ _) a < _; rw [e]; exact h1, v, hv, h2, by show el (setAll _ _ _) v ≤ el (setAll _ _ _) a; rw [e, e2]; exact h3, fun v' hv' => h4 v' (by rw [hW]; exact List.mem_cons_of_mem _ hv')⟩
  · intro v hv a ha
    exact h.dwn v (by rw [hW]; exact List.mem_cons_of_mem _ hv) a (memO.2 (.inr ha))
  · intro a ha hn
    rcases cl hn with hq | hq
    · exact ⟨er1 hq, by show el (setAll _ _ _) a < _; rw [fs1 hq]; exact hxn, by show 0 < el s.cm (el (setAll _ _ _) a); rw [fs1 hq]; exact (h.ops x hxo).2, by show el (setAll _ _ _) a ∉ rest; rw [fs1 hq]; exact fun hr => rW hr rfl⟩
    · obtain ⟨h1, h2, h3, h4⟩ := h.clo a ha hq
      have haP : a ∉ P := fun q => hq (Pop q)
      refine ⟨by show el (setAll _ _ _) a = _; rw [er0 (met_lt ha) haP]; exact h1, ?_, ?_, ?_⟩
      · show el (setAll _ _ _) a < _; rw [fs0 (met_lt ha) haP]; exact h2
      · show 0 < el s.cm (el (setAll _ _ _) a); rw [fs0 (met_lt ha) haP]; exact h3
      · show el (setAll _ _ _) a ∉ rest; rw [fs0 (met_lt ha) haP]; exact fun hr => h4 (memO.2 (.inr hr))
  · intro a b ha hna hb hnb
    show el (setAll s.fs P x) a = el (setAll s.fs P x) b ↔ _
    have one : ∀ {a b : Nat}, a ∈ P → 0 < el s.cm b → b ∉ s.op → (el (setAll s.fs P x) a ≠ el (setAll s.fs P x) b) ∧ ¬ Rch g b a := fun {a b} hq hb hbo => by
      refine ⟨?_, fun hr => oldR hb hbo hr (Pop hq)⟩
      rw [fs1 hq, fs0 (met_lt hb) (fun q => hbo (Pop q))]
      intro e
      exact (h.clo b hb hbo).2.2.2 (e ▸ hxo)
    rcases cl hna with hqa | hqa <;> rcases cl hnb with hqb | hqb
    · rw [fs1 hqa, fs1 hqb]
      exact ⟨fun _ => ⟨(toX hqa).trans (ofX hqb), (toX hqb).trans (ofX hqa)⟩, fun _ => rfl⟩
    · have := one hqa hb hqb
      exact ⟨fun e => absurd e this.1, fun e => absurd e.2 this.2⟩
    · have := one hqb ha hqa
      exact ⟨fun e => absurd e.symm this.1, fun e => absurd e.1 this.2⟩
    · rw [fs0 (met_lt ha) (fun q => hqa (Pop q)), fs0 (met_lt hb) (fun q => hqb (Pop q))]
      exact h.same a b ha hqa hb hqb
end

/-! ### ahead of all, and behind all -/
def St.zero (n : Nat) : St := { way := [], op := [], cnt := 0, cm := List.replicate n 0, er := List.replicate n 0, fs := List.replicate n 0 }
theorem el_zeros (n i : Nat) : el (List.replicate n 0) i = 0 := by
  unfold el
  rw [List.getD_eq_getElem?_getD, List.getElem?_replicate]
  split <;> rfl
theorem GInv.zero (g : Gr) : GInv g none (St.zero g.length) := by
  have h0 : ∀ a, ¬ 0 < el (St.zero g.length).cm a := fun a => by show ¬ 0 < el (List.replicate _ 0) a; rw [el_zeros]; omega
  refine ⟨by simp [St.zero], by simp [St.zero], by simp [St.zero], ?_, fun x => ?_, .nil, fun x hx => by simp [St.zero] at hx, fun x hx => by simp [St.zero] at hx, .nil, fun x hx => by simp [St.zero] at hx, .nil, fun a ha => absurd ha (h0 a), fun q hq => by simp [St.zero] at hq, fun a ha => by simp [St.zero] at ha, fun a ha => by simp [St.zero] at ha, fun v hv => by simp [St.zero] at hv, fun a ha => absurd ha (h0 a), fun a b ha => absurd ha (h0 a)⟩
  · show um (List.replicate _ 0) + 0 = _
    unfold um
    rw [List.countP_replicate]
    simp
  · have := h0 x
    show el (St.zero g.length).cm x ≤ 0
    omega
/-- No way: no open node. -/
theorem GInv.noOp {g : Gr} {s : St} (h : GInv g none s) (hw : s.way = []) : s.op = [] := by
  refine List.eq_nil_iff_forall_not_mem.2 fun a ha => ?_
  obtain ⟨v, hv, _⟩ := h.bot a ha
  unfold St.W at hv
  rw [hw] at hv
  simp at hv
theorem GInv.closed {g : Gr} {s : St} (h : GInv g none s) (hw : s.way = []) {a b : Nat} (ha : 0 < el s.cm a) (hr : Rch g a b) : 0 < el s.cm b := by
  have ho := h.noOp hw
  refine hr.keep (C := fun a => 0 < el s.cm a) (fun u z hu hz => ?_) ha
  exact (h.out u hu (by unfold St.W; rw [hw]; simp) z hz).1
theorem GInv.groups {g : Gr} {s : St} (h : GInv g none s) (hw : s.way = []) (hall : ∀ a, a < g.length → 0 < el s.cm a) : (∀ a, a < g.length → el s.fs a < g.length) ∧ ∀ a b, a < g.length → b < g.length → (el s.fs a = el s.fs b ↔ Rch g a b ∧ Rch g b a) := by
  have ho := h.noOp hw
  have hn : ∀ a, a ∉ s.op := fun a => by rw [ho]; simp
  exact ⟨fun a ha => (h.clo a (hall a ha) (hn a)).2.1, fun a b ha hb => h.same a b (hall a ha) (hn a) (hall b hb) (hn b)⟩

end Go.Proofs.Ytdbjmonboecfgaa
