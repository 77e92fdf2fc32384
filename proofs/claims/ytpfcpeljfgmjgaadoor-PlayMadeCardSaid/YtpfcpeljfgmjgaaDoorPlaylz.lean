/- Mathematics of workers, two: what they did stands one behind the other, each at its place; what is left is what all unitings make. No program. -/
import Derived.Test.YtpfcpeljfgmjgaaDoorZpk
namespace Go.Proofs.YtpfcpeljfgmjgaaDoor
set_option linter.unusedVariables false
set_option linter.unusedSimpArgs false

/-- Are two of one root? -/
abbrev Sm (up : List Nat) (x y : Nat) : Prop := rtu up x = rtu up y

/-- A uniting that succeeds: which roots. -/
theorem win_ok {n : Nat} {pr : List Int} {up : List Nat} {t : Tk} (F : For n pr up) (I : Inv n pr up t) (hst : t.st = 8) (hd : t.dn = false) (hw : (tks up pr t).dn = true) :
    (tks up pr t).res = 1 ∧ ∃ a b, ((a = t.u ∧ b = t.v) ∨ (a = t.v ∧ b = t.u)) ∧ Won n up (ups up pr t) a b := by
  have hne := I.e hd hst
  have un := I.un
  have vn := I.vn
  obtain ⟨k, x, y, st, u, v, w, r, dn, res⟩ := t
  dsimp only at hst hd hne un vn
  subst hst hd
  by_cases hb : bel pr u v
  · by_cases e : el up u = u
    · exact ⟨by simp [tks, hb, e, Tk.fin], u, v, .inl ⟨rfl, rfl⟩, by simpa [ups, hb, e] using F.join un vn hb e⟩
    · simp [tks, hb, e] at hw
  · by_cases e : el up v = v
    · exact ⟨by simp [tks, hb, e, Tk.fin], v, u, .inr ⟨rfl, rfl⟩, by simpa [ups, hb, e] using F.join vn un (bel_total hne hb) e⟩
    · simp [tks, hb, e] at hw

theorem won_sm {n : Nat} {pr : List Int} {up up' : List Nat} {a b : Nat} (F : For n pr up) (W : Won n up up' a b) {p q : Nat} (hp : p < n) (hq : q < n) :
    Sm up' p q ↔ Sm up p q ∨ (Sm up p a ∧ Sm up q b) ∨ (Sm up p b ∧ Sm up q a) := by
  have ra : rtu up a = a := F.rt_self W.an W.was
  have hne := W.ne
  unfold Sm
  rw [W.rt p hp, W.rt q hq, ra]
  by_cases h1 : rtu up p = a <;> by_cases h2 : rtu up q = a <;> simp [h1, h2]
  constructor
  · intro h; exact .inr h.symm
  · rintro (h | h)
    · exact absurd h.symm h2
    · exact h.symm
theorem won_not {n : Nat} {pr : List Int} {up up' : List Nat} {a b : Nat} (F : For n pr up) (W : Won n up up' a b) : ¬ Sm up a b := by
  have ra : rtu up a = a := F.rt_self W.an W.was
  intro h
  exact W.ne (by unfold Sm at h; rw [← h, ra])

/-- The places of finds and questions: what a step finds out. Of a task under way, behind it. -/
structure Cur (n : Nat) (U : Nat → List Nat) (T : Nat) (k : Wk) : Prop where
  b1 : 1 ≤ k.bg
  bT : k.bg ≤ T
  u : Sm (U T) k.t.u k.t.x
  v : Sm (U T) k.t.v k.t.y
  m : k.t.st = 7 → k.bg ≤ k.mt ∧ k.mt ≤ T ∧ el (U k.mt) k.t.v = k.t.v ∧ Sm (U k.mt) k.t.u k.t.x ∧ Sm (U k.mt) k.t.v k.t.y ∧ k.t.u ≠ k.t.v

/-- An event is as it should be at its place. -/
structure EvOk (n : Nat) (U : Nat → List Nat) (T : Nat) (e : Ev) : Prop where
  t : ∃ bg pl en : Nat, e.bg = bg ∧ e.pl = pl ∧ e.en = en ∧ 1 ≤ bg ∧ bg ≤ pl ∧ pl ≤ en ∧ en ≤ T
  x : 0 ≤ e.x ∧ e.x < n
  y : e.k ≠ 1 → 0 ≤ e.y ∧ e.y < n
  r : (e.k = 1 ∧ 0 ≤ e.res ∧ e.res < n ∧ Sm (U e.pl.toNat) e.x.toNat e.res.toNat) ∨
    (e.k = 2 ∧ ((e.res = 1 ∧ Sm (U e.pl.toNat) e.x.toNat e.y.toNat) ∨ (e.res = 0 ∧ ¬ Sm (U e.pl.toNat) e.x.toNat e.y.toNat))) ∨
    (e.k = 3 ∧ ((e.res = 0 ∧ Sm (U e.pl.toNat) e.x.toNat e.y.toNat) ∨
      (e.res = 1 ∧ ¬ Sm (U (e.pl.toNat - 1)) e.x.toNat e.y.toNat ∧ ∀ p q, p < n → q < n → (Sm (U e.pl.toNat) p q ↔ Sm (U (e.pl.toNat - 1)) p q ∨ (Sm (U (e.pl.toNat - 1)) p e.x.toNat ∧ Sm (U (e.pl.toNat - 1)) q e.y.toNat) ∨ (Sm (U (e.pl.toNat - 1)) p e.y.toNat ∧ Sm (U (e.pl.toNat - 1)) q e.x.toNat)))))

/-- Did it unite? -/
def Ev.won (e : Ev) : Prop := e.k = 3 ∧ e.res = 1
instance (e : Ev) : Decidable e.won := by unfold Ev.won; infer_instance

structure Lin (n : Nat) (pr : List Int) (U : Nat → List Nat) (g : Gm) : Prop where
  now : U g.tm = g.up
  F : ∀ t, t ≤ g.tm → For n pr (U t)
  roots : ∀ t, t < g.tm → ∀ j, j < n → el (U (t + 1)) j = j → el (U t) j = j
  merge : ∀ t, t < g.tm → ∀ x y, x < n → y < n → Sm (U t) x y → Sm (U (t + 1)) x y
  evs : ∀ e ∈ g.l, EvOk n U g.tm e
  quiet : ∀ t, t < g.tm → (∃ e ∈ g.l, e.won ∧ e.pl = (t : Int) + 1) ∨ ∀ x y, x < n → y < n → (Sm (U (t + 1)) x y ↔ Sm (U t) x y)
  cur : ∀ (w : Nat) (k : Wk), g.ws[w]? = some k → k.on = true → Cur n U g.tm k
  pw : g.l.Pairwise fun e f => e.en < f.en ∧ e.pl ≠ f.pl ∧ (e.wk = f.wk → e.en < f.bg)
  mp : ∀ e ∈ g.l, ∀ (w : Nat) (k : Wk), g.ws[w]? = some k → k.on = true → k.t.st = 7 → e.pl ≠ (k.mt : Int)
  mm : ∀ (w w' : Nat) (k k' : Wk), w ≠ w' → g.ws[w]? = some k → g.ws[w']? = some k' → k.on = true → k'.on = true → k.t.st = 7 → k'.t.st = 7 → k.mt ≠ k'.mt
  wb : ∀ e ∈ g.l, ∀ (w : Nat) (k : Wk), g.ws[w]? = some k → k.on = true → e.wk = (w : Int) → e.en < (k.bg : Int)

section
variable {n : Nat} {pr : List Int} {U : Nat → List Nat}
theorem mono_roots {g : Gm} (L : Lin n pr U g) : ∀ d t, t + d ≤ g.tm → ∀ j, j < n → el (U (t + d)) j = j → el (U t) j = j
  | 0, t, _, j, _, e => e
  | d + 1, t, h, j, hj, e => mono_roots L d t (by omega) j hj (L.roots (t + d) (by omega) j hj e)
theorem mono_sm {g : Gm} (L : Lin n pr U g) : ∀ d t, t + d ≤ g.tm → ∀ x y, x < n → y < n → Sm (U t) x y → Sm (U (t + d)) x y
  | 0, t, _, x, y, _, _, e => e
  | d + 1, t, h, x, y, hx, hy, e => L.merge (t + d) (by omega) x y hx hy (mono_sm L d t (by omega) x y hx hy e)
theorem Lin.sm_le {g : Gm} (L : Lin n pr U g) {t t' : Nat} (h : t ≤ t') (h' : t' ≤ g.tm) {x y : Nat} (hx : x < n) (hy : y < n) (e : Sm (U t) x y) : Sm (U t') x y := by
  obtain ⟨d, rfl⟩ := Nat.le.dest h
  exact mono_sm L d t h' x y hx hy e
theorem Lin.root_le {g : Gm} (L : Lin n pr U g) {t t' : Nat} (h : t ≤ t') (h' : t' ≤ g.tm) {x : Nat} (hx : x < n) (e : el (U t') x = x) : el (U t) x = x := by
  obtain ⟨d, rfl⟩ := Nat.le.dest h
  exact mono_roots L d t h' x hx e
end

/-- What a step makes of a task under way. -/
theorem cur_step {n : Nat} {pr : List Int} {up : List Nat} {t : Tk} (F : For n pr up) (I : Inv n pr up t) (hd : t.dn = false)
    (hu : Sm up t.u t.x) (hv : Sm up t.v t.y) :
    Sm (ups up pr t) (tks up pr t).u (tks up pr t).x ∧ Sm (ups up pr t) (tks up pr t).v (tks up pr t).y ∧
    ((tks up pr t).dn = false → (tks up pr t).st = 7 → el (ups up pr t) (tks up pr t).v = (tks up pr t).v ∧ (tks up pr t).u ≠ (tks up pr t).v ∧ t.st ≠ 7) := by
  obtain ⟨F', I', D⟩ := step_ok F I
  have hm := D.merge
  have un := I.un
  have vn := I.vn
  have wn := I.wn
  have xn := I.xn
  have yn := I.yn
  have ia := I.a
  have ic := I.c
  have hst : t.st = 1 ∨ t.st = 2 ∨ t.st = 3 ∨ t.st = 4 ∨ t.st = 5 ∨ t.st = 6 ∨ t.st = 7 ∨ t.st = 8 := by have := I.s1; have := I.s8; omega
  obtain ⟨k, x, y, st, u, v, w, r, dn, res⟩ := t
  dsimp only at hd hu hv un vn wn xn yn hst ia ic
  subst hd
  have mu := hm u x un xn hu
  have mv := hm v y vn yn hv
  rcases hst with rfl | rfl | rfl | rfl | rfl | rfl | rfl | rfl
  · by_cases e : el up u = u
    · by_cases hk : k = 1
      · simp [tks, ups, e, Tk.fst, hk, Tk.fin] at mu mv ⊢; exact ⟨mu, mv⟩
      · simp [tks, ups, e, Tk.fst, hk] at mu mv ⊢; exact ⟨mu, mv⟩
    · simp [tks, ups, e] at mu mv ⊢; exact ⟨mu, mv⟩
  · obtain ⟨a1, a2⟩ := ia rfl (.inl rfl)
    have mw := hm w x wn xn (a2.trans hu)
    by_cases e : el up w = w
    · by_cases hk : k = 1
      · simp [tks, ups, e, Tk.fst, hk, Tk.fin] at mw mv ⊢; exact ⟨mw, mv⟩
      · simp [tks, ups, e, Tk.fst, hk] at mw mv ⊢; exact ⟨mw, mv⟩
    · simp [tks, ups, e] at mu mv ⊢; exact ⟨mu, mv⟩
  · obtain ⟨a1, a2⟩ := ia rfl (.inr rfl)
    have mw := hm w x wn xn (a2.trans hu)
    refine ⟨?_, ?_, ?_⟩
    · simpa [tks] using mw
    · simpa [tks] using mv
    · simp [tks]
  · by_cases e : el up v = v
    · by_cases e4 : u = v
      · by_cases hk : k = 2 <;> simp [tks, ups, e, e4, Tk.snd, hk, Tk.fin] at mu mv ⊢ <;> exact ⟨mu, mv⟩
      · by_cases hk : k = 2 <;> simp [tks, ups, e, e4, Tk.snd, hk, Tk.fin] at mu mv ⊢ <;> exact ⟨mu, mv⟩
    · simp [tks, ups, e] at mu mv ⊢; exact ⟨mu, mv⟩
  · obtain ⟨a1, a2⟩ := ic rfl (.inl rfl)
    have mw := hm w y wn yn (a2.trans hv)
    by_cases e : el up w = w
    · by_cases e4 : u = w
      · by_cases hk : k = 2 <;> simp [tks, ups, e, e4, Tk.snd, hk, Tk.fin] at mu mw ⊢ <;> exact ⟨mu, mw⟩
      · by_cases hk : k = 2 <;> simp [tks, ups, e, e4, Tk.snd, hk, Tk.fin] at mu mw ⊢ <;> exact ⟨mu, mw⟩
    · simp [tks, ups, e] at mu mv ⊢; exact ⟨mu, mv⟩
  · obtain ⟨a1, a2⟩ := ic rfl (.inr rfl)
    have mw := hm w y wn yn (a2.trans hv)
    refine ⟨?_, ?_, ?_⟩
    · simpa [tks] using mu
    · simpa [tks] using mw
    · simp [tks]
  · by_cases e : el up u = u
    · simp [tks, ups, e, Tk.fin] at mu mv ⊢; exact ⟨mu, mv⟩
    · simp [tks, ups, e] at mu mv ⊢; exact ⟨mu, mv⟩
  · have h1 : (tks up pr ⟨k, x, y, 8, u, v, w, r, false, res⟩).st ≠ 7 ∧ (tks up pr ⟨k, x, y, 8, u, v, w, r, false, res⟩).u = u ∧ (tks up pr ⟨k, x, y, 8, u, v, w, r, false, res⟩).v = v ∧ (tks up pr ⟨k, x, y, 8, u, v, w, r, false, res⟩).x = x ∧ (tks up pr ⟨k, x, y, 8, u, v, w, r, false, res⟩).y = y := by
      by_cases hb : bel pr u v <;> by_cases e : el up u = u <;> by_cases e2 : el up v = v <;> simp [tks, hb, e, e2, Tk.fin]
    obtain ⟨h1, h2, h3, h4, h5⟩ := h1
    rw [h2, h3, h4, h5]
    exact ⟨mu, mv, fun _ h => absurd h h1⟩

/-- What a task that is done tells. -/
theorem done_step {n : Nat} {pr : List Int} {up : List Nat} {t : Tk} (F : For n pr up) (I : Inv n pr up t) (hd : t.dn = false) (hu : Sm up t.u t.x) (hv : Sm up t.v t.y) (hdn : (tks up pr t).dn = true) :
    (t.k = 1 ∧ (tks up pr t).res < n ∧ Sm (ups up pr t) t.x (tks up pr t).res) ∨
    (t.k = 2 ∧ (((tks up pr t).res = 1 ∧ Sm (ups up pr t) t.x t.y) ∨ ((tks up pr t).res = 0 ∧ t.st = 7 ∧ el up t.u = t.u))) ∨
    (t.k = 3 ∧ (((tks up pr t).res = 0 ∧ Sm (ups up pr t) t.x t.y) ∨ ((tks up pr t).res = 1 ∧ t.st = 8 ∧ t.dn = false))) := by
  obtain ⟨F', I', D⟩ := step_ok F I
  have hm := D.merge
  have un := I.un
  have vn := I.vn
  have wn := I.wn
  have xn := I.xn
  have yn := I.yn
  have ia := I.a
  have ic := I.c
  have ik := I.kk
  have k7 := I.k7
  have k8 := I.k8
  have k1 := I.k1
  have k3 := I.k3
  have hst : t.st = 1 ∨ t.st = 2 ∨ t.st = 3 ∨ t.st = 4 ∨ t.st = 5 ∨ t.st = 6 ∨ t.st = 7 ∨ t.st = 8 := by have := I.s1; have := I.s8; omega
  obtain ⟨k, x, y, st, u, v, w, r, dn, res⟩ := t
  dsimp only at hd hu hv un vn wn xn yn hst ia ic ik k7 k8 k1 k3
  subst hd
  have mu := hm u x un xn hu
  have mv := hm v y vn yn hv
  rcases hst with rfl | rfl | rfl | rfl | rfl | rfl | rfl | rfl
  · by_cases e : el up u = u
    · by_cases hk : k = 1
      · simp [tks, ups, e, Tk.fst, hk, Tk.fin] at mu ⊢; exact ⟨un, mu.symm⟩
      · simp [tks, e, Tk.fst, hk] at hdn
    · simp [tks, e] at hdn
  · obtain ⟨a1, a2⟩ := ia rfl (.inl rfl)
    have mw := hm w x wn xn (a2.trans hu)
    by_cases e : el up w = w
    · by_cases hk : k = 1
      · simp [tks, ups, e, Tk.fst, hk, Tk.fin] at mw ⊢; exact ⟨wn, mw.symm⟩
      · simp [tks, e, Tk.fst, hk] at hdn
    · simp [tks, e] at hdn
  · simp [tks] at hdn
  · have hk1 := ik (by omega)
    by_cases e : el up v = v
    · by_cases e4 : u = v
      · subst e4
        have hxy := mu.symm.trans mv
        by_cases hk : k = 2
        · simp [tks, ups, e, Tk.snd, hk, Tk.fin] at hxy ⊢; exact hxy
        · have : k = 3 := by omega
          simp [tks, ups, e, Tk.snd, this, Tk.fin] at hxy ⊢; exact hxy
      · by_cases hk : k = 2 <;> simp [tks, e, e4, Tk.snd, hk] at hdn
    · simp [tks, e] at hdn
  · have hk1 := ik (by omega)
    obtain ⟨a1, a2⟩ := ic rfl (.inl rfl)
    have mw := hm w y wn yn (a2.trans hv)
    by_cases e : el up w = w
    · by_cases e4 : u = w
      · subst e4
        have hxy := mu.symm.trans mw
        by_cases hk : k = 2
        · simp [tks, ups, e, Tk.snd, hk, Tk.fin] at hxy ⊢; exact hxy
        · have : k = 3 := by omega
          simp [tks, ups, e, Tk.snd, this, Tk.fin] at hxy ⊢; exact hxy
      · by_cases hk : k = 2 <;> simp [tks, e, e4, Tk.snd, hk] at hdn
    · simp [tks, e] at hdn
  · simp [tks] at hdn
  · have hk2 := k7 rfl
    by_cases e : el up u = u
    · simp [tks, ups, e, Tk.fin, hk2]
    · simp [tks, e] at hdn
  · have hk3 := k8 rfl
    obtain ⟨h1, _⟩ := win_ok F I rfl rfl hdn
    exact .inr (.inr ⟨hk3, .inr ⟨h1, rfl, rfl⟩⟩)


/-- What holds of the worker that goes on, ahead of its step. -/
structure Ahead (n : Nat) (U : Nat → List Nat) (g : Gm) (w : Nat) (b : Wk) : Prop where
  b1 : 1 ≤ b.bg
  bT : b.bg ≤ g.tm + 1
  u : Sm (U g.tm) b.t.u b.t.x
  v : Sm (U g.tm) b.t.v b.t.y
  o : (g.ws[w]? = some b ∧ b.on = true) ∨ (b.bg = g.tm + 1 ∧ b.t.st = 1)

theorem ahead {n : Nat} {pr : List Int} {U : Nat → List Nat} {g : Gm} {w : Nat} (L : Lin n pr U g) (G : GInv n pr g) (W : Went n pr g w) (he : (g.wk w).en = true) : Ahead n U g w (g.bg w) := by
  have hw : g.ws[w]? = some (g.wk w) := by
    unfold Gm.wk
    rw [List.getD_eq_getElem?_getD, List.getElem?_eq_getElem W.lt]; rfl
  by_cases e : (g.wk w).on = true
  · have eb : g.bg w = g.wk w := by unfold Gm.bg Wk.beg; rw [if_pos e]
    have C := L.cur w _ hw e
    rw [eb]
    exact ⟨C.b1, Nat.le_succ_of_le C.bT, C.u, C.v, .inl ⟨hw, e⟩⟩
  · cases hl : (g.wk w).left with
    | nil => simp [Wk.en, hl] at he; exact absurd he e
    | cons o r =>
      have eb : g.bg w = ⟨r, true, o.tk, o.y, g.tm + 1, (g.wk w).mt⟩ := by unfold Gm.bg Wk.beg; rw [if_neg e, hl]
      rw [eb]
      exact ⟨by show 1 ≤ g.tm + 1; omega, Nat.le_refl _, rfl, rfl, .inr ⟨rfl, rfl⟩⟩

theorem set_get {α : Type} {l : List α} {i j : Nat} {a b : α} (h : (l.set i a)[j]? = some b) : (i = j ∧ b = a) ∨ (i ≠ j ∧ l[j]? = some b) := by
  rw [List.getElem?_set] at h
  by_cases e : i = j
  · rw [if_pos e] at h
    split at h
    · cases h; exact .inl ⟨e, rfl⟩
    · cases h
  · rw [if_neg e] at h; exact .inr ⟨e, h⟩

theorem ev_mono {n : Nat} {U : Nat → List Nat} {T : Nat} {e : Ev} (h : EvOk n U T e) : EvOk n U (T + 1) e := by
  obtain ⟨⟨bg, pl, en, h1, h2, h3, h4, h5, h6, h7⟩, hx, hy, hr⟩ := h
  exact ⟨⟨bg, pl, en, h1, h2, h3, h4, h5, h6, by omega⟩, hx, hy, hr⟩

/-- The event of a task that is done is as it should be. -/
theorem ev_ok {n : Nat} {pr : List Int} {U : Nat → List Nat} {g : Gm} {w : Nat} (L : Lin n pr U g) (G : GInv n pr g) (W : Went n pr g w) (A : Ahead n U g w (g.bg w)) (hU : U (g.tm + 1) = (adv pr g w).up) (hdn : (g.sp pr w).t.dn = true) :
    EvOk n U (g.tm + 1) (evOf w (g.sp pr w) (g.tm + 1)) ∧
    ((evOf w (g.sp pr w) (g.tm + 1)).pl = (g.tm : Int) + 1 ∨ ((g.bg w).t.st = 7 ∧ (g.ws[w]? = some (g.bg w) ∧ (g.bg w).on = true) ∧ (evOf w (g.sp pr w) (g.tm + 1)).pl = ((g.bg w).mt : Int))) ∧
    ((g.bg w).t.st = 8 → (evOf w (g.sp pr w) (g.tm + 1)).won ∧ (evOf w (g.sp pr w) (g.tm + 1)).pl = (g.tm : Int) + 1) := by
  have F := G.F
  have hn := L.now
  obtain ⟨k1, k2, k3⟩ := tks_keeps g.up pr (g.bg w).t
  have hu : Sm g.up (g.bg w).t.u (g.bg w).t.x := by have := A.u; rwa [hn] at this
  have hv : Sm g.up (g.bg w).t.v (g.bg w).t.y := by have := A.v; rwa [hn] at this
  have D := done_step F W.I W.nd hu hv hdn
  have hUp : U (g.tm + 1) = ups g.up pr (g.bg w).t := hU
  have hy : (g.bg w).t.k ≠ 1 → (g.bg w).y = ((g.bg w).t.y : Int) := fun h => W.b.y W.on h
  have st_eq : (g.sp pr w).t = tks g.up pr (g.bg w).t := rfl
  have mt_eq : (g.sp pr w).mt = if (tks g.up pr (g.bg w).t).st = 7 ∧ (g.bg w).t.st ≠ 7 then g.tm + 1 else (g.bg w).mt := rfl
  have e_eq : evOf w (g.sp pr w) (g.tm + 1) = ⟨w, ((g.bg w).t.k : Int), ((g.bg w).t.x : Int), (g.bg w).y, ((tks g.up pr (g.bg w).t).res : Int), ((g.bg w).bg : Int), ((if (g.bg w).t.k = 2 ∧ (tks g.up pr (g.bg w).t).res = 0 then (g.sp pr w).mt else g.tm + 1 : Nat) : Int), ((g.tm + 1 : Nat) : Int)⟩ := by
    unfold evOf
    rw [st_eq, k1, k2, Ev.eq_iff]
    exact ⟨rfl, rfl, rfl, rfl, rfl, rfl, by show (if _ then ((g.sp pr w).mt : Int) else ((g.tm + 1 : Nat) : Int)) = _; split <;> rfl, rfl⟩
  have xn := W.I.xn
  have yn := W.I.yn
  have un := W.I.un
  have vn := W.I.vn
  have I := W.I
  have nd := W.nd
  have hdn2 : (tks g.up pr (g.bg w).t).dn = true := hdn
  generalize hb : g.bg w = b at *
  have hb1 := A.b1
  have hbT := A.bT
  have hyn : b.t.k ≠ 1 → 0 ≤ b.y ∧ b.y < n := fun h => by rw [hy h]; omega
  rw [e_eq]
  rcases D with ⟨dk, d1, d2⟩ | ⟨dk, ⟨d1, d2⟩ | ⟨d1, d2, d3⟩⟩ | ⟨dk, ⟨d1, d2⟩ | ⟨d1, d2, d3⟩⟩
  · have hp : ¬ (b.t.k = 2 ∧ (tks g.up pr b.t).res = 0) := by omega
    rw [if_neg hp]
    refine ⟨⟨⟨b.bg, g.tm + 1, g.tm + 1, rfl, rfl, rfl, hb1, hbT, Nat.le_refl _, Nat.le_refl _⟩, ⟨by show (0 : Int) ≤ (b.t.x : Int); omega, by show (b.t.x : Int) < n; omega⟩, fun h => hyn (by intro q; exact h (by show (b.t.k : Int) = 1; omega)), .inl ⟨by show (b.t.k : Int) = 1; omega, by show (0 : Int) ≤ ((tks g.up pr b.t).res : Int); omega, by show ((tks g.up pr b.t).res : Int) < n; omega, ?_⟩⟩, .inl (by show ((g.tm + 1 : Nat) : Int) = _; omega), fun h => ?_⟩
    · show Sm (U ((g.tm + 1 : Nat) : Int).toNat) ((b.t.x : Int)).toNat (((tks g.up pr b.t).res : Int)).toNat
      simp only [Int.toNat_natCast]
      rw [hUp]; exact d2
    · have := I.kk (by omega); exact absurd dk this
  · have hp : ¬ (b.t.k = 2 ∧ (tks g.up pr b.t).res = 0) := by omega
    rw [if_neg hp]
    refine ⟨⟨⟨b.bg, g.tm + 1, g.tm + 1, rfl, rfl, rfl, hb1, hbT, Nat.le_refl _, Nat.le_refl _⟩, ⟨by show (0 : Int) ≤ (b.t.x : Int); omega, by show (b.t.x : Int) < n; omega⟩, fun h => hyn (by intro q; exact h (by show (b.t.k : Int) = 1; omega)), .inr (.inl ⟨by show (b.t.k : Int) = 2; omega, .inl ⟨by show ((tks g.up pr b.t).res : Int) = 1; omega, ?_⟩⟩)⟩, .inl (by show ((g.tm + 1 : Nat) : Int) = _; omega), fun h => ?_⟩
    · show Sm (U ((g.tm + 1 : Nat) : Int).toNat) ((b.t.x : Int)).toNat (b.y).toNat
      rw [hy (by omega)]
      simp only [Int.toNat_natCast]
      rw [hUp]; exact d2
    · have := I.k8 h; omega
  · have hp : b.t.k = 2 ∧ (tks g.up pr b.t).res = 0 := ⟨dk, d1⟩
    have hmt : (g.sp pr w).mt = b.mt := by rw [mt_eq, if_neg (by omega)]
    rw [if_pos hp, hmt]
    have ho : g.ws[w]? = some b ∧ b.on = true := A.o.resolve_right (by omega)
    obtain ⟨m1, m2, m3, m4, m5, m6⟩ := (L.cur w b ho.1 ho.2).m d2
    have ru : el (U b.mt) b.t.u = b.t.u := L.root_le m2 (Nat.le_refl _) un (by rw [hn]; exact d3)
    have Fm := L.F b.mt m2
    have eu := Fm.rt_self un ru
    have ev := Fm.rt_self vn m3
    refine ⟨⟨⟨b.bg, b.mt, g.tm + 1, rfl, rfl, rfl, hb1, m1, by omega, Nat.le_refl _⟩, ⟨by show (0 : Int) ≤ (b.t.x : Int); omega, by show (b.t.x : Int) < n; omega⟩, fun h => hyn (by intro q; exact h (by show (b.t.k : Int) = 1; omega)), .inr (.inl ⟨by show (b.t.k : Int) = 2; omega, .inr ⟨by show ((tks g.up pr b.t).res : Int) = 0; omega, ?_⟩⟩)⟩, .inr ⟨d2, ho, rfl⟩, fun h => ?_⟩
    · show ¬ Sm (U (b.mt : Int).toNat) ((b.t.x : Int)).toNat (b.y).toNat
      rw [hy (by omega)]
      simp only [Int.toNat_natCast]
      intro q
      unfold Sm at m4 m5 q
      rw [← m4, ← m5, eu, ev] at q
      exact m6 q
    · omega
  · have hp : ¬ (b.t.k = 2 ∧ (tks g.up pr b.t).res = 0) := by omega
    rw [if_neg hp]
    refine ⟨⟨⟨b.bg, g.tm + 1, g.tm + 1, rfl, rfl, rfl, hb1, hbT, Nat.le_refl _, Nat.le_refl _⟩, ⟨by show (0 : Int) ≤ (b.t.x : Int); omega, by show (b.t.x : Int) < n; omega⟩, fun h => hyn (by intro q; exact h (by show (b.t.k : Int) = 1; omega)), .inr (.inr ⟨by show (b.t.k : Int) = 3; omega, .inl ⟨by show ((tks g.up pr b.t).res : Int) = 0; omega, ?_⟩⟩)⟩, .inl (by show ((g.tm + 1 : Nat) : Int) = _; omega), fun h => ?_⟩
    · show Sm (U ((g.tm + 1 : Nat) : Int).toNat) ((b.t.x : Int)).toNat (b.y).toNat
      rw [hy (by omega)]
      simp only [Int.toNat_natCast]
      rw [hUp]; exact d2
    · have hw := (win_ok F I h nd hdn2).1
      omega
  · have hp : ¬ (b.t.k = 2 ∧ (tks g.up pr b.t).res = 0) := by omega
    rw [if_neg hp]
    obtain ⟨_, a, c, hac, WN⟩ := win_ok F I d2 d3 hdn2
    have hxy : ¬ Sm g.up b.t.x b.t.y := by
      intro q
      have hn' := won_not F WN
      rcases hac with ⟨rfl, rfl⟩ | ⟨rfl, rfl⟩
      · exact hn' (hu.trans (q.trans hv.symm))
      · exact hn' (hv.trans (q.symm.trans hu.symm))
    refine ⟨⟨⟨b.bg, g.tm + 1, g.tm + 1, rfl, rfl, rfl, hb1, hbT, Nat.le_refl _, Nat.le_refl _⟩, ⟨by show (0 : Int) ≤ (b.t.x : Int); omega, by show (b.t.x : Int) < n; omega⟩, fun h => hyn (by intro q; exact h (by show (b.t.k : Int) = 1; omega)), .inr (.inr ⟨by show (b.t.k : Int) = 3; omega, .inr ⟨by show ((tks g.up pr b.t).res : Int) = 1; omega, ?_, ?_⟩⟩)⟩, .inl (by show ((g.tm + 1 : Nat) : Int) = _; omega), fun h => ⟨⟨by show (b.t.k : Int) = 3; omega, by show ((tks g.up pr b.t).res : Int) = 1; omega⟩, by show ((g.tm + 1 : Nat) : Int) = _; omega⟩⟩
    · show ¬ Sm (U (((g.tm + 1 : Nat) : Int).toNat - 1)) ((b.t.x : Int)).toNat (b.y).toNat
      rw [hy (by omega)]
      simp only [Int.toNat_natCast, Nat.add_sub_cancel]
      rw [hn]; exact hxy
    · show ∀ p q, p < n → q < n → (Sm (U ((g.tm + 1 : Nat) : Int).toNat) p q ↔ Sm (U (((g.tm + 1 : Nat) : Int).toNat - 1)) p q ∨ (Sm (U (((g.tm + 1 : Nat) : Int).toNat - 1)) p ((b.t.x : Int)).toNat ∧ Sm (U (((g.tm + 1 : Nat) : Int).toNat - 1)) q (b.y).toNat) ∨ (Sm (U (((g.tm + 1 : Nat) : Int).toNat - 1)) p (b.y).toNat ∧ Sm (U (((g.tm + 1 : Nat) : Int).toNat - 1)) q ((b.t.x : Int)).toNat))
      rw [hy (by omega)]
      simp only [Int.toNat_natCast, Nat.add_sub_cancel]
      rw [hn, hUp]
      intro p q hp hq
      rw [won_sm F WN hp hq]
      unfold Sm at *
      rcases hac with ⟨rfl, rfl⟩ | ⟨rfl, rfl⟩
      · rw [hu, hv]
      · rw [hu, hv]
        constructor
        · rintro (h | h | h)
          · exact .inl h
          · exact .inr (.inr h)
          · exact .inr (.inl h)
        · rintro (h | h | h)
          · exact .inl h
          · exact .inr (.inr h)
          · exact .inr (.inl h)


theorem lin_adv {n : Nat} {pr : List Int} {U : Nat → List Nat} {g : Gm} {w : Nat} (L : Lin n pr U g) (G : GInv n pr g) (W : Went n pr g w) (he : (g.wk w).en = true) (hU : U (g.tm + 1) = (adv pr g w).up) : Lin n pr U (adv pr g w) := by
  have A := ahead L G W he
  have hn := L.now
  have D := W.D
  have hUp : U (g.tm + 1) = ups g.up pr (g.bg w).t := hU
  obtain ⟨k1, k2, k3⟩ := tks_keeps g.up pr (g.bg w).t
  have hu : Sm g.up (g.bg w).t.u (g.bg w).t.x := by have := A.u; rwa [hn] at this
  have hv : Sm g.up (g.bg w).t.v (g.bg w).t.y := by have := A.v; rwa [hn] at this
  have CS := cur_step G.F W.I W.nd hu hv
  have hroots : ∀ j, j < n → el (U (g.tm + 1)) j = j → el (U g.tm) j = j := by rw [hn, hUp]; exact D.roots
  have hmerge : ∀ x y, x < n → y < n → Sm (U g.tm) x y → Sm (U (g.tm + 1)) x y := by rw [hn, hUp]; exact D.merge
  have E := fun hdn => ev_ok L G W A hU hdn
  have hon : (g.sp pr w).on = true → (g.sp pr w).t.dn = false := fun h => by
    change (!(tks g.up pr (g.bg w).t).dn) = true at h
    show (tks g.up pr (g.bg w).t).dn = false
    simpa using h
  have hsmt : (g.sp pr w).on = true → (g.sp pr w).t.st = 7 → (g.sp pr w).mt = g.tm + 1 := fun h h7 => by
    have := (CS.2.2 (hon h) h7).2.2
    show (if (tks g.up pr (g.bg w).t).st = 7 ∧ (g.bg w).t.st ≠ 7 then g.tm + 1 else (g.bg w).mt) = g.tm + 1
    rw [if_pos ⟨h7, this⟩]
  -- the events: all that there were, and it may be one more
  have hl : ∀ e ∈ (adv pr g w).l, e ∈ g.l ∨ ((g.sp pr w).t.dn = true ∧ e = evOf w (g.sp pr w) (g.tm + 1)) := fun e he => by
    change e ∈ (if (g.sp pr w).t.dn then g.l ++ [evOf w (g.sp pr w) (g.tm + 1)] else g.l) at he
    split at he
    · next hd =>
      rcases List.mem_append.1 he with h | h
      · exact .inl h
      · exact .inr ⟨hd, by simpa using h⟩
    · exact .inl he
  have hsub : ∀ e ∈ g.l, e ∈ (adv pr g w).l := fun e he => by
    show e ∈ (if (g.sp pr w).t.dn then g.l ++ [evOf w (g.sp pr w) (g.tm + 1)] else g.l)
    split
    · exact List.mem_append.2 (.inl he)
    · exact he
  have hold : ∀ e ∈ g.l, e.pl < (g.tm : Int) + 1 ∧ e.en < (g.tm : Int) + 1 := fun e he => by
    obtain ⟨bg, pl, en, h1, h2, h3, h4, h5, h6, h7⟩ := (L.evs e he).t
    omega
  have hws : ∀ (w' : Nat) (k : Wk), (adv pr g w).ws[w']? = some k → (w = w' ∧ k = g.sp pr w) ∨ (w ≠ w' ∧ g.ws[w']? = some k) := fun w' k h => set_get h
  have hcm : ∀ (w' : Nat) (k : Wk), g.ws[w']? = some k → k.on = true → k.t.st = 7 → k.mt ≤ g.tm := fun w' k h h1 h2 => ((L.cur w' k h h1).m h2).2.1
  have hbg : ∀ e ∈ g.l, e.wk = (w : Int) → e.en < ((g.bg w).bg : Int) := fun e he hw => by
    rcases A.o with h | h
    · exact L.wb e he w _ h.1 h.2 hw
    · rw [h.1]; have := (hold e he).2; omega
  refine ⟨hU, fun t ht => ?_, fun t ht j hj => ?_, fun t ht x y hx hy => ?_, fun e he => ?_, fun t ht => ?_, fun w' k hk ho => ?_, ?_, fun e he w' k hk ho h7 => ?_, fun w' w'' k k' hne hk hk' ho ho' h7 h7' => ?_, fun e he w' k hk ho hw => ?_⟩
  · change t ≤ g.tm + 1 at ht
    by_cases e : t ≤ g.tm
    · exact L.F t e
    · obtain rfl : t = g.tm + 1 := by omega
      rw [hU]; exact W.F'
  · change t < g.tm + 1 at ht
    by_cases e : t < g.tm
    · exact L.roots t e j hj
    · obtain rfl : t = g.tm := by omega
      exact hroots j hj
  · change t < g.tm + 1 at ht
    by_cases e : t < g.tm
    · exact L.merge t e x y hx hy
    · obtain rfl : t = g.tm := by omega
      exact hmerge x y hx hy
  · rcases hl e he with h | ⟨hd, rfl⟩
    · exact ev_mono (L.evs e h)
    · exact (E hd).1
  · change t < g.tm + 1 at ht
    by_cases e : t < g.tm
    · rcases L.quiet t e with ⟨q, hq, h1, h2⟩ | h
      · exact .inl ⟨q, hsub q hq, h1, h2⟩
      · exact .inr h
    · obtain rfl : t = g.tm := by omega
      rcases D with ⟨_, h⟩ | ⟨⟨h8, _, hd⟩, _⟩
      · refine .inr fun x y hx hy => ?_
        unfold Sm
        rw [hU, hn, (h x hx).2, (h y hy).2]
      · obtain ⟨h1, h2⟩ := (E hd).2.2 h8
        refine .inl ⟨_, ?_, h1, h2⟩
        show _ ∈ (if (g.sp pr w).t.dn then g.l ++ [evOf w (g.sp pr w) (g.tm + 1)] else g.l)
        rw [if_pos hd]; simp
  · rcases hws w' k hk with ⟨rfl, rfl⟩ | ⟨hne, h⟩
    · refine ⟨A.b1, A.bT, ?_, ?_, fun h7 => ?_⟩
      · show Sm (U (g.tm + 1)) _ _; rw [hUp]; exact CS.1
      · show Sm (U (g.tm + 1)) _ _; rw [hUp]; exact CS.2.1
      · have hm := hsmt ho h7
        obtain ⟨q1, q2, q3⟩ := CS.2.2 (hon ho) h7
        rw [hm]
        refine ⟨A.bT, Nat.le_refl _, ?_, ?_, ?_, q2⟩
        · rw [hUp]; exact q1
        · rw [hUp]; exact CS.1
        · rw [hUp]; exact CS.2.1
    · have C := L.cur w' k h ho
      have I := (G.ok k (List.mem_of_getElem? h)).i ho
      exact ⟨C.b1, Nat.le_succ_of_le C.bT, hmerge _ _ I.1.un I.1.xn C.u, hmerge _ _ I.1.vn I.1.yn C.v, fun h7 => by
        obtain ⟨m1, m2, m3⟩ := C.m h7
        exact ⟨m1, Nat.le_succ_of_le m2, m3⟩⟩
  · show (if (g.sp pr w).t.dn then g.l ++ [evOf w (g.sp pr w) (g.tm + 1)] else g.l).Pairwise _
    split
    · next hd =>
      rw [List.pairwise_append]
      refine ⟨L.pw, List.pairwise_singleton _ _, fun e he f hf => ?_⟩
      simp at hf; subst hf
      obtain ⟨o1, o2⟩ := hold e he
      refine ⟨by show e.en < ((g.tm + 1 : Nat) : Int); omega, ?_, fun hw => ?_⟩
      · rcases (E hd).2.1 with h | ⟨h7, ho, h⟩
        · rw [h]; omega
        · rw [h]; exact L.mp e he w _ ho.1 ho.2 h7
      · exact hbg e he hw
    · exact L.pw
  · rcases hws w' k hk with ⟨rfl, rfl⟩ | ⟨hne, h⟩
    · rw [hsmt ho h7]
      rcases hl e he with h | ⟨hd, _⟩
      · have := (hold e h).1; omega
      · rw [hon ho] at hd; cases hd
    · have hk := hcm w' k h ho h7
      rcases hl e he with q | ⟨hd, rfl⟩
      · exact L.mp e q w' k h ho h7
      · rcases (E hd).2.1 with q | ⟨q7, qo, q⟩
        · rw [q]; omega
        · rw [q]
          have := L.mm w w' _ k hne qo.1 h qo.2 ho q7 h7
          omega
  · rcases hws w' k hk with ⟨rfl, rfl⟩ | ⟨h1, h⟩
    · rcases hws w'' k' hk' with ⟨rfl, _⟩ | ⟨h2, h'⟩
      · exact absurd rfl hne
      · rw [hsmt ho h7]
        have := hcm w'' k' h' ho' h7'; omega
    · rcases hws w'' k' hk' with ⟨rfl, rfl⟩ | ⟨h2, h'⟩
      · rw [hsmt ho' h7']
        have := hcm w' k h ho h7; omega
      · exact L.mm w' w'' k k' hne h h' ho ho' h7 h7'
  · rcases hws w' k hk with ⟨rfl, rfl⟩ | ⟨h1, h⟩
    · rcases hl e he with q | ⟨hd, _⟩
      · exact hbg e q hw
      · rw [hon ho] at hd; cases hd
    · rcases hl e he with q | ⟨hd, rfl⟩
      · exact L.wb e q w' k h ho hw
      · exact absurd (show (w : Int) = (w' : Int) from hw) (by omega)

theorem lin0 {n : Nat} {pr : List Int} {ss : List (List Opn)} {U : Nat → List Nat} (h : ∀ s ∈ ss, ∀ o ∈ s, o.ok n) (hU : U 0 = List.range n) : Lin n pr U (gm0 n ss) := by
  have G := ginv0 (pr := pr) h
  have hw : ∀ (w : Nat) (k : Wk), (gm0 n ss).ws[w]? = some k → k.on = true → False := fun w k hk ho => by
    have := List.mem_of_getElem? hk
    simp [gm0] at this
    obtain ⟨s, _, rfl⟩ := this
    cases ho
  refine ⟨hU, fun t ht => ?_, fun t ht => absurd ht (Nat.not_lt_zero _), fun t ht => absurd ht (Nat.not_lt_zero _), fun e he => absurd he (List.not_mem_nil), fun t ht => absurd ht (Nat.not_lt_zero _), fun w k hk ho => (hw w k hk ho).elim, List.Pairwise.nil, fun e he => absurd he (List.not_mem_nil), fun w w' k k' _ hk _ ho => (hw w k hk ho).elim, fun e he => absurd he (List.not_mem_nil)⟩
  obtain rfl : t = 0 := Nat.le_zero.1 ht
  rw [hU]; exact G.F

/-- Time is counted till all have ended; so long the state is the one of that time. -/
theorem run_lin {n : Nat} {pr picks : List Int} {ss : List (List Opn)} (h : ∀ s ∈ ss, ∀ o ∈ s, o.ok n) : ∀ T, (∀ t, t < T → on 0 (run pr picks (gm0 n ss) t).en ≠ []) →
    (run pr picks (gm0 n ss) T).tm = T ∧ Lin n pr (fun t => (run pr picks (gm0 n ss) t).up) (run pr picks (gm0 n ss) T)
  | 0, _ => ⟨rfl, lin0 h rfl⟩
  | T + 1, hT => by
    obtain ⟨h1, L⟩ := run_lin (pr := pr) (picks := picks) h T fun t ht => hT t (by omega)
    have hne := hT T (by omega)
    have G := run_inv (picks := picks) (ginv0 (pr := pr) h) T
    have W := went G (Gm.who_lt (picks := picks) hne) (Gm.who_en hne)
    have e := run_next hne
    refine ⟨by rw [e]; show (run pr picks (gm0 n ss) T).tm + 1 = T + 1; rw [h1], ?_⟩
    rw [e]
    exact lin_adv L G W (Gm.who_en hne) (by show (run pr picks (gm0 n ss) ((run pr picks (gm0 n ss) T).tm + 1)).up = _; rw [h1, e])

end Go.Proofs.YtpfcpeljfgmjgaaDoor
