/- The walk of the law PlayEnds: it returns true and changes nothing that was there. Mathematics of workers, three: each worker's operations have their events in their order; what is left is the partition of all unitings, whoever was picked. No program. Contract of the document's SameEvents at one list that lies twice; a play looks at its picks so far alone. Contract of Play at too many; the walk of the law PlayLimits: it returns true and changes nothing that was there. The walk of the law PlayPicks: it returns true and changes nothing that was there. -/
import Derived.Test.YtpfcpeljfgmjgaaDoorZps
import Derived.Test.YtpfcpeljfgmjgaaDoorPlaylz
import Derived.Test.YtpfcpeljfgmjgaaDoorZpa
import Derived.Deep.QuietTactic
import Derived.Deep.DeepCutAuto
namespace Go.Proofs.YtpfcpeljfgmjgaaDoor
open Go.RowKit
set_option linter.unusedVariables false
set_option linter.unusedSimpArgs false

theorem made_all {n : Nat} {s : List O3} (h : ∀ q ∈ s, okB q.1 q.2.1 q.2.2 n) : (valid n s).length = s.length := by
  unfold valid
  rw [List.length_map, List.filter_eq_self.2 fun q hq => decide_eq_true (h q hq)]
theorem made_ops {n : Nat} : ∀ {ss : List (List O3)}, Made n ss → opsIn (ss.map (valid n)) = opsN ss
  | [], _ => rfl
  | s :: ss, h => by
    have ih := made_ops (ss := ss) fun q hq => h q (by simp [hq])
    have h1 := made_all fun q hq => ((h s (by simp)).2 q hq).1
    unfold opsIn opsN at *
    simp only [List.map_cons, List.sum_cons, ih, h1]
theorem made_opsN {n : Nat} : ∀ {ss : List (List O3)}, Made n ss → opsN ss ≤ 24 * ss.length
  | [], _ => Nat.le_refl _
  | s :: ss, h => by
    have ih := made_opsN (ss := ss) fun q hq => h q (by simp [hq])
    have h1 := (h s (by simp)).1
    unfold opsN at *
    simp only [List.map_cons, List.sum_cons, List.length_cons]; omega
theorem idle_pend {g : Gm} (h : on 0 g.en = []) : ∀ k ∈ g.ws, k.left = [] ∧ k.on = false := by
  intro k hk
  obtain ⟨i, hi, rfl⟩ := List.getElem_of_mem hk
  have h1 : ¬ g.en.getD i false = true := fun e => by
    have := mem_on g.en 0 i e
    rw [h] at this; cases this
  have h2 : g.en.getD i false = (g.ws[i]).en := by
    unfold Gm.en
    simp [List.getD, hi]
  rw [h2] at h1
  unfold Wk.en at h1
  simp at h1
  exact ⟨h1.2, h1.1⟩
theorem sum_zero {α : Type} {f : α → Nat} : ∀ {l : List α}, (∀ a ∈ l, f a = 0) → (l.map f).sum = 0
  | [], _ => rfl
  | a :: l, h => by
    have := sum_zero (l := l) fun b hb => h b (by simp [hb])
    simp [this, h a (by simp)]
/-- All operations have ended. -/
theorem over_all {pr xs : List Int} {n : Nat} {ss : List (List O3)} {T : Nat} (h : Over pr xs n ss T) : (stAt pr xs n ss T).l.length = opsIn (ss.map (valid n)) := by
  have h1 := run_cnt (pr := pr) (picks := xs) (all_ok n ss) T
  have h2 : ((stAt pr xs n ss T).ws.map Wk.pend).sum = 0 := sum_zero fun k hk => by
    obtain ⟨e1, e2⟩ := idle_pend h.2 k hk
    unfold Wk.pend; rw [e1, e2]; rfl
  show (run pr xs (gm0 n (ss.map (valid n))) T).l.length = _
  have h3 : ((run pr xs (gm0 n (ss.map (valid n))) T).ws.map Wk.pend).sum = 0 := h2
  omega
theorem ends_bound {a n T : Nat} (h : T ≤ a * (16 * n + 1)) : T ≤ 100 * (a + 1) * (n + 1) := by
  refine Nat.le_trans h ?_
  have e : 100 * (a + 1) * (n + 1) = 100 * a * n + 100 * a + 100 * n + 100 := by rw [Nat.mul_add, Nat.mul_add, Nat.add_mul]; omega
  have e2 : a * (16 * n + 1) = 16 * (a * n) + a := by rw [Nat.mul_add, Nat.mul_left_comm]; omega
  rw [e, e2, Nat.mul_assoc]
  generalize a * n = z
  omega

end Go.Proofs.YtpfcpeljfgmjgaaDoor

namespace Go.Proofs.YtpfcpeljfgmjgaaDoor
set_option linter.unusedVariables false
set_option linter.unusedSimpArgs false

/-- An operation, an event's, a task's, as three numbers. -/
def Opn.tr (o : Opn) : Int × Int × Int := ((o.k : Int), (o.x : Int), o.y)
def Ev.tr (e : Ev) : Int × Int × Int := (e.k, e.x, e.y)
/-- What worker w has ended. -/
def evs (w : Nat) (l : List Ev) : List (Int × Int × Int) := (l.filter fun e => decide (e.wk = (w : Int))).map Ev.tr
/-- What a worker has under way, and has not begun. -/
def Wk.rest (k : Wk) : List (Int × Int × Int) := (if k.on then [((k.t.k : Int), (k.t.x : Int), k.y)] else []) ++ k.left.map Opn.tr
/-- Each operation is ended, or under way, or has not begun, in its order. -/
structure Ordd (ss : List (List Opn)) (g : Gm) : Prop where
  each : ∀ (w : Nat) (s : List Opn), ss[w]? = some s → evs w g.l ++ (g.wk w).rest = s.map Opn.tr
  who : ∀ e ∈ g.l, ∃ w : Nat, w < ss.length ∧ e.wk = (w : Int)

theorem beg_rest {k : Wk} (he : k.en = true) (tm : Nat) : (k.beg tm).rest = k.rest ∧ (k.beg tm).on = true := by
  unfold Wk.beg
  split
  · next e => exact ⟨rfl, e⟩
  · next e =>
    cases hl : k.left with
    | nil => simp [Wk.en, hl] at he; exact absurd he e
    | cons o r => refine ⟨?_, rfl⟩; simp [Wk.rest, hl, e, Opn.tr, Opn.tk]
theorem evs_snoc (w : Nat) (l : List Ev) (e : Ev) : evs w (l ++ [e]) = evs w l ++ if e.wk = (w : Int) then [e.tr] else [] := by
  unfold evs
  rw [List.filter_append, List.map_append]
  by_cases h : e.wk = (w : Int) <;> simp [h]
theorem wk_adv (pr : List Int) (g : Gm) (w w' : Nat) (hw : w < g.ws.length) : (adv pr g w).wk w' = if w' = w then g.sp pr w else g.wk w' := by
  show (g.ws.set w (g.sp pr w)).getD w' (Wk.new []) = if w' = w then _ else g.ws.getD w' (Wk.new [])
  rw [List.getD_eq_getElem?_getD, List.getD_eq_getElem?_getD, List.getElem?_set]
  by_cases e : w' = w
  · subst e; rw [if_pos rfl, if_pos rfl, if_pos hw]; rfl
  · rw [if_neg e, if_neg (fun h => e h.symm)]
theorem ordd_adv {ss : List (List Opn)} {pr : List Int} {g : Gm} {w : Nat} (O : Ordd ss g) (hw : w < g.ws.length) (hl : g.ws.length = ss.length) (he : (g.wk w).en = true) : Ordd ss (adv pr g w) := by
  obtain ⟨hr, hon⟩ : (g.bg w).rest = (g.wk w).rest ∧ (g.bg w).on = true := beg_rest he (g.tm + 1)
  obtain ⟨tk, tx, _⟩ := tks_keeps g.up pr (g.bg w).t
  have hst : (g.sp pr w).t = tks g.up pr (g.bg w).t := rfl
  have hsy : (g.sp pr w).y = (g.bg w).y := rfl
  have hsl : (g.sp pr w).left = (g.bg w).left := rfl
  have hso : (g.sp pr w).on = !(g.sp pr w).t.dn := rfl
  have hb : (g.bg w).rest = [(((g.bg w).t.k : Int), ((g.bg w).t.x : Int), (g.bg w).y)] ++ (g.bg w).left.map Opn.tr := by
    unfold Wk.rest; rw [if_pos hon]
  have hev : (evOf w (g.sp pr w) (g.tm + 1)).tr = (((g.bg w).t.k : Int), ((g.bg w).t.x : Int), (g.bg w).y) := by
    show (((g.sp pr w).t.k : Int), ((g.sp pr w).t.x : Int), (g.sp pr w).y) = _
    rw [hst, tk, tx, hsy]
  have hadv : (adv pr g w).l = if (g.sp pr w).t.dn then g.l ++ [evOf w (g.sp pr w) (g.tm + 1)] else g.l := rfl
  refine ⟨fun w' s hs => ?_, fun e hq => ?_⟩
  · have h0 := O.each w' s hs
    rw [wk_adv pr g w w' hw]
    by_cases e : w' = w
    · subst e
      rw [if_pos rfl]
      have hk : (g.wk w').rest = (g.bg w').rest := hr.symm
      rw [hk, hb] at h0
      cases hd : (g.sp pr w').t.dn with
      | true =>
        rw [hadv, hd, if_pos rfl, evs_snoc, if_pos (show (evOf w' (g.sp pr w') (g.tm + 1)).wk = (w' : Int) from rfl), hev, ← h0]
        unfold Wk.rest
        rw [hso, hd, hsl]
        simp
      | false =>
        rw [hadv, hd, ← h0]
        unfold Wk.rest
        rw [hso, hd, hsl, hst, tk, tx, hsy]
        simp
    · rw [if_neg e, ← h0, hadv]
      split
      · rw [evs_snoc, if_neg (fun h => e (by have : (w : Int) = (w' : Int) := h; omega)), List.append_nil]
      · rfl
  · rw [hadv] at hq
    split at hq
    · rcases List.mem_append.1 hq with h | h
      · exact O.who e h
      · simp at h; subst h
        exact ⟨w, by omega, rfl⟩
    · exact O.who e hq
theorem ordd0 {n : Nat} {ss : List (List Opn)} : Ordd ss (gm0 n ss) := by
  refine ⟨fun w s hs => ?_, fun e h => absurd h List.not_mem_nil⟩
  have : (gm0 n ss).wk w = Wk.new s := by
    show (ss.map Wk.new).getD w (Wk.new []) = _
    rw [List.getD_eq_getElem?_getD, List.getElem?_map, hs]; rfl
  rw [this]
  simp [evs, gm0, Wk.rest, Wk.new]
theorem run_ordd {n : Nat} {pr picks : List Int} {ss : List (List Opn)} : ∀ T, Ordd ss (run pr picks (gm0 n ss) T)
  | 0 => ordd0
  | T + 1 => by
    have ih := run_ordd (n := n) (pr := pr) (picks := picks) (ss := ss) T
    by_cases hne : on 0 (run pr picks (gm0 n ss) T).en = []
    · rw [run, if_pos hne]; exact ih
    · rw [run_next hne]
      exact ordd_adv ih (Gm.who_lt (picks := picks) hne) (by rw [run_len]) (Gm.who_en hne)
theorem rest_nil {g : Gm} (h : on 0 g.en = []) {w : Nat} : (g.wk w).rest = [] := by
  have key : ∀ k ∈ g.ws, k.on = false ∧ k.left = [] := by
    intro k hk
    obtain ⟨i, hi, rfl⟩ := List.getElem_of_mem hk
    have h1 : ¬ g.en.getD i false = true := fun e => by
      have := mem_on g.en 0 i e
      rw [h] at this; cases this
    have h2 : g.en.getD i false = (g.ws[i]).en := by
      unfold Gm.en
      simp [List.getD, hi]
    rw [h2] at h1
    unfold Wk.en at h1
    simp at h1
    exact ⟨h1.1, h1.2⟩
  by_cases hw : w < g.ws.length
  · obtain ⟨h1, h2⟩ := key _ (Gm.wk_mem hw)
    unfold Wk.rest; rw [h1, h2]; rfl
  · have : g.wk w = Wk.new [] := by unfold Gm.wk; rw [List.getD_eq_getElem?_getD, List.getElem?_eq_none (by omega)]; rfl
    rw [this]; rfl
/-- Behind all: each worker's events are its operations. -/
theorem over_evs {n : Nat} {pr picks : List Int} {ss : List (List Opn)} {T : Nat} (h : on 0 (run pr picks (gm0 n ss) T).en = []) (w : Nat) (s : List Opn) (hs : ss[w]? = some s) : evs w (run pr picks (gm0 n ss) T).l = s.map Opn.tr := by
  have := (run_ordd (n := n) (pr := pr) (picks := picks) (ss := ss) T).each w s hs
  rwa [rest_nil h, List.append_nil] at this

/-- All unitings' pairs. -/
def upairs (ss : List (List Opn)) : List (Int × Int) := ((ss.flatMap fun s => s.map Opn.tr).filter fun q => decide (q.1 = 3)).map fun q => q.2
theorem over_mem {n : Nat} {pr picks : List Int} {ss : List (List Opn)} {T : Nat} (h : on 0 (run pr picks (gm0 n ss) T).en = []) (q : Int × Int) : q ∈ upairs ss ↔ ∃ e ∈ (run pr picks (gm0 n ss) T).l, e.k = 3 ∧ (e.x, e.y) = q := by
  unfold upairs
  simp only [List.mem_map, List.mem_filter, List.mem_flatMap, decide_eq_true_eq]
  constructor
  · rintro ⟨p, ⟨⟨s, hs, o, ho, rfl⟩, h3⟩, rfl⟩
    obtain ⟨w, hw, rfl⟩ := List.getElem_of_mem hs
    have h1 := over_evs h w _ (List.getElem?_eq_getElem hw)
    have h2 : o.tr ∈ evs w (run pr picks (gm0 n ss) T).l := by rw [h1]; exact List.mem_map_of_mem ho
    unfold evs at h2
    obtain ⟨e, he, h4⟩ := List.mem_map.1 h2
    refine ⟨e, (List.mem_filter.1 he).1, ?_, ?_⟩
    · have := congrArg Prod.fst h4; exact this.trans h3
    · exact congrArg Prod.snd h4
  · rintro ⟨e, he, h3, rfl⟩
    obtain ⟨w, hw, hwk⟩ := (run_ordd (n := n) (pr := pr) (picks := picks) (ss := ss) T).who e he
    have h1 := over_evs h w _ (List.getElem?_eq_getElem hw)
    have h2 : e.tr ∈ evs w (run pr picks (gm0 n ss) T).l := List.mem_map_of_mem (List.mem_filter.2 ⟨he, by simpa using hwk⟩)
    rw [h1] at h2
    obtain ⟨o, ho, h4⟩ := List.mem_map.1 h2
    exact ⟨o.tr, ⟨⟨_, List.getElem_mem hw, o, ho, rfl⟩, by rw [h4]; exact h3⟩, by rw [h4]; rfl⟩

/-- What is left is the partition of all unitings. -/
theorem left_is {n : Nat} {pr picks : List Int} {ss : List (List Opn)} (h : ∀ s ∈ ss, ∀ o ∈ s, o.ok n) {T : Nat} (hT : ∀ t, t < T → on 0 (run pr picks (gm0 n ss) t).en ≠ []) (hE : on 0 (run pr picks (gm0 n ss) T).en = []) {x y : Nat} (hx : x < n) (hy : y < n) :
    Sm (run pr picks (gm0 n ss) T).up x y ↔ el (ofL n (upairs ss)) x = el (ofL n (upairs ss)) y := by
  obtain ⟨htm, L⟩ := run_lin (pr := pr) (picks := picks) h T hT
  have hin : ∀ e ∈ (run pr picks (gm0 n ss) T).l, e.k = 3 → (0 ≤ e.x ∧ e.x < n) ∧ (0 ≤ e.y ∧ e.y < n) ∧ el (ofL n (upairs ss)) e.x.toNat = el (ofL n (upairs ss)) e.y.toNat := by
    intro e he h3
    have E := L.evs e he
    have h1 := E.x
    have h2 := E.y (by omega)
    exact ⟨h1, h2, of_same n (upairs ss) ((over_mem hE (e.x, e.y)).2 ⟨e, he, h3, rfl⟩) ⟨h1.1, h1.2, h2.1, h2.2⟩⟩
  have up : ∀ t, t ≤ T → ∀ x y, x < n → y < n → Sm ((run pr picks (gm0 n ss) t).up) x y → el (ofL n (upairs ss)) x = el (ofL n (upairs ss)) y := by
    intro t
    induction t with
    | zero =>
      intro _ x y hx hy hs
      have F := L.F 0 (by omega)
      have e1 : rtu (List.range n) x = x := F.rt_self hx (el_range hx)
      have e2 : rtu (List.range n) y = y := F.rt_self hy (el_range hy)
      have : x = y := by
        have hs' : rtu (List.range n) x = rtu (List.range n) y := hs
        rwa [e1, e2] at hs'
      rw [this]
    | succ t ih =>
      intro ht x y hx hy hs
      have ih' := ih (by omega)
      rcases L.quiet t (by omega) with ⟨e, he, hwon, hpl⟩ | hq
      · obtain ⟨h1, h2, h3⟩ := hin e he hwon.1
        have hpt : e.pl.toNat = t + 1 := by omega
        have hpt1 : e.pl.toNat - 1 = t := by omega
        rcases (L.evs e he).r with ⟨hk, _⟩ | ⟨hk, _⟩ | ⟨_, ⟨hr, _⟩ | ⟨_, _, hiff⟩⟩
        · exact absurd hk (by rw [hwon.1]; decide)
        · exact absurd hk (by rw [hwon.1]; decide)
        · exact absurd hr (by rw [hwon.2]; decide)
        · rw [hpt, Nat.add_sub_cancel] at hiff
          have hxe : e.x.toNat < n := by omega
          have hye : e.y.toNat < n := by omega
          rcases (hiff x y hx hy).1 hs with g | ⟨g1, g2⟩ | ⟨g1, g2⟩
          · exact ih' x y hx hy g
          · exact (ih' _ _ hx hxe g1).trans (h3.trans (ih' _ _ hy hye g2).symm)
          · exact (ih' _ _ hx hye g1).trans (h3.symm.trans (ih' _ _ hy hxe g2).symm)
      · exact ih' x y hx hy ((hq x y hx hy).1 hs)
  constructor
  · exact up T (Nat.le_refl _) x y hx hy
  · intro he
    have low := of_least (fun z => rtu (run pr picks (gm0 n ss) T).up z) n (upairs ss) (fun q hq _ => by
      obtain ⟨e, hel, h3, rfl⟩ := (over_mem hE q).1 hq
      have E := L.evs e hel
      have h1 := E.x
      have h2 := E.y (by omega)
      obtain ⟨bg, pl, en, _, e2, e3, _, _, _, e4⟩ := E.t
      rw [htm] at e4
      have hxe : e.x.toNat < n := by omega
      have hye : e.y.toNat < n := by omega
      have hpt : e.pl.toNat = pl := by omega
      have hsm : Sm (run pr picks (gm0 n ss) pl).up e.x.toNat e.y.toNat := by
        rcases E.r with ⟨hk, _⟩ | ⟨hk, _⟩ | ⟨_, ⟨_, hs⟩ | ⟨_, _, hiff⟩⟩
        · omega
        · omega
        · rwa [hpt] at hs
        · rw [hpt] at hiff
          exact (hiff _ _ hxe hye).2 (.inr (.inl ⟨rfl, rfl⟩))
      exact L.sm_le (t := pl) (t' := T) (by omega) (by omega) hxe hye hsm)
    show rtu _ x = rtu _ y
    have a := low x hx
    have b := low y hy
    rw [← a, ← b, he]

end Go.Proofs.YtpfcpeljfgmjgaaDoor

namespace Go.Proofs.YtpfcpeljfgmjgaaDoor
open Go.RowKit
set_option linter.unusedVariables false
set_option linter.unusedSimpArgs false

theorem Tryd.evWide : (match Tryd.prog.underlying 42 with | some (.array _ _) | some (.struct _) => true | _ => false) = true := by kernel_rfl
theorem Tryd.evDeep : Tryd.prog.keyTypeAt 3 42 = true := by kernel_rfl
theorem Tryd.evCells : Tryd.prog.cellsOf 42 = 8 := by kernel_rfl
theorem Tryd.evOpCells : Tryd.prog.cellsOf 40 = 3 := by kernel_rfl
theorem Tryd.evIntCells : Tryd.prog.cellsOf 3 = 1 := by kernel_rfl
theorem Tryd.evType : Tryd.prog.keyType 42 = true := by kernel_rfl
theorem Tryd.evGuard : Tryd.prog.eqGuardType Tryd.prog.depth 42 = false := by kernel_rfl
theorem Tryd.typesPos3 : ∃ m, Tryd.prog.types.size = m + 3 := ⟨Tryd.prog.types.size - 3, by have : 3 ≤ Tryd.prog.types.size := of_decide_eq_true (by kernel_rfl); omega⟩

/-- An event's numbers are int's. -/
structure EvFits (e : Ev) : Prop where
  f1 : fits e.wk
  f2 : fits e.k
  f3 : fits e.x
  f4 : fits e.y
  f5 : fits e.res
  f6 : fits e.bg
  f7 : fits e.pl
  f8 : fits e.en
abbrev evV (e : Ev) : Value := .agg #[.int .i64 e.wk, .int .i64 e.k, .int .i64 e.x, .int .i64 e.y, .int .i64 e.res, .int .i64 e.bg, .int .i64 e.pl, .int .i64 e.en]
theorem ev_fits_wf {x : Int} (h : fits x) : (Lit.int .i64 x).wf = true := by
  obtain ⟨h1, h2⟩ := h
  simp [Lit.wf, IntKind.min, IntKind.max, IntKind.signed, IntKind.bits]
  omega
theorem ev_key {e : Ev} (h : EvFits e) : ∃ l, keyOf Tryd.prog 42 (evV e) = some l := by
  obtain ⟨m, hm⟩ := Tryd.typesPos3
  unfold keyOf
  simp only [Tryd.underlying42, Tryd.evType]
  rw [hm]
  simp [Program.keyLits, Value.formed, Tryd.underlying42, Tryd.underlying40, Tryd.evCells, Tryd.evOpCells, Tryd.evIntCells, Tryd.underlying3, Value.cells, ev_fits_wf h.f1, ev_fits_wf h.f2, ev_fits_wf h.f3, ev_fits_wf h.f4, ev_fits_wf h.f5, ev_fits_wf h.f6, ev_fits_wf h.f7, ev_fits_wf h.f8]
  rw [if_pos (by intro i hi; match i, hi with | 0, _ => simp | 1, _ => simp | 2, _ => simp)]
  exact ⟨_, rfl⟩
set_option maxRecDepth 100000 in
theorem ev_guard (x y : Operand) (a b : Array Value) (w : World) : (eqGuard .neq 42 x y (.agg a) (.agg b)).run Tryd.prog w = .ok () w := by
  unfold eqGuard
  simp only [Tryd.evGuard]
  simp [Result.andThen]
set_option maxRecDepth 100000 in
theorem ev_same {e : Ev} (w : World) (h : EvFits e) : (binOp .neq 42 (evV e) (evV e)).run Tryd.prog w = .ok (.bool false) w := by
  obtain ⟨l, hl⟩ := ev_key h
  obtain ⟨b, hb, hiff⟩ := run_equal_deep (P := Tryd.prog) w (m := 3) (by omega) Tryd.evDeep Tryd.evWide hl hl
  obtain rfl := hiff.2 rfl
  simp [binOp, hb, Result.andThen]

theorem At.eight {w : World} {b off i : Nat} {es : List Ev} {q : Ev} (h : At 8 w b off (es.map ecells)) (hq : es[i]? = some q) : w.cell? ⟨b, off + i * 8, none⟩ = some (.int .i64 q.wk) ∧ w.cell? ⟨b, off + i * 8 + 1, none⟩ = some (.int .i64 q.k) ∧ w.cell? ⟨b, off + i * 8 + 2, none⟩ = some (.int .i64 q.x) ∧ w.cell? ⟨b, off + i * 8 + 3, none⟩ = some (.int .i64 q.y) ∧ w.cell? ⟨b, off + i * 8 + 4, none⟩ = some (.int .i64 q.res) ∧ w.cell? ⟨b, off + i * 8 + 5, none⟩ = some (.int .i64 q.bg) ∧ w.cell? ⟨b, off + i * 8 + 6, none⟩ = some (.int .i64 q.pl) ∧ w.cell? ⟨b, off + i * 8 + 7, none⟩ = some (.int .i64 q.en) := by
  have hx : (es.map ecells)[i]? = some (ecells q) := by rw [List.getElem?_map, hq]; rfl
  exact ⟨h i _ hx 0 _ rfl, h i _ hx 1 _ rfl, h i _ hx 2 _ rfl, h i _ hx 3 _ rfl, h i _ hx 4 _ rfl, h i _ hx 5 _ rfl, h i _ hx 6 _ rfl, h i _ hx 7 _ rfl⟩

theorem At.drewN {k b off : Nat} {w : World} {xs : List (List Value)} (h : At k w b off xs) (q : Nat) : At k (w.drewN q) b off xs := fun i x hx j v hv => h i x hx j v hv

set_option maxRecDepth 100000 in
set_option maxHeartbeats 2000000 in
theorem same_events (a1 a2 : Option Addr) (l c1 c2 : Nat) (es : List Ev) (w : World) {lo1 hi1 lo2 hi2 : Nat} (h1 : Sl 8 lo1 hi1 w a1 l (es.map ecells)) (h2 : Sl 8 lo2 hi2 w a2 l (es.map ecells)) (hf : ∀ e ∈ es, EvFits e) (hm : l ≤ 1000000) :
    Calls Tryd.prog 14 #[.slice a1 l c1, .slice a2 l c2] w fun e w' => e = .returned (.bool true) ∧ ∃ q, w' = w.drewN q := by
  have HL : Hid (es.length = l) := Lib.hid (by have := h1.1; simpa using this)
  have H1 := Lib.hid h1
  have H2 := Lib.hid h2
  have HF := Lib.hid hf
  have hne : ((l : Int) != (l : Int)) = false := by simp
  clear h1 h2 hf
  go_enter Tryd.func14, Tryd.ntmps14
  go_wp2_with fail
  go_loopw [5] (fun iv wr => ∃ (k q : Nat), k ≤ l ∧ iv = .int .i64 (k : Int) ∧ wr = w.drewN q) (fun iv _ => l - (intOf iv).toNat)
  case atStart => exact ⟨0, 0, Nat.zero_le _, rfl, rfl⟩
  case round =>
    obtain ⟨k, q, hk, rfl, rfl⟩ := hrel
    by_cases hlt : k < l
    · obtain ⟨b, off, rfl, _, _, hc⟩ := H1.out.at (by omega)
      obtain ⟨b', off', rfl, _, _, hc'⟩ := H2.out.at (by omega)
      obtain ⟨e, he⟩ : ∃ e, es[k]? = some e := ⟨_, List.getElem?_eq_getElem (by have := HL.out; omega)⟩
      obtain ⟨_, _, _, _, _, _, _, _⟩ := hc.eight he
      obtain ⟨_, _, _, _, _, _, _, _⟩ := hc'.eight he
      have hfit := HF.out e (List.mem_of_getElem? he)
      have hsame := fun W : World => ev_same W hfit
      have hgd := fun (x y : Operand) (a b : Array Value) (W : World) => ev_guard x y a b W
      obtain ⟨e1, e2, e3, e4, e5, e6, e7, e8⟩ := e
      dsimp only at *
      clear hc hc' he hfit
      go_wp2_with fail
      go_region
      all_goals go_wp2_with fail
      all_goals go_roundw
      case rel => exact ⟨k + 1, q + 1, by omega, by go_num, rfl⟩
      case measure => simp [intOf]; omega
    · obtain rfl : k = l := by omega
      go_wp2_with fail
      go_ret
      exact ⟨rfl, q, rfl⟩

/-- A play looks at the picks of its steps alone. -/
theorem run_same {n : Nat} {pr a b : List Int} {g : Gm} (hg : g.tm = 0) : ∀ T, T ≤ a.length → T ≤ b.length → (∀ t, t < T → a.getD t 0 = b.getD t 0) → run pr a g T = run pr b g T ∧ (run pr a g T).tm ≤ T
  | 0, _, _, _ => ⟨rfl, by show g.tm ≤ 0; omega⟩
  | T + 1, h1, h2, h => by
    obtain ⟨ih, ht⟩ := run_same (n := n) (pr := pr) (a := a) (b := b) hg T (by omega) (by omega) fun t q => h t (by omega)
    unfold run
    rw [← ih]
    split
    · exact ⟨rfl, by omega⟩
    · have e : (run pr a g T).who a = (run pr a g T).who b := by
        unfold Gm.who whoN
        rw [if_pos (show (run pr a g T).tm < a.length by omega), if_pos (show (run pr a g T).tm < b.length by omega), h _ (show (run pr a g T).tm < T + 1 by omega)]
      rw [e]
      exact ⟨rfl, by show (run pr a g T).tm + 1 ≤ T + 1; omega⟩

end Go.Proofs.YtpfcpeljfgmjgaaDoor

namespace Go.Proofs.YtpfcpeljfgmjgaaDoor
open Go.RowKit
set_option linter.unusedVariables false
set_option linter.unusedSimpArgs false

set_option maxRecDepth 100000 in
set_option maxHeartbeats 2000000 in
theorem play_no (a b c : Option Addr) (la ca lb cb lc cc : Nat) (ss : List (List O3)) (w : World) {ls : Nat} (hs : Scr ls w b lb ss) (hb : lb ≤ 1000000) (ho : opsN ss ≤ 1000000) (h : ¬ (la ≤ 4096 ∧ lb ≤ 64 ∧ opsN ss ≤ 4096)) :
    Calls Tryd.prog 12 #[.slice a la ca, .slice b lb cb, .slice c lc cc] w fun e w' => e = .returned (.tuple #[.slice none 0 0, .slice none 0 0, .int .i64 0]) ∧ w = w' := by
  have HM := may_play (la : Int) b lb cb ss w hs hb ho
  rw [decide_eq_false (by omega)] at HM
  have HMH := Lib.hid HM
  clear HM hs h
  go_enter Tryd.func12, Tryd.ntmps12
  go_wp2_with (first | (go_at_call 36; (with_reducible refine (HMH.out).mono ?_); rintro e w' ⟨rfl, rfl⟩))
  exact bodyPost_ret (v := .tuple #[.slice none 0 0, .slice none 0 0, .int .i64 0]) (by simp only [results, Tryd.results12]; go_simp) rfl ⟨rfl, rfl⟩

/-- Rows of zeros that were made. -/
def zs (c : Nat) : List O3 := List.replicate c (0, 0, 0)
def LimIn (H : Nat) (w : World) (svs : List Value) (cs : List Nat) : Prop :=
  svs.length = cs.length ∧ ∀ (i c : Nat), cs[i]? = some c → ∃ a, svs[i]? = some (.slice a c c) ∧ OpsRow (H + 1) w.heap.size w a c (zs c)
theorem zs_flat (c : Nat) : (zs c).flatMap o3 = List.replicate (c * 3) (Value.int .i64 0) := by
  induction c with
  | zero => rfl
  | succ c ih =>
    have e : zs (c + 1) = (0, 0, 0) :: zs c := List.replicate_succ
    rw [e, List.flatMap_cons, ih, show (c + 1) * 3 = c * 3 + 1 + 1 + 1 by omega]
    rfl
theorem zrow (w : World) (c : Nat) (t : TypeId) : OpsRow w.heap.size (w.alloc (.cells (madeCells #[Value.int .i64 0, Value.int .i64 0, Value.int .i64 0] (c * 3)) t)).heap.size (w.alloc (.cells (madeCells #[Value.int .i64 0, Value.int .i64 0, Value.int .i64 0] (c * 3)) t)) (some ⟨w.heap.size, 0, none⟩) c (zs c) := by
  have hr := RowsIn.made (k := 3) w [Value.int .i64 0, Value.int .i64 0, Value.int .i64 0] c t rfl
  refine ⟨by simp [zs], .inr ⟨w.heap.size, 0, rfl, Nat.le_refl _, by simp, fun i x hx j v hv => ?_⟩⟩
  rw [Nat.zero_add]
  refine (hr.2 i x ?_ j v hv).1
  rw [← hx]
  simp [zs, o3]
theorem LimIn.step {H k c : Nat} {w : World} {svs : List Value} {cs : List Nat} {t : TypeId} (h : LimIn H w svs cs) (hH : H < w.heap.size) :
    LimIn H ((w.alloc (.cells (madeCells #[Value.int .i64 0, Value.int .i64 0, Value.int .i64 0] (c * 3)) t)).setCell ⟨H, k, none⟩ (.slice (some ⟨w.heap.size, 0, none⟩) c c)) (svs ++ [.slice (some ⟨w.heap.size, 0, none⟩) c c]) (cs ++ [c]) := by
  refine ⟨by simp [h.1], fun i q hq => ?_⟩
  by_cases hi : i < cs.length
  · rw [List.getElem?_append_left hi] at hq
    obtain ⟨a, h1, h2⟩ := h.2 i q hq
    refine ⟨a, by rw [List.getElem?_append_left (by rw [h.1]; exact hi)]; exact h1, ?_⟩
    refine (h2.agree fun b hl hh => ?_).mono (Nat.le_refl _) (by simp)
    rw [Below.heap_setCell _ ⟨H, k, none⟩ _ b (by show b ≠ H; omega), Below.heap_alloc w _ b hh]
  · rw [List.getElem?_append_right (by omega)] at hq
    have hz : i - cs.length = 0 := by have := (List.getElem?_eq_some_iff.1 hq).1; simp at this; omega
    rw [hz] at hq
    simp at hq
    subst hq
    refine ⟨_, by rw [List.getElem?_append_right (by rw [h.1]; omega), h.1, hz]; rfl, ?_⟩
    refine ((zrow w c t).agree fun b hl hh => ?_).mono (by omega) (by simp)
    rw [Below.heap_setCell _ ⟨H, k, none⟩ _ b (by show b ≠ H; omega)]
theorem LimIn.scr {H n : Nat} {w : World} {e : TypeId} {svs : List Value} {cs : List Nat} (h : LimIn H w svs cs) (ho : w.ownsRow H e 1 (.slice (some ⟨H, 0, none⟩) n n) n svs) (hn : cs.length = n) (hH : H < w.heap.size) : Scr w.heap.size w (some ⟨H, 0, none⟩) n (cs.map zs) := by
  refine ⟨by simpa using hn, .inr ⟨H, 0, rfl, hH, fun i s hs => ?_⟩⟩
  rw [List.getElem?_map] at hs
  obtain ⟨c, hc, rfl⟩ := Option.map_eq_some_iff.1 hs
  obtain ⟨a, h1, h2⟩ := h.2 i c hc
  have hi : i < n := by have := (List.getElem?_eq_some_iff.1 hc).1; omega
  have hl : (zs c).length = c := by simp [zs]
  refine ⟨a, c, ?_, by rw [hl]; exact h2.mono (Nat.zero_le _) (Nat.le_refl _)⟩
  rw [Nat.zero_add, ho.cellAt i (by omega), h1, hl]
theorem opsN_zs (cs : List Nat) : opsN (cs.map zs) = cs.sum := by
  unfold opsN
  rw [List.map_map]
  congr 1
  induction cs with
  | nil => rfl
  | cons c cs ih => simp [ih, zs]
theorem sum_le_of (cs : List Nat) (B : Nat) (h : ∀ c ∈ cs, c ≤ B) : cs.sum ≤ cs.length * B := by
  induction cs with
  | nil => simp
  | cons c cs ih =>
    have h1 := ih fun q hq => h q (by simp [hq])
    have h2 := h c (by simp)
    simp only [List.sum_cons, List.length_cons, Nat.add_mul]; omega
theorem valid_zs (n c : Nat) : valid n (zs c) = [] := by
  unfold valid
  rw [List.filter_eq_nil_iff.2, List.map_nil]
  intro q hq
  obtain ⟨_, rfl⟩ := List.mem_replicate.1 hq
  simp [okB]
theorem on_all_false : ∀ (en : List Bool) (k : Nat), (∀ b ∈ en, b = false) → on k en = [] := by
  intro en k h
  induction en generalizing k with
  | nil => rfl
  | cons b en ih =>
    obtain rfl := h b (by simp)
    simpa [on] using ih (k + 1) fun q hq => h q (by simp [hq])
theorem lim_over (pr : List Int) (n : Nat) (cs : List Nat) : Over pr [] n (cs.map zs) 0 := by
  refine ⟨fun t ht => absurd ht (Nat.not_lt_zero _), ?_⟩
  refine on_all_false _ _ fun b hb => ?_
  unfold Gm.en at hb
  obtain ⟨k, hk, rfl⟩ := List.mem_map.1 hb
  have : k ∈ ((cs.map zs).map (valid n)).map Wk.new := hk
  simp only [List.mem_map] at this
  obtain ⟨s, ⟨q, ⟨c, _, rfl⟩, rfl⟩, rfl⟩ := this
  rw [valid_zs]
  rfl

theorem Tryd.opInfo1 : (Tryd.prog.info? 40).map (fun i => (i.zero, i.size, i.bytes)) = some (some (.agg #[.int .i64 0, .int .i64 0, .int .i64 0]), 3, 24) := by kernel_rfl
theorem Tryd.intInfo1 : (Tryd.prog.info? 3).map (fun i => (i.zero, i.size, i.bytes)) = some (some (.int .i64 0), 1, 8) := by kernel_rfl

end Go.Proofs.YtpfcpeljfgmjgaaDoor

namespace Go.Proofs.YtpfcpeljfgmjgaaDoor
open Go.RowKit
set_option linter.unusedVariables false
set_option linter.unusedSimpArgs false

/-- Over: cells that may be, two of them of one root as of all unitings. -/
theorem over_for {pr xs : List Int} {n : Nat} {ss : List (List O3)} {T : Nat} (h : Over pr xs n ss T) : For n pr (stAt pr xs n ss T).up := by
  obtain ⟨h1, L⟩ := run_lin (pr := pr) (picks := xs) (all_ok n ss) T h.1
  have := L.F T (by omega)
  exact this
theorem over_two {pr xs ys : List Int} {n : Nat} {ss : List (List O3)} {T T' : Nat} (h : Over pr xs n ss T) (h' : Over pr ys n ss T') {x y : Nat} (hx : x < n) (hy : y < n) : rtu (stAt pr xs n ss T).up x = rtu (stAt pr xs n ss T).up y ↔ rtu (stAt pr ys n ss T').up x = rtu (stAt pr ys n ss T').up y :=
  (left_is (all_ok n ss) h.1 h.2 hx hy).trans (left_is (all_ok n ss) h'.1 h'.2 hx hy).symm

theorem over_ext {pr a b : List Int} {n : Nat} {ss : List (List O3)} {T : Nat} (h : Over pr a n ss T) (hT : T ≤ a.length) : Over pr (a ++ b) n ss T ∧ stAt pr (a ++ b) n ss T = stAt pr a n ss T := by
  have key : ∀ t, t ≤ T → stAt pr (a ++ b) n ss t = stAt pr a n ss t := fun t ht =>
    (run_same (n := n) (pr := pr) (a := a) (b := a ++ b) (g := gm0 n (ss.map (valid n))) rfl t (by omega) (by simp; omega) fun q hq => by
      rw [List.getD_eq_getElem?_getD, List.getD_eq_getElem?_getD, List.getElem?_append_left (by omega)]).1.symm
  refine ⟨⟨fun t ht => ?_, ?_⟩, key T (Nat.le_refl _)⟩
  · rw [key t (by omega)]; exact h.1 t ht
  · rw [key T (Nat.le_refl _)]; exact h.2
theorem ev_fits {pr xs : List Int} {n : Nat} {ss : List (List O3)} {T : Nat} (h : Over pr xs n ss T) (hM : Made n ss) (hn : n ≤ 16) (hs : ss.length ≤ 8) (hT : T ≤ 1000000) : ∀ e ∈ (stAt pr xs n ss T).l, EvFits e := by
  intro e he
  obtain ⟨htm, L⟩ := run_lin (pr := pr) (picks := xs) (all_ok n ss) T h.1
  have E := L.evs e he
  obtain ⟨bg, pl, en, e1, e2, e3, e4, e5, e6, e7⟩ := E.t
  rw [htm] at e7
  obtain ⟨w, hw, hwk⟩ := (run_ordd (n := n) (pr := pr) (picks := xs) (ss := ss.map (valid n)) T).who e he
  rw [List.length_map] at hw
  have h1 := over_evs (n := n) (pr := pr) (picks := xs) (ss := ss.map (valid n)) (T := T) h.2 w (valid n (ss[w])) (by rw [List.getElem?_map, List.getElem?_eq_getElem hw]; rfl)
  have h2 : e.tr ∈ evs w (run pr xs (gm0 n (ss.map (valid n))) T).l := List.mem_map_of_mem (List.mem_filter.2 ⟨he, by simpa using hwk⟩)
  rw [h1] at h2
  obtain ⟨o, ho, h3⟩ := List.mem_map.1 h2
  unfold valid at ho
  obtain ⟨q, hq, rfl⟩ := List.mem_map.1 ho
  have hq' := List.mem_filter.1 hq
  obtain ⟨⟨k1, k2, k3, k4⟩, k5, k6⟩ := (hM _ (List.getElem_mem hw)).2 q hq'.1
  have t1 : ((toOpn q).k : Int) = e.k := congrArg Prod.fst h3
  have t2 : ((toOpn q).x : Int) = e.x := congrArg (fun z => z.2.1) h3
  have t3 : (toOpn q).y = e.y := congrArg (fun z => z.2.2) h3
  have u1 : ((q.1.toNat : Nat) : Int) = e.k := t1
  have u2 : ((q.2.1.toNat : Nat) : Int) = e.x := t2
  have u3 : q.2.2 = e.y := t3
  have hres : 0 ≤ e.res ∧ e.res ≤ 1000 := by
    rcases E.r with ⟨_, r1, r2, _⟩ | ⟨_, ⟨r, _⟩ | ⟨r, _⟩⟩ | ⟨_, ⟨r, _⟩ | ⟨r, _⟩⟩ <;> omega
  clear h2 h1 hq hq' ho h3 t1 t2 t3 E L
  constructor <;> unfold fits <;> omega
theorem own_ints {w : World} {base n : Nat} {e : TypeId} {v : Value} {xs : List Int} (h : w.ownsRow base e 1 v n (xs.map (Value.int .i64))) (hl : xs.length = n) : ∃ a c, v = .slice a n c ∧ n ≤ c ∧ Row base w.heap.size w a n xs := by
  have hc : ∃ a c, v = .slice a n c ∧ n ≤ c := by
    obtain ⟨_, ⟨rfl, h0⟩ | ⟨g, cap, cur, rfl, hb, hg, hcap, _⟩⟩ := id h
    · exact ⟨none, 0, by rw [h0], by omega⟩
    · exact ⟨_, _, rfl, hcap⟩
  obtain ⟨a, c, rfl, hcap⟩ := hc
  subst hl
  obtain ⟨a1, c1', e1, h2⟩ := RowF.of_owns (f := Value.int .i64) (d := (0 : Int)) h
  injection e1 with e2 e3 e4
  subst e2
  exact ⟨_, _, rfl, hcap, h2⟩
theorem row_news {w : World} {lo hi n : Nat} {ad : Addr} {xs : List Int} (h : Row lo hi w (some ad) n xs) : ∀ j u, (xs.map (Value.int .i64))[j]? = some u → w.cell? (ad.add j) = some u := by
  intro j u hu
  obtain ⟨hl, h0⟩ := h
  have hj : j < xs.length := by have := (List.getElem?_eq_some_iff.1 hu).1; simpa using this
  obtain ⟨b, off, e, _, _, hc⟩ := h0.resolve_left (by omega)
  obtain rfl := Option.some.inj e
  have := hc j (by omega)
  rw [List.getElem?_map, List.getElem?_eq_getElem hj] at hu
  rw [show (⟨b, off, none⟩ : Addr).add j = ⟨b, off + j, none⟩ by simp [Addr.add]]
  rw [this, ← hu]
  simp [List.getD, hj]
theorem ints_one (xs : List Int) : ∀ u ∈ xs.map (Value.int .i64), u.oneCell' = true := by
  intro u hu
  obtain ⟨x, _, rfl⟩ := List.mem_map.1 hu
  rfl
theorem owns_made5 {w : World} (base : Nat) (hb : base ≤ w.heap.size) : (w.alloc (.cells #[] 3)).ownsRow base 3 1 (.slice (some ⟨w.heap.size, 0, none⟩) 0 0) 0 [] := by
  exact ⟨rfl, .inr ⟨w.heap.size, 0, #[], rfl, hb, heap_alloc_new w _, Nat.le_refl _, by decide, rfl, rfl⟩⟩

end Go.Proofs.YtpfcpeljfgmjgaaDoor
