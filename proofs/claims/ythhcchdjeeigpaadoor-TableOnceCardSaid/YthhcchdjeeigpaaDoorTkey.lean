/- Keys of a table: in memory, as keys of a map; what the table's map says, what the map of locks says; operations on maps at a step of a region that draws its order. -/
import Derived.Test.YthhcchdjeeigpaaDoorTm
import Derived.Test.YthhcchdjeeigpaaDoorMem
import Derived.Test.YthhcchdjeeigpaaDoorProg
import Derived.DeepKeys4
import Derived.Maps.OwnSet
import Derived.KernelRfl
namespace Go.Proofs.YthhcchdjeeigpaaDoor
open Go.RowKit Go.Maps
open Go.WideMaps (KeyLaw)
set_option linter.unusedVariables false
set_option linter.unusedSimpArgs false

def tfit (x : Int) : Prop := -9223372036854775808 ≤ x ∧ x ≤ 9223372036854775807
theorem tfit_wf {x : Int} (h : tfit x) : (Lit.int .i64 x).wf = true := WalkArith.wf_i64 (by unfold tfit at h; omega)
def kfit (k : Ky) : Prop := tfit k.a ∧ tfit k.b ∧ k.s.size ≤ maxLen
def kcell (k : Ky) : List Value := [.string k.s, .int .i64 k.a, .int .i64 k.b]
def kval (k : Ky) : Value := .agg #[.string k.s, .int .i64 k.a, .int .i64 k.b]
theorem kcell_length (k : Ky) : (kcell k).length = 3 := rfl
theorem kcell_one (k : Ky) : ∀ v ∈ kcell k, v.oneCell' = true := by
  intro v hv
  simp [kcell] at hv
  rcases hv with rfl | rfl | rfl <;> rfl

theorem Tryd.kyLaid : laidOutB Tryd.prog = true := by kernel_rfl
theorem Tryd.kyRow : (57 : TypeId) < Tryd.prog.types.size := of_decide_eq_true (by kernel_rfl)
theorem Tryd.kyWide : (match Tryd.prog.underlying 57 with | some (.array _ _) | some (.struct _) => true | _ => false) = true := by kernel_rfl
set_option maxRecDepth 100000 in
theorem Tryd.kyLaw : KeyLaw Tryd.prog 57 := deep_law_laid Tryd.kyLaid (m := 2) (by omega) Tryd.kyRow (by kernel_rfl) Tryd.kyWide
theorem Tryd.kyKeyed : Keyed Tryd.prog 57 := Keyed.of_law Tryd.kyLaw
theorem Tryd.kyCells : Tryd.prog.cellsOf 57 = 3 := by kernel_rfl
theorem Tryd.kyType : Tryd.prog.keyType 57 = true := by kernel_rfl
theorem Tryd.tintCells : Tryd.prog.cellsOf 3 = 1 := by kernel_rfl
theorem Tryd.tstrCells : Tryd.prog.cellsOf 9 = 1 := by kernel_rfl
theorem Tryd.ttypesPos : ∃ m, Tryd.prog.types.size = m + 1 := ⟨Tryd.prog.types.size - 1, by have : 0 < Tryd.prog.types.size := of_decide_eq_true (by kernel_rfl); omega⟩
theorem Tryd.tzeroInt (w : World) : (zeroValue 3).run Tryd.prog w = .ok (.int .i64 0) w := by kernel_rfl
theorem Tryd.tintKeyed : Keyed Tryd.prog 3 := int_keyed Tryd.underlying3

theorem ky_key {k : Ky} (h : kfit k) : ∃ l, keyOf Tryd.prog 57 (kval k) = some l := by
  obtain ⟨m, hm⟩ := Tryd.ttypesPos
  obtain ⟨h1, h2, h3⟩ := h
  unfold keyOf kval
  simp only [Tryd.underlying57, Tryd.kyType]
  rw [hm]
  simp [Program.keyLits, Value.formed, Tryd.underlying57, Tryd.kyCells, Tryd.tintCells, Tryd.tstrCells, Tryd.underlying3, Tryd.underlying9, Value.cells, tfit_wf h1, tfit_wf h2, h3]
theorem kval_inj {a b : Ky} (h : kval a = kval b) : a = b := by
  unfold kval at h
  simp at h
  obtain ⟨h1, h2, h3⟩ := h
  cases a; cases b; simp_all

/-- The map of places says where each key stands. -/
def PInv (D : DataW Unit) (keys : List Ky) : Prop := IsMap D ∧ ∀ (k : Ky) (kl : Lit), keyOf Tryd.prog 57 (kval k) = some kl → Maps.has D kl = decide (k ∈ keys) ∧ (k ∈ keys → D.atKey kl (.lit (.int .i64 0)) = .lit (.int .i64 (kat keys k : Nat)))
theorem pinv_nil : PInv (.map []) [] := ⟨isMap_empty, fun k kl _ => ⟨by simp [Maps.has], fun h => by cases h⟩⟩
theorem pinv_put {D : DataW Unit} {keys : List Ky} (h : PInv D keys) {k : Ky} {kl : Lit} (hk : keyOf Tryd.prog 57 (kval k) = some kl) (hn : k ∉ keys) : PInv (D.put kl (.lit (.int .i64 (keys.length : Nat)))) (keys ++ [k]) := by
  refine ⟨h.1.put _ _, fun k' kl' hk' => ?_⟩
  by_cases e : k' = k
  · subst e
    rw [hk] at hk'
    obtain rfl := Option.some.inj hk'
    have hl := Tryd.kyKeyed.key hk
    refine ⟨by rw [has_put_same h.1 hl]; simp, fun _ => ?_⟩
    rw [atKey_put_same h.1 hl, kat_snoc hn]
  · have hne : kl' ≠ kl := fun q => e (kval_inj (Tryd.kyKeyed.inj (q ▸ hk') hk))
    obtain ⟨h1, h2⟩ := h.2 k' kl' hk'
    refine ⟨by rw [has_put_other hne, h1]; simp [e], fun hm => ?_⟩
    have hm' : k' ∈ keys := by simpa [e] using hm
    rw [atKey_put_other hne, h2 hm', kat_append _ hm']

/-- The map of locks says who holds which. -/
def HInv (σ : Ky → Int) (D : DataW Unit) (g : Tg) : Prop :=
  (∃ es, D = .map es ∧ ∀ p ∈ es, WideAt.IsKeyLit p.1) ∧ (∀ kl, Maps.has D kl = true → ∃ s, kl = .int .i64 s ∧ g.locked σ s = true) ∧ (∀ s, g.locked σ s = true → Maps.has D (.int .i64 s) = true) ∧
  (∀ (j : Nat) (k : Tw) (s : Int), g.ws[j]? = some k → k.hold σ = some s → D.atKey (.int .i64 s) (.lit (.int .i64 0)) = .lit (.int .i64 (j : Nat)))
theorem mem_insert {p x : Lit × DataW Unit} : ∀ {l : List (Lit × DataW Unit)}, p ∈ DataW.insert x l → p = x ∨ p ∈ l
  | [], h => by simp [DataW.insert] at h; exact .inl h
  | y :: l, h => by
    unfold DataW.insert at h
    split at h
    · rcases List.mem_cons.1 h with h | h
      · exact .inl h
      · exact .inr h
    · rcases List.mem_cons.1 h with h | h
      · exact .inr (h ▸ List.mem_cons_self ..)
      · rcases mem_insert h with h | h
        · exact .inl h
        · exact .inr (List.mem_cons_of_mem _ h)
theorem hinv_has {σ : Ky → Int} {D : DataW Unit} {g : Tg} (h : HInv σ D g) (s : Int) : Maps.has D (.int .i64 s) = g.locked σ s := by
  obtain ⟨_, h1, h2, _⟩ := h
  cases e : g.locked σ s with
  | true => exact h2 s e
  | false =>
    cases e2 : Maps.has D (.int .i64 s) with
    | false => rfl
    | true =>
      obtain ⟨s', h3, h4⟩ := h1 _ e2
      cases h3
      rw [e] at h4; cases h4
/-- Nothing is held: the map is empty. -/
theorem hinv_none {σ : Ky → Int} {D : DataW Unit} {g : Tg} (h : HInv σ D g) (hn : ∀ s, g.locked σ s = false) : Maps.size D = 0 := by
  obtain ⟨⟨es, rfl, hl⟩, h1, _⟩ := h
  cases es with
  | nil => rfl
  | cons p l =>
    exfalso
    have hp := hl p (List.mem_cons_self ..)
    have : Maps.has (DataW.map (p :: l)) p.1 = true := by
      rw [has_eq, List.any_cons, WideAt.sameKey_self hp]; rfl
    obtain ⟨s, _, h4⟩ := h1 _ this
    rw [hn s] at h4; cases h4
theorem hinv_start (σ : Ky → Int) (ss : List (List Ky)) : HInv σ (.map []) (tg0 ss) := by
  have hno : ∀ (j : Nat) (k : Tw), (tg0 ss).ws[j]? = some k → k.hold σ = none := by
    intro j k hj
    unfold tg0 at hj
    rw [List.getElem?_map] at hj
    cases hs : ss[j]? with
    | none => rw [hs] at hj; cases hj
    | some s => rw [hs] at hj; simp at hj; subst hj; rfl
  refine ⟨⟨[], rfl, by simp⟩, fun kl h => by simp [Maps.has] at h, fun s h => ?_, fun j k s hj hh => ?_⟩
  · obtain ⟨i, k, hi, hh⟩ := Tg.locked_iff.1 h
    rw [hno i k hi] at hh; cases hh
  · rw [hno j k hj] at hh; cases hh

theorem locked_set {σ : Ky → Int} {g g' : Tg} {w : Nat} {k : Tw} (hw : w < g.ws.length) (hws : g'.ws = g.ws.set w k) (s : Int) : g'.locked σ s = true ↔ (k.hold σ = some s ∨ ∃ (j : Nat) (q : Tw), j ≠ w ∧ g.ws[j]? = some q ∧ q.hold σ = some s) := by
  rw [Tg.locked_iff, hws]
  constructor
  · rintro ⟨i, q, hi, hh⟩
    rcases set_casesT hi with ⟨rfl, rfl⟩ | ⟨hne, hi⟩
    · exact .inl hh
    · exact .inr ⟨i, q, Ne.symm hne, hi, hh⟩
  · rintro (h | ⟨j, q, hne, hj, hh⟩)
    · exact ⟨w, k, by rw [List.getElem?_set_self (by simpa using hw)], h⟩
    · exact ⟨j, q, by rw [List.getElem?_set_ne (Ne.symm hne)]; exact hj, hh⟩
/-- A lock is taken. -/
theorem hinv_take {σ : Ky → Int} {D : DataW Unit} {g g' : Tg} {w : Nat} {k : Tw} {s : Int} (h : HInv σ D g) (hw : w < g.ws.length) (hws : g'.ws = g.ws.set w k) (h0 : ∀ q, g.ws[w]? = some q → q.hold σ = none) (h1 : k.hold σ = some s) (hfree : g.locked σ s = false) (d : DataW Unit) (hd : d = .lit (.int .i64 (w : Nat))) : HInv σ (D.put (.int .i64 s) d) g' := by
  subst hd
  have hm : IsMap D := let ⟨⟨es, e, _⟩, _⟩ := h; ⟨es, e⟩
  have hkl : WideAt.IsKeyLit (.int .i64 s) := trivial
  refine ⟨?_, fun kl hk => ?_, fun s' hs' => ?_, fun j q s' hj hh => ?_⟩
  · obtain ⟨⟨es, rfl, hes⟩, _⟩ := h
    refine ⟨_, rfl, fun p hp => ?_⟩
    rcases mem_insert hp with rfl | hp
    · trivial
    · exact hes p ((List.mem_filter.1 hp).1)
  · by_cases e : kl = .int .i64 s
    · subst e
      exact ⟨s, rfl, (locked_set hw hws s).2 (.inl h1)⟩
    · rw [has_put_other e] at hk
      obtain ⟨s', rfl, hl⟩ := h.2.1 kl hk
      obtain ⟨i, q, hi, hh⟩ := Tg.locked_iff.1 hl
      refine ⟨s', rfl, (locked_set hw hws s').2 (.inr ⟨i, q, fun e2 => ?_, hi, hh⟩)⟩
      subst e2
      rw [h0 q hi] at hh; cases hh
  · by_cases e : s' = s
    · subst e; exact has_put_same hm hkl _
    · rw [has_put_other (fun q => e (by cases q; rfl))]
      rcases (locked_set hw hws s').1 hs' with h2 | ⟨j, q, _, hj, hh⟩
      · rw [h1] at h2; cases h2; exact absurd rfl e
      · exact h.2.2.1 s' (Tg.locked_iff.2 ⟨j, q, hj, hh⟩)
  · rw [hws] at hj
    rcases set_casesT hj with ⟨rfl, rfl⟩ | ⟨hne, hj⟩
    · rw [h1] at hh; cases hh
      exact atKey_put_same hm hkl _ _
    · have e : s' ≠ s := by
        rintro rfl
        have := Tg.locked_iff.2 ⟨j, q, hj, hh⟩
        rw [hfree] at this; cases this
      rw [atKey_put_other (fun q => e (by cases q; rfl))]
      exact h.2.2.2 j q s' hj hh
/-- What is held stays. -/
theorem hinv_stay {σ : Ky → Int} {D : DataW Unit} {g g' : Tg} {w : Nat} {k : Tw} (h : HInv σ D g) (hw : w < g.ws.length) (hws : g'.ws = g.ws.set w k) (h0 : ∀ q, g.ws[w]? = some q → q.hold σ = k.hold σ) : HInv σ D g' := by
  have hq : ∀ s, g'.locked σ s = g.locked σ s := by
    intro s
    rw [Bool.eq_iff_iff, locked_set hw hws, Tg.locked_iff]
    constructor
    · rintro (h1 | ⟨j, q, _, hj, hh⟩)
      · obtain ⟨q, hqw⟩ : ∃ q, g.ws[w]? = some q := ⟨_, List.getElem?_eq_getElem hw⟩
        exact ⟨w, q, hqw, (h0 q hqw).trans h1⟩
      · exact ⟨j, q, hj, hh⟩
    · rintro ⟨i, q, hi, hh⟩
      by_cases e : i = w
      · subst e; exact .inl ((h0 q hi).symm.trans hh)
      · exact .inr ⟨i, q, e, hi, hh⟩
  refine ⟨h.1, fun kl hk => ?_, fun s hs => ?_, fun j q s hj hh => ?_⟩
  · obtain ⟨s, h1, h2⟩ := h.2.1 kl hk
    exact ⟨s, h1, by rw [hq]; exact h2⟩
  · exact h.2.2.1 s (by rw [← hq]; exact hs)
  · rw [hws] at hj
    rcases set_casesT hj with ⟨rfl, rfl⟩ | ⟨hne, hj⟩
    · obtain ⟨q', hqw⟩ : ∃ q', g.ws[w]? = some q' := ⟨_, List.getElem?_eq_getElem hw⟩
      exact h.2.2.2 w q' s hqw ((h0 q' hqw).trans hh)
    · exact h.2.2.2 j q s hj hh
/-- A lock is let go. -/
theorem hinv_drop {σ : Ky → Int} {D : DataW Unit} {g g' : Tg} {w : Nat} {k : Tw} {s : Int} (h : HInv σ D g) (hw : w < g.ws.length) (hws : g'.ws = g.ws.set w k) (h0 : ∀ q, g.ws[w]? = some q → q.hold σ = some s) (h1 : k.hold σ = none)
    (hd : ∀ (j : Nat) (q : Tw), j ≠ w → g.ws[j]? = some q → q.hold σ ≠ some s) : HInv σ (D.del (.int .i64 s)) g' := by
  obtain ⟨q0, hq0⟩ : ∃ q, g.ws[w]? = some q := ⟨_, List.getElem?_eq_getElem hw⟩
  refine ⟨?_, fun kl hk => ?_, fun s' hs' => ?_, fun j q s' hj hh => ?_⟩
  · obtain ⟨⟨es, rfl, hes⟩, _⟩ := h
    exact ⟨_, rfl, fun p hp => hes p ((List.mem_filter.1 hp).1)⟩
  · by_cases e : kl = .int .i64 s
    · subst e; rw [has_del_same] at hk; cases hk
    · rw [has_del_other e] at hk
      obtain ⟨s', rfl, hl⟩ := h.2.1 kl hk
      obtain ⟨i, q, hi, hh⟩ := Tg.locked_iff.1 hl
      refine ⟨s', rfl, (locked_set hw hws s').2 (.inr ⟨i, q, fun e2 => ?_, hi, hh⟩)⟩
      subst e2
      rw [h0 q hi] at hh; cases hh; exact e rfl
  · rcases (locked_set hw hws s').1 hs' with h2 | ⟨j, q, hne, hj, hh⟩
    · rw [h1] at h2; cases h2
    · have e : s' ≠ s := by rintro rfl; exact hd j q hne hj hh
      rw [has_del_other (fun q => e (by cases q; rfl))]
      exact h.2.2.1 s' (Tg.locked_iff.2 ⟨j, q, hj, hh⟩)
  · rw [hws] at hj
    rcases set_casesT hj with ⟨rfl, rfl⟩ | ⟨hne, hj⟩
    · rw [h1] at hh; cases hh
    · have e : s' ≠ s := by rintro rfl; exact hd j q (Ne.symm hne) hj hh
      rw [atKey_del_other (fun q => e (by cases q; rfl))]
      exact h.2.2.2 j q s' hj hh

theorem ownsMap_agree {w w' : World} {P : Program} {k : TypeId} {R : Value → Option (DataW Unit × List MemPlace)} {b n : Nat} {D : DataW Unit} (h : w.ownsMap P k R b n D) (hb : w'.heap[b]? = w.heap[b]?) : w'.ownsMap P k R b n D := by
  obtain ⟨es, clock, h1, r⟩ := h
  exact ⟨es, clock, hb.trans h1, r⟩
theorem ownsMap_lt {w : World} {P : Program} {k : TypeId} {R : Value → Option (DataW Unit × List MemPlace)} {b n : Nat} {D : DataW Unit} (h : w.ownsMap P k R b n D) : b < w.heap.size := by
  obtain ⟨es, clock, h1, r⟩ := h
  exact (Array.getElem?_eq_some_iff.1 h1).1

/-! ### Maps at a step of a region that draws its order -/
section
variable {P : Program} {w : World} {ops : Array Oper} {o : Oper} {a : Act} {K : Act → World → Prop} {Q : Exit → Act → World → Prop} {E : Prop}
theorem look_at {t k e : TypeId} {q : IntKind} (KK : Keyed P k) (ht : P.underlying t = some (.map k e)) (he : P.underlying e = some (.int q)) (hz : (zeroValue e).run P w = .ok (.int q 0) w) {b n : Nat} {D : DataW Unit}
    (hown : w.ownsMap P k (plainElem P e) b n D) {key : Value} {kl : Lit} (hkey : keyOf P k key = some kl) {v : Bool} (hv : Maps.has D kl = v) {c : Int} (hc : D.atKey kl (.lit (.int q 0)) = .lit (.int q c)) :
    Sem.run P (Instr.lookup t (.map (some b)) key true) w = .ok (.tuple #[.int q c, .bool v]) w := by
  obtain ⟨u, ps, hrun, hu⟩ := hown.look_ok KK ht hz (plainElem_int he (by cases q <;> decide)) hkey
  obtain ⟨c', rfl, hc', _⟩ := plainElem_int_inv he hu
  have e1 := congrArg Prod.fst hc'
  simp only at e1
  rw [hc] at e1
  have e2 : c = c' := by cases e1; rfl
  subst e2
  rw [hv] at hrun
  exact hrun
theorem wp_lookup_int (m x : Operand) (t : TypeId) (hop : o.op = Op.lookup t m x true)
    (k e : TypeId) (q : IntKind) (KK : Keyed P k) (ht : P.underlying t = some (.map k e)) (he : P.underlying e = some (.int q)) (hz : (zeroValue e).run P w = .ok (.int q 0) w) (b n : Nat) (D : DataW Unit)
    (hm : a.eval m = .map (some b)) (hown : w.ownsMap P k (plainElem P e) b n D) (key : Value) (kl : Lit) (hx : a.eval x = key) (hkey : keyOf P k key = some kl) (v : Bool) (hv : Maps.has D kl = v) (c : Int) (hc : D.atKey kl (.lit (.int q 0)) = .lit (.int q c))
    (h : K (a.put o.dst (.tuple #[.int q c, .bool v])) w) : Oper.wp P o a w K Q := by
  obtain ⟨u, ps, hrun, hu⟩ := hown.look_ok KK ht hz (plainElem_int he (by cases q <;> decide)) hkey
  obtain ⟨c', rfl, hc', _⟩ := plainElem_int_inv he hu
  have e1 := congrArg Prod.fst hc'
  simp only at e1
  rw [hc] at e1
  have e2 : c = c' := by cases e1; rfl
  subst e2
  unfold Oper.wp
  simp [execOp, hop, hm, hx, hrun, Result.andThen, hv]
  exact h
theorem step_lookup_int (hgd : o.guard = none) (m x : Operand) (t : TypeId) (hop : o.op = Op.lookup t m x true)
    (k e : TypeId) (q : IntKind) (KK : Keyed P k) (ht : P.underlying t = some (.map k e)) (he : P.underlying e = some (.int q)) (hz : (zeroValue e).run P w = .ok (.int q 0) w) (b n : Nat) (D : DataW Unit)
    (hm : a.eval m = .map (some b)) (hown : w.ownsMap P k (plainElem P e) b n D) (key : Value) (kl : Lit) (hx : a.eval x = key) (hkey : keyOf P k key = some kl) (v : Bool) (hv : Maps.has D kl = v) (c : Int) (hc : D.atKey kl (.lit (.int q 0)) = .lit (.int q c))
    (h : K (a.put o.dst (.tuple #[.int q c, .bool v])) w) : if Region.wanted o (yielded ops a.tmps) = true then Oper.wp P o a w K Q else E := by
  rw [if_pos (by simp [Region.wanted, hgd])]
  exact wp_lookup_int m x t hop k e q KK ht he hz b n D hm hown key kl hx hkey v hv c hc h
theorem wp_mapUpdate_own (m x v : Operand) (t : TypeId) (hop : o.op = Op.mapUpdate t m x v)
    (k e : TypeId) (KK : Keyed P k) (ht : P.underlying t = some (.map k e)) (R : Value → Option (DataW Unit × List MemPlace)) (b n : Nat) (D : DataW Unit)
    (hm : a.eval m = .map (some b)) (hown : w.ownsMap P k R b n D) (hn : n < maxLen) (key val : Value) (kl : Lit) (hx : a.eval x = key) (hv : a.eval v = val) (hkey : keyOf P k key = some kl)
    (d : DataW Unit) (ps : List MemPlace) (hval : R val = some (d, ps))
    (h : ∀ w', w'.ownsMap P k R b (n + 1) (D.put kl d) → w.grownBy w' (some b) → w'.heap.size = w.heap.size → K (a.put o.dst undef) w') : Oper.wp P o a w K Q := by
  obtain ⟨w', hrun, r1, r2⟩ := hown.store KK ht hn hkey hval
  unfold Oper.wp
  simp [execOp, hop, hm, hx, hv, hrun, Result.andThen]
  refine h w' r1 r2.grown ?_
  obtain ⟨_, _, _, _, _, rfl⟩ := r2
  simp [ChangeMaps.setBlock]
theorem step_mapUpdate_own (hgd : o.guard = none) (m x v : Operand) (t : TypeId) (hop : o.op = Op.mapUpdate t m x v)
    (k e : TypeId) (KK : Keyed P k) (ht : P.underlying t = some (.map k e)) (R : Value → Option (DataW Unit × List MemPlace)) (b n : Nat) (D : DataW Unit)
    (hm : a.eval m = .map (some b)) (hown : w.ownsMap P k R b n D) (hn : n < maxLen) (key val : Value) (kl : Lit) (hx : a.eval x = key) (hv : a.eval v = val) (hkey : keyOf P k key = some kl)
    (d : DataW Unit) (ps : List MemPlace) (hval : R val = some (d, ps))
    (h : ∀ w', w'.ownsMap P k R b (n + 1) (D.put kl d) → w.grownBy w' (some b) → w'.heap.size = w.heap.size → K (a.put o.dst undef) w') : if Region.wanted o (yielded ops a.tmps) = true then Oper.wp P o a w K Q else E := by
  rw [if_pos (by simp [Region.wanted, hgd])]
  exact wp_mapUpdate_own m x v t hop k e KK ht R b n D hm hown hn key val kl hx hv hkey d ps hval h
theorem step_delete_own (hgd : o.guard = none) (m x : Operand) (t k : TypeId) (hop : o.op = Op.call { callee := Callee.builtin Builtin.delete, args := #[m, x], argTypes := #[t, k] })
    (e : TypeId) (KK : Keyed P k) (ht : P.underlying t = some (.map k e)) (R : Value → Option (DataW Unit × List MemPlace)) (b n : Nat) (D : DataW Unit)
    (hm : a.eval m = .map (some b)) (hown : w.ownsMap P k R b n D) (key : Value) (kl : Lit) (hx : a.eval x = key) (hkey : keyOf P k key = some kl)
    (h : ∀ w', w'.ownsMap P k R b n (D.del kl) → w.grownBy w' (some b) → w'.heap.size = w.heap.size → K (a.put o.dst (.tuple #[])) w') : if Region.wanted o (yielded ops a.tmps) = true then Oper.wp P o a w K Q else E := by
  rw [if_pos (by simp [Region.wanted, hgd])]
  obtain ⟨w', hrun, r1, r2⟩ := hown.drop KK ht hkey o.type
  unfold Oper.wp
  simp [execOp, hop, resolve, invoke, builtin, hm, hx, hrun, Result.andThen]
  refine h w' r1 r2.grown ?_
  obtain ⟨_, _, _, _, _, rfl⟩ := r2
  simp [ChangeMaps.setBlock]
end

end Go.Proofs.YthhcchdjeeigpaaDoor
