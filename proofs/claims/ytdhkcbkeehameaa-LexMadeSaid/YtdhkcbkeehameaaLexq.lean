/- Two tokens that are one are told so; tokens read in memory; the statements' Same, awake. -/
import Derived.Test.YtdhkcbkeehameaaLexf
import Derived.Deep.QuietTactic
import Derived.Deep.CutRange
namespace Go.Proofs.Ytdhkcbkeehameaa
open Go.RowKit
set_option linter.unusedVariables false
set_option linter.unusedSimpArgs false

theorem Try.tokWide : (match Try.prog.underlying 38 with | some (.array _ _) | some (.struct _) => true | _ => false) = true := by kernel_rfl
theorem Try.tokDeep : Try.prog.keyTypeAt 2 38 = true := by kernel_rfl
theorem Try.tokCells : Try.prog.cellsOf 38 = 4 := by kernel_rfl
theorem Try.intCells : Try.prog.cellsOf 3 = 1 := by kernel_rfl
theorem Try.strCells : Try.prog.cellsOf 9 = 1 := by kernel_rfl
theorem Try.tokType : Try.prog.keyType 38 = true := by kernel_rfl
theorem Try.tokGuard : Try.prog.eqGuardType Try.prog.depth 38 = false := by kernel_rfl
theorem Try.typesPos2 : ∃ m, Try.prog.types.size = m + 3 := ⟨Try.prog.types.size - 3, by have : 3 ≤ Try.prog.types.size := of_decide_eq_true (by kernel_rfl); omega⟩

def fits (x : Int) : Prop := -9223372036854775808 ≤ x ∧ x ≤ 9223372036854775807
theorem fits_wf {x : Int} (h : fits x) : (Lit.int .i64 x).wf = true := WalkArith.wf_i64 (by unfold fits at h; omega)

theorem tok_key {k p n : Int} (s : ByteArray) (h1 : fits k) (h2 : fits p) (h3 : fits n) (hs : s.size ≤ 1000000) :
    ∃ l, keyOf Try.prog 38 (.agg #[.int .i64 k, .int .i64 p, .string s, .int .i64 n]) = some l := by
  obtain ⟨m, hm⟩ := Try.typesPos2
  have hs2 : s.size ≤ maxLen := by unfold maxLen; omega
  unfold keyOf
  simp only [Try.underlying38, Try.tokType]
  rw [hm]
  simp [Program.keyLits, Value.formed, Try.underlying38, Try.tokCells, Try.intCells, Try.strCells, Try.underlying3, Try.underlying9, Value.cells, fits_wf h1, fits_wf h2, fits_wf h3, hs2]
theorem tok_guard_ne (x y : Operand) (a b : Array Value) (w : World) : (eqGuard .neq 38 x y (.agg a) (.agg b)).run Try.prog w = .ok () w := by
  simp [eqGuard, Try.tokGuard, Result.andThen]
theorem tok_guard_eq (x y : Operand) (a b : Array Value) (w : World) : (eqGuard .eql 38 x y (.agg a) (.agg b)).run Try.prog w = .ok () w := by
  simp [eqGuard, Try.tokGuard, Result.andThen]
theorem tok_ne {k p n : Int} (s : ByteArray) (w : World) (h1 : fits k) (h2 : fits p) (h3 : fits n) (hs : s.size ≤ 1000000) :
    (binOp .neq 38 (.agg #[.int .i64 k, .int .i64 p, .string s, .int .i64 n]) (.agg #[.int .i64 k, .int .i64 p, .string s, .int .i64 n])).run Try.prog w = .ok (.bool false) w := by
  obtain ⟨l, hl⟩ := tok_key s h1 h2 h3 hs
  obtain ⟨b, hb, hiff⟩ := run_equal_deep (P := Try.prog) w (m := 2) (by omega) Try.tokDeep Try.tokWide hl hl
  obtain rfl := hiff.2 rfl
  simp [binOp, hb, Result.andThen]
theorem tok_eq {k p n : Int} (s : ByteArray) (w : World) (h1 : fits k) (h2 : fits p) (h3 : fits n) (hs : s.size ≤ 1000000) :
    (binOp .eql 38 (.agg #[.int .i64 k, .int .i64 p, .string s, .int .i64 n]) (.agg #[.int .i64 k, .int .i64 p, .string s, .int .i64 n])).run Try.prog w = .ok (.bool true) w := by
  obtain ⟨l, hl⟩ := tok_key s h1 h2 h3 hs
  obtain ⟨b, hb, hiff⟩ := run_equal_deep (P := Try.prog) w (m := 2) (by omega) Try.tokDeep Try.tokWide hl hl
  obtain rfl := hiff.2 rfl
  simp [binOp, hb, Result.andThen]

/-- A token that the machine holds. -/
def Tk.fit (t : Tk) : Prop := t.k ≤ 5 ∧ t.p ≤ 1000000 ∧ t.s.length ≤ 1000000 ∧ t.n ≤ 2147483647
theorem kindL_le (l : By) : kindL l ≤ 4 := by
  unfold kindL; split
  · omega
  · split
    · omega
    · split
      · omega
      · split <;> omega
theorem tokL_fit {l : By} {t : Tw} (h : tokL l = some t) : t.k ≤ 5 ∧ t.s.length ≤ t.w ∧ t.n ≤ 2147483647 := by
  refine ⟨?_, tokL_len h, ?_⟩
  all_goals
    cases l with
    | nil => cases h
    | cons b r =>
      rw [tokL_cons] at h
      split at h
      · split at h
        · cases h
        · cases h; first | exact Nat.le_succ_of_le (kindL_le _) | exact Nat.zero_le _
      · split at h
        · split at h
          · cases h
          · rename_i hq; cases h; first | (show numL _ ≤ _; omega) | (show 3 ≤ 5; omega)
        · split at h
          · cases h; first | exact Nat.le_refl _ | exact Nat.zero_le _
          · split at h
            · cases h; first | exact Nat.le_refl _ | exact Nat.zero_le _
            · cases h
theorem pre_ok {ts l : List Tk} {x : Lx} (h : x.pre ts = .ok l) : ∃ l', x = .ok l' ∧ l = ts ++ l' := by
  rcases Lx.cases x with ⟨i, rfl⟩ | ⟨l', rfl⟩
  · exact (Lx.bad_ok h).elim
  · exact ⟨l', rfl, (Lx.ok_inj h).symm⟩
theorem lexF_fit : ∀ (n : Nat) (l : By) (i : Nat) (ts : List Tk), l.length ≤ n → i + l.length ≤ 1000000 → lexF n l i = .ok ts → ∀ t ∈ ts, t.fit
  | 0, l, i, ts, _, _, h => by obtain rfl := Lx.ok_inj h; simp
  | n + 1, [], i, ts, _, _, h => by obtain rfl := Lx.ok_inj h; simp
  | n + 1, b :: r, i, ts, hn, hi, h => by
    simp only [List.length_cons] at hn hi
    unfold lexF at h
    split at h
    · exact lexF_fit n r (i + 1) ts (by omega) (by omega) h
    · split at h
      · have := rowL_le noNl r
        exact lexF_fit n _ _ ts (by rw [List.length_drop]; omega) (by rw [List.length_drop]; omega) h
      · cases ht : tokL (b :: r) with
        | none => rw [ht] at h; exact (Lx.bad_ok h).elim
        | some t =>
          rw [ht] at h
          have hp := tokL_pos ht
          simp only [List.length_cons] at hp
          obtain ⟨l', h1, rfl⟩ := pre_ok h
          obtain ⟨f1, f2, f3⟩ := tokL_fit ht
          intro x hx
          simp at hx
          rcases hx with rfl | hx
          · exact ⟨f1, by show i ≤ _; omega, by show t.s.length ≤ _; omega, f3⟩
          · exact lexF_fit n _ _ l' (by rw [List.length_drop, List.length_cons]; omega) (by rw [List.length_drop, List.length_cons]; omega) h1 x hx
theorem lexL_fit {l : By} {ts : List Tk} (hl : l.length ≤ 1000000) (h : lexL l 0 = .ok ts) : ∀ t ∈ ts, t.fit := lexF_fit _ l 0 ts (Nat.le_refl _) (by omega) h

theorem lexF_len : ∀ (n : Nat) (l : By) (i : Nat) (ts : List Tk), l.length ≤ n → lexF n l i = .ok ts → ts.length ≤ l.length
  | 0, l, i, ts, _, h => by obtain rfl := Lx.ok_inj h; simp
  | n + 1, [], i, ts, _, h => by obtain rfl := Lx.ok_inj h; simp
  | n + 1, b :: r, i, ts, hn, h => by
    simp only [List.length_cons] at hn ⊢
    unfold lexF at h
    split at h
    · have := lexF_len n r (i + 1) ts (by omega) h; omega
    · split at h
      · have := lexF_len n _ _ ts (by rw [List.length_drop]; omega) h
        rw [List.length_drop] at this; omega
      · cases ht : tokL (b :: r) with
        | none => rw [ht] at h; exact (Lx.bad_ok h).elim
        | some t =>
          rw [ht] at h
          have hp := tokL_pos ht
          simp only [List.length_cons] at hp
          obtain ⟨l', h1, rfl⟩ := pre_ok h
          have := lexF_len n _ _ l' (by rw [List.length_drop, List.length_cons]; omega) h1
          rw [List.length_drop, List.length_cons] at this
          simp; omega
theorem lexL_len {l : By} {ts : List Tk} (h : lexL l 0 = .ok ts) : ts.length ≤ l.length := lexF_len _ l 0 ts (Nat.le_refl _) h

/-! ### Tokens read in memory -/
def TR (hi : Nat) (w : World) (a : Option Addr) (n : Nat) (ts : List Tk) : Prop :=
  ts.length = n ∧ (n = 0 ∨ ∃ b off, a = some ⟨b, off, none⟩ ∧ b < hi ∧ ∀ (i : Nat) (t : Tk), ts[i]? = some t →
    w.cell? ⟨b, off + i * 4, none⟩ = some (.int .i64 (t.k : Int)) ∧ w.cell? ⟨b, off + i * 4 + 1, none⟩ = some (.int .i64 (t.p : Int)) ∧ w.cell? ⟨b, off + i * 4 + 2, none⟩ = some (.string (strB t.s)) ∧ w.cell? ⟨b, off + i * 4 + 3, none⟩ = some (.int .i64 (t.n : Int)))
theorem TR.below {hi n B : Nat} {w w' : World} {a : Option Addr} {ts : List Tk} (h : TR hi w a n ts) (hb : Below B w w') (hh : hi ≤ B) : TR hi w' a n ts := by
  obtain ⟨h1, h2 | ⟨b, off, rfl, hl, hc⟩⟩ := h
  · exact ⟨h1, .inl h2⟩
  · refine ⟨h1, .inr ⟨b, off, rfl, hl, fun i t ht => ?_⟩⟩
    obtain ⟨c0, c1, c2, c3⟩ := hc i t ht
    have hbb : b < B := by omega
    exact ⟨(hb.cell (p := ⟨b, off + i * 4, none⟩) hbb).trans c0, (hb.cell (p := ⟨b, off + i * 4 + 1, none⟩) hbb).trans c1, (hb.cell (p := ⟨b, off + i * 4 + 2, none⟩) hbb).trans c2, (hb.cell (p := ⟨b, off + i * 4 + 3, none⟩) hbb).trans c3⟩
theorem TR.mono {hi hi' n : Nat} {w : World} {a : Option Addr} {ts : List Tk} (h : TR hi w a n ts) (hh : hi ≤ hi') : TR hi' w a n ts := by
  obtain ⟨h1, h2 | ⟨b, off, rfl, hl, hc⟩⟩ := h
  · exact ⟨h1, .inl h2⟩
  · exact ⟨h1, .inr ⟨b, off, rfl, by omega, hc⟩⟩
theorem tkCs_at : ∀ (ts : List Tk) (i : Nat) (t : Tk), ts[i]? = some t → ∀ j, j < 4 → (tkCs ts)[i * 4 + j]? = (tkC t)[j]?
  | q :: r, 0, t, h, j, hj => by
    simp at h; subst h
    unfold tkCs
    rw [List.flatMap_cons, List.getElem?_append_left (by rw [tkC_length]; omega)]
    simp
  | q :: r, i + 1, t, h, j, hj => by
    have ih := tkCs_at r i t (by simpa using h) j hj
    unfold tkCs at *
    rw [List.flatMap_cons, List.getElem?_append_right (by rw [tkC_length]; omega), tkC_length, ← ih]
    congr 1; omega
theorem TR.of_owns {w : World} {base : Nat} {v : Value} {ts : List Tk} (h : w.ownsRow base 38 4 v ts.length (tkCs ts)) : ∃ a c, v = .slice a ts.length c ∧ ts.length ≤ c ∧ TR w.heap.size w a ts.length ts := by
  obtain ⟨_, ⟨rfl, h0⟩ | ⟨g, cap, cur, rfl, hb, hg, hcap, _, hsz, ht⟩⟩ := h
  · exact ⟨none, 0, by rw [h0], by omega, rfl, .inl h0⟩
  · refine ⟨_, _, rfl, hcap, rfl, .inr ⟨g, 0, rfl, (Array.getElem?_eq_some_iff.1 hg).1, fun i t hti => ?_⟩⟩
    have hc : ∀ j, j < 4 → w.cell? ⟨g, 0 + (i * 4 + j), none⟩ = (tkC t)[j]? := fun j hj => by
      have h1 := tkCs_at ts i t hti j hj
      rw [← ht, List.getElem?_take] at h1
      rw [Nat.zero_add, cell_of_row w g _ cur 38 (0, 0) hg]
      have hi : i < ts.length := (List.getElem?_eq_some_iff.1 hti).1
      rw [if_pos (by omega)] at h1
      simpa using h1
    have c0 := hc 0 (by omega)
    have c1 := hc 1 (by omega)
    have c2 := hc 2 (by omega)
    have c3 := hc 3 (by omega)
    exact ⟨by simpa [tkC] using c0, by simpa [tkC, Nat.add_assoc] using c1, by simpa [tkC, Nat.add_assoc] using c2, by simpa [tkC, Nat.add_assoc] using c3⟩
theorem TR.cell {hi n : Nat} {w : World} {a : Option Addr} {ts : List Tk} (h : TR hi w a n ts) (hn : n ≠ 0) : ∃ b off, a = some ⟨b, off, none⟩ ∧ b < hi ∧ ∀ (i : Nat) (t : Tk), ts[i]? = some t →
    w.cell? ⟨b, off + i * 4, none⟩ = some (.int .i64 (t.k : Int)) ∧ w.cell? ⟨b, off + i * 4 + 1, none⟩ = some (.int .i64 (t.p : Int)) ∧ w.cell? ⟨b, off + i * 4 + 2, none⟩ = some (.string (strB t.s)) ∧ w.cell? ⟨b, off + i * 4 + 3, none⟩ = some (.int .i64 (t.n : Int)) :=
  h.2.resolve_left hn

theorem num_any (x : Int) (w : World) : Calls Try.prog 13 #[.int .i64 x] w fun e w' => e = .returned (.int .i64 x) ∧ w' = w := by
  go_enter Try.func13, Try.ntmps13
  go_wp2
  go_ret
  exact ⟨rfl, rfl⟩

set_option maxRecDepth 100000 in
set_option maxHeartbeats 2000000 in
theorem same_any (a b : Option Addr) (n ca cb : Nat) (ts : List Tk) (w : World) (ha : TR w.heap.size w a n ts) (hb : TR w.heap.size w b n ts) (hf : ∀ t ∈ ts, t.fit) (hn : n ≤ 1000000) :
    Calls Try.prog 12 #[.slice a n ca, .slice b n cb] w fun e w' => e = .returned (.bool true) ∧ Below w.heap.size w w' := by
  have hl : ts.length = n := ha.1
  have HA := Lib.hid ha
  have HB := Lib.hid hb
  have HF := Lib.hid hf
  have HL := Lib.hid hl
  have hGn := tok_guard_ne
  clear ha hb hf hl
  have hnn : ((n : Int) != (n : Int)) = false := by simp
  go_enter Try.func12, Try.ntmps12
  go_wp2_with fail
  clear hnn
  go_loopg [5] (n) (fun gn i wr => ∃ r q : Nat, gn + r ≤ n ∧ n ≤ gn + r ∧ i = .int .i64 r ∧ wr = w.drewN q)
  case atStart => exact ⟨0, 0, by omega, by omega, rfl, rfl⟩
  case round =>
    obtain ⟨r, q, hr1, hr2, rfl, rfl⟩ := hrel
    by_cases hlt : r < n
    · obtain ⟨b1, o1, rfl, hb1, hc1⟩ := HA.out.cell (by omega)
      obtain ⟨b2, o2, rfl, hb2, hc2⟩ := HB.out.cell (by omega)
      obtain ⟨x, hx⟩ : ∃ x, ts[r]? = some x := ⟨_, List.getElem?_eq_getElem (by rw [HL.out]; exact hlt)⟩
      obtain ⟨u0, u1, u2, u3⟩ := hc1 r x hx
      obtain ⟨v0, v1, v2, v3⟩ := hc2 r x hx
      have hxf := HF.out x (List.mem_of_getElem? hx)
      have hE : ∀ W' : World, (binOp .neq 38 (.agg #[.int .i64 (x.k : Int), .int .i64 (x.p : Int), .string (strB x.s), .int .i64 (x.n : Int)]) (.agg #[.int .i64 (x.k : Int), .int .i64 (x.p : Int), .string (strB x.s), .int .i64 (x.n : Int)])).run Try.prog W' = .ok (.bool false) W' := fun W' =>
        tok_ne (strB x.s) W' (by have := hxf.1; unfold fits; omega) (by have := hxf.2.1; unfold fits; omega) (by have := hxf.2.2.2; unfold fits; omega) (by rw [strB_size]; exact hxf.2.2.1)
      clear hc1 hc2 hx hxf
      go_wp2_with fail
      go_quiet (fail)
      go_wp2_with fail
      go_roundg (n - (r + 1))
      case measure => omega
      case rel => exact ⟨r + 1, _, by omega, by omega, by go_num, by first | rfl | exact World.drewN_drewN _ _ _⟩
    · obtain rfl : r = n := by omega
      go_wp2_with fail
      go_ret
      exact ⟨rfl, ⟨rfl, rfl, rfl, Nat.le_refl _, fun _ _ => rfl⟩⟩

end Go.Proofs.Ytdhkcbkeehameaa
