/- Mathematics of lexing: what stands behind a line end; places moved; what is between. No program. Contract of the statements' Words: a text by numbers. Mathematics of numbers of digits; the contract of the statements' own Digits. Contract of the statements' own Digits. The statements' texts by numbers: the mathematics. No program. The statements' texts by numbers: half, atom, expr: what is asked of both; half; atom. The statements' texts by numbers: atom. -/
import Derived.Test.YtgkeblpjmfdhkaaZAM
import Derived.Deep.QuietTactic
import Derived.Laws.BytesArg
import Derived.Deep.CutRange
import Derived.Deep.Strs
namespace Go.Proofs.Ytgkeblpjmfdhkaa
set_option linter.unusedVariables false
set_option linter.unusedSimpArgs false

end Go.Proofs.Ytgkeblpjmfdhkaa

namespace Go.Proofs.Ytgkeblpjmfdhkaa
open Go.RowKit
set_option linter.unusedVariables false
set_option linter.unusedSimpArgs false

theorem strB_app (a b : By) : strB a ++ strB b = strB (a ++ b) := by
  apply ByteArray.ext; simp [strB]
end Go.Proofs.Ytgkeblpjmfdhkaa

namespace Go.Proofs.Ytgkeblpjmfdhkaa
open Go.RowKit
set_option linter.unusedVariables false
set_option linter.unusedSimpArgs false

def dg (n : Nat) : UInt8 := UInt8.ofNat (48 + n % 10)
/-- The digits of a number, with fuel. -/
def digF : Nat → Nat → By
  | 0, n => [dg n]
  | f + 1, n => if n < 10 then [dg n] else digF f (n / 10) ++ [dg n]
def digL (n : Nat) : By := digF n n
theorem digF_eq : ∀ (f g n : Nat), n ≤ f → n ≤ g → digF f n = digF g n
  | 0, 0, n, _, _ => rfl
  | 0, g + 1, n, h, _ => by
    have : n = 0 := by omega
    subst this; rfl
  | f + 1, 0, n, _, h => by
    have : n = 0 := by omega
    subst this; rfl
  | f + 1, g + 1, n, h1, h2 => by
    unfold digF
    by_cases hn : n < 10
    · rw [if_pos hn, if_pos hn]
    · rw [if_neg hn, if_neg hn, digF_eq f g (n / 10) (by omega) (by omega)]
theorem digL_small {n : Nat} (h : n < 10) : digL n = [dg n] := by
  unfold digL
  cases n with
  | zero => rfl
  | succ m => unfold digF; rw [if_pos h]
theorem digL_big {n : Nat} (h : ¬ n < 10) : digL n = digL (n / 10) ++ [dg n] := by
  unfold digL
  cases n with
  | zero => omega
  | succ m =>
    conv => lhs; unfold digF
    rw [if_neg h, digF_eq m ((m + 1) / 10) ((m + 1) / 10) (by omega) (by omega)]
theorem digL_len : ∀ (f n : Nat), n < 10 ^ f → (digL n).length ≤ f + 1
  | 0, n, h => by rw [digL_small (by omega)]; simp
  | f + 1, n, h => by
    by_cases hn : n < 10
    · rw [digL_small hn]; simp
    · have := digL_len f (n / 10) (by rw [Nat.pow_succ] at h; omega)
      rw [digL_big hn, List.length_append]; simp; omega

end Go.Proofs.Ytgkeblpjmfdhkaa

namespace Go.Proofs.Ytgkeblpjmfdhkaa
open Go.RowKit
set_option linter.unusedVariables false
set_option linter.unusedSimpArgs false

theorem dig_str (n : Nat) (d : Nat) (hq : n % 10 = d) (W : World) (b : Nat) (h : W.cell? ⟨b, 0, none⟩ = some (.int .u8 (48 + (d : Int)))) :
    (convert 22 9 (.slice (some ⟨b, 0, none⟩) 1 1)).run Try.prog W = .ok (.string (strB [dg n])) W := by
  have h2 := run_convert_bytes_arg W 22 5 Try.underlying22 Try.underlying5 b 0 1 1 [48 + (d : Int)] rfl (fun i hi => by have hi0 : i = 0 := (by omega); rw [hi0]; exact h) 9 Try.underlying9
  rw [h2]
  have : strOfNums [48 + (d : Int)] = strB [dg n] := by
    have e : (48 + (d : Int)).toNat = 48 + d := by omega
    show ByteArray.mk #[UInt8.ofNat (48 + (d : Int)).toNat] = ByteArray.mk #[UInt8.ofNat (48 + n % 10)]
    rw [e, hq]
  rw [this]

set_option maxRecDepth 100000 in
set_option maxHeartbeats 2000000 in
theorem digits_any (n : Nat) (w : World) (hn : n ≤ 4294967296) :
    Calls Try.prog 39 #[.int .i64 (n : Int)] w fun e w' => e = .returned (.string (strB (digL n))) ∧ Below w.heap.size w w' := by
  have hlen := digL_len 10 n (by omega)
  have HLEN := Lib.hid hlen
  clear hlen
  go_enter Try.func39, Try.ntmps39
  go_wp2_with fail
  go_loopg [0, 3] (n) (fun gn i s wr => ∃ (m : Nat) (X : By), m ≤ gn ∧ i = .int .i64 (m : Int) ∧ s = .string (strB X) ∧ m ≤ n ∧ Hid (digL m ++ X = digL n) ∧ Hid (Below w.heap.size w wr))
  case atStart => exact ⟨n, [], Nat.le_refl _, rfl, rfl, Nat.le_refl _, List.append_nil _, Below.refl _ _⟩
  case round =>
    obtain ⟨m, X, hmg, rfl, rfl, hmn, HD, HB⟩ := hrel
    obtain ⟨d, hd⟩ : ∃ d, m % 10 = d := ⟨_, rfl⟩
    have e1 : (m : Int) % 10 = (d : Int) := by omega
    have e2 : (m : Int).tmod 10 = (d : Int) := by rw [Int.tmod_eq_emod_of_nonneg (by omega)]; exact e1
    have hd9 : d ≤ 9 := by omega
    have hX : X.length ≤ 11 := by
      have h1 := congrArg List.length HD.out
      rw [List.length_append] at h1
      have := HLEN.out
      omega
    have hsz := strB_size X
    have T3 : ∀ W, Sem.run Try.prog (Op.stringOp .add (strB [dg m]) (strB X)) W = .ok (.string (strB (dg m :: X))) W := fun W => by rw [run_string_add_sum W _ _ (by rw [strB_size, strB_size]; simp; omega), strB_app]; rfl
    have hB := dig_str m d hd
    by_cases hlt : m < 10
    · have hdm : d = m := by omega
      subst hdm
      have HW := Lib.hid (HB.out.alloc HB.out.size (.cells #[.int .u8 (48 + (d : Int))] 5))
      have hfin : digL n = dg d :: X := by rw [← HD.out, digL_small hlt]; rfl
      have HFIN := Lib.hid hfin
      clear hd hfin
      go_wp2_with fail
      go_ret
      exact ⟨ret_of (by rw [HFIN.out]; rfl), HW.out⟩
    · have HW := Lib.hid (HB.out.alloc HB.out.size (.cells #[.int .u8 (48 + (d : Int))] 5))
      obtain ⟨m2, hm2⟩ : ∃ m2, m / 10 = m2 := ⟨_, rfl⟩
      have e5 : (m : Int) / 10 = (m2 : Int) := by omega
      have e6 : (m : Int).tdiv 10 = (m2 : Int) := by rw [Int.tdiv_eq_ediv_of_nonneg (by omega)]; exact e5
      have HD2 : Hid (digL m2 ++ (dg m :: X) = digL n) := by show _ = _; rw [← HD.out, digL_big hlt, hm2]; simp
      have hm9 : m2 < m := by omega
      clear hd hm2
      go_wp2_with fail
      go_roundg (m2)
      case measure => omega
      case rel => exact ⟨m2, _, Nat.le_refl _, by go_num, rfl, by omega, HD2.out, HW.out⟩

end Go.Proofs.Ytgkeblpjmfdhkaa

namespace Go.Proofs.Ytgkeblpjmfdhkaa
set_option linter.unusedVariables false
set_option linter.unusedSimpArgs false

def nm5 : List By := [[120], [121], [102], [103], [105, 100]]
def cn5 : List By := [[78, 105, 108], [67, 111, 110, 115], [83, 111, 109, 101], [78, 111, 110, 101], [79, 100, 100]]
def bl2 : List By := [[116, 114, 117, 101], [102, 97, 108, 115, 101]]
def lmA : List By := [[120], [121], [102]]
def lmB : List By := [[], [32, 103], [32, 120, 32, 121]]
def ltA : List By := [[105, 100, 32, 120], [121], [102, 32, 120, 32, 121]]
def caA : List By := [[67, 111, 110, 115, 32, 120, 32, 121, 32, 45, 62, 32], [83, 111, 109, 101, 32, 120, 32, 45, 62, 32], [78, 105, 108, 32, 45, 62, 32]]
def caB : List By := [[], [59, 32, 78, 111, 110, 101, 32, 45, 62, 32, 121], [59, 32, 78, 105, 108, 32, 45, 62, 32, 102, 32, 120]]
def halfL (l : List Nat) : List Nat := l.drop (l.length / 2)
def atomS (E A : List Nat → By) : List Nat → By
  | [] => [120]
  | n :: r =>
    if n % 8 = 0 ∨ n % 8 = 1 then nm5.getD (n / 8 % 5) []
    else if n % 8 = 2 then cn5.getD (n / 8 % 5) []
    else if n % 8 = 3 then digL n
    else if n % 8 = 4 then bl2.getD (n / 8 % 2) []
    else if n % 8 = 5 then [40] ++ E r ++ [44, 32] ++ A (halfL (n :: r)) ++ [41]
    else [40] ++ E r ++ [41]
def exprS (E A A1 : List Nat → By) : List Nat → By
  | [] => [120]
  | n :: r =>
    if n % 10 = 0 ∨ n % 10 = 1 then [92] ++ lmA.getD (n / 10 % 3) [] ++ lmB.getD (n / 30 % 3) [] ++ [32, 45, 62, 32] ++ E r
    else if n % 10 = 2 then [108, 101, 116, 32] ++ ltA.getD (n / 10 % 3) [] ++ [32, 61, 32] ++ E r ++ [32, 105, 110, 32] ++ E (halfL (n :: r))
    else if n % 10 = 3 then [105, 102, 32] ++ E r ++ [32, 116, 104, 101, 110, 32] ++ A (halfL (n :: r)) ++ [32, 101, 108, 115, 101, 32] ++ E (halfL (n :: r))
    else if n % 10 = 4 then [99, 97, 115, 101, 32] ++ E r ++ [32, 111, 102, 32, 123] ++ caA.getD (n / 10 % 3) [] ++ E (halfL (n :: r)) ++ caB.getD (n / 30 % 3) [] ++ [125]
    else if n % 10 = 5 ∨ n % 10 = 6 then A r ++ [32] ++ A (halfL (n :: r))
    else if n % 10 = 7 then A r ++ [32] ++ A (halfL (n :: r)) ++ [32] ++ A (halfL r)
    else A1 (n :: r)
/-- The texts of an expression and of an atom, so deep. -/
def txt : Nat → (List Nat → By) × (List Nat → By)
  | 0 => (fun _ => [120], fun _ => [120])
  | d + 1 => (exprS (txt d).1 (txt d).2 (atomS (txt d).1 (txt d).2), atomS (txt d).1 (txt d).2)
def exprT (d : Nat) : List Nat → By := (txt d).1
def atomT (d : Nat) : List Nat → By := (txt d).2
theorem getD_len {l : List By} {k : Nat} (h : ∀ x ∈ l, x.length ≤ k) (i : Nat) : (l.getD i []).length ≤ k := by
  rw [List.getD_eq_getElem?_getD]
  cases e : l[i]? with
  | none => simp
  | some x => exact h x (List.mem_of_getElem? e)
theorem nm5_len : ∀ x ∈ nm5, x.length ≤ 12 := by decide
theorem cn5_len : ∀ x ∈ cn5, x.length ≤ 12 := by decide
theorem bl2_len : ∀ x ∈ bl2, x.length ≤ 12 := by decide
theorem lmA_len : ∀ x ∈ lmA, x.length ≤ 12 := by decide
theorem lmB_len : ∀ x ∈ lmB, x.length ≤ 12 := by decide
theorem ltA_len : ∀ x ∈ ltA, x.length ≤ 12 := by decide
theorem caA_len : ∀ x ∈ caA, x.length ≤ 12 := by decide
theorem caB_len : ∀ x ∈ caB, x.length ≤ 12 := by decide
theorem atomS_len {E A : List Nat → By} {K : Nat} (ns : List Nat) (hE : ∀ ms, (∀ x ∈ ms, x ∈ ns) → (E ms).length ≤ K) (hA : ∀ ms, (∀ x ∈ ms, x ∈ ns) → (A ms).length ≤ K) (hx : ∀ x ∈ ns, x ≤ 255) : (atomS E A ns).length ≤ 20 + 2 * K := by
  cases ns with
  | nil => simp [atomS]; omega
  | cons n r =>
    have h1 := hE r fun x h => List.mem_cons_of_mem _ h
    have h2 := hA (halfL (n :: r)) fun x h => List.mem_of_mem_drop h
    have h3 := getD_len nm5_len (n / 8 % 5)
    have h4 := getD_len cn5_len (n / 8 % 5)
    have h5 := getD_len bl2_len (n / 8 % 2)
    have h6 := digL_len 3 n (by have := hx n (by simp); omega)
    rw [atomS]
    split
    · omega
    · split
      · omega
      · split
        · omega
        · split
          · omega
          · split
            · simp only [List.length_append, List.length_cons, List.length_nil]; omega
            · simp only [List.length_append, List.length_cons, List.length_nil]; omega
theorem exprS_len {E A A1 : List Nat → By} {K : Nat} (ns : List Nat) (hE : ∀ ms, (∀ x ∈ ms, x ∈ ns) → (E ms).length ≤ K) (hA : ∀ ms, (∀ x ∈ ms, x ∈ ns) → (A ms).length ≤ K) (h1 : (A1 ns).length ≤ 20 + 2 * K) : (exprS E A A1 ns).length ≤ 60 + 3 * K := by
  cases ns with
  | nil => simp [exprS]; omega
  | cons n r =>
    have h1 := h1
    have h2 := hE r fun x h => List.mem_cons_of_mem _ h
    have h3 := hE (halfL (n :: r)) fun x h => List.mem_of_mem_drop h
    have h4 := hA r fun x h => List.mem_cons_of_mem _ h
    have h5 := hA (halfL (n :: r)) fun x h => List.mem_of_mem_drop h
    have h6 := hA (halfL r) fun x h => List.mem_cons_of_mem _ (List.mem_of_mem_drop h)
    have g1 := getD_len lmA_len (n / 10 % 3)
    have g2 := getD_len lmB_len (n / 30 % 3)
    have g3 := getD_len ltA_len (n / 10 % 3)
    have g4 := getD_len caA_len (n / 10 % 3)
    have g5 := getD_len caB_len (n / 30 % 3)
    rw [exprS]
    repeat' split
    all_goals (try simp only [List.length_append, List.length_cons, List.length_nil]); omega
theorem txt_len : ∀ (d : Nat) (ns : List Nat), (∀ x ∈ ns, x ≤ 255) → (exprT d ns).length ≤ 60 * 4 ^ d ∧ (atomT d ns).length ≤ 60 * 4 ^ d
  | 0, ns, _ => by simp [exprT, atomT, txt]
  | d + 1, ns, hx => by
    have ih : ∀ ms, (∀ x ∈ ms, x ∈ ns) → (exprT d ms).length ≤ 60 * 4 ^ d ∧ (atomT d ms).length ≤ 60 * 4 ^ d := fun ms h => txt_len d ms fun x hm => hx x (h x hm)
    have ha := atomS_len (E := exprT d) (A := atomT d) ns (fun ms h => (ih ms h).1) (fun ms h => (ih ms h).2) hx
    have he := exprS_len (E := exprT d) (A := atomT d) (A1 := atomS (exprT d) (atomT d)) ns (fun ms h => (ih ms h).1) (fun ms h => (ih ms h).2) ha
    have hp : 0 < 4 ^ d := Nat.pos_of_ne_zero (by simp)
    have e1 : exprT (d + 1) = exprS (exprT d) (atomT d) (atomS (exprT d) (atomT d)) := rfl
    have e2 : atomT (d + 1) = atomS (exprT d) (atomT d) := rfl
    rw [e1, e2, Nat.pow_succ]
    omega

end Go.Proofs.Ytgkeblpjmfdhkaa

namespace Go.Proofs.Ytgkeblpjmfdhkaa
open Go.RowKit
set_option linter.unusedVariables false
set_option linter.unusedSimpArgs false

/-- A slice of bytes, read. -/
structure RB (w : World) (a : Option Addr) (l c : Nat) (xs : List Nat) : Prop where
  row : RowF (fun n : Nat => Value.int .u8 (n : Int)) (0 : Nat) 0 w.heap.size w a l xs
  le : ∀ x ∈ xs, x ≤ 255
  cap : l ≤ c
  small : c ≤ 9223372036854775807
theorem RB.len {w : World} {a : Option Addr} {l c : Nat} {xs : List Nat} (h : RB w a l c xs) : xs.length = l := h.row.1
theorem RB.under {w w' : World} {a : Option Addr} {l c : Nat} {xs : List Nat} (h : RB w a l c xs) (hb : Below w.heap.size w w') : RB w' a l c xs :=
  ⟨by
    obtain ⟨h1, h2 | ⟨b, off, rfl, h3, h4, h5⟩⟩ := h.row
    · exact ⟨h1, .inl h2⟩
    · exact ⟨h1, .inr ⟨b, off, rfl, h3, by have := hb.size; omega, fun i hi => (hb.cell (p := ⟨b, off + i, none⟩) h4).trans (h5 i hi)⟩⟩, h.le, h.cap, h.small⟩
theorem run_skip_b {P : Program} {t : TypeId} (ht : P.underlying t = some (.slice (P.elem t))) (hs : (P.info? (P.elem t)).map (fun i => i.size) = some 1) (a : Option Addr) (n cap q : Nat) (hq : q ≤ n) (hn : n ≤ cap) :
    ∃ a', (∀ b off, a = some ⟨b, off, none⟩ → q < n → a' = some ⟨b, off + q, none⟩) ∧ ∀ w, Sem.run P (Instr.slice t (.slice a n cap) (some (.int .i64 (q : Int))) none none) w = .ok (.slice a' (n - q) (cap - q)) w := by
  refine ⟨if cap = q then a else a.map (·.add q), fun b off h hm0 => ?_, fun w => ?_⟩
  · subst h; rw [if_neg (by omega)]; simp [Addr.add]
  · rw [run_slice_l w t _ n cap ht .i64 q (by omega) (by omega)]
    obtain ⟨i, hi, he⟩ := Option.map_eq_some_iff.1 hs
    simp [sizeOf, typeInfo, hi, he, sliced, Result.andThen]
theorem Try.u8Elem : Try.prog.underlying 22 = some (.slice (Try.prog.elem 22)) := by kernel_rfl
theorem Try.u8Size : (Try.prog.info? (Try.prog.elem 22)).map (fun i => i.size) = some 1 := by kernel_rfl
/-- The slice from q on. -/
theorem RB.from_ {w : World} {a : Option Addr} {l c : Nat} {xs : List Nat} (h : RB w a l c xs) (q : Nat) (hq : q ≤ l) : ∃ a' c', RB w a' (l - q) c' (xs.drop q) ∧ ∀ W, Sem.run Try.prog (Instr.slice 22 (.slice a l c) (some (.int .i64 (q : Int))) none none) W = .ok (.slice a' (l - q) c') W := by
  have hc := h.cap
  have hs := h.small
  obtain ⟨a', ha, hr⟩ := run_skip_b Try.u8Elem Try.u8Size a l c q hq hc
  refine ⟨a', c - q, ⟨?_, fun x hx => h.le x (List.mem_of_mem_drop hx), by omega, by omega⟩, hr⟩
  obtain ⟨h1, h2⟩ := h.row
  refine ⟨by simp [h1], ?_⟩
  by_cases h0 : l - q = 0
  · exact .inl h0
  · obtain ⟨b, off, rfl, hl, hh, hcell⟩ := h2.resolve_left (by omega)
    refine .inr ⟨b, off + q, ha b off rfl (by omega), hl, hh, fun i hi => ?_⟩
    rw [Nat.add_assoc, hcell (q + i) (by omega)]
    simp [List.getD, List.getElem?_drop]
theorem RB.first {w : World} {a : Option Addr} {l c n : Nat} {r : List Nat} (h : RB w a l c (n :: r)) : ∃ b off, a = some ⟨b, off, none⟩ ∧ b < w.heap.size ∧ w.cell? ⟨b, off, none⟩ = some (.int .u8 (n : Int)) ∧ l = r.length + 1 ∧ n ≤ 255 := by
  have hl := h.len
  rw [List.length_cons] at hl
  obtain ⟨b, off, rfl, _, hb, hc⟩ := h.row.2.resolve_left (by omega)
  exact ⟨b, off, rfl, hb, by simpa using hc 0 (by omega), hl.symm, h.le n (by simp)⟩
theorem strB_plus (a b : By) : strB a ++ strB b = strB (a ++ b) := by
  apply ByteArray.ext; simp [strB]
theorem run_plus {A B C : ByteArray} (a b : By) (hA : A = strB a) (hB : B = strB b) (hC : C = strB (a ++ b)) (hl : a.length + b.length ≤ 1000000000) : ∀ W, Sem.run Try.prog (Op.stringOp .add A B) W = .ok (.string C) W := fun W => by
  subst hA hB hC
  rw [run_string_add_sum W _ _ (by rw [strB_size, strB_size]; omega), strB_plus]

set_option maxHeartbeats 1000000 in
theorem t_half (a : Option Addr) (l c : Nat) (xs : List Nat) (w : World) (h : RB w a l c xs) :
    Calls Try.prog 77 #[.slice a l c] w fun e w' => w' = w ∧ ∃ a' c', e = .returned (.slice a' (halfL xs).length c') ∧ RB w a' (halfL xs).length c' (halfL xs) := by
  have hl := h.len
  obtain ⟨k, hk⟩ : ∃ k, l / 2 = k := ⟨_, rfl⟩
  obtain ⟨a', c', h2, hr⟩ := h.from_ k (by omega)
  have e1 : (l : Int) / 2 = (k : Int) := by omega
  have e2 : (l : Int).tdiv 2 = (k : Int) := by rw [Int.tdiv_eq_ediv_of_nonneg (by omega)]; exact e1
  have e3 : xs.drop k = halfL xs := by unfold halfL; rw [hl, hk]
  have e4 : l - k = (halfL xs).length := by rw [← e3, List.length_drop, hl]
  have hcap := h.cap
  have hsm := h.small
  rw [e3, e4] at h2
  rw [e4] at hr
  have H2 := Lib.hid h2
  clear h h2 e3 e4 hk hl
  generalize (halfL xs).length = m at *
  go_enter Try.func77, Try.ntmps77
  go_wp2_with fail
  go_ret
  exact ⟨rfl, a', c', rfl, H2.out⟩

/-- What a function of the statements' texts tells, so deep. -/
def Txt (f : FuncId) (T : List Nat → By) (d : Nat) : Prop := ∀ (D : Int), D = (d : Int) → ∀ (a : Option Addr) (l c : Nat) (xs : List Nat) (w : World), RB w a l c xs →
  Calls Try.prog f #[.slice a l c, .int .i64 D] w fun e w' => e = .returned (.string (strB (T xs))) ∧ Below w.heap.size w w'
theorem tab_cell (w : World) {t : TypeId} (l : List By) (j : Nat) (hj : j < l.length) {vs : List Value} (hv : vs = l.map fun x => Value.string (strB x)) : (w.alloc (.cells vs.toArray t)).cell? ⟨w.heap.size, j, none⟩ = some (.string (strB (l.getD j []))) := by
  subst hv
  refine ((Box.new w t (l.map fun x => Value.string (strB x))).cell j).trans ?_
  rw [List.getElem?_map, List.getElem?_eq_getElem hj, List.getD_eq_getElem?_getD, List.getElem?_eq_getElem hj]
  rfl

end Go.Proofs.Ytgkeblpjmfdhkaa

namespace Go.Proofs.Ytgkeblpjmfdhkaa
open Go.RowKit
set_option linter.unusedVariables false
set_option linter.unusedSimpArgs false

set_option maxRecDepth 100000 in
set_option maxHeartbeats 4000000 in
theorem t_atom_step (d : Nat) (hd : d ≤ 9) (HE : Txt 40 (exprT d) d) (HA : Txt 78 (atomT d) d) : Txt 78 (atomT (d + 1)) (d + 1) := by
  intro D hD a l c xs w h
  have eT : atomT (d + 1) xs = atomS (exprT d) (atomT d) xs := rfl
  rw [eT]
  obtain rfl : D = (d : Int) + 1 := by omega
  clear hD
  have hD0 : decide ((d : Int) + 1 < 1) = false := decide_eq_false (by omega)
  cases xs with
  | nil =>
    have hl := h.len
    rw [List.length_nil] at hl
    subst hl
    clear HE HA h eT
    go_enter Try.func78, Try.ntmps78
    go_wp2_with fail
    go_ret
    exact ⟨rfl, Below.refl _ _⟩
  | cons n r =>
    obtain ⟨b, off, rfl, hb, q0, rfl, hn⟩ := h.first
    obtain ⟨a1, c1, h1, hr1⟩ := h.from_ 1 (by omega)
    rw [List.drop_one, List.tail_cons, Nat.add_sub_cancel] at h1
    rw [Nat.add_sub_cancel] at hr1
    have hr1 : ∀ W, Sem.run Try.prog (Instr.slice 22 (.slice (some ⟨b, off, none⟩) (r.length + 1) c) (some (.int .i64 1)) none none) W = .ok (.slice a1 r.length c1) W := hr1
    have hr0 : ((r.length : Int) + 1 == 0) = false := by simp; omega
    have hcap := h.cap
    have hsm := h.small
    have hHalf := Lib.hid (fun w' (hw : Below w.heap.size w w') => t_half _ _ _ _ w' (h.under hw))
    have l1 := (txt_len d r (fun x hx => h.le x (List.mem_cons_of_mem _ hx))).1
    have l2 := (txt_len d (halfL (n :: r)) (fun x hx => h.le x (List.mem_of_mem_drop hx))).2
    have hp : 4 ^ d ≤ 4 ^ 9 := Nat.pow_le_pow_right (by omega) hd
    have l1' : (exprT d r).length ≤ 20000000 := Nat.le_trans l1 (by omega)
    have l2' : (atomT d (halfL (n :: r))).length ≤ 20000000 := Nat.le_trans l2 (by omega)
    have HER := Lib.hid (fun w' (hw : Below w.heap.size w w') => HE (d : Int) rfl _ _ _ _ w' (h1.under hw))
    have HAH := Lib.hid (fun w' a' c' (hq : RB w' a' (halfL (n :: r)).length c' (halfL (n :: r))) => HA (d : Int) rfl _ _ _ _ w' hq)
    have HDG := Lib.hid (fun w' => digits_any n w' (by omega))
    obtain ⟨q, hq⟩ : ∃ q, n / 8 = q := ⟨_, rfl⟩
    have eq1 : (n : Int) / 8 = (q : Int) := by omega
    have eq2 : (n : Int).tdiv 8 = (q : Int) := by rw [Int.tdiv_eq_ediv_of_nonneg (by omega)]; exact eq1
    obtain ⟨j, hj⟩ : ∃ j, q % 5 = j := ⟨_, rfl⟩
    have ej1 : (q : Int) % 5 = (j : Int) := by omega
    have ej2 : (q : Int).tmod 5 = (j : Int) := by rw [Int.tmod_eq_emod_of_nonneg (by omega)]; exact ej1
    have hj5 : j < 5 := by omega
    obtain ⟨i, hi⟩ : ∃ i, q % 2 = i := ⟨_, rfl⟩
    have ei1 : (q : Int) % 2 = (i : Int) := by omega
    have ei2 : (q : Int).tmod 2 = (i : Int) := by rw [Int.tmod_eq_emod_of_nonneg (by omega)]; exact ei1
    have hi2 : i < 2 := by omega
    have d1 := tab_cell w (t := 9) nm5 j hj5 (vs := [.string ⟨#[120]⟩, .string ⟨#[121]⟩, .string ⟨#[102]⟩, .string ⟨#[103]⟩, .string ⟨#[105, 100]⟩]) rfl
    have d2 := tab_cell w (t := 9) cn5 j hj5 (vs := [.string ⟨#[78, 105, 108]⟩, .string ⟨#[67, 111, 110, 115]⟩, .string ⟨#[83, 111, 109, 101]⟩, .string ⟨#[78, 111, 110, 101]⟩, .string ⟨#[79, 100, 100]⟩]) rfl
    have d3 := tab_cell w (t := 9) bl2 i hi2 (vs := [.string ⟨#[116, 114, 117, 101]⟩, .string ⟨#[102, 97, 108, 115, 101]⟩]) rfl
    have T1 : ∀ W, Sem.run Try.prog (Op.stringOp .add ⟨#[40]⟩ (strB (exprT d r))) W = .ok (.string (strB ([40] ++ exprT d r))) W := run_plus _ _ rfl rfl rfl (by simp; omega)
    have T2 : ∀ W, Sem.run Try.prog (Op.stringOp .add (strB ([40] ++ exprT d r)) ⟨#[44, 32]⟩) W = .ok (.string (strB ([40] ++ exprT d r ++ [44, 32]))) W := run_plus _ _ rfl rfl rfl (by simp; omega)
    have T3 : ∀ W, Sem.run Try.prog (Op.stringOp .add (strB ([40] ++ exprT d r ++ [44, 32])) (strB (atomT d (halfL (n :: r))))) W = .ok (.string (strB ([40] ++ exprT d r ++ [44, 32] ++ atomT d (halfL (n :: r))))) W := run_plus _ _ rfl rfl rfl (by simp; omega)
    have T4 : ∀ W, Sem.run Try.prog (Op.stringOp .add (strB ([40] ++ exprT d r ++ [44, 32] ++ atomT d (halfL (n :: r)))) ⟨#[41]⟩) W = .ok (.string (strB ([40] ++ exprT d r ++ [44, 32] ++ atomT d (halfL (n :: r)) ++ [41]))) W := run_plus _ _ rfl rfl rfl (by simp; omega)
    have T5 : ∀ W, Sem.run Try.prog (Op.stringOp .add (strB ([40] ++ exprT d r)) ⟨#[41]⟩) W = .ok (.string (strB ([40] ++ exprT d r ++ [41]))) W := run_plus _ _ rfl rfl rfl (by simp; omega)
    have hs : atomS (exprT d) (atomT d) (n :: r) = if n % 8 = 0 ∨ n % 8 = 1 then nm5.getD j [] else if n % 8 = 2 then cn5.getD j [] else if n % 8 = 3 then digL n else if n % 8 = 4 then bl2.getD i [] else if n % 8 = 5 then [40] ++ exprT d r ++ [44, 32] ++ atomT d (halfL (n :: r)) ++ [41] else [40] ++ exprT d r ++ [41] := by rw [← hj, ← hi, ← hq]; rfl
    rw [hs]
    clear HE HA h eT hs h1 l1 l2 l1' l2' hp hq hj hi
    generalize nm5.getD j [] = N1 at *
    generalize cn5.getD j [] = N2 at *
    generalize bl2.getD i [] = N3 at *
    generalize [40] ++ exprT d r ++ [44, 32] ++ atomT d (halfL (n :: r)) ++ [41] = S5 at *
    generalize [40] ++ exprT d r ++ [41] = S6 at *
    generalize [40] ++ exprT d r ++ [44, 32] ++ atomT d (halfL (n :: r)) = S4 at *
    generalize [40] ++ exprT d r ++ [44, 32] = S3 at *
    generalize [40] ++ exprT d r = S2 at *
    have hm : n % 8 = 0 ∨ n % 8 = 1 ∨ n % 8 = 2 ∨ n % 8 = 3 ∨ n % 8 = 4 ∨ n % 8 = 5 ∨ n % 8 = 6 ∨ n % 8 = 7 := by omega
    rcases hm with hm | hm | hm | hm | hm | hm | hm | hm
    · have em1 : (n : Int) % 8 = 0 := by omega
      have em2 : (n : Int).tmod 8 = 0 := by rw [Int.tmod_eq_emod_of_nonneg (by omega)]; exact em1
      rw [if_pos (by omega)]
      clear hm d2 d3 ei1 ei2 hi2 T1 T2 T3 T4 T5 HER HAH hHalf HDG hr1
      go_enter Try.func78, Try.ntmps78
      go_wp2_with fail
      go_ret
      exact ⟨rfl, Below.alloc (Below.refl _ w) (Nat.le_refl _) _⟩
    · have em1 : (n : Int) % 8 = 1 := by omega
      have em2 : (n : Int).tmod 8 = 1 := by rw [Int.tmod_eq_emod_of_nonneg (by omega)]; exact em1
      rw [if_pos (by omega)]
      clear hm d2 d3 ei1 ei2 hi2 T1 T2 T3 T4 T5 HER HAH hHalf HDG hr1
      go_enter Try.func78, Try.ntmps78
      go_wp2_with fail
      go_ret
      exact ⟨rfl, Below.alloc (Below.refl _ w) (Nat.le_refl _) _⟩
    · have em1 : (n : Int) % 8 = 2 := by omega
      have em2 : (n : Int).tmod 8 = 2 := by rw [Int.tmod_eq_emod_of_nonneg (by omega)]; exact em1
      rw [if_neg (by omega), if_pos (by omega)]
      clear hm d1 d3 ei1 ei2 hi2 T1 T2 T3 T4 T5 HER HAH hHalf HDG hr1
      go_enter Try.func78, Try.ntmps78
      go_wp2_with fail
      go_ret
      exact ⟨rfl, Below.alloc (Below.refl _ w) (Nat.le_refl _) _⟩
    · have em1 : (n : Int) % 8 = 3 := by omega
      have em2 : (n : Int).tmod 8 = 3 := by rw [Int.tmod_eq_emod_of_nonneg (by omega)]; exact em1
      rw [if_neg (by omega), if_neg (by omega), if_pos (by omega)]
      clear hm d1 d2 d3 ej1 ej2 hj5 ei1 ei2 hi2 eq1 eq2 T1 T2 T3 T4 T5 HER HAH hHalf hr1
      go_enter Try.func78, Try.ntmps78
      go_wp2_with (go_at_call 39; refine (HDG.out _).mono ?_; rintro e w1 ⟨rfl, hb1⟩; have HB1 := Lib.hid hb1; clear hb1)
      go_ret
      exact ⟨rfl, HB1.out⟩
    · have em1 : (n : Int) % 8 = 4 := by omega
      have em2 : (n : Int).tmod 8 = 4 := by rw [Int.tmod_eq_emod_of_nonneg (by omega)]; exact em1
      rw [if_neg (by omega), if_neg (by omega), if_neg (by omega), if_pos (by omega)]
      clear hm d1 d2 ej1 ej2 hj5 T1 T2 T3 T4 T5 HER HAH hHalf HDG hr1
      go_enter Try.func78, Try.ntmps78
      go_wp2_with fail
      go_ret
      exact ⟨rfl, Below.alloc (Below.refl _ w) (Nat.le_refl _) _⟩
    · have em1 : (n : Int) % 8 = 5 := by omega
      have em2 : (n : Int).tmod 8 = 5 := by rw [Int.tmod_eq_emod_of_nonneg (by omega)]; exact em1
      rw [if_neg (by omega), if_neg (by omega), if_neg (by omega), if_neg (by omega), if_pos (by omega)]
      clear hm d1 d2 d3 ej1 ej2 hj5 ei1 ei2 hi2 eq1 eq2 T5 HDG
      go_enter Try.func78, Try.ntmps78
      go_wp2_with (first | (go_at_call 40; refine (HER.out _ (Below.refl _ w)).mono ?_; rintro e w1 ⟨rfl, hb1⟩; have HB1 := Lib.hid hb1; clear hb1) | (go_at_call 77; refine (hHalf.out _ HB1.out).mono ?_; rintro e w2 ⟨hw, a3, c3, rfl, hrb⟩; have hw := hw.symm; subst hw; have HRB := Lib.hid hrb; clear hrb) | (go_at_call 78; refine (HAH.out _ _ _ HRB.out).mono ?_; rintro e w3 ⟨rfl, hb3⟩; have HB3 := Lib.hid hb3; clear hb3))
      go_ret
      exact ⟨rfl, HB1.out.trans (HB3.out.mono HB1.out.size)⟩
    · have em1 : (n : Int) % 8 = 6 := by omega
      have em2 : (n : Int).tmod 8 = 6 := by rw [Int.tmod_eq_emod_of_nonneg (by omega)]; exact em1
      rw [if_neg (by omega), if_neg (by omega), if_neg (by omega), if_neg (by omega), if_neg (by omega)]
      clear hm d1 d2 d3 ej1 ej2 hj5 ei1 ei2 hi2 eq1 eq2 T2 T3 T4 HAH hHalf HDG
      go_enter Try.func78, Try.ntmps78
      go_wp2_with (go_at_call 40; refine (HER.out _ (Below.refl _ w)).mono ?_; rintro e w1 ⟨rfl, hb1⟩; have HB1 := Lib.hid hb1; clear hb1)
      go_ret
      exact ⟨rfl, HB1.out⟩
    · have em1 : (n : Int) % 8 = 7 := by omega
      have em2 : (n : Int).tmod 8 = 7 := by rw [Int.tmod_eq_emod_of_nonneg (by omega)]; exact em1
      rw [if_neg (by omega), if_neg (by omega), if_neg (by omega), if_neg (by omega), if_neg (by omega)]
      clear hm d1 d2 d3 ej1 ej2 hj5 ei1 ei2 hi2 eq1 eq2 T2 T3 T4 HAH hHalf HDG
      go_enter Try.func78, Try.ntmps78
      go_wp2_with (go_at_call 40; refine (HER.out _ (Below.refl _ w)).mono ?_; rintro e w1 ⟨rfl, hb1⟩; have HB1 := Lib.hid hb1; clear hb1)
      go_ret
      exact ⟨rfl, HB1.out⟩

end Go.Proofs.Ytgkeblpjmfdhkaa
