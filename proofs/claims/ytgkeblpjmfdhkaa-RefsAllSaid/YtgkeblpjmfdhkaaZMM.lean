/- The statements' programs by numbers: Source tells some text that is empty or ends a line. (Premise: what Expr tells.) The statements' expr, atom, Expr: their texts, whatever the numbers. How a slice of integers, of bools, that came in as an argument is read. How a slice of slices of bytes that came in as an argument is read. -/
import Derived.Test.YtgkeblpjmfdhkaaZJM
import Derived.Deep.RegionWith
import Derived.Deep.CutRange
import Derived.Test.YtgkeblpjmfdhkaaZKM
import Derived.Test.YtgkeblpjmfdhkaaZAM
import Derived.ProofKit
import Derived.OpenShut
import Derived.Lib.SmallJoins
import Derived.Deep.Grids
import Derived.Deep.Matrix
namespace Go.Proofs.Ytgkeblpjmfdhkaa
open Go.RowKit
set_option linter.unusedVariables false
set_option linter.unusedSimpArgs false

def srcD : List By := [[100, 97, 116, 97, 32, 76, 105, 115, 116, 32, 97, 32, 61, 32, 78, 105, 108, 32, 124, 32, 67, 111, 110, 115, 32, 97, 32, 40, 76, 105, 115, 116, 32, 97, 41, 59, 10], [100, 97, 116, 97, 32, 79, 112, 116, 32, 97, 32, 61, 32, 78, 111, 110, 101, 32, 124, 32, 83, 111, 109, 101, 32, 97, 59, 10], [100, 97, 116, 97, 32, 70, 32, 97, 32, 98, 32, 61, 32, 79, 100, 100, 32, 40, 97, 32, 45, 62, 32, 98, 41, 32, 40, 97, 44, 32, 73, 110, 116, 41, 32, 124, 32, 69, 118, 101, 110, 32, 66, 111, 111, 108, 59, 10]]
def srcN : List By := [[102], [103], [104, 32, 120], [105, 100, 32, 120], [107, 32, 120, 32, 121]]
/-- A text that is empty, or ends a line. -/
def NLs (s : By) : Prop := s = [] ∨ ∃ A, s = A ++ [10]
theorem NLs.add (s : By) {d : By} (h : ∃ A, d = A ++ [10]) : NLs (s ++ d) := by
  obtain ⟨A, rfl⟩ := h
  exact .inr ⟨s ++ A, by simp⟩
theorem srcD_end : ∀ k, k < 3 → ∃ A, srcD.getD k [] = A ++ [10] := fun k hk => by
  have e : k = 0 ∨ k = 1 ∨ k = 2 := by omega
  rcases e with rfl | rfl | rfl
  · exact ⟨[100, 97, 116, 97, 32, 76, 105, 115, 116, 32, 97, 32, 61, 32, 78, 105, 108, 32, 124, 32, 67, 111, 110, 115, 32, 97, 32, 40, 76, 105, 115, 116, 32, 97, 41, 59], rfl⟩
  · exact ⟨[100, 97, 116, 97, 32, 79, 112, 116, 32, 97, 32, 61, 32, 78, 111, 110, 101, 32, 124, 32, 83, 111, 109, 101, 32, 97, 59], rfl⟩
  · exact ⟨[100, 97, 116, 97, 32, 70, 32, 97, 32, 98, 32, 61, 32, 79, 100, 100, 32, 40, 97, 32, 45, 62, 32, 98, 41, 32, 40, 97, 44, 32, 73, 110, 116, 41, 32, 124, 32, 69, 118, 101, 110, 32, 66, 111, 111, 108, 59], rfl⟩
theorem srcD_len : ∀ x ∈ srcD, x.length ≤ 60 := by decide
theorem srcN_len : ∀ x ∈ srcN, x.length ≤ 60 := by decide
/-- A slice of slices of bytes, read. -/
def GB (w : World) (a : Option Addr) (n c : Nat) : Prop := n ≤ c ∧ (n = 0 ∨ ∃ b off, a = some ⟨b, off, none⟩ ∧ b < w.heap.size ∧ ∀ i, i < n → ∃ A L C xs, w.cell? ⟨b, off + i, none⟩ = some (.slice A L C) ∧ RB w A L C xs)
theorem cell_then {X wz : World} {p : Addr} {v : Value} {G : Prop} (h : Below X.heap.size X wz) (hlt : p.block < X.heap.size) (hx : X.cell? p = some v) (k : wz.cell? p = some v → G) : G := k ((h.cell hlt).trans hx)
theorem up2 {w X wz : World} (h : Below X.heap.size X wz) (k : Below w.heap.size w X) : Below w.heap.size w wz := k.trans (h.mono k.size)
theorem run_head_b {P : Program} {t : TypeId} (ht : P.underlying t = some (.slice (P.elem t))) (hs : (P.info? (P.elem t)).map (fun i => i.size) = some 1) (a : Option Addr) (n cap m : Nat) (hm : m ≤ n) (hn : n ≤ cap) :
    ∃ a', (∀ b off, a = some ⟨b, off, none⟩ → 0 < m → a' = some ⟨b, off, none⟩) ∧ ∀ w, Sem.run P (Instr.slice t (.slice a n cap) none (some (.int .i64 (m : Int))) none) w = .ok (.slice a' m cap) w := by
  refine ⟨if cap = 0 then a else a.map (·.add 0), fun b off h hm0 => ?_, fun w => ?_⟩
  · subst h; rw [if_neg (by omega)]; simp [Addr.add]
  · rw [run_slice_h w t _ n cap ht .i64 m (by omega) (by omega)]
    obtain ⟨i, hi, he⟩ := Option.map_eq_some_iff.1 hs
    simp [sizeOf, typeInfo, hi, he, sliced, Result.andThen]
/-- The slice up to m. -/
theorem RB.upto {w : World} {a : Option Addr} {l c : Nat} {xs : List Nat} (h : RB w a l c xs) (m : Nat) (hm : m ≤ l) : ∃ a', RB w a' m c (xs.take m) ∧ ∀ W, Sem.run Try.prog (Instr.slice 22 (.slice a l c) none (some (.int .i64 (m : Int))) none) W = .ok (.slice a' m c) W := by
  have hc := h.cap
  obtain ⟨a', ha, hr⟩ := run_head_b Try.u8Elem Try.u8Size a l c m hm hc
  refine ⟨a', ⟨?_, fun x hx => h.le x (List.mem_of_mem_take hx), by omega, h.small⟩, hr⟩
  obtain ⟨h1, h2⟩ := h.row
  refine ⟨by simp [h1]; omega, ?_⟩
  by_cases h0 : m = 0
  · exact .inl h0
  · obtain ⟨b, off, rfl, hl, hh, hcell⟩ := h2.resolve_left (by omega)
    refine .inr ⟨b, off, ha b off rfl (by omega), hl, hh, fun i hi => ?_⟩
    rw [hcell i (by omega)]
    simp [List.getD, List.getElem?_take, hi]

set_option maxRecDepth 100000 in
set_option maxHeartbeats 8000000 in
theorem t_source (a : Option Addr) (n c : Nat) (w : World) (hg : GB w a n c)
    (HE : ∀ (a : Option Addr) (l c : Nat) (xs : List Nat) (w : World), RB w a l c xs → Calls Try.prog 15 #[.slice a l c] w fun e w' => e = .returned (.string (strB (exprT 8 xs))) ∧ Below w.heap.size w w') :
    Calls Try.prog 20 #[.slice a n c] w fun e w' => ∃ S : By, e = .returned (.string (strB S)) ∧ NLs S ∧ S.length ≤ 40000000 ∧ Below w.heap.size w w' := by
  have hcap := hg.1
  have HG := Lib.hid hg.2
  have HE := Lib.hid HE
  clear hg
  go_enter Try.func20, Try.ntmps20
  go_wp2_with fail
  go_loopg [3, 4] (8) (fun gn sv iv wr => ∃ (i : Nat) (S : By), gn + i ≤ 8 ∧ 8 ≤ gn + i ∧ i ≤ n ∧ iv = .int .i64 (i : Int) ∧ sv = .string (strB S) ∧ Hid (NLs S) ∧ S.length ≤ i * 4000000 ∧ Hid (Below w.heap.size w wr))
  case atStart => exact ⟨0, [], by omega, by omega, Nat.zero_le _, rfl, rfl, .inl rfl, Nat.zero_le _, Below.refl _ _⟩
  case round =>
    obtain ⟨i, S, hi1, hi2, hin, rfl, rfl, HN, hSl, HB⟩ := hrel
    by_cases hlt : i < n ∧ i < 8
    · obtain ⟨hl1, hl2⟩ := hlt
      obtain ⟨b, off, rfl, hb, hrow⟩ := HG.out.resolve_left (by omega)
      obtain ⟨A, L, C, xs, hcell, hrb⟩ := hrow i hl1
      have hbw : b < wr.heap.size := Nat.lt_of_lt_of_le hb HB.out.size
      have q0 := (HB.out.cell (p := ⟨b, off + i, none⟩) hb).trans hcell
      have hrb2 := hrb.under HB.out
      have hLc := hrb2.cap
      have hCs := hrb2.small
      have di : decide ((i : Int) < (n : Int)) = true := decide_eq_true (by omega)
      have di8 : decide ((i : Int) < 8) = true := decide_eq_true (by omega)
      by_cases hL : L ≤ 40
      · skip
        have em : (if (40 : Int) < (L : Int) then (40 : Int) else (L : Int)) = (L : Int) := by rw [if_neg (by omega)]
        have HEX := Lib.hid (fun w' (hw : Below wr.heap.size wr w') => HE.out _ _ _ _ w' (hrb2.under hw))
        have hEl : (exprT 8 xs).length ≤ 3932160 := (txt_len 8 _ hrb2.le).1
        obtain ⟨E8, hE8⟩ : ∃ E8, exprT 8 xs = E8 := ⟨_, rfl⟩
        rw [hE8] at HEX hEl
        obtain ⟨j, hj⟩ : ∃ j, i % 5 = j := ⟨_, rfl⟩
        have ej1 : (i : Int) % 5 = (j : Int) := by omega
        have ej2 : (i : Int).tmod 5 = (j : Int) := by rw [Int.tmod_eq_emod_of_nonneg (by omega)]; exact ej1
        have hj5 : j < 5 := by omega
        have hNl := getD_len srcN_len j
        have dN : ∀ W : World, (W.alloc (.cells #[.string ⟨#[102]⟩, .string ⟨#[103]⟩, .string ⟨#[104, 32, 120]⟩, .string ⟨#[105, 100, 32, 120]⟩, .string ⟨#[107, 32, 120, 32, 121]⟩] 9)).cell? ⟨W.heap.size, j, none⟩ = some (.string (strB (srcN.getD j []))) := fun W => tab_cell W srcN j hj5 (vs := [.string ⟨#[102]⟩, .string ⟨#[103]⟩, .string ⟨#[104, 32, 120]⟩, .string ⟨#[105, 100, 32, 120]⟩, .string ⟨#[107, 32, 120, 32, 121]⟩]) rfl
        obtain ⟨Nj, hNj⟩ : ∃ Nj, srcN.getD j [] = Nj := ⟨_, rfl⟩
        rw [hNj] at hNl dN
        have hSb : S.length ≤ 32000000 := by omega
        have T1 : ∀ W, Sem.run Try.prog (Op.stringOp .add (strB S) ⟨#[108, 101, 116, 32]⟩) W = .ok (.string (strB (S ++ [108, 101, 116, 32]))) W := run_plus S [108, 101, 116, 32] rfl rfl rfl (by simp only [List.length_append, List.length_cons, List.length_nil]; omega)
        have T2 : ∀ W, Sem.run Try.prog (Op.stringOp .add (strB (S ++ [108, 101, 116, 32])) (strB Nj)) W = .ok (.string (strB (S ++ [108, 101, 116, 32] ++ Nj))) W := run_plus _ _ rfl rfl rfl (by simp only [List.length_append, List.length_cons, List.length_nil]; omega)
        have T3 : ∀ W, Sem.run Try.prog (Op.stringOp .add (strB (S ++ [108, 101, 116, 32] ++ Nj)) ⟨#[32, 61, 32]⟩) W = .ok (.string (strB (S ++ [108, 101, 116, 32] ++ Nj ++ [32, 61, 32]))) W := run_plus _ [32, 61, 32] rfl rfl rfl (by simp only [List.length_append, List.length_cons, List.length_nil]; omega)
        have T4 : ∀ W, Sem.run Try.prog (Op.stringOp .add (strB (S ++ [108, 101, 116, 32] ++ Nj ++ [32, 61, 32])) (strB E8)) W = .ok (.string (strB (S ++ [108, 101, 116, 32] ++ Nj ++ [32, 61, 32] ++ E8))) W := run_plus _ _ rfl rfl rfl (by simp only [List.length_append, List.length_cons, List.length_nil]; omega)
        have T5 : ∀ W, Sem.run Try.prog (Op.stringOp .add (strB (S ++ [108, 101, 116, 32] ++ Nj ++ [32, 61, 32] ++ E8)) ⟨#[59, 10]⟩) W = .ok (.string (strB (S ++ [108, 101, 116, 32] ++ Nj ++ [32, 61, 32] ++ E8 ++ [59, 10]))) W := run_plus _ [59, 10] rfl rfl rfl (by simp only [List.length_append, List.length_cons, List.length_nil]; omega)
        obtain ⟨S5, hS5⟩ : ∃ S5, S ++ [108, 101, 116, 32] ++ Nj ++ [32, 61, 32] ++ E8 ++ [59, 10] = S5 := ⟨_, rfl⟩
        have HN5 : Hid (NLs S5) := by show NLs S5; rw [← hS5]; exact .inr ⟨S ++ [108, 101, 116, 32] ++ Nj ++ [32, 61, 32] ++ E8 ++ [59], by simp⟩
        have hS5l : S5.length ≤ (i + 1) * 4000000 := by rw [← hS5]; simp only [List.length_append, List.length_cons, List.length_nil]; omega
        rw [hS5] at T5
        clear hS5
        generalize S ++ [108, 101, 116, 32] ++ Nj ++ [32, 61, 32] ++ E8 = S4 at *
        generalize S ++ [108, 101, 116, 32] ++ Nj ++ [32, 61, 32] = S3 at *
        generalize S ++ [108, 101, 116, 32] ++ Nj = S2 at *
        generalize S ++ [108, 101, 116, 32] = S1 at *
        cases hxs : xs with
        | nil =>
          have hm0 : L = 0 := by have := hrb2.len; rw [hxs] at this; simpa using this.symm
          subst hm0
          clear hcell hrow hrb hrb2 hxs hE8 hj hNj hL
          go_wp2_with fail
          go_region
          all_goals go_wp2_with fail
          go_region_with (go_at_call 15; (with_reducible refine (HEX.out _ ?_).mono ?_); (exact (by (repeat (first | exact Below.refl _ _ | refine Below.drew ?_ | refine below_alloc ?_ (Nat.le_refl _) _)))); rintro e wz ⟨rfl, hbz⟩; have hsz := hbz.size; (try simp only [World.size_alloc, World.size_drew] at hsz); (try (refine cell_then hbz (p := ⟨wr.heap.size, j, none⟩) (v := .string (strB Nj)) ?_ ?_ ?_; (focus (first | (simp <;> omega) | omega)); (focus (first | assumption | (go_simp; done))); intro x00)); have HBZ := Lib.hid (up2 (w := wr) hbz (by (repeat (first | exact Below.refl _ _ | refine Below.drew ?_ | refine below_alloc ?_ (Nat.le_refl _) _)))); clear hbz)
          all_goals go_wp2_with fail
          all_goals go_roundg (8 - (i + 1))
          all_goals first
            | exact ⟨i + 1, S5, by omega, by omega, by omega, by go_num, rfl, HN5, hS5l, Lib.hid (by (repeat (first | exact HB.out.trans (HBZ.out.mono HB.out.size) | refine Below.drew ?_ | refine below_alloc ?_ (Nat.le_refl _) _)))⟩
            | omega
        | cons x r =>
          rw [hxs] at hrb2
          obtain ⟨b2, off2, hA2, hb2, hx0, hL2, hx255⟩ := hrb2.first
          subst hA2
          have hpos : decide ((0 : Int) < (r.length : Int) + 1) = true := decide_eq_true (by omega)
          have hpo2 : (0 : Int) < (r.length : Int) + 1 := by omega
          have hr0 : ((r.length : Int) + 1 == 0) = false := by simp; omega
          obtain ⟨t, ht⟩ : ∃ t, x % 3 = t := ⟨_, rfl⟩
          have et1 : (x : Int) % 3 = (t : Int) := by omega
          have et2 : (x : Int).tmod 3 = (t : Int) := by rw [Int.tmod_eq_emod_of_nonneg (by omega)]; exact et1
          have ht3 : t < 3 := by omega
          have dD : ∀ W : World, (W.alloc (.cells #[.string ⟨#[100, 97, 116, 97, 32, 76, 105, 115, 116, 32, 97, 32, 61, 32, 78, 105, 108, 32, 124, 32, 67, 111, 110, 115, 32, 97, 32, 40, 76, 105, 115, 116, 32, 97, 41, 59, 10]⟩, .string ⟨#[100, 97, 116, 97, 32, 79, 112, 116, 32, 97, 32, 61, 32, 78, 111, 110, 101, 32, 124, 32, 83, 111, 109, 101, 32, 97, 59, 10]⟩, .string ⟨#[100, 97, 116, 97, 32, 70, 32, 97, 32, 98, 32, 61, 32, 79, 100, 100, 32, 40, 97, 32, 45, 62, 32, 98, 41, 32, 40, 97, 44, 32, 73, 110, 116, 41, 32, 124, 32, 69, 118, 101, 110, 32, 66, 111, 111, 108, 59, 10]⟩] 9)).cell? ⟨W.heap.size, t, none⟩ = some (.string (strB (srcD.getD t []))) := fun W => tab_cell W srcD t ht3 (vs := [.string ⟨#[100, 97, 116, 97, 32, 76, 105, 115, 116, 32, 97, 32, 61, 32, 78, 105, 108, 32, 124, 32, 67, 111, 110, 115, 32, 97, 32, 40, 76, 105, 115, 116, 32, 97, 41, 59, 10]⟩, .string ⟨#[100, 97, 116, 97, 32, 79, 112, 116, 32, 97, 32, 61, 32, 78, 111, 110, 101, 32, 124, 32, 83, 111, 109, 101, 32, 97, 59, 10]⟩, .string ⟨#[100, 97, 116, 97, 32, 70, 32, 97, 32, 98, 32, 61, 32, 79, 100, 100, 32, 40, 97, 32, 45, 62, 32, 98, 41, 32, 40, 97, 44, 32, 73, 110, 116, 41, 32, 124, 32, 69, 118, 101, 110, 32, 66, 111, 111, 108, 59, 10]⟩]) rfl
          have hDl := getD_len srcD_len t
          have TD : ∀ W, Sem.run Try.prog (Op.stringOp .add (strB S) (strB (srcD.getD t []))) W = .ok (.string (strB (S ++ srcD.getD t []))) W := run_plus _ _ rfl rfl rfl (by omega)
          have HND : Hid (NLs (S ++ srcD.getD t [])) := NLs.add S (srcD_end t ht3)
          have hSDl : (S ++ srcD.getD t []).length ≤ (i + 1) * 4000000 := by rw [List.length_append]; omega
          generalize S ++ srcD.getD t [] = SD at *
          generalize srcD.getD t [] = Dt at *
          subst hL2
          clear hcell hrow hrb hrb2 hxs hE8 hj hNj ht
          by_cases hx : 230 < x
          · have dx : decide ((230 : Int) < (x : Int)) = true := decide_eq_true (by omega)
            have dx2 : (230 : Int) < (x : Int) := by omega
            go_wp2_with fail
            go_region
            all_goals go_wp2_with fail
            all_goals go_roundg (8 - (i + 1))
            all_goals first
              | exact ⟨i + 1, SD, by omega, by omega, by omega, by go_num, rfl, HND, hSDl, Lib.hid (by (repeat (first | exact HB.out | refine Below.drew ?_ | refine below_alloc ?_ (Nat.le_refl _) _)))⟩
              | omega
          · have dx : decide ((230 : Int) < (x : Int)) = false := decide_eq_false (by omega)
            have dx2 : ¬ (230 : Int) < (x : Int) := by omega
            go_wp2_with fail
            go_region
            all_goals go_wp2_with fail
            go_region_with (go_at_call 15; (with_reducible refine (HEX.out _ ?_).mono ?_); (exact (by (repeat (first | exact Below.refl _ _ | refine Below.drew ?_ | refine below_alloc ?_ (Nat.le_refl _) _)))); rintro e wz ⟨rfl, hbz⟩; have hsz := hbz.size; (try simp only [World.size_alloc, World.size_drew] at hsz); (try (refine cell_then hbz (p := ⟨wr.heap.size, j, none⟩) (v := .string (strB Nj)) ?_ ?_ ?_; (focus (first | (simp <;> omega) | omega)); (focus (first | assumption | (go_simp; done))); intro x00)); have HBZ := Lib.hid (up2 (w := wr) hbz (by (repeat (first | exact Below.refl _ _ | refine Below.drew ?_ | refine below_alloc ?_ (Nat.le_refl _) _)))); clear hbz)
            all_goals go_wp2_with fail
            all_goals go_roundg (8 - (i + 1))
            all_goals first
              | exact ⟨i + 1, S5, by omega, by omega, by omega, by go_num, rfl, HN5, hS5l, Lib.hid (by (repeat (first | exact HB.out.trans (HBZ.out.mono HB.out.size) | refine Below.drew ?_ | refine below_alloc ?_ (Nat.le_refl _) _)))⟩
              | omega
      · skip
        have em : (if (40 : Int) < (L : Int) then (40 : Int) else (L : Int)) = 40 := by rw [if_pos (by omega)]
        obtain ⟨A', hrb3, hr3⟩ := hrb2.upto 40 (by omega)
        have hr3 : ∀ W, Sem.run Try.prog (Instr.slice 22 (.slice A L C) none (some (.int .i64 40)) none) W = .ok (.slice A' 40 C) W := hr3
        have HEX := Lib.hid (fun w' (hw : Below wr.heap.size wr w') => HE.out _ _ _ _ w' (hrb3.under hw))
        have hEl : (exprT 8 (xs.take 40)).length ≤ 3932160 := (txt_len 8 _ hrb3.le).1
        obtain ⟨E8, hE8⟩ : ∃ E8, exprT 8 (xs.take 40) = E8 := ⟨_, rfl⟩
        rw [hE8] at HEX hEl
        obtain ⟨j, hj⟩ : ∃ j, i % 5 = j := ⟨_, rfl⟩
        have ej1 : (i : Int) % 5 = (j : Int) := by omega
        have ej2 : (i : Int).tmod 5 = (j : Int) := by rw [Int.tmod_eq_emod_of_nonneg (by omega)]; exact ej1
        have hj5 : j < 5 := by omega
        have hNl := getD_len srcN_len j
        have dN : ∀ W : World, (W.alloc (.cells #[.string ⟨#[102]⟩, .string ⟨#[103]⟩, .string ⟨#[104, 32, 120]⟩, .string ⟨#[105, 100, 32, 120]⟩, .string ⟨#[107, 32, 120, 32, 121]⟩] 9)).cell? ⟨W.heap.size, j, none⟩ = some (.string (strB (srcN.getD j []))) := fun W => tab_cell W srcN j hj5 (vs := [.string ⟨#[102]⟩, .string ⟨#[103]⟩, .string ⟨#[104, 32, 120]⟩, .string ⟨#[105, 100, 32, 120]⟩, .string ⟨#[107, 32, 120, 32, 121]⟩]) rfl
        obtain ⟨Nj, hNj⟩ : ∃ Nj, srcN.getD j [] = Nj := ⟨_, rfl⟩
        rw [hNj] at hNl dN
        have hSb : S.length ≤ 32000000 := by omega
        have T1 : ∀ W, Sem.run Try.prog (Op.stringOp .add (strB S) ⟨#[108, 101, 116, 32]⟩) W = .ok (.string (strB (S ++ [108, 101, 116, 32]))) W := run_plus S [108, 101, 116, 32] rfl rfl rfl (by simp only [List.length_append, List.length_cons, List.length_nil]; omega)
        have T2 : ∀ W, Sem.run Try.prog (Op.stringOp .add (strB (S ++ [108, 101, 116, 32])) (strB Nj)) W = .ok (.string (strB (S ++ [108, 101, 116, 32] ++ Nj))) W := run_plus _ _ rfl rfl rfl (by simp only [List.length_append, List.length_cons, List.length_nil]; omega)
        have T3 : ∀ W, Sem.run Try.prog (Op.stringOp .add (strB (S ++ [108, 101, 116, 32] ++ Nj)) ⟨#[32, 61, 32]⟩) W = .ok (.string (strB (S ++ [108, 101, 116, 32] ++ Nj ++ [32, 61, 32]))) W := run_plus _ [32, 61, 32] rfl rfl rfl (by simp only [List.length_append, List.length_cons, List.length_nil]; omega)
        have T4 : ∀ W, Sem.run Try.prog (Op.stringOp .add (strB (S ++ [108, 101, 116, 32] ++ Nj ++ [32, 61, 32])) (strB E8)) W = .ok (.string (strB (S ++ [108, 101, 116, 32] ++ Nj ++ [32, 61, 32] ++ E8))) W := run_plus _ _ rfl rfl rfl (by simp only [List.length_append, List.length_cons, List.length_nil]; omega)
        have T5 : ∀ W, Sem.run Try.prog (Op.stringOp .add (strB (S ++ [108, 101, 116, 32] ++ Nj ++ [32, 61, 32] ++ E8)) ⟨#[59, 10]⟩) W = .ok (.string (strB (S ++ [108, 101, 116, 32] ++ Nj ++ [32, 61, 32] ++ E8 ++ [59, 10]))) W := run_plus _ [59, 10] rfl rfl rfl (by simp only [List.length_append, List.length_cons, List.length_nil]; omega)
        obtain ⟨S5, hS5⟩ : ∃ S5, S ++ [108, 101, 116, 32] ++ Nj ++ [32, 61, 32] ++ E8 ++ [59, 10] = S5 := ⟨_, rfl⟩
        have HN5 : Hid (NLs S5) := by show NLs S5; rw [← hS5]; exact .inr ⟨S ++ [108, 101, 116, 32] ++ Nj ++ [32, 61, 32] ++ E8 ++ [59], by simp⟩
        have hS5l : S5.length ≤ (i + 1) * 4000000 := by rw [← hS5]; simp only [List.length_append, List.length_cons, List.length_nil]; omega
        rw [hS5] at T5
        clear hS5
        generalize S ++ [108, 101, 116, 32] ++ Nj ++ [32, 61, 32] ++ E8 = S4 at *
        generalize S ++ [108, 101, 116, 32] ++ Nj ++ [32, 61, 32] = S3 at *
        generalize S ++ [108, 101, 116, 32] ++ Nj = S2 at *
        generalize S ++ [108, 101, 116, 32] = S1 at *
        cases hxs : xs.take 40 with
        | nil =>
          have hm0 : 40 = 0 := by have := hrb3.len; rw [hxs] at this; simpa using this.symm
          omega
        | cons x r =>
          rw [hxs] at hrb3
          obtain ⟨b2, off2, hA2, hb2, hx0, hL2, hx255⟩ := hrb3.first
          subst hA2
          have hpos : decide ((0 : Int) < (r.length : Int) + 1) = true := decide_eq_true (by omega)
          have hpo2 : (0 : Int) < (r.length : Int) + 1 := by omega
          have hr0 : ((r.length : Int) + 1 == 0) = false := by simp; omega
          obtain ⟨t, ht⟩ : ∃ t, x % 3 = t := ⟨_, rfl⟩
          have et1 : (x : Int) % 3 = (t : Int) := by omega
          have et2 : (x : Int).tmod 3 = (t : Int) := by rw [Int.tmod_eq_emod_of_nonneg (by omega)]; exact et1
          have ht3 : t < 3 := by omega
          have dD : ∀ W : World, (W.alloc (.cells #[.string ⟨#[100, 97, 116, 97, 32, 76, 105, 115, 116, 32, 97, 32, 61, 32, 78, 105, 108, 32, 124, 32, 67, 111, 110, 115, 32, 97, 32, 40, 76, 105, 115, 116, 32, 97, 41, 59, 10]⟩, .string ⟨#[100, 97, 116, 97, 32, 79, 112, 116, 32, 97, 32, 61, 32, 78, 111, 110, 101, 32, 124, 32, 83, 111, 109, 101, 32, 97, 59, 10]⟩, .string ⟨#[100, 97, 116, 97, 32, 70, 32, 97, 32, 98, 32, 61, 32, 79, 100, 100, 32, 40, 97, 32, 45, 62, 32, 98, 41, 32, 40, 97, 44, 32, 73, 110, 116, 41, 32, 124, 32, 69, 118, 101, 110, 32, 66, 111, 111, 108, 59, 10]⟩] 9)).cell? ⟨W.heap.size, t, none⟩ = some (.string (strB (srcD.getD t []))) := fun W => tab_cell W srcD t ht3 (vs := [.string ⟨#[100, 97, 116, 97, 32, 76, 105, 115, 116, 32, 97, 32, 61, 32, 78, 105, 108, 32, 124, 32, 67, 111, 110, 115, 32, 97, 32, 40, 76, 105, 115, 116, 32, 97, 41, 59, 10]⟩, .string ⟨#[100, 97, 116, 97, 32, 79, 112, 116, 32, 97, 32, 61, 32, 78, 111, 110, 101, 32, 124, 32, 83, 111, 109, 101, 32, 97, 59, 10]⟩, .string ⟨#[100, 97, 116, 97, 32, 70, 32, 97, 32, 98, 32, 61, 32, 79, 100, 100, 32, 40, 97, 32, 45, 62, 32, 98, 41, 32, 40, 97, 44, 32, 73, 110, 116, 41, 32, 124, 32, 69, 118, 101, 110, 32, 66, 111, 111, 108, 59, 10]⟩]) rfl
          have hDl := getD_len srcD_len t
          have TD : ∀ W, Sem.run Try.prog (Op.stringOp .add (strB S) (strB (srcD.getD t []))) W = .ok (.string (strB (S ++ srcD.getD t []))) W := run_plus _ _ rfl rfl rfl (by omega)
          have HND : Hid (NLs (S ++ srcD.getD t [])) := NLs.add S (srcD_end t ht3)
          have hSDl : (S ++ srcD.getD t []).length ≤ (i + 1) * 4000000 := by rw [List.length_append]; omega
          generalize S ++ srcD.getD t [] = SD at *
          generalize srcD.getD t [] = Dt at *
          clear hL2
          clear hcell hrow hrb hrb2 hrb3 hxs hE8 hj hNj ht
          by_cases hx : 230 < x
          · have dx : decide ((230 : Int) < (x : Int)) = true := decide_eq_true (by omega)
            have dx2 : (230 : Int) < (x : Int) := by omega
            go_wp2_with fail
            go_region
            all_goals go_wp2_with fail
            all_goals go_roundg (8 - (i + 1))
            all_goals first
              | exact ⟨i + 1, SD, by omega, by omega, by omega, by go_num, rfl, HND, hSDl, Lib.hid (by (repeat (first | exact HB.out | refine Below.drew ?_ | refine below_alloc ?_ (Nat.le_refl _) _)))⟩
              | omega
          · have dx : decide ((230 : Int) < (x : Int)) = false := decide_eq_false (by omega)
            have dx2 : ¬ (230 : Int) < (x : Int) := by omega
            go_wp2_with fail
            go_region
            all_goals go_wp2_with fail
            go_region_with (go_at_call 15; (with_reducible refine (HEX.out _ ?_).mono ?_); (exact (by (repeat (first | exact Below.refl _ _ | refine Below.drew ?_ | refine below_alloc ?_ (Nat.le_refl _) _)))); rintro e wz ⟨rfl, hbz⟩; have hsz := hbz.size; (try simp only [World.size_alloc, World.size_drew] at hsz); (try (refine cell_then hbz (p := ⟨wr.heap.size, j, none⟩) (v := .string (strB Nj)) ?_ ?_ ?_; (focus (first | (simp <;> omega) | omega)); (focus (first | assumption | (go_simp; done))); intro x00)); have HBZ := Lib.hid (up2 (w := wr) hbz (by (repeat (first | exact Below.refl _ _ | refine Below.drew ?_ | refine below_alloc ?_ (Nat.le_refl _) _)))); clear hbz)
            all_goals go_wp2_with fail
            all_goals go_roundg (8 - (i + 1))
            all_goals first
              | exact ⟨i + 1, S5, by omega, by omega, by omega, by go_num, rfl, HN5, hS5l, Lib.hid (by (repeat (first | exact HB.out.trans (HBZ.out.mono HB.out.size) | refine Below.drew ?_ | refine below_alloc ?_ (Nat.le_refl _) _)))⟩
              | omega
    · by_cases hl1 : i < n
      · have di : decide ((i : Int) < (n : Int)) = true := decide_eq_true (by omega)
        have di8 : decide ((i : Int) < 8) = false := decide_eq_false (by omega)
        go_wp2_with fail
        go_ret
        exact ⟨S, rfl, HN.out, by omega, HB.out⟩
      · have di : decide ((i : Int) < (n : Int)) = false := decide_eq_false (by omega)
        go_wp2_with fail
        go_ret
        exact ⟨S, rfl, HN.out, by omega, HB.out⟩

end Go.Proofs.Ytgkeblpjmfdhkaa

namespace Go.Proofs.Ytgkeblpjmfdhkaa
open Go.RowKit
set_option linter.unusedVariables false
set_option linter.unusedSimpArgs false

set_option maxHeartbeats 1000000 in
theorem t_zero_expr (a : Option Addr) (l c : Nat) (w : World) (hc : l ≤ c) : Calls Try.prog 40 #[.slice a l c, .int .i64 0] w fun e w' => e = .returned (.string (strB [120])) ∧ Below w.heap.size w w' := by
  by_cases h : l = 0
  · subst h
    exact t_expr_nil 0 a c w
  · have h0 : ((l : Int) == 0) = false := by simp; omega
    go_enter Try.func40, Try.ntmps40
    go_wp2_with fail
    go_ret
    exact ⟨rfl, Below.refl _ _⟩
set_option maxHeartbeats 1000000 in
theorem t_zero_atom (a : Option Addr) (l c : Nat) (w : World) (hc : l ≤ c) : Calls Try.prog 78 #[.slice a l c, .int .i64 0] w fun e w' => e = .returned (.string (strB [120])) ∧ Below w.heap.size w w' := by
  by_cases h : l = 0
  · subst h
    go_enter Try.func78, Try.ntmps78
    go_wp2_with fail
    go_ret
    exact ⟨rfl, Below.refl _ _⟩
  · have h0 : ((l : Int) == 0) = false := by simp; omega
    go_enter Try.func78, Try.ntmps78
    go_wp2_with fail
    go_ret
    exact ⟨rfl, Below.refl _ _⟩
theorem t_expr_step (d : Nat) (hd : d ≤ 9) (HE : Txt 40 (exprT d) d) (HA : Txt 78 (atomT d) d) (HB : Txt 78 (atomT (d + 1)) (d + 1)) : Txt 40 (exprT (d + 1)) (d + 1) := by
  intro D hD a l c xs w h
  obtain rfl : D = (d : Int) + 1 := by omega
  cases xs with
  | nil =>
    have hl : l = 0 := by have := h.len; simpa using this.symm
    subst hl
    exact t_expr_nil _ a c w
  | cons n r =>
    have hm : n % 10 = 0 ∨ n % 10 = 1 ∨ n % 10 = 2 ∨ n % 10 = 3 ∨ n % 10 = 4 ∨ n % 10 = 5 ∨ n % 10 = 6 ∨ n % 10 = 7 ∨ n % 10 = 8 ∨ n % 10 = 9 := by omega
    rcases hm with hm | hm | hm | hm | hm | hm | hm | hm | hm | hm
    · exact t_expr_0 d hd HE HA HB a l c n r w h hm
    · exact t_expr_1 d hd HE HA HB a l c n r w h hm
    · exact t_expr_2 d hd HE HA HB a l c n r w h hm
    · exact t_expr_3 d hd HE HA HB a l c n r w h hm
    · exact t_expr_4 d hd HE HA HB a l c n r w h hm
    · exact t_expr_5 d hd HE HA HB a l c n r w h hm
    · exact t_expr_6 d hd HE HA HB a l c n r w h hm
    · exact t_expr_7 d hd HE HA HB a l c n r w h hm
    · exact t_expr_8 d hd HE HA HB a l c n r w h hm
    · exact t_expr_9 d hd HE HA HB a l c n r w h hm
theorem t_txt : ∀ d, d ≤ 9 → Txt 40 (exprT d) d ∧ Txt 78 (atomT d) d
  | 0, _ => ⟨fun D hD a l c xs w h => by subst hD; exact t_zero_expr a l c w h.cap, fun D hD a l c xs w h => by subst hD; exact t_zero_atom a l c w h.cap⟩
  | d + 1, hd => by
    obtain ⟨h1, h2⟩ := t_txt d (by omega)
    have h3 := t_atom_step d (by omega) h1 h2
    exact ⟨t_expr_step d (by omega) h1 h2 h3, h3⟩
set_option maxHeartbeats 1000000 in
theorem t_Expr (a : Option Addr) (l c : Nat) (xs : List Nat) (w : World) (h : RB w a l c xs) : Calls Try.prog 15 #[.slice a l c] w fun e w' => e = .returned (.string (strB (exprT 8 xs))) ∧ Below w.heap.size w w' := by
  have H := Lib.hid ((t_txt 8 (by omega)).1 8 rfl a l c xs w h)
  clear h
  go_enter Try.func15, Try.ntmps15
  go_wp2_with (go_at_call 40; refine H.out.mono ?_; rintro e w1 ⟨rfl, hb⟩; have HB := Lib.hid hb; clear hb)
  go_ret
  exact ⟨rfl, HB.out⟩
/-- Source: some text that is empty or ends a line. -/
theorem t_Source (a : Option Addr) (n c : Nat) (w : World) (hg : GB w a n c) : Calls Try.prog 20 #[.slice a n c] w fun e w' => ∃ S : By, e = .returned (.string (strB S)) ∧ NLs S ∧ S.length ≤ 40000000 ∧ Below w.heap.size w w' := t_source a n c w hg t_Expr

end Go.Proofs.Ytgkeblpjmfdhkaa

namespace Go.Proofs.Ytgkeblpjmfdhkaa
open Go.RowKit Go.WideShapes Go.ChangeShapes

theorem RowF.of_cells {α : Type} {f : α → Value} {d : α} {w : World} {x : Addr} {len cap : Nat} {zs : List α} (hl : len ≤ cap) (hz : zs.length = cap) (hcell : ∀ i, i < zs.length → w.cell? (x.add i) = some (f (zs.getD i d))) :
    RowF f d 0 w.heap.size w (some x) len (zs.take len) := by
  refine ⟨by simp; omega, ?_⟩
  by_cases h0 : len = 0
  · exact .inl h0
  · obtain ⟨b, off, spot⟩ := x
    have hc := hcell 0 (by omega)
    have hspot : spot = none := by simpa [Addr.add] using World.cell?_spot hc
    subst hspot
    refine .inr ⟨b, off, rfl, Nat.zero_le _, World.block_lt_of_cell? _ _ hc, fun i hi => ?_⟩
    have := hcell i (by omega)
    rw [Addr.add_lit] at this
    rw [this]
    simp [List.getD, hi]

end Go.Proofs.Ytgkeblpjmfdhkaa

namespace Go.Proofs.Ytgkeblpjmfdhkaa
open Go.RowKit Go.WideShapes Go.ChangeShapes
set_option linter.unusedVariables false

/-- A slice of slices of bytes that came in. -/
theorem GB_of_trod {H : Type} {enc : TypeId × Value → H} {P : Program} {w : World} {t e q : TypeId} {fuel : Nat} {cs : List Value} {x : DataW H × List MemPlace} {a : Option Addr} {len cap : Nat}
    (ht : P.underlying t = some (.slice e)) (he : P.underlying e = some (.slice q)) (hq : P.underlying q = some (.int .u8)) (ce : P.cellsOf e = 1) (cq : P.cellsOf q = 1)
    (h : DataW.trod enc P w 0 (fun _ => true) true fuel t cs = some x) (hcs : cs = [.slice a len cap]) : GB w a len cap := by
  subst hcs
  rcases Deep.open_int_rows ht he hq ce cq h with ⟨hcs, _⟩ | ⟨y, l, c, A, L, C, Z, hcs, _, hl, hm, _, hrow⟩
  · simp at hcs
    obtain ⟨rfl, rfl, rfl⟩ := hcs
    exact ⟨Nat.le_refl _, .inl rfl⟩
  · simp at hcs
    obtain ⟨rfl, rfl, rfl⟩ := hcs
    refine ⟨hl, ?_⟩
    by_cases h0 : len = 0
    · exact .inl h0
    · obtain ⟨b, off, spot⟩ := y
      have hc := (hrow 0 (by omega)).1
      have hspot : spot = none := by simpa [Addr.add] using World.cell?_spot hc
      subst hspot
      refine .inr ⟨b, off, rfl, World.block_lt_of_cell? _ _ hc, fun k hk => ?_⟩
      obtain ⟨h1, h2, h3, h4, h5, h6, h7⟩ := hrow k (by omega)
      rw [Addr.add_lit] at h1
      have hb : ∀ i, i < L k → 0 ≤ ((Z k).take (L k)).getD i 0 ∧ ((Z k).take (L k)).getD i 0 ≤ 255 := fun i hi => by
        have : ((Z k).take (L k)).getD i 0 = (Z k)[i]'(by omega) := by simp [List.getD, hi, show i < (Z k).length by omega]
        rw [this]
        exact bounds_u8 (h5 _ (List.getElem_mem _))
      have e : ∀ i, i < L k → (((Z k).take (L k)).map Int.toNat).getD i 0 = (((Z k).take (L k)).getD i 0).toNat := fun i hi => by
        simp [List.getD, hi, show i < (Z k).length by omega]
      refine ⟨A k, L k, C k, ((Z k).take (L k)).map Int.toNat, h1, ⟨?_, fun x hx => ?_, h2, by unfold maxLen at h3; omega⟩⟩
      · cases hA : A k with
        | none =>
          have hz : L k = 0 := by have := h6 hA; omega
          exact ⟨by simp; omega, .inl hz⟩
        | some y =>
          have hr := RowF.of_cells (f := Value.int .u8) (d := (0 : Int)) h2 h4 (fun i hi => (h7 y hA).2 i (by omega))
          obtain ⟨r1, r2⟩ := hr
          refine ⟨by simpa using r1, ?_⟩
          rcases r2 with r2 | ⟨b', o', e1, hb1, hh, hcl⟩
          · exact .inl r2
          · exact .inr ⟨b', o', e1, hb1, hh, fun i hi => by rw [hcl i hi, e i hi]; dsimp only; rw [Int.toNat_of_nonneg (hb i hi).1]⟩
      · obtain ⟨y, hy, rfl⟩ := List.mem_map.1 hx
        have := bounds_u8 (h5 _ (List.mem_of_mem_take hy))
        omega

end Go.Proofs.Ytgkeblpjmfdhkaa
