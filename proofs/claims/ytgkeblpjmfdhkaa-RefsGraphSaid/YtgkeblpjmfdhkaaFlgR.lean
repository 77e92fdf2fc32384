/- The law RefsGraph: a Bind refers to those whose names it uses. -/
import Derived.Test.YtgkeblpjmfdhkaaFLR
import Derived.Test.YtgkeblpjmfdhkaaFlbR
import Derived.Test.YtgkeblpjmfdhkaaZJR
namespace Go.Proofs.Ytgkeblpjmfdhkaa
open Go.RowKit Go.Maps
set_option linter.unusedVariables false
set_option linter.unusedSimpArgs false

def aOf (xs : List Nat) (n i : Nat) : Nat := xs.getD i 0 % n
def bOf (xs : List Nat) (n i : Nat) : Nat := xs.getD i 0 / n % n
def gLs (xs : List Nat) (n k : Nat) : List (By × By × Ex) := (List.range k).map fun i => (lineT i (aOf xs n i) (bOf xs n i), nv i, lineE (aOf xs n i) (bOf xs n i))
def gT (xs : List Nat) (n k : Nat) : By := ((gLs xs n k).map Prod.fst).flatten
theorem gT_succ (xs : List Nat) (n k : Nat) : gT xs n (k + 1) = gT xs n k ++ lineT k (aOf xs n k) (bOf xs n k) := by
  unfold gT gLs; rw [List.range_succ]; simp
theorem lineT_len (i a b : Nat) : (lineT i a b).length = 29 := by simp [lineT, nv]
theorem gT_len (xs : List Nat) (n : Nat) : ∀ k, (gT xs n k).length = 29 * k
  | 0 => by simp [gT, gLs]
  | k + 1 => by rw [gT_succ, List.length_append, gT_len, lineT_len]; omega
theorem digL_one (d : Nat) (hd : d < 10) : digL d = [UInt8.ofNat (48 + d)] := by
  have h : d = 0 ∨ d = 1 ∨ d = 2 ∨ d = 3 ∨ d = 4 ∨ d = 5 ∨ d = 6 ∨ d = 7 ∨ d = 8 ∨ d = 9 := by omega
  rcases h with rfl | rfl | rfl | rfl | rfl | rfl | rfl | rfl | rfl | rfl <;> decide
theorem nv_inj {a b : Nat} (ha : a < 10) (hb : b < 10) (h : nv a = nv b) : a = b := by
  have : ∀ a < 10, ∀ b < 10, nv a = nv b → a = b := by decide
  exact this a ha b hb h
theorem first_nv (n a : Nat) (hn : n ≤ 10) (ha : a < n) : firstF ((List.range n).map nv) (nv a) = some a := by
  unfold firstF
  rw [List.findIdx?_eq_some_iff_getElem]
  refine ⟨by simpa using ha, by simp, fun j hj => ?_⟩
  simp only [List.getElem_map, List.getElem_range]
  intro e
  have e1 : nv j = nv a := by simpa using e
  have := nv_inj (by omega) (by omega) e1
  omega
/-- The lines' program. -/
theorem graph_fact (xs : List Nat) (n : Nat) (hn : n ≤ 10) : (parseA (gT xs n n)).e = 0 ∧ (parseA (gT xs n n)).p.binds.length = n ∧ graphL (parseA (gT xs n n)).p.binds = (List.range n).map fun i => [((aOf xs n i : Nat) : Int)] := by
  have hA : parseA (gT xs n n) = parseL (gT xs n n) := by unfold parseA; rw [if_pos (by rw [gT_len]; omega)]
  rw [hA]
  obtain ⟨h1, h2⟩ := parseQ (gLs xs n n) (fun l hl => by
    obtain ⟨i, hi, rfl⟩ := List.mem_map.1 hl
    have hin : i < n := by simpa using hi
    exact line_q i _ _ (by omega) (by have := Nat.mod_lt (xs.getD i 0) (show 0 < n by omega); unfold aOf; omega) (by have := Nat.mod_lt (xs.getD i 0 / n) (show 0 < n by omega); unfold bOf; omega)) (fun l hl => by
    obtain ⟨i, hi, rfl⟩ := List.mem_map.1 hl
    show (lineE _ _).deep ≤ 60
    simp [lineE, varE, Ex.deep, Ex.deeps, Al.deeps])
  change (parseL (gT xs n n)).e = 0 at h1
  change (parseL (gT xs n n)).p.binds.map (fun b => (b.s, b.body.bare)) = _ at h2
  obtain ⟨L, hL⟩ : ∃ L, (parseL (gT xs n n)).p.binds = L := ⟨_, rfl⟩
  rw [hL] at h2 ⊢
  have hlen : L.length = n := by
    have := congrArg List.length h2
    simpa [gLs] using this
  have hnm : L.map Bd.s = (List.range n).map nv := by
    have := congrArg (List.map Prod.fst) h2
    rw [List.map_map, List.map_map] at this
    rw [show (L.map Bd.s) = L.map (Prod.fst ∘ fun b : Bd => (b.s, b.body.bare)) from rfl, this]
    simp [gLs]
  refine ⟨h1, hlen, ?_⟩
  unfold graphL
  rw [hnm]
  have hgo : L.map (fun b => sortI ((freeL b.body).filterMap (firstF ((List.range n).map nv)))) = ((gLs xs n n).map Prod.snd).map (fun q => sortI ((freeL q.2).filterMap (firstF ((List.range n).map nv)))) := by
    rw [← h2, List.map_map]
    refine List.map_congr_left fun b _ => ?_
    show _ = sortI ((freeL b.body.bare).filterMap _)
    rw [free_bare]
  rw [hgo]
  unfold gLs
  rw [List.map_map, List.map_map]
  refine List.map_congr_left fun i hi => ?_
  have hin : i < n := by simpa using hi
  have ha : aOf xs n i < n := Nat.mod_lt _ (by omega)
  show sortI ((freeL (lineE _ _)).filterMap _) = _
  rw [free_line, List.filterMap_cons, first_nv n _ hn ha]
  simp [sortI]
/-- One row of rows. -/
theorem InC.row1 {S : Nat → Prop} {w : World} {rows : List (List Int)} {a : Option Addr} {m c : Nat} (h : InC S w (.s rows.length 1 (rows.map rowCl)) (.slice a m c)) {i : Nat} {z : Int} (hr : rows[i]? = some [z]) :
    ∃ b off b2 o2 c2, a = some ⟨b, off, none⟩ ∧ b < w.heap.size ∧ b2 < w.heap.size ∧ w.cell? ⟨b, off + i, none⟩ = some (.slice (some ⟨b2, o2, none⟩) 1 c2) ∧ w.cell? ⟨b2, o2, none⟩ = some (.int .i64 z) := by
  have hi := (List.getElem?_eq_some_iff.1 hr).1
  obtain ⟨_, h2 | ⟨b, off, us, rfl, _, hb, hs, hc⟩⟩ := h.at_
  · omega
  · have hul : i < us.length := by rw [hs.1]; simpa using hi
    have h1 := hs.2 i (rowCl [z]) us[i] (by rw [List.getElem?_map, hr]; rfl) (List.getElem?_eq_getElem hul)
    have h3 := hc i _ (List.getElem?_eq_getElem hul)
    unfold rowCl at h1
    obtain ⟨a2, c2, e2, _, _⟩ := h1.slice
    rw [e2] at h1 h3
    obtain ⟨_, h4 | ⟨b2, o2, vs, rfl, _, hb2, hs2, hc2⟩⟩ := h1.at_
    · simp at h4
    · have hvl : 0 < vs.length := by rw [hs2.1]; simp [intsC]
      have h5 := hs2.2 0 (iC z) vs[0] rfl (List.getElem?_eq_getElem hvl)
      have h6 := hc2 0 _ (List.getElem?_eq_getElem hvl)
      rw [h5.val, Nat.add_zero] at h6
      exact ⟨b, off, b2, o2, c2, rfl, hb, hb2, h3, h6⟩

theorem four_all15 {w : World} {b : Nat} {t : TypeId} {c0 c1 c2 c3 : Value} (h : Box w b t [c0, c1, c2, c3]) : w.cell? ⟨b, 0, none⟩ = some c0 ∧ w.cell? ⟨b, 1, none⟩ = some c1 ∧ w.cell? ⟨b, 2, none⟩ = some c2 ∧ w.cell? ⟨b, 3, none⟩ = some c3 := ⟨h.cell 0, h.cell 1, h.cell 2, h.cell 3⟩
set_option maxRecDepth 100000 in
set_option maxHeartbeats 8000000 in
theorem graph14_law (a : Option Addr) (l c : Nat) (xs : List Nat) (w : World) (h : RB w a l c xs) :
    Calls Try.prog 13 #[.slice a l c] w fun e w' => e = .returned (.bool true) ∧ Below w.heap.size w w' := by
  have hcap := h.cap
  have hsm := h.small
  have H4 := Lib.hid (fun (w' : World) => r_awake w')
  obtain ⟨n, hn⟩ : ∃ n, min l 10 = n := ⟨_, rfl⟩
  have hn10 : n ≤ 10 := by omega
  have hnl : n ≤ l := by omega
  have EA : min (l : Int) 10 = (n : Int) := by omega
  have HR := Lib.hid h.row
  have HLE := Lib.hid h.le
  obtain ⟨hpe, hpl, hpg⟩ := graph_fact xs n hn10
  obtain ⟨O, hO⟩ : ∃ O, parseA (gT xs n n) = O := ⟨_, rfl⟩
  have hpf := parseA_fit (gT xs n n)
  have HY := Lib.hid (fun w => y_ParseA (gT xs n n) w hO)
  rw [hO] at hpe hpl hpg hpf
  have HDG : Hid (∀ (d : Nat) (w' : World), d < 10 → Below w.heap.size w w' → Calls Try.prog 39 #[.int .i64 (d : Int)] w' fun e w'' => e = .returned (.string (strB (digL d))) ∧ Below w.heap.size w w'') := fun d w' hd hb => (digits_any d w' (by omega)).mono fun e w'' ⟨h1, h2⟩ => ⟨h1, hb.trans (h2.mono hb.size)⟩
  have HPE := Lib.hid hpe
  have HPL := Lib.hid hpl
  have HPG := Lib.hid hpg
  have HPF := Lib.hid hpf
  clear h hn hO hpe hpl hpg hpf
  go_enter Try.func13, Try.ntmps13
  go_wp2_with fail
  have HB0 : Hid (Below w.heap.size w w) := Below.refl _ _
  go_loopw [4, 5] (fun sv iv wr => ∃ k : Nat, k ≤ n ∧ iv = .int .i64 (k : Int) ∧ sv = .string (strB (gT xs n k)) ∧ Hid (Below w.heap.size w wr)) (fun _ iv _ => n - (intOf iv).toNat)
  case atStart => exact ⟨0, Nat.zero_le _, rfl, rfl, HB0⟩
  case round =>
    clear HB0
    obtain ⟨k, hk, rfl, rfl, HB⟩ := hrel
    by_cases hlt : k < n
    · have hrow := HR.out.2.resolve_left (by omega)
      obtain ⟨g, off, rfl, _, hg, hcell⟩ := hrow
      have hx0 := hcell k (by omega)
      obtain ⟨x, hx⟩ : ∃ x, xs.getD k 0 = x := ⟨_, rfl⟩
      have hxl : x ≤ 255 := by
        rw [← hx]
        by_cases hkl : k < xs.length
        · have : xs.getD k 0 = xs[k] := by simp [List.getD, List.getElem?_eq_getElem hkl]
          rw [this]; exact HLE.out _ (List.getElem_mem _)
        · have : xs.getD k 0 = 0 := by simp [List.getD, List.getElem?_eq_none (by omega : xs.length ≤ k)]
          omega
      rw [hx] at hx0
      have hxw := (HB.out.cell (p := ⟨g, off + k, none⟩) hg).trans hx0
      have hgw : g < wr.heap.size := by have := HB.out.size; omega
      obtain ⟨A, hA⟩ : ∃ A, aOf xs n k = A := ⟨_, rfl⟩
      obtain ⟨B, hB⟩ : ∃ B, bOf xs n k = B := ⟨_, rfl⟩
      have hAn : A < 10 := by rw [← hA]; have := Nat.mod_lt (xs.getD k 0) (show 0 < n by omega); unfold aOf; omega
      have hBn : B < 10 := by rw [← hB]; have := Nat.mod_lt (xs.getD k 0 / n) (show 0 < n by omega); unfold bOf; omega
      have hk10 : k < 10 := by omega
      have eA : (x : Int).tmod (n : Int) = (A : Int) := by rw [Int.tmod_eq_emod_of_nonneg (by omega), ← hA]; unfold aOf; rw [hx]; exact (Int.natCast_emod x n).symm
      obtain ⟨d, hd⟩ : ∃ d, x / n = d := ⟨_, rfl⟩
      have hdl : d ≤ 255 := by rw [← hd]; exact Nat.le_trans (Nat.div_le_self _ _) hxl
      have eD : (x : Int).tdiv (n : Int) = (d : Int) := by rw [Int.tdiv_eq_ediv_of_nonneg (by omega), ← hd]; exact (Int.natCast_ediv x n).symm
      have eB : (d : Int).tmod (n : Int) = (B : Int) := by rw [Int.tmod_eq_emod_of_nonneg (by omega), ← hB, ← hd]; unfold bOf; rw [hx]; exact (Int.natCast_emod _ n).symm
      have eA2 : (x : Int) % (n : Int) = (A : Int) := by rw [← eA, Int.tmod_eq_emod_of_nonneg (by omega)]
      have eD2 : (x : Int) / (n : Int) = (d : Int) := by rw [← eD, Int.tdiv_eq_ediv_of_nonneg (by omega)]
      have eB2 : (d : Int) % (n : Int) = (B : Int) := by rw [← eB, Int.tmod_eq_emod_of_nonneg (by omega)]
      have eW : IntKind.i64.wrap (d : Int) = (d : Int) := IntWalk.i64_in _ (by omega)
      have hn0 : ((n : Int) == 0) = false := by simp; omega
      have hnn : (n : Int) ≠ 0 := by omega
      obtain ⟨c0, hc0⟩ : ∃ x, x = gT xs n k ++ [108, 101, 116, 32, 118] := ⟨_, rfl⟩
      obtain ⟨c1, hc1⟩ : ∃ x, x = c0 ++ digL k := ⟨_, rfl⟩
      obtain ⟨c2, hc2⟩ : ∃ x, x = c1 ++ [32, 61, 32, 40, 118] := ⟨_, rfl⟩
      obtain ⟨c3, hc3⟩ : ∃ x, x = c2 ++ digL A := ⟨_, rfl⟩
      obtain ⟨c4, hc4⟩ : ∃ x, x = c3 ++ [44, 32, 92, 118] := ⟨_, rfl⟩
      obtain ⟨c5, hc5⟩ : ∃ x, x = c4 ++ digL B := ⟨_, rfl⟩
      obtain ⟨c6, hc6⟩ : ∃ x, x = c5 ++ [32, 45, 62, 32, 118] := ⟨_, rfl⟩
      obtain ⟨c7, hc7⟩ : ∃ x, x = c6 ++ digL B := ⟨_, rfl⟩
      obtain ⟨c8, hc8⟩ : ∃ x, x = c7 ++ [44, 32, 118] := ⟨_, rfl⟩
      obtain ⟨c9, hc9⟩ : ∃ x, x = c8 ++ digL A := ⟨_, rfl⟩
      obtain ⟨c10, hc10⟩ : ∃ x, x = c9 ++ [41, 59] := ⟨_, rfl⟩
      have lc0 : c0.length = 29 * k + 5 := by rw [hc0, List.length_append, gT_len]; simp only [List.length_cons, List.length_nil]
      have lc1 : c1.length = 29 * k + 6 := by rw [hc1, List.length_append, lc0, digL_one _ (by omega)]; simp only [List.length_cons, List.length_nil]
      have lc2 : c2.length = 29 * k + 11 := by rw [hc2, List.length_append, lc1]; simp only [List.length_cons, List.length_nil]
      have lc3 : c3.length = 29 * k + 12 := by rw [hc3, List.length_append, lc2, digL_one _ (by omega)]; simp only [List.length_cons, List.length_nil]
      have lc4 : c4.length = 29 * k + 16 := by rw [hc4, List.length_append, lc3]; simp only [List.length_cons, List.length_nil]
      have lc5 : c5.length = 29 * k + 17 := by rw [hc5, List.length_append, lc4, digL_one _ (by omega)]; simp only [List.length_cons, List.length_nil]
      have lc6 : c6.length = 29 * k + 22 := by rw [hc6, List.length_append, lc5]; simp only [List.length_cons, List.length_nil]
      have lc7 : c7.length = 29 * k + 23 := by rw [hc7, List.length_append, lc6, digL_one _ (by omega)]; simp only [List.length_cons, List.length_nil]
      have lc8 : c8.length = 29 * k + 26 := by rw [hc8, List.length_append, lc7]; simp only [List.length_cons, List.length_nil]
      have lc9 : c9.length = 29 * k + 27 := by rw [hc9, List.length_append, lc8, digL_one _ (by omega)]; simp only [List.length_cons, List.length_nil]
      have lc10 : c10.length = 29 * k + 29 := by rw [hc10, List.length_append, lc9]; simp only [List.length_cons, List.length_nil]
      have t0 := run_cat14 (P := Try.prog) (b := [108, 101, 116, 32, 118]) hc0 (by rw [gT_len]; simp only [List.length_cons, List.length_nil]; omega)
      have t1 := run_cat14 (P := Try.prog) (b := digL k) hc1 (by rw [lc0]; rw [digL_one _ (by omega)]; simp only [List.length_cons, List.length_nil]; omega)
      have t2 := run_cat14 (P := Try.prog) (b := [32, 61, 32, 40, 118]) hc2 (by rw [lc1]; simp only [List.length_cons, List.length_nil]; omega)
      have t3 := run_cat14 (P := Try.prog) (b := digL A) hc3 (by rw [lc2]; rw [digL_one _ (by omega)]; simp only [List.length_cons, List.length_nil]; omega)
      have t4 := run_cat14 (P := Try.prog) (b := [44, 32, 92, 118]) hc4 (by rw [lc3]; simp only [List.length_cons, List.length_nil]; omega)
      have t5 := run_cat14 (P := Try.prog) (b := digL B) hc5 (by rw [lc4]; rw [digL_one _ (by omega)]; simp only [List.length_cons, List.length_nil]; omega)
      have t6 := run_cat14 (P := Try.prog) (b := [32, 45, 62, 32, 118]) hc6 (by rw [lc5]; simp only [List.length_cons, List.length_nil]; omega)
      have t7 := run_cat14 (P := Try.prog) (b := digL B) hc7 (by rw [lc6]; rw [digL_one _ (by omega)]; simp only [List.length_cons, List.length_nil]; omega)
      have t8 := run_cat14 (P := Try.prog) (b := [44, 32, 118]) hc8 (by rw [lc7]; simp only [List.length_cons, List.length_nil]; omega)
      have t9 := run_cat14 (P := Try.prog) (b := digL A) hc9 (by rw [lc8]; rw [digL_one _ (by omega)]; simp only [List.length_cons, List.length_nil]; omega)
      have t10 := run_cat14 (P := Try.prog) (b := [41, 59]) hc10 (by rw [lc9]; simp only [List.length_cons, List.length_nil]; omega)
      have hlast : c10 = gT xs n (k + 1) := by
        rw [gT_succ, hA, hB, hc10, hc9, hc8, hc7, hc6, hc5, hc4, hc3, hc2, hc1, hc0, digL_one k hk10, digL_one A hAn, digL_one B hBn]
        simp [lineT, nv]
      have HL := Lib.hid hlast
      have HD1 := Lib.hid (fun w' => HDG.out k w' hk10)
      have HD2 := Lib.hid (fun w' => HDG.out A w' hAn)
      have HD3 := Lib.hid (fun w' => HDG.out B w' hBn)
      clear hx hx0 hcell hA hB hd hlast hg lc0 lc1 lc2 lc3 lc4 lc5 lc6 lc7 lc8 lc9 lc10
      obtain ⟨X0, hX0⟩ : ∃ X0, strB (gT xs n k) = X0 := ⟨_, rfl⟩
      obtain ⟨DK, hDK⟩ : ∃ X0, strB (digL k) = X0 := ⟨_, rfl⟩
      obtain ⟨DA, hDA⟩ : ∃ X0, strB (digL A) = X0 := ⟨_, rfl⟩
      obtain ⟨DB, hDB⟩ : ∃ X0, strB (digL B) = X0 := ⟨_, rfl⟩
      obtain ⟨X0', hY0⟩ : ∃ X, strB c0 = X := ⟨_, rfl⟩
      rw [show strB [108, 101, 116, 32, 118] = ⟨#[108, 101, 116, 32, 118]⟩ from rfl] at t0
      obtain ⟨X1', hX1⟩ : ∃ X, strB c1 = X := ⟨_, rfl⟩
      obtain ⟨X2', hX2⟩ : ∃ X, strB c2 = X := ⟨_, rfl⟩
      rw [show strB [32, 61, 32, 40, 118] = ⟨#[32, 61, 32, 40, 118]⟩ from rfl] at t2
      obtain ⟨X3', hX3⟩ : ∃ X, strB c3 = X := ⟨_, rfl⟩
      obtain ⟨X4', hX4⟩ : ∃ X, strB c4 = X := ⟨_, rfl⟩
      rw [show strB [44, 32, 92, 118] = ⟨#[44, 32, 92, 118]⟩ from rfl] at t4
      obtain ⟨X5', hX5⟩ : ∃ X, strB c5 = X := ⟨_, rfl⟩
      obtain ⟨X6', hX6⟩ : ∃ X, strB c6 = X := ⟨_, rfl⟩
      rw [show strB [32, 45, 62, 32, 118] = ⟨#[32, 45, 62, 32, 118]⟩ from rfl] at t6
      obtain ⟨X7', hX7⟩ : ∃ X, strB c7 = X := ⟨_, rfl⟩
      obtain ⟨X8', hX8⟩ : ∃ X, strB c8 = X := ⟨_, rfl⟩
      rw [show strB [44, 32, 118] = ⟨#[44, 32, 118]⟩ from rfl] at t8
      obtain ⟨X9', hX9⟩ : ∃ X, strB c9 = X := ⟨_, rfl⟩
      obtain ⟨X10', hX10⟩ : ∃ X, strB c10 = X := ⟨_, rfl⟩
      rw [show strB [41, 59] = ⟨#[41, 59]⟩ from rfl] at t10
      rw [hY0] at t0 t1
      rw [hX1] at t1 t2
      rw [hX2] at t2 t3
      rw [hX3] at t3 t4
      rw [hX4] at t4 t5
      rw [hX5] at t5 t6
      rw [hX6] at t6 t7
      rw [hX7] at t7 t8
      rw [hX8] at t8 t9
      rw [hX9] at t9 t10
      rw [hX10] at t10
      rw [hX0] at t0 ⊢
      rw [hDK] at t1 HD1
      rw [hDA] at t3 t9 HD2
      rw [hDB] at t5 t7 HD3
      have HX10 := Lib.hid hX10
      clear hX0 hDK hDA hDB hc0 hc1 hc2 hc3 hc4 hc5 hc6 hc7 hc8 hc9 hc10 hX1 hX2 hX3 hX4 hX5 hX6 hX7 hX8 hX9 hX10
      go_wp2_with fail
      go_quiet (fail)
      have HBE := below_drN HB.out nq
      clear HB
      go_wp2_with (first
        | (go_at_call 39; (with_reducible refine (HD1.out _ ?_).mono ?_); (with_reducible exact HBE); clear HBE; rintro e wz ⟨rfl, HBE⟩)
        | (go_at_call 39; (with_reducible refine (HD2.out _ ?_).mono ?_); (with_reducible exact HBE); clear HBE; rintro e wz ⟨rfl, HBE⟩)
        | (go_at_call 39; (with_reducible refine (HD3.out _ ?_).mono ?_); (with_reducible exact HBE); clear HBE; rintro e wz ⟨rfl, HBE⟩))
      go_roundw
      case rel => exact ⟨k + 1, by omega, by go_num, by rw [← HL.out, HX10.out], HBE⟩
      case measure => simp [intOf]; omega
    · have hkn : k = n := by omega
      subst hkn
      obtain ⟨S, hS⟩ : ∃ S, strB (gT xs k k) = S := ⟨_, rfl⟩
      rw [hS] at HY ⊢
      have hnb : O.p.binds.length ≤ 100000 := by have := HPF.out.nb; omega
      have HGR := Lib.hid (fun (S : Nat → Prop) (w' : World) (a2 : Option Addr) (c2 : Nat) (hi : InC S w' (.s O.p.binds.length 8 (O.p.binds.flatMap bdC)) (.slice a2 k c2)) => f_Graph w' O.p.binds a2 k c2 HPL.out (by omega) (fun b hb => ⟨(HPF.out.binds b hb).1, (HPF.out.binds b hb).2, by have := HPF.out.nn; have := sum_mem hb; omega⟩) hi)
      have hz0 : ((O.e : Int) != 0) = false := by rw [HPE.out]; rfl
      obtain ⟨e0, he0⟩ : ∃ e0 : Int, (O.e : Int) = e0 := ⟨_, rfl⟩
      rw [he0] at HY hz0
      have hge : ¬ ((k : Int) < (k : Int)) := by omega
      clear hS he0 hnb HDG hlt
      go_wp2_with (first
        | (go_at_call 22; (with_reducible refine (HY.out _).mono ?_); go_loud (rintro e w3 ⟨u1, u2, rfl, hv3, hb3⟩; obtain ⟨a1, a2, c1, c2, hab, hd3, hi3⟩ := hv3.pgp; simp only [Value.agg.injEq, Array.mk.injEq, List.cons.injEq, and_true] at hab; obtain ⟨rfl, rfl⟩ := hab; have hi4 := hi3.alloc (.cells #[.slice a1 O.p.datas.length c1, .slice a2 O.p.binds.length c2, .int .i64 e0, .int .i64 O.at_] 49); have hb4 := (HB.out.trans (hb3.mono HB.out.size)).alloc (HB.out.trans (hb3.mono HB.out.size)).size (.cells #[.slice a1 O.p.datas.length c1, .slice a2 O.p.binds.length c2, .int .i64 e0, .int .i64 O.at_] 49); have hbx := Box.new w3 49 [.slice a1 O.p.datas.length c1, .slice a2 O.p.binds.length c2, .int .i64 e0, .int .i64 O.at_]; have HG4 := Lib.hid (HGR.out _ _ a2 c2 (by rw [← HPL.out]; exact hi4)); rw [HPL.out] at hb4 hbx HG4 ⊢; have HB4 := Lib.hid hb4; have HBX := Lib.hid hbx; clear hv3 hd3 hi3 hi4 hb3 hb4 hbx HB HY HGR))
        | (go_at_call 37; (with_reducible refine (HG4.out).mono ?_); go_loud (rintro e w5 ⟨a5, c5, rfl, h5, hb5⟩; have HI5 := Lib.hid h5; have HB5 := Lib.hid (HB4.out.trans (hb5.mono HB4.out.size)); have bx5 := HBX.out.below hb5; obtain ⟨_, _, _, _⟩ := four_all15 bx5; have bl5 := bx5.lt; clear h5 hb5 bx5)))
      have HB50 : Hid (Below w5.heap.size w5 w5) := Below.refl _ _
      go_loopw [10] (fun iv wr => ∃ i : Nat, i ≤ k ∧ iv = .int .i64 (i : Int) ∧ Hid (Below w5.heap.size w5 wr)) (fun iv _ => k - (intOf iv).toNat)
      case atStart => exact ⟨0, Nat.zero_le _, rfl, HB50⟩
      case round =>
        rename World => wr
        clear HB50
        obtain ⟨i, hi, rfl, HBR⟩ := hrel
        by_cases hlt : i < k
        · have hrow := HR.out.2.resolve_left (by omega)
          obtain ⟨g, off, rfl, _, hg, hcell⟩ := hrow
          have hx0 := hcell i (by omega)
          obtain ⟨x, hx⟩ : ∃ x, xs.getD i 0 = x := ⟨_, rfl⟩
          rw [hx] at hx0
          have hx5 := (HB5.out.cell (p := ⟨g, off + i, none⟩) hg).trans hx0
          have hs5 := HB5.out.size
          have hxw := (HBR.out.cell (p := ⟨g, off + i, none⟩) (by show g < _; omega)).trans hx5
          have hsr := HBR.out.size
          have hgw : g < wr.heap.size := by omega
          obtain ⟨A, hA⟩ : ∃ A, aOf xs k i = A := ⟨_, rfl⟩
          have hAk : A < k := by rw [← hA]; exact Nat.mod_lt _ (by omega)
          have hxl : x ≤ 255 := by
            rw [← hx]
            by_cases hkl : i < xs.length
            · have : xs.getD i 0 = xs[i] := by simp [List.getD, List.getElem?_eq_getElem hkl]
              rw [this]; exact HLE.out _ (List.getElem_mem _)
            · have : xs.getD i 0 = 0 := by simp [List.getD, List.getElem?_eq_none (by omega : xs.length ≤ i)]
              omega
          have eA : (x : Int).tmod (k : Int) = (A : Int) := by rw [Int.tmod_eq_emod_of_nonneg (by omega), ← hA]; unfold aOf; rw [hx]; exact (Int.natCast_emod x k).symm
          have eA2 : (x : Int) % (k : Int) = (A : Int) := by rw [← eA, Int.tmod_eq_emod_of_nonneg (by omega)]
          have hr1 : (graphL O.p.binds)[i]? = some [((A : Nat) : Int)] := by
            rw [HPG.out, List.getElem?_map, List.getElem?_range hlt]; show some [((aOf xs k i : Nat) : Int)] = _; rw [hA]
          obtain ⟨b1, o1, b2, o2, d2, rfl, hb1, hb2, r1, r2⟩ := (HI5.out.under HBR.out).row1 hr1
          have hk0 : ((k : Int) == 0) = false := by simp; omega
          have hkk : (k : Int) ≠ 0 := by omega
          clear hx hcell hx0 hx5 hA hr1 hg
          go_wp2_with fail
          go_quiet (fail)
          go_wp2_with fail
          go_roundw
          case rel => exact ⟨i + 1, by omega, by go_num, below_drN HBR.out _⟩
          case measure => simp [intOf]; omega
        · have HB9 := Lib.hid (HB5.out.trans (HBR.out.mono HB5.out.size))
          have hge2 : ¬ ((i : Int) < (k : Int)) := by omega
          clear hlt
          go_wp2_with (go_at_call 32; (with_reducible refine (H4.out _).mono ?_); rintro e w7 ⟨rfl, hb7⟩; have HB7 := Lib.hid hb7; clear hb7)
          go_ret
          exact ⟨rfl, HB9.out.trans (HB7.out.mono HB9.out.size)⟩

end Go.Proofs.Ytgkeblpjmfdhkaa
