/- A graph that came in as an argument; Great of the statements. -/
import Derived.Test.YtdbjmonboecfgaaGaw
import Derived.ProofKit
import Derived.OpenShut
import Derived.Lib.SmallJoins
import Derived.Deep.Matrix
import Derived.SizedLaws
import Derived.Test.YtdbjmonboecfgaaOpen
namespace Go.Proofs.Ytdbjmonboecfgaa
open Go.RowKit Go.Maps Go.WideShapes Go.ChangeShapes
set_option linter.unusedVariables false
set_option linter.unusedSimpArgs false

/-- A graph of whatever size that memory may hold. -/
def GW (hi : Nat) (w : World) (a : Option Addr) (n : Nat) (g : Gr) : Prop :=
  g.length = n ∧ n ≤ 17592186044416 ∧ (∀ i, (rowG g i).length ≤ 17592186044416) ∧ (n = 0 ∨ ∃ b off, a = some ⟨b, off, none⟩ ∧ b < hi ∧ ∀ i, i < n → ∃ ai ci, w.cell? ⟨b, off + i, none⟩ = some (.slice ai (rowG g i).length ci) ∧ Row 0 hi w ai (rowG g i).length (rowG g i))
theorem GW.gi {hi : Nat} {w : World} {a : Option Addr} {n : Nat} {g : Gr} (h : GW hi w a n g) (hn : n ≤ 1000000) (hr : ∀ i, (rowG g i).length ≤ 1000000) : GI hi w a n g := ⟨h.1, hn, hr, h.2.2.2⟩
theorem weights_row {H : Type} {P : Program} {e : TypeId} {ds : List (DataW H)} {d : DataW H} (hd : d ∈ ds) {n : Nat} (hn : n ∈ d.weights P e) : n ∈ DataW.weightsAll P e ds := by
  induction ds with
  | nil => simp at hd
  | cons x r ih =>
    simp only [DataW.weightsAll, List.mem_append]
    rcases List.mem_cons.1 hd with rfl | hd
    · exact .inl hn
    · exact .inr (ih hd)
theorem GW_of_trod {H : Type} {enc : TypeId × Value → H} {P : Program} {w : World} {t e q : TypeId} {fuel : Nat} {cs : List Value} {x : DataW H × List MemPlace} {a : Option Addr} {len cap : Nat}
    (ht : P.underlying t = some (.slice e)) (he : P.underlying e = some (.slice q)) (hq : P.underlying q = some (.int .i64)) (ce : P.cellsOf e = 1) (cq : P.cellsOf q = 1) (be : P.bytesOf e = 24) (bq : P.bytesOf q = 8)
    (h : DataW.trod enc P w 0 (fun _ => true) true fuel t cs = some x) (hcs : cs = [.slice a len cap]) (hw : ∀ n ∈ x.1.weights P t, n ≤ reachBytes) : ∃ g, GW w.heap.size w a len g := by
  subst hcs
  have hrb : reachBytes ≤ 140737488355328 := by have := reachBytes_lt; omega
  rcases Deep.open_int_rows ht he hq ce cq h with ⟨hcs, _⟩ | ⟨y, l, c, A, L, C, Z, hcs, _, hl, hm, hx, hrow⟩
  · simp at hcs
    obtain ⟨rfl, rfl, rfl⟩ := hcs
    exact ⟨[], rfl, by omega, fun i => by simp [rowG], .inl rfl⟩
  · simp at hcs
    obtain ⟨rfl, rfl, rfl⟩ := hcs
    subst hx
    simp only [DataW.weights, ht] at hw
    have hlen : len ≤ 17592186044416 := by
      have := hw _ (List.mem_cons_self ..)
      rw [be] at this
      simp at this
      omega
    have hg : ∀ i, rowG ((List.range len).map fun r => (Z r).take (L r)) i = if i < len then (Z i).take (L i) else [] := fun i => by
      by_cases h : i < len <;> simp [rowG, List.getD, h]
    have hL : ∀ i, i < len → (Z i).length = C i ∧ L i ≤ C i ∧ L i ≤ 17592186044416 := fun i hi => by
      obtain ⟨_, h2, _, h4, _, h6, _⟩ := hrow i (by omega)
      refine ⟨h4, h2, ?_⟩
      cases hA : A i with
      | none => have := h6 hA; omega
      | some y' =>
        have h9 := hw ((C i) * 8) (by
          refine List.mem_cons_of_mem _ (List.mem_append.2 (.inl (weights_row (d := Deep.intRow .i64 (A i) (L i) (Z i)) (List.mem_map.2 ⟨i, by simpa using hi, rfl⟩) ?_)))
          rw [hA]
          simp only [Deep.intRow, DataW.weights, he, bq]
          refine List.mem_cons.2 (.inl ?_)
          simp [lits]
          omega)
        omega
    refine ⟨(List.range len).map fun r => (Z r).take (L r), by simp, hlen, fun i => ?_, ?_⟩
    · rw [hg]
      split
      · rename_i hi
        rw [List.length_take]
        have := hL i hi
        omega
      · simp
    · by_cases h0 : len = 0
      · exact .inl h0
      · obtain ⟨b, off, spot⟩ := y
        have hc := (hrow 0 (by omega)).1
        have hspot : spot = none := by simpa [Addr.add] using World.cell?_spot hc
        subst hspot
        refine .inr ⟨b, off, rfl, World.block_lt_of_cell? _ _ hc, fun k hk => ?_⟩
        obtain ⟨h1, h2, h3, h4, h5, h6, h7⟩ := hrow k (by omega)
        rw [Addr.add_lit] at h1
        rw [hg, if_pos hk]
        have hlk : ((Z k).take (L k)).length = L k := by rw [List.length_take]; omega
        rw [hlk]
        refine ⟨A k, C k, h1, ?_⟩
        cases hA : A k with
        | none =>
          have hz : L k = 0 := by have := h6 hA; omega
          exact ⟨hlk, .inl hz⟩
        | some y =>
          exact RowF.of_cells (f := Value.int .i64) (d := (0 : Int)) h2 h4 (fun i hi => (h7 y hA).2 i (by omega))

/-! ### Great -/
def sumG (g : Gr) (i : Nat) : Nat := ((List.range i).map fun j => (rowG g j).length).sum
theorem sumG_succ (g : Gr) (i : Nat) : sumG g (i + 1) = sumG g i + (rowG g i).length := by
  unfold sumG; rw [List.range_succ, List.map_append, List.sum_append]; simp
theorem sumG_le {g : Gr} (h : ∀ i, (rowG g i).length ≤ 17592186044416) (i : Nat) : sumG g i ≤ i * 17592186044416 := by
  induction i with
  | zero => simp [sumG]
  | succ i ih => rw [sumG_succ]; have := h i; omega
theorem sumG_row {g : Gr} {i j : Nat} (h : i < j) : (rowG g i).length ≤ sumG g j := by
  induction j with
  | zero => omega
  | succ j ih =>
    rw [sumG_succ]
    by_cases e : i = j
    · subst e; omega
    · have := ih (by omega); omega
def greatB (g : Gr) : Bool := decide (40 < g.length ∨ 300 < sumG g (min g.length 60))

set_option maxRecDepth 100000 in
set_option maxHeartbeats 2000000 in
theorem great_any {hi : Nat} (a : Option Addr) (n c : Nat) (g : Gr) (w : World) (hg : GW hi w a n g) :
    Calls Try.prog 14 #[.slice a n c] w fun e w' => e = .returned (.bool (greatB g)) ∧ w' = w := by
  obtain ⟨hgl, hn, hr, hz⟩ := hg
  obtain ⟨gb, hgb⟩ : ∃ b, greatB g = b := ⟨_, rfl⟩
  rw [hgb]
  have HGB := Lib.hid hgb
  have HGL := Lib.hid hgl
  have HR := Lib.hid hr
  have HZ := Lib.hid hz
  clear hgb hgl hr hz
  go_enter Try.func14, Try.ntmps14
  go_wp2_with fail
  have HS0 : Hid (sumG g 0 = 0) := by show _ = _; unfold sumG; rfl
  go_loopw [3, 4] (fun sv iv wr => ∃ (i s : Nat), i ≤ n ∧ i ≤ 60 ∧ iv = .int .i64 (i : Int) ∧ sv = .int .i64 (s : Int) ∧ Hid (sumG g i = s) ∧ wr = w) (fun _ iv _ => n - (intOf iv).toNat)
  case atStart => exact ⟨0, 0, Nat.zero_le _, by omega, rfl, rfl, HS0, rfl⟩
  case round =>
    obtain ⟨i, s, hi1, hi2, rfl, rfl, HS, rfl⟩ := hrel
    have hs : s ≤ 1055531162664960 := by
      have h9 := sumG_le HR.out i
      have h10 := HS.out
      omega
    by_cases h1 : i < n
    · by_cases h2 : i < 60
      · obtain ⟨b, off, rfl, hb, hc⟩ := HZ.out.resolve_left (by omega)
        obtain ⟨ai, ci, q1, _⟩ := hc i h1
        obtain ⟨L, hL⟩ : ∃ L, (rowG g i).length = L := ⟨_, rfl⟩
        have hLs : L ≤ 17592186044416 := by rw [← hL]; exact HR.out i
        have HS2 : Hid (sumG g (i + 1) = s + L) := by show _ = _; rw [sumG_succ, HS.out, hL]
        rw [hL] at q1
        have hbw := World.block_lt_of_cell? _ _ q1
        dsimp only at hbw
        have T1 : ∀ W, Sem.run Try.prog (Instr.indexAt 23 (.slice (some ⟨b, off, none⟩) n c) (.int .i64 (i : Int))) W = .ok (.pointer (some ⟨b, off + i, none⟩)) W := fun W => by go_simp
        clear hc hL
        go_wp2_with fail
        go_roundw
        case rel => exact ⟨i + 1, s + L, by omega, by omega, by go_num, by go_num, HS2, by first | rfl | trivial⟩
        case measure => simp [intOf]; omega
      · have hi60 : i = 60 := by omega
        have HE : Hid (gb = decide (40 < n ∨ 300 < s)) := by
          show _ = _
          rw [← HGB.out]; unfold greatB
          rw [HGL.out, show min n 60 = i by omega, HS.out]
        have e1 : decide ((40 : Int) < (n : Int)) = true := decide_eq_true (by omega)
        have e2 : decide ((i : Int) < 60) = false := decide_eq_false (by omega)
        have e2' : decide (i < 60) = false := decide_eq_false h2
        clear hi60
        go_wp2_with fail
        go_ret
        exact ⟨by rw [HE.out, decide_eq_true (show 40 < n ∨ 300 < s from .inl (by omega))]; rfl, rfl⟩
    · have hin : i = n := by omega
      have HE : Hid (gb = decide (40 < n ∨ 300 < s)) := by
        show _ = _
        rw [← HGB.out]; unfold greatB
        rw [HGL.out, show min n 60 = i by omega, HS.out]
      by_cases h40 : 40 < n
      · have e1 : decide ((40 : Int) < (n : Int)) = true := decide_eq_true (by omega)
        have hge : ¬ ((i : Int) < (n : Int)) := by omega
        clear hin
        go_wp2_with fail
        go_ret
        exact ⟨by rw [HE.out, decide_eq_true (show 40 < n ∨ 300 < s from .inl h40)]; rfl, rfl⟩
      · have e1 : decide ((40 : Int) < (n : Int)) = false := decide_eq_false (by omega)
        have hge : ¬ ((i : Int) < (n : Int)) := by omega
        have HE2 : Hid (gb = decide (300 < s)) := by
          show _ = _
          rw [HE.out, decide_eq_decide]
          exact ⟨fun h => h.resolve_left h40, .inr⟩
        have e3 : decide ((300 : Int) < (s : Int)) = decide (300 < s) := by rw [decide_eq_decide]; omega
        clear hin
        go_wp2_with fail
        go_ret
        first | exact ⟨by rw [HE2.out]; rfl, rfl⟩ | exact ⟨by rw [HE2.out, ← e3]; rfl, rfl⟩

end Go.Proofs.Ytdbjmonboecfgaa
