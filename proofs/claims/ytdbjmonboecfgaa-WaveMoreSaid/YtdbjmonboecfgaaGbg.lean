/- Package scc: begin. -/
import Derived.Test.YtdbjmonboecfgaaGst
import Derived.RegionTactic
import Derived.BigRegion
namespace Go.Proofs.Ytdbjmonboecfgaa
open Go.RowKit Go.Maps
set_option linter.unusedVariables false
set_option linter.unusedSimpArgs false

theorem mem5 {P : Nat → Prop} {a b c d e : Nat} (ha : P a) (hb : P b) (hc : P c) (hd : P d) (he : P e) : ∀ q ∈ [a, b, c, d, e], P q := by
  intro q hq
  simp only [List.mem_cons, List.not_mem_nil, or_false] at hq
  rcases hq with rfl | rfl | rfl | rfl | rfl <;> assumption
theorem below_alloc {B : Nat} {w w' : World} (h : Below B w w') (hB : B ≤ w.heap.size) (o : Obj) : Below B w (w'.alloc o) := h.alloc (Nat.le_trans hB h.size) o
theorem alloc_at (w : World) (o : Obj) : (w.alloc o).heap[w.heap.size]? = some o := by
  show (w.heap.push o)[w.heap.size]? = some o
  rw [Array.getElem?_push, if_pos rfl]
theorem alloc5 (w : World) (o1 o2 o3 o4 o5 : Obj) : (((((w.alloc o1).alloc o2).alloc o3).alloc o4).alloc o5).drew.heap[w.heap.size]? = some o1 ∧ (((((w.alloc o1).alloc o2).alloc o3).alloc o4).alloc o5).drew.heap[w.heap.size + 1]? = some o2 ∧ (((((w.alloc o1).alloc o2).alloc o3).alloc o4).alloc o5).drew.heap[w.heap.size + 1 + 1]? = some o3 ∧ (((((w.alloc o1).alloc o2).alloc o3).alloc o4).alloc o5).drew.heap[w.heap.size + 1 + 1 + 1]? = some o4 ∧ (((((w.alloc o1).alloc o2).alloc o3).alloc o4).alloc o5).drew.heap[w.heap.size + 1 + 1 + 1 + 1]? = some o5 := by
  have s1 := World.size_alloc w o1
  have s2 := World.size_alloc (w.alloc o1) o2
  have s3 := World.size_alloc ((w.alloc o1).alloc o2) o3
  have s4 := World.size_alloc (((w.alloc o1).alloc o2).alloc o3) o4
  have a1 := alloc_at w o1
  have a2 := alloc_at (w.alloc o1) o2
  have a3 := alloc_at ((w.alloc o1).alloc o2) o3
  have a4 := alloc_at (((w.alloc o1).alloc o2).alloc o3) o4
  have a5 := alloc_at ((((w.alloc o1).alloc o2).alloc o3).alloc o4) o5
  rw [s1] at a2
  rw [s2, s1] at a3
  rw [s3, s2, s1] at a4
  rw [s4, s3, s2, s1] at a5
  show (((((w.alloc o1).alloc o2).alloc o3).alloc o4).alloc o5).heap[_]? = _ ∧ (((((w.alloc o1).alloc o2).alloc o3).alloc o4).alloc o5).heap[_]? = _ ∧ (((((w.alloc o1).alloc o2).alloc o3).alloc o4).alloc o5).heap[_]? = _ ∧ (((((w.alloc o1).alloc o2).alloc o3).alloc o4).alloc o5).heap[_]? = _ ∧ (((((w.alloc o1).alloc o2).alloc o3).alloc o4).alloc o5).heap[_]? = _
  refine ⟨?_, ?_, ?_, ?_, a5⟩
  · rw [Below.heap_alloc _ _ _ (by omega), Below.heap_alloc _ _ _ (by omega), Below.heap_alloc _ _ _ (by omega), Below.heap_alloc _ _ _ (by omega), a1]
  · rw [Below.heap_alloc _ _ _ (by omega), Below.heap_alloc _ _ _ (by omega), Below.heap_alloc _ _ _ (by omega), a2]
  · rw [Below.heap_alloc _ _ _ (by omega), Below.heap_alloc _ _ _ (by omega), a3]
  · rw [Below.heap_alloc _ _ _ (by omega), a4]
theorem begin_done {w w' : World} {b mb cb eb fb n : Nat} {ag : Option Addr} {cg : Nat} {M : Array Value} (hM : (List.replicate n (Value.int .i64 0)).toArray = M) (hb : w'.heap[b]? = some (.cells #[.slice ag n cg, .slice none 0 0, .map (some mb), .slice none 0 0, .int .i64 0, .slice (some ⟨cb, 0, none⟩) n n, .slice (some ⟨eb, 0, none⟩) n n, .slice (some ⟨fb, 0, none⟩) n n] 50))
    (h1 : w'.heap[cb]? = some (.cells M 3)) (h2 : w'.heap[eb]? = some (.cells M 3)) (h3 : w'.heap[fb]? = some (.cells M 3)) (hm : w'.heap[mb]? = some (.map #[] 0))
    (hd : [b, mb, cb, eb, fb].Nodup) (hl : ∀ q ∈ [b, mb, cb, eb, fb], w.heap.size ≤ q) (hB : Below w.heap.size w w') : ∃ c : WB, Ending.returned (.pointer (some ⟨b, 0, none⟩)) = Ending.returned (.pointer (some ⟨c.b, 0, none⟩)) ∧ c.base = w.heap.size ∧ c.n = n ∧ c.gv = .slice ag n cg ∧ WK c w' (.slice none 0 0) (.slice none 0 0) 0 (fun _ _ => 0) (St.zero n) ∧ Below w.heap.size w w' := by
  have e : List.replicate n (Value.int .i64 0) = intsOf (List.replicate n 0) := by simp [intsOf]
  rw [e] at hM
  rw [← hM] at h1 h2 h3
  refine ⟨⟨w.heap.size, b, mb, cb, eb, fb, n, .slice ag n cg⟩, rfl, rfl, rfl, rfl, ⟨hb, World.ownsRow_nil _ _ _ _, World.ownsRow_nil _ _ _ _, h1, h2, h3, ?_, ⟨hd, hl, by simp [Value.ownBlock], by simp [Value.ownBlock], by simp [Value.ownBlock]⟩⟩, hB⟩
  have hmb : mb < w'.heap.size := (Array.getElem?_eq_some_iff.1 hm).1
  have h0 := World.ownsMap_made { w' with heap := w'.heap.extract 0 mb } Try.prog 53 (plainElem (H := Unit) Try.prog 3)
  have hs : (w'.heap.extract 0 mb).size = mb := by simp; omega
  dsimp only at h0
  rw [hs] at h0
  refine ⟨_, ownsMap_agree h0 (hm.trans ?_), isMap_empty, fun x y kl _ _ _ => rfl⟩
  have : ((w'.heap.extract 0 mb).push (Obj.map #[] 0))[mb]? = some (Obj.map #[] 0) := by rw [Array.getElem?_push, hs, if_pos rfl]
  exact this.symm

set_option maxRecDepth 100000 in
set_option maxHeartbeats 4000000 in
theorem begin_any (ag : Option Addr) (n cg : Nat) (w : World) (hn : n ≤ 1000000) :
    Calls Try.prog 21 #[.slice ag n cg] w fun e w' => ∃ c : WB, e = .returned (.pointer (some ⟨c.b, 0, none⟩)) ∧ c.base = w.heap.size ∧ c.n = n ∧ c.gv = .slice ag n cg ∧ WK c w' (.slice none 0 0) (.slice none 0 0) 0 (fun _ _ => 0) (St.zero n) ∧ Below w.heap.size w w' := by
  have hmm := @run_makeMap Try.prog
  obtain ⟨i0, hi0, hz0, hz1, hz2⟩ := info_parts Try.info3
  have hmk : ∀ W : World, (Instr.makeSlice 26 (.int .i64 (n : Int)) (.int .i64 (n : Int))).run Try.prog W = .ok (.slice (some ⟨W.heap.size, 0, none⟩) n n) (W.alloc (.cells (List.replicate n (Value.int .i64 0)).toArray 3)) := fun W => by
    have h := run_make (P := Try.prog) W 26 3 i0 (.int .i64 0) Try.underlying26 hi0 hz0 .i64 .i64 (n : Int) (n : Int) (by omega) (by omega) (by rw [hz2]; omega) (by omega)
    rw [hz1] at h
    have hm : madeCells (Value.int .i64 0).cells (((n : Nat) : Int).toNat * 1) = (List.replicate n (Value.int .i64 0)).toArray := by
      apply Array.ext'
      have := toList_madeCells_one (Value.int .i64 0) n
      rw [show (Value.int .i64 0).cells = #[Value.int .i64 0] from rfl]
      simpa using this
    rw [hm] at h
    simpa using h
  obtain ⟨M, hM⟩ : ∃ M, (List.replicate n (Value.int .i64 0)).toArray = M := ⟨_, rfl⟩
  rw [hM] at hmk
  have HM := Lib.hid hM
  clear hi0 hz0 hz1 hz2 hM
  go_enter Try.func21, Try.ntmps21
  go_wp2_with fail
  go_region
  all_goals go_wp2_with fail
  all_goals go_ret
  all_goals refine begin_done HM.out (alloc5 _ _ _ _ _ _).2.2.2.2 (by first | exact (alloc5 _ _ _ _ _ _).1 | exact (alloc5 _ _ _ _ _ _).2.1 | exact (alloc5 _ _ _ _ _ _).2.2.1 | exact (alloc5 _ _ _ _ _ _).2.2.2.1) (by first | exact (alloc5 _ _ _ _ _ _).1 | exact (alloc5 _ _ _ _ _ _).2.1 | exact (alloc5 _ _ _ _ _ _).2.2.1 | exact (alloc5 _ _ _ _ _ _).2.2.2.1) (by first | exact (alloc5 _ _ _ _ _ _).1 | exact (alloc5 _ _ _ _ _ _).2.1 | exact (alloc5 _ _ _ _ _ _).2.2.1 | exact (alloc5 _ _ _ _ _ _).2.2.2.1) (by first | exact (alloc5 _ _ _ _ _ _).1 | exact (alloc5 _ _ _ _ _ _).2.1 | exact (alloc5 _ _ _ _ _ _).2.2.1 | exact (alloc5 _ _ _ _ _ _).2.2.2.1) (by simp; try omega) (by simp; try omega) (by repeat (first | exact Below.refl _ _ | refine Below.drew ?_ | refine below_alloc ?_ (Nat.le_refl _) _))

end Go.Proofs.Ytdbjmonboecfgaa
