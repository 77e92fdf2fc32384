/- Package term's writer: a strings.Builder within a struct of its own: what it writes. -/
import Derived.Test.YtpfcpeljfgmjgaaDoorKfr
import Derived.Lib.Builder
import Derived.Lib.AppendStr
import Derived.Lib.UnsafeStr
import Derived.Lib.Walk
import Derived.Laws.Externs
namespace Go.Proofs.YtpfcpeljfgmjgaaDoor
open Go.RowKit Go.Maps
set_option linter.unusedVariables false
set_option linter.unusedSimpArgs false

theorem Tryd.wSize : (Tryd.prog.info? 116).map (·.size) = some 2 := by kernel_rfl
theorem Tryd.wLies : liesAt Tryd.prog Tryd.prog.depth 118 (2 / Tryd.prog.cellsOf 118) 0 116 1 = true := by kernel_rfl
theorem Tryd.wByte : (Tryd.prog.info? 5).map (fun i => (i.zero, i.size, i.bytes)) = some (some (.int .u8 0), 1, 1) := by kernel_rfl
theorem Tryd.wCells : Tryd.prog.cellsOf 5 = 1 := by kernel_rfl
theorem Tryd.wu : (118 : TypeId) ≠ 5 := by decide
theorem Tryd.tu : (47 : TypeId) ≠ 5 := by decide
/-- The writer in block b, with these bytes. -/
structure WR (w : World) (B b : Nat) (p v : Value) (l : By) : Prop where
  box : Box w b 118 [p, v]
  own : w.ownsRow B 5 1 v l.length (Lib.byteCells l)
  bb : B ≤ b
def WS (w : World) (B b : Nat) (l : By) : Prop := ∃ p v, (p = .pointer none ∨ p = .pointer (some ⟨b, 0, none⟩)) ∧ WR w B b p v l
def Wrote (B b : Nat) (l : By) (w w' : World) : Prop := WS w' B b l ∧ Fr B (fun q => q = b) 5 w w'
theorem WR.agree {w w' : World} {B b : Nat} {p v : Value} {l : By} (h : WR w B b p v l) (hb : Below w.heap.size w w') : WR w' B b p v l :=
  ⟨h.box.below hb, own_ag17 h.own (fun q hq => hb.block q (own_lo17 h.own q hq).2), h.bb⟩
theorem WS.agree {w w' : World} {B b : Nat} {l : By} (h : WS w B b l) (hb : Below w.heap.size w w') : WS w' B b l := by
  obtain ⟨p, v, h1, h2⟩ := h; exact ⟨p, v, h1, h2.agree hb⟩
theorem WS.lt {w : World} {B b : Nat} {l : By} (h : WS w B b l) : b < w.heap.size := by
  obtain ⟨p, v, h1, h2⟩ := h; exact h2.box.lt

set_option maxHeartbeats 1000000 in
set_option maxRecDepth 100000 in
/-- copyCheck of one that has been written. -/
theorem ty_check1 (b : Nat) (w : World) (h0 : w.cell? ⟨b, 0, none⟩ = some (.pointer (some ⟨b, 0, none⟩))) :
    Calls Tryd.prog 127 #[.pointer (some ⟨b, 0, none⟩)] w fun e w' => e = .returned (.tuple #[]) ∧ w' = w := by
  obtain ⟨j, hj, _⟩ := Option.map_eq_some_iff.1 Tryd.wSize
  go_enter Tryd.func127, Tryd.ntmps127
  go_wp2
  rw [Lib.run_neq_ptr_same w _ Tryd.underlying114 hj]
  go_wp2
  go_end0
  exact ⟨rfl, rfl⟩
set_option maxHeartbeats 1000000 in
set_option maxRecDepth 100000 in
/-- copyCheck of a new one. -/
theorem ty_check0 (b : Nat) (w : World) (h0 : w.cell? ⟨b, 0, none⟩ = some (.pointer none)) (hsh : w.shape? b = some (118, 2)) (hfz : w.frozen? ⟨b, 0, none⟩ = false) :
    Calls Tryd.prog 127 #[.pointer (some ⟨b, 0, none⟩)] w fun e w' => e = .returned (.tuple #[]) ∧ w' = w.setCell ⟨b, 0, none⟩ (.pointer (some ⟨b, 0, none⟩)) := by
  obtain ⟨j, hj, hjs⟩ := Option.map_eq_some_iff.1 Tryd.wSize
  go_enter Tryd.func127, Tryd.ntmps127
  go_wp2
  rw [Lib.run_to_unsafe w ⟨b, 0, none⟩ Tryd.underlying114 Tryd.underlying198 hj (by rw [hjs]; decide) hsh (Nat.zero_lt_succ 1)]
  simp only [Result.andThen]
  rw [Oper.upon_value]
  go_wp2
  rw [run_callFunc_extern Tryd.func133 (by kernel_rfl) (by kernel_rfl) (by kernel_rfl) (e := Extern.AbiNoEscape.same) (by kernel_rfl)]
  rw [Lib.run_noEscape]
  simp only [Result.andThen]
  rw [Oper.upon_value]
  go_wp2
  rw [Lib.run_from_unsafe w ⟨b, 0, none⟩ Tryd.underlying198 Tryd.underlying114 hj hsh Tryd.wLies]
  simp only [Result.andThen]
  rw [Oper.upon_value]
  go_wp2
  go_end0
  exact ⟨rfl, rfl⟩
theorem ty_check (w : World) (B b : Nat) (l : By) (h : WS w B b l) (hB : B ≤ w.heap.size) :
    Calls Tryd.prog 127 #[.pointer (some ⟨b, 0, none⟩)] w fun e w' => e = .returned (.tuple #[]) ∧ (∃ v, WR w' B b (.pointer (some ⟨b, 0, none⟩)) v l) ∧ Fr B (fun q => q = b) 5 w w' := by
  obtain ⟨p, v, hp, hw⟩ := h
  rcases hp with rfl | rfl
  · have hsh : w.shape? b = some (118, 2) := by
      have h1 : w.heap[b]? = some (.cells #[.pointer none, v] 118 (0, 0)) := hw.box
      simp [World.shape?, h1]
    refine (ty_check0 b w (hw.box.cell 0) hsh (hw.box.frozen 0)).mono ?_
    rintro e w' ⟨rfl, rfl⟩
    exact ⟨rfl, ⟨v, hw.box.set 0 (.pointer (some ⟨b, 0, none⟩)), own_ag17 hw.own (fun q hq => Below.heap_setCell _ ⟨b, 0, none⟩ _ q (fun e => own_ne17 hw.own hw.box Tryd.wu (by rw [hq]; exact congrArg some e))), hw.bb⟩, (Fr.refl B (fun q => q = b) 5 w).set (p := ⟨b, 0, none⟩) rfl hw.bb _⟩
  · refine (ty_check1 b w (hw.box.cell 0)).mono ?_
    rintro e w' ⟨rfl, rfl⟩
    exact ⟨rfl, ⟨v, hw⟩, Fr.refl _ _ _ _⟩

set_option maxHeartbeats 2000000 in
set_option maxRecDepth 100000 in
theorem ty_WriteString (w : World) (B b : Nat) (l s : By) (z : ByteArray) (hz : z.data.toList = s) (h : WS w B b l) (hlen : l.length + s.length ≤ 100000000000000) (hB : B ≤ w.heap.size) :
    Calls Tryd.prog 113 #[.pointer (some ⟨b, 0, none⟩), .string z] w fun e w' => (∃ m : Nat, e = .returned (.tuple #[.int .i64 m, .nilIface])) ∧ Wrote B b (l ++ s) w w' := by
  obtain ⟨i0, hi, hz0, hz1, hz2⟩ := info_parts Tryd.wByte
  have hzs : z.size = s.length := by rw [← hz]; simp
  have HC := Lib.hid (ty_check w B b l h hB)
  rw [← hzs] at hlen
  have HZS := Lib.hid hzs
  have HZ := Lib.hid hz
  clear h hzs hz
  go_enter Tryd.func113, Tryd.ntmps113
  go_wp2_with (go_at_call 127; (with_reducible refine (HC.out).mono ?_))
  rintro e w1 ⟨rfl, ⟨v, hw1⟩, hf1⟩
  have HW1 := Lib.hid hw1
  have HF1 := Lib.hid hf1
  obtain ⟨_, _, _, _⟩ := two_all17 hw1.box
  have hbl := hw1.box.lt
  have hs1 := hf1.size
  clear hw1 hf1
  go_wp2_with (at_builtin; refine Lib.wpList_append_own_string _ rfl _ _ 35 9 rfl B 5 i0 Tryd.underlying35 Tryd.underlying9 hi hz0 hz1 hz2 _ _ _ rfl HW1.out.own z rfl ?c3 ?c4 ?c5 ?_)
  case c3 => unfold maxLen; omega
  case c4 => omega
  case c5 => omega
  intro v' w2 hown' hgrow _
  have hb2 : Box w2 b 118 [.pointer (some ⟨b, 0, none⟩), v] := (hgrow.block b HW1.out.box.lt (fun e => own_ne17 HW1.out.own HW1.out.box Tryd.wu e.symm)).trans HW1.out.box
  have HF2 := Lib.hid (HF1.out.row HW1.out.own hgrow hB)
  have HB2 := Lib.hid hb2
  obtain ⟨_, _, _, _⟩ := two_all17 hb2
  have hbl2 := hb2.lt
  have HO2 := Lib.hid hown'
  obtain ⟨a2, c2, rfl⟩ := own_shape17 hown'
  clear hown' hgrow hb2
  go_wp2
  go_ret2
  have hbc : Lib.byteCells l ++ Lib.strCells z = Lib.byteCells (l ++ s) := by rw [← HZ.out]; simp [Lib.strCells, Lib.byteCells]
  refine ⟨⟨z.size, rfl⟩, ⟨.pointer (some ⟨b, 0, none⟩), .slice a2 (l.length + z.size) c2, .inr rfl, HB2.out.set 1 _, ?_, HW1.out.bb⟩, HF2.out.set (p := ⟨b, 1, none⟩) rfl HW1.out.bb _⟩
  rw [List.length_append, ← HZS.out, ← hbc]
  exact own_ag17 HO2.out (fun q hq => Below.heap_setCell _ ⟨b, 1, none⟩ _ q (fun e => own_ne17 HO2.out HB2.out Tryd.wu (by rw [hq]; exact congrArg some e)))

set_option maxHeartbeats 2000000 in
set_option maxRecDepth 100000 in
theorem ty_WriteByte (w : World) (B b : Nat) (l : By) (c : UInt8) (n : Int) (hn : n = (c.toNat : Int)) (h : WS w B b l) (hlen : l.length + 1 ≤ 100000000000000) (hB : B ≤ w.heap.size) :
    Calls Tryd.prog 112 #[.pointer (some ⟨b, 0, none⟩), .int .u8 n] w fun e w' => e = .returned .nilIface ∧ Wrote B b (l ++ [c]) w w' := by
  obtain ⟨i0, hi, hz0, hz1, hz2⟩ := info_parts Tryd.wByte
  have HC := Lib.hid (ty_check w B b l h hB)
  have HN := Lib.hid hn
  clear h hn
  go_enter Tryd.func112, Tryd.ntmps112
  go_wp2_with (go_at_call 127; (with_reducible refine (HC.out).mono ?_))
  rintro e w1 ⟨rfl, ⟨v, hw1⟩, hf1⟩
  have HW1 := Lib.hid hw1
  have HF1 := Lib.hid hf1
  obtain ⟨_, _, _, _⟩ := two_all17 hw1.box
  have hbl := hw1.box.lt
  have hs1 := hf1.size
  clear hw1 hf1
  go_wp2_with (at_builtin; refine wpList_append_any rfl _ _ 35 rfl B 5 i0 (.int .u8 0) 1 1 Tryd.underlying35 hi hz0 hz1 hz2 rfl (by decide) _ l.length (Lib.byteCells l) rfl (HW1.out.own.alloc _) _ 1 1 [.int .u8 n] rfl ?cn rfl ?c2 ?c3 ?c4 ?c5 ?c6 ?_)
  case cn => intro e; cases e
  case c2 => exact news17 w1 _ _
  case c3 => intro u hu; simp at hu; subst hu; rfl
  case c4 => unfold maxLen; omega
  case c5 => omega
  case c6 => rw [World.size_alloc]; omega
  intro v' w2 hown' hgrow
  have HA := Lib.hid (HW1.out.agree (w' := w1.alloc (.cells #[.int .u8 n] 5)) ((Below.refl _ w1).alloc (Nat.le_refl _) _))
  have hb2 : Box w2 b 118 [.pointer (some ⟨b, 0, none⟩), v] := (hgrow.block b HA.out.box.lt (fun e => own_ne17 HA.out.own HA.out.box Tryd.wu e.symm)).trans HA.out.box
  have HF2 := Lib.hid ((HF1.out.alloc (.cells #[.int .u8 n] 5) hB).row HA.out.own hgrow hB)
  have HB2 := Lib.hid hb2
  obtain ⟨_, _, _, _⟩ := two_all17 hb2
  have hbl2 := hb2.lt
  have HO2 := Lib.hid hown'
  obtain ⟨a2, c2, rfl⟩ := own_shape17 hown'
  clear hown' hgrow hb2 HA
  go_wp2
  go_ret
  have hbc : Lib.byteCells l ++ [Value.int .u8 n] = Lib.byteCells (l ++ [c]) := by rw [HN.out]; simp [Lib.byteCells]
  refine ⟨rfl, ⟨.pointer (some ⟨b, 0, none⟩), .slice a2 (l.length + 1) c2, .inr rfl, HB2.out.set 1 _, ?_, HW1.out.bb⟩, HF2.out.set (p := ⟨b, 1, none⟩) rfl HW1.out.bb _⟩
  rw [List.length_append, ← hbc]
  exact own_ag17 HO2.out (fun q hq => Below.heap_setCell _ ⟨b, 1, none⟩ _ q (fun e => own_ne17 HO2.out HB2.out Tryd.wu (by rw [hq]; exact congrArg some e)))

set_option maxHeartbeats 2000000 in
set_option maxRecDepth 100000 in
/-- String, of one that has a byte. -/
theorem ty_String (w : World) (B b : Nat) (l : By) (h : WS w B b l) (h0 : l ≠ []) (hB : B ≤ w.heap.size) :
    Calls Tryd.prog 64 #[.pointer (some ⟨b, 0, none⟩)] w fun e w' => e = .returned (.string (strB l)) ∧ Below B w w' := by
  obtain ⟨p, v, _, hw⟩ := h
  have hown := hw.own
  have hl0 : l.length ≠ 0 := by simpa using h0
  obtain ⟨g, cap, cur, rfl, hbg, hg, hnc, hcm, hcs, htake⟩ : ∃ g cap cur, v = .slice (some ⟨g, 0, none⟩) l.length cap ∧ B ≤ g ∧ w.heap[g]? = some (.cells cur 5 (0, 0)) ∧ l.length ≤ cap ∧ cap ≤ maxLen ∧ cur.size = cap * 1 ∧ cur.toList.take (l.length * 1) = Lib.byteCells l := by
    rcases hown.2 with ⟨_, hz⟩ | ⟨g, cap, cur, hv, r⟩
    · exact absurd hz hl0
    · exact ⟨g, cap, cur, hv, r⟩
  have c1 : w.drew.cell? ⟨b, 1, none⟩ = some (.slice (some ⟨g, 0, none⟩) l.length cap) := hw.box.drew.cell 1
  have hSD : (Builtin.unsafeSliceData_ #[35] 162 #[.slice (some ⟨g, 0, none⟩) l.length cap]).run Tryd.prog w.drew = .ok (.pointer (some ⟨g, 0, none⟩)) w.drew :=
    Lib.run_unsafeSliceData_row _ _ _ _ _ _ (by omega)
  have hUS : (Builtin.unsafeString_ #[162, 3] 9 #[.pointer (some ⟨g, 0, none⟩), .int .i64 l.length]).run Tryd.prog w.drew = .ok (.string ⟨l.toArray⟩) (w.drew.freeze ⟨g, 0, none⟩ l.length) := by
    refine Lib.run_unsafeString_row w.drew 162 3 9 5 Tryd.underlying162 Tryd.wCells g cur.size (by have hg' : w.drew.heap[g]? = some (.cells cur 5 (0, 0)) := hg; simp [World.shape?, hg']) l h0 (by omega) (by unfold maxLen at hcm; omega) ?_
    intro j x hx
    exact hown.cells (g := g) rfl j (.int .u8 x.toNat) (by simp [Lib.byteCells, hx])
  clear hown hw
  go_enter Tryd.func64, Tryd.ntmps64
  go_wp2
  go_region
  all_goals (go_wp2; go_ret; exact ⟨rfl, Lib.below_freeze (Below.drew (Below.refl B w)) (p := ⟨g, 0, none⟩) hbg _⟩)

end Go.Proofs.YtpfcpeljfgmjgaaDoor
