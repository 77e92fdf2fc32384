/- Contract of package play's end. -/
import Derived.Test.YtpfcpeljfgmjgaaDoorZpa
import Derived.Test.YtpfcpeljfgmjgaaDoorPgamez
import Derived.Deep.RegionLaw
import Derived.Deep.RegionHeld3
namespace Go.Proofs.YtpfcpeljfgmjgaaDoor
open Go.RowKit
set_option linter.unusedVariables false
set_option linter.unusedSimpArgs false

theorem Tryd.peventInfo : (Tryd.prog.info? 42).map (fun i => (i.zero, i.size, i.bytes)) = some (some (.agg #[.int .i64 0, .int .i64 0, .int .i64 0, .int .i64 0, .int .i64 0, .int .i64 0, .int .i64 0, .int .i64 0]), 8, 64) := by kernel_rfl

section
variable {w w' : World} {b : Nat} {t : TypeId} {c0 c1 c2 c3 c4 c5 c6 c7 : Value}
theorem Box.eight (h : Box w b t [c0, c1, c2, c3, c4, c5, c6, c7]) : w.cell? ⟨b, 0, none⟩ = some c0 ∧ w.cell? ⟨b, 1, none⟩ = some c1 ∧ w.cell? ⟨b, 2, none⟩ = some c2 ∧ w.cell? ⟨b, 3, none⟩ = some c3 ∧ w.cell? ⟨b, 4, none⟩ = some c4 ∧ w.cell? ⟨b, 5, none⟩ = some c5 ∧ w.cell? ⟨b, 6, none⟩ = some c6 ∧ w.cell? ⟨b, 7, none⟩ = some c7 :=
  ⟨h.cell 0, h.cell 1, h.cell 2, h.cell 3, h.cell 4, h.cell 5, h.cell 6, h.cell 7⟩
end

theorem grown_of {w w9 : World} {o : Obj} {row : Option Nat} (h : ((w.alloc o).drew).grownBy w9 row) : w.grownBy w9 row :=
  ⟨h.os, h.tape, h.output, Nat.le_trans (by show w.heap.size ≤ (w.alloc o).heap.size; simp) h.size, fun k hk hne => (h.block k (by show k < (w.alloc o).heap.size; simp; omega) hne).trans (Below.heap_alloc w o k hk)⟩
set_option maxRecDepth 100000 in
set_option maxHeartbeats 4000000 in
theorem end_w (w : World) (lo hi C e0 G B gb cu : Nat) (ev psl : Value) (n : Nat) (g : Gm) (i : Nat) (k : Wk) (H : PG w lo hi C e0 G B gb cu ev psl n g) (hk : g.ws[i]? = some k) (hon : k.on = true) (hl : g.l.length ≤ 1000000) (pl : Nat) (hpl : (if k.t.k = 2 ∧ k.t.res = 0 then k.mt else g.tm) = pl) :
    Calls Tryd.prog 75 #[.pointer (some ⟨G, 0, none⟩), .int .i64 (i : Int)] w fun e w' => e = .returned (.tuple #[]) ∧ ∃ ev', PG w' lo hi C e0 G B gb cu ev' psl n { g with ws := g.ws.set i { k with on := false }, l := g.l ++ [⟨i, k.t.k, k.t.x, k.y, k.t.res, k.bg, pl, g.tm⟩] } ∧ Chg e0 G B w w' := by
  obtain ⟨i0, hi0, hz0, hz1, hz2⟩ := info_parts Tryd.peventInfo
  have hi' : i < g.ws.length := (List.getElem?_eq_some_iff.1 hk).1
  have hG := H.box.lt
  obtain ⟨a, c, hcap, hsl, hpart⟩ := H.rows.part hk
  have HROW : Hid (WRow lo hi w B (g.ws.set i { k with on := false })) := hpart.row (k := { k with on := false }) (rv := .slice a k.left.length c) rfl ⟨a, c, rfl, hcap, hsl⟩
  have hwts : waits (g.ws.set i { k with on := false }) = waits g.ws := by rw [waits_set]; exact set_same (by unfold waits; rw [List.getElem?_map, hk]; rfl)
  have huns : unders (g.ws.set i { k with on := false }) = (unders g.ws).set i false := by rw [unders_set]
  have HWTS := Lib.hid hwts
  have HUNS := Lib.hid huns
  have hB : B < w.heap.size := by obtain ⟨cs, h1, _⟩ := H.rows; exact h1.1
  obtain ⟨j, hj⟩ : ∃ j, j = i * 13 := ⟨_, rfl⟩
  have d1 := (hpart.cell 1 _ rfl).1
  have d2 := (hpart.cell 2 _ rfl).1
  have d3 := (hpart.cell 3 _ rfl).1
  have d10 := (hpart.cell 10 _ rfl).1
  have d11 := (hpart.cell 11 _ rfl).1
  have d12 := (hpart.cell 12 _ rfl).1
  rw [← hj] at d1 d2 d3 d10 d11 d12
  obtain ⟨W, hW⟩ : ∃ W, g.ws.length = W := ⟨_, rfl⟩
  obtain ⟨wt, hwt⟩ : ∃ x, wd (waits g.ws) = x := ⟨_, rfl⟩
  obtain ⟨un, hun⟩ : ∃ x, wd (unders g.ws) = x := ⟨_, rfl⟩
  have hbox := H.box
  rw [hW, hwt, hun] at hbox
  obtain ⟨_, _, _, _, _, _, _⟩ := hbox.seven
  obtain ⟨_, _, _, _, _, _, _⟩ := hbox.sevenf
  have hi0' : (0 : Int) ≤ (i : Int) := by omega
  have hi1 : (i : Int) < (W : Int) := by omega
  have hiW : i < W := by omega
  have T2 : ∀ W0, Sem.run Tryd.prog (Instr.indexAt 73 (.slice (some ⟨B, 0, none⟩) W W) (.int .i64 (i : Int))) W0 = .ok (.pointer (some ⟨B, j, none⟩)) W0 := fun W0 => by rw [hj]; go_simp
  have HW2 := fun w0 => without_any (unders g.ws) i w0 (by rw [unders_length]; exact H.w64) (by rw [unders_length]; exact hi') _ rfl
  rw [hun] at HW2
  have nG : w.heap.size ≠ G := by omega
  have nB : w.heap.size ≠ B := by omega
  have HH := Lib.hid H
  have HP := Lib.hid hpart
  have HJ := Lib.hid hj
  have HHW := Lib.hid hW
  have HWT := Lib.hid hwt
  have HUN := Lib.hid hun
  have HSL := Lib.hid hsl
  have HW2 := Lib.hid HW2
  have HK := Lib.hid hk
  have HPL := Lib.hid hpl
  have hkb : ∃ z : Bool, (((k.t.k : Int) == 2) = true ∧ ((k.t.res : Int) == 0) = true ∧ z = true ∧ pl = k.mt) ∨ (((k.t.k : Int) == 2) = true ∧ ((k.t.res : Int) == 0) = false ∧ z = false ∧ pl = g.tm) ∨ (((k.t.k : Int) == 2) = false ∧ z = false ∧ pl = g.tm) := by
    by_cases h1 : k.t.k = 2
    · by_cases h2 : k.t.res = 0
      · rw [if_pos ⟨h1, h2⟩] at hpl
        exact ⟨true, .inl ⟨by simp; omega, by simp; omega, rfl, hpl.symm⟩⟩
      · rw [if_neg (fun h => h2 h.2)] at hpl
        exact ⟨false, .inr (.inl ⟨by simp; omega, by simp; omega, rfl, hpl.symm⟩)⟩
    · rw [if_neg (fun h => h1 h.1)] at hpl
      exact ⟨false, .inr (.inr ⟨by simp; omega, rfl, hpl.symm⟩)⟩
  obtain ⟨z, hkb⟩ := hkb
  have HKB := Lib.hid hkb
  clear H hpart hsl hj hW hwt hun hk hpl hkb hcap hwts huns
  go_enter Tryd.func75, Tryd.ntmps75
  go_wp2_with fail
  go_region
  have bx0 := Box.new w 42 [.int .i64 (i : Int), .int .i64 (k.t.k : Int), .int .i64 (k.t.x : Int), .int .i64 k.y, .int .i64 (k.t.res : Int), .int .i64 (k.bg : Int), .int .i64 (g.tm : Int), .int .i64 (g.tm : Int)]
  have hb0 : Below w.heap.size w (w.alloc (.cells ([.int .i64 (i : Int), .int .i64 (k.t.k : Int), .int .i64 (k.t.x : Int), .int .i64 k.y, .int .i64 (k.t.res : Int), .int .i64 (k.bg : Int), .int .i64 (g.tm : Int), .int .i64 (g.tm : Int)] : List Value).toArray 42)).drew := ((Below.refl _ _).alloc (Nat.le_refl _) _).drew
  have bx1 := bx0.drew
  simp only [List.toArray] at bx0 bx1 hb0
  generalize hwb : (w.alloc (.cells #[.int .i64 (i : Int), .int .i64 (k.t.k : Int), .int .i64 (k.t.x : Int), .int .i64 k.y, .int .i64 (k.t.res : Int), .int .i64 (k.bg : Int), .int .i64 (g.tm : Int), .int .i64 (g.tm : Int)] 42)).drew = wb at bx1 hb0
  obtain ⟨_, _, _, _, _, _, _, _⟩ := bx1.eight
  have fr6 := bx1.frozen 6
  have hs0 := bx1.lt
  have HBX := Lib.hid bx1
  have HB0 := Lib.hid hb0
  have hb1 := (Chg.of_below (e0 := e0) (G := G) (B := B) hb0 HH.out.es)
  have c12 := (hb0.cell (p := ⟨B, j + 12, none⟩) hB).trans d12
  have HC12 := Lib.hid c12
  clear bx0 bx1 hb0 hwb d1 d2 d3 d10 d11 d12
  go_upto_region 2 with fail
  go_cut [44] from 36 to 44 (fun c wx => c = .bool z ∧ wb = wx)
  case first =>
    rcases HKB.out with ⟨h1, h2, h3, _⟩ | ⟨h1, h2, h3, _⟩ | ⟨h1, h3, _⟩
    · subst h3
      go_wp2_with fail
      go_meet
      exact ⟨rfl, rfl⟩
    · subst h3
      go_wp2_with fail
      go_meet
      exact ⟨rfl, rfl⟩
    · subst h3
      go_wp2_with fail
      go_meet
      exact ⟨rfl, rfl⟩
  case rest =>
  obtain ⟨rfl, rfl⟩ := hcut
  have hzz : (z = true ∧ pl = k.mt) ∨ (z = false ∧ pl = g.tm) := by
    rcases HKB.out with ⟨_, _, h3, h4⟩ | ⟨_, _, h3, h4⟩ | ⟨_, h3, h4⟩
    · exact .inl ⟨h3, h4⟩
    · exact .inr ⟨h3, h4⟩
    · exact .inr ⟨h3, h4⟩
  have HZZ := Lib.hid hzz
  clear hzz
  go_upto_if 44 with fail
  go_cut [] from 36 to 49 (fun wx => Hid (Box wx w.heap.size 42 [.int .i64 (i : Int), .int .i64 (k.t.k : Int), .int .i64 (k.t.x : Int), .int .i64 k.y, .int .i64 (k.t.res : Int), .int .i64 (k.bg : Int), .int .i64 (pl : Int), .int .i64 (g.tm : Int)]) ∧ Below w.heap.size w wx)
  case first =>
    rcases HZZ.out with ⟨rfl, h3⟩ | ⟨rfl, h3⟩
    · subst h3
      go_wp2_with fail
      go_meet
      exact ⟨HBX.out.set 6 _, HB0.out.setCell (p := ⟨w.heap.size, 6, none⟩) (Nat.le_refl _) _⟩
    · subst h3
      go_wp2_with fail
      go_meet
      exact ⟨HBX.out, HB0.out⟩
  case rest =>
  obtain ⟨HBE, hbe⟩ := hcut
  have HBC := Lib.hid hbe
  have hG2 : G < wc.heap.size := Nat.lt_of_lt_of_le hG hbe.size
  have HGX := HH.out.box.below hbe
  rw [HHW.out, HWT.out, HUN.out] at HGX
  have hE2 := HBE.out.lt
  obtain ⟨_, _, _, _, _, _, _, _⟩ := HBE.out.eight
  have q4 := HGX.cell 4
  have q5 := HGX.cell 5
  have q6 := HGX.frozen 4
  have q7 := HGX.frozen 5
  simp only [List.getElem?_cons_zero, List.getElem?_cons_succ] at q4 q5
  have HGB := Lib.hid HGX
  have HO : Hid (wc.ownsRow e0 42 8 ev g.l.length (cellsE g.l)) := ownsRow_below HH.out.evs hbe
  have HN : Hid (∀ (W : World) (q : Nat) (u : Value), ([.int .i64 (i : Int), .int .i64 (k.t.k : Int), .int .i64 (k.t.x : Int), .int .i64 k.y, .int .i64 (k.t.res : Int), .int .i64 (k.bg : Int), .int .i64 (pl : Int), .int .i64 (g.tm : Int)] : List Value)[q]? = some u → (W.alloc (.cells #[.int .i64 (i : Int), .int .i64 (k.t.k : Int), .int .i64 (k.t.x : Int), .int .i64 k.y, .int .i64 (k.t.res : Int), .int .i64 (k.bg : Int), .int .i64 (pl : Int), .int .i64 (g.tm : Int)] 42)).cell? (Addr.add ⟨W.heap.size, 0, none⟩ q) = some u) := fun W q u hq =>
    World.news_of_block (w := W.alloc (.cells #[.int .i64 (i : Int), .int .i64 (k.t.k : Int), .int .i64 (k.t.x : Int), .int .i64 k.y, .int .i64 (k.t.res : Int), .int .i64 (k.bg : Int), .int .i64 (pl : Int), .int .i64 (g.tm : Int)] 42)) (B := W.heap.size) (cs := #[.int .i64 (i : Int), .int .i64 (k.t.k : Int), .int .i64 (k.t.x : Int), .int .i64 k.y, .int .i64 (k.t.res : Int), .int .i64 (k.bg : Int), .int .i64 (pl : Int), .int .i64 (g.tm : Int)]) (Box.new W 42 [.int .i64 (i : Int), .int .i64 (k.t.k : Int), .int .i64 (k.t.x : Int), .int .i64 k.y, .int .i64 (k.t.res : Int), .int .i64 (k.bg : Int), .int .i64 (pl : Int), .int .i64 (g.tm : Int)]) q u (by simpa using hq)
  have HONE : Hid (∀ v ∈ ([.int .i64 (i : Int), .int .i64 (k.t.k : Int), .int .i64 (k.t.x : Int), .int .i64 k.y, .int .i64 (k.t.res : Int), .int .i64 (k.bg : Int), .int .i64 (pl : Int), .int .i64 (g.tm : Int)] : List Value), v.oneCell' = true) := by
    intro v hv
    simp at hv
    rcases hv with rfl | rfl | rfl | rfl | rfl | rfl | rfl | rfl <;> rfl
  have Q1 : Hid (g.l.length + 1 ≤ maxLen) := by unfold maxLen; show _ ≤ _; omega
  have Q2 : Hid ((g.l.length + 1) * 64 ≤ 140737488355328) := by show _ ≤ _; omega
  have Q3 : Hid (e0 ≤ wc.heap.size) := Nat.le_trans HH.out.es hbe.size
  have HNE : Hid (some G ≠ ev.ownBlock) := fun e => by have := (HH.out.evs.lt G e.symm).1; have := HH.out.gl; have := HH.out.lh; have := HH.out.hc; have := HH.out.ce; omega
  clear HGX hbe hb1 c12
  go_upto_region 4 with fail
  go_cut [] from 50 to 59 (fun wx => ∃ g9 cap w9, Hid (w9.ownsRow e0 42 8 (.slice (some ⟨g9, 0, none⟩) (g.l.length + 1) cap) (g.l.length + 1) (cellsE g.l ++ [.int .i64 (i : Int), .int .i64 (k.t.k : Int), .int .i64 (k.t.x : Int), .int .i64 k.y, .int .i64 (k.t.res : Int), .int .i64 (k.bg : Int), .int .i64 (pl : Int), .int .i64 (g.tm : Int)])) ∧ Hid (wc.grownBy w9 ev.ownBlock) ∧ Hid (ev.ownBlock = some g9 ∨ wc.heap.size ≤ g9) ∧ wx = w9.setCell ⟨G, 5, none⟩ (.slice (some ⟨g9, 0, none⟩) (g.l.length + 1) cap))
  case first =>
    go_region_law (refine step_append_lies _ rfl _ _ _ rfl e0 42 i0 (.agg #[.int .i64 0, .int .i64 0, .int .i64 0, .int .i64 0, .int .i64 0, .int .i64 0, .int .i64 0, .int .i64 0]) 8 64 Tryd.underlying26 hi0 hz0 hz1 hz2 rfl (by decide) _ g.l.length (cellsE g.l) rfl (HO.out.alloc _) ⟨wc.heap.size, 0, none⟩ 1 1 [.int .i64 (i : Int), .int .i64 (k.t.k : Int), .int .i64 (k.t.x : Int), .int .i64 k.y, .int .i64 (k.t.res : Int), .int .i64 (k.bg : Int), .int .i64 (pl : Int), .int .i64 (g.tm : Int)] rfl rfl (HN.out _) HONE.out (by decide) Q1.out Q2.out (by simpa using Nat.le_succ_of_le Q3.out) _ rfl ?_; intro g9 cap w9 hown9 hgrow hat hlt9; have z9 := HGB.out.drew.alloc (.cells #[.int .i64 (i : Int), .int .i64 (k.t.k : Int), .int .i64 (k.t.x : Int), .int .i64 k.y, .int .i64 (k.t.res : Int), .int .i64 (k.bg : Int), .int .i64 (pl : Int), .int .i64 (g.tm : Int)] 42) |>.grown hgrow HNE.out; have z5 := z9.cell 5; have z7 := z9.frozen 5; simp only [List.getElem?_cons_zero, List.getElem?_cons_succ] at z5; have z6 := z9.lt)
    all_goals (go_wp2_with fail; go_meet)
    all_goals exact ⟨g9, cap, w9, hown9, grown_of hgrow, (by
      rcases hat with h | h
      · exact .inl h
      · exact .inr (by rw [h]; show wc.heap.size ≤ (wc.alloc _).heap.size; simp)), rfl⟩
  case rest =>
  obtain ⟨g9, cap, w9, HOWN9, HGR, HAT, rfl⟩ := hcut
  have HB9 := (HGB.out.grown HGR.out HNE.out).set 5 (.slice (some ⟨g9, 0, none⟩) (g.l.length + 1) cap)
  have s9 := HGR.out.size
  have hG9 : G < (w9.setCell ⟨G, 5, none⟩ (.slice (some ⟨g9, 0, none⟩) (g.l.length + 1) cap)).heap.size := by simp; omega
  have p4 := HB9.cell 4
  have p6 := HB9.frozen 4
  simp only [List.set_cons_succ, List.set_cons_zero, List.getElem?_cons_zero, List.getElem?_cons_succ] at p4
  have HB9' := Lib.hid HB9
  clear HB9
  go_wp2_with (first | (go_at_call 102; (with_reducible refine (HW2.out _).mono ?_); rintro e w' ⟨rfl, rfl⟩))
  go_end0
  have gl := HH.out.gl
  have gB := HH.out.gB
  have bl := HH.out.bl
  have lh := HH.out.lh
  have hc := HH.out.hc
  have ce := HH.out.ce
  have es := HH.out.es
  have hge : e0 ≤ g9 := (HOWN9.out.lt g9 rfl).1
  have hsb := HBC.out.size
  have hub := HH.out.up.1
  have hev : ∀ q, ev.ownBlock = some q → e0 ≤ q := fun q hq => (HH.out.evs.lt q hq).1
  have hblk : ∀ b, b < w.heap.size → b ≠ G → (∀ q, ev.ownBlock = some q → q ≠ b) → ((w9.setCell ⟨G, 5, none⟩ (.slice (some ⟨g9, 0, none⟩) (g.l.length + 1) cap)).setCell ⟨G, 4, none⟩ (.int .u64 ((wd ((unders g.ws).set i false) : Nat) : Int))).heap[b]? = w.heap[b]? := fun b h1 h2 h3 => by
    rw [Below.heap_setCell _ ⟨G, 4, none⟩ _ b h2, Below.heap_setCell _ ⟨G, 5, none⟩ _ b h2, HGR.out.block b (by omega) (fun e => h3 b e.symm rfl), HBC.out.block b h1]
  have hsz : w.heap.size ≤ ((w9.setCell ⟨G, 5, none⟩ (.slice (some ⟨g9, 0, none⟩) (g.l.length + 1) cap)).setCell ⟨G, 4, none⟩ (.int .u64 ((wd ((unders g.ws).set i false) : Nat) : Int))).heap.size := by simp; omega
  refine ⟨rfl, .slice (some ⟨g9, 0, none⟩) (g.l.length + 1) cap, ⟨?_, ?_, ?_, ?_, gl, bl, lh, hc, ce, Nat.le_trans es hsz, HH.out.gB, HH.out.ug, HH.out.ub, HH.out.uC, ?_, by rw [List.length_set]; exact HH.out.w64⟩, ⟨HGR.out.os.trans HBC.out.os, HGR.out.tape.trans HBC.out.tape, HGR.out.output.trans HBC.out.output, hsz, fun b h1 h2 h3 => hblk b (by omega) h2 fun q hq => by have := hev q hq; omega⟩⟩
  · have hbb := HB9'.out.set 4 (.int .u64 ((wd ((unders g.ws).set i false) : Nat) : Int))
    show Box _ _ _ [_, _, .slice _ (g.ws.set i { k with on := false }).length (g.ws.set i { k with on := false }).length, .int .u64 (wd (waits (g.ws.set i { k with on := false })) : Nat), .int .u64 (wd (unders (g.ws.set i { k with on := false })) : Nat), _, _]
    rw [HWTS.out, HUNS.out, List.length_set, HHW.out, HWT.out]
    exact hbb
  · exact HH.out.up.agree (hblk gb hub HH.out.ug HH.out.ue) hsz
  · exact HROW.out.agree (fun b hb => hblk b (by rcases hb with rfl | hb <;> omega) (by rcases hb with rfl | hb <;> omega) fun q hq => by have := hev q hq; rcases hb with rfl | hb <;> omega) hsz
  · have e9 : cellsE (g.l ++ [⟨i, k.t.k, k.t.x, k.y, k.t.res, k.bg, pl, g.tm⟩]) = cellsE g.l ++ [.int .i64 (i : Int), .int .i64 (k.t.k : Int), .int .i64 (k.t.x : Int), .int .i64 k.y, .int .i64 (k.t.res : Int), .int .i64 (k.bg : Int), .int .i64 (pl : Int), .int .i64 (g.tm : Int)] := cellsE_snoc _ _
    rw [e9, List.length_append]
    refine ownsRow_agree (w := w9) HOWN9.out fun q hq => ?_
    have hqe : q = g9 := (Option.some.inj hq).symm
    subst hqe
    rw [Below.heap_setCell _ ⟨G, 4, none⟩ _ q (by show q ≠ G; omega), Below.heap_setCell _ ⟨G, 5, none⟩ _ q (by show q ≠ G; omega)]
  · intro q hq
    have hqe : q = g9 := (Option.some.inj hq).symm
    subst hqe
    rcases HAT.out with h | h
    · exact HH.out.ue q h
    · omega

end Go.Proofs.YtpfcpeljfgmjgaaDoor
