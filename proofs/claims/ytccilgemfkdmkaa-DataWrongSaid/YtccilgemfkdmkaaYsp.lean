/- The document's SameProgram: one program in two places is one. -/
import Derived.Test.YtccilgemfkdmkaaYsx
import Derived.Test.YtccilgemfkdmkaaZC
import Derived.Test.YtccilgemfkdmkaaZG
import Derived.Test.YtccilgemfkdmkaaYsd
namespace Go.Proofs.Ytccilgemfkdmkaa
open Go.RowKit Go.Maps
set_option linter.unusedVariables false
set_option linter.unusedSimpArgs false

/-- A program's two rows. -/
theorem IsV.pgp {S : Nat → Prop} {w : World} {v : Value} {x : Pg} (h : IsV S w (pgC x) v) : ∃ (a1 a2 : Option Addr) (c1 c2 : Nat), v = .agg #[.slice a1 x.datas.length c1, .slice a2 x.binds.length c2] ∧ InC S w (.s x.datas.length 4 (x.datas.flatMap dtC)) (.slice a1 x.datas.length c1) ∧ InC S w (.s x.binds.length 8 (x.binds.flatMap bdC)) (.slice a2 x.binds.length c2) := by
  obtain ⟨us, rfl, h⟩ := h
  unfold pgC at h
  obtain ⟨u0, r0, rfl, l0⟩ := three_cons (n := 1) h.1
  obtain ⟨u1, r1, rfl, l1⟩ := three_cons (n := 0) l0
  obtain rfl := List.eq_nil_of_length_eq_zero l1
  obtain ⟨a1, c1, rfl, _, _⟩ := h.head.slice
  obtain ⟨a2, c2, rfl, _, _⟩ := h.tail.head.slice
  exact ⟨a1, a2, c1, c2, rfl, h.head, h.tail.head⟩
theorem eight_all {w : World} {b : Nat} {t : TypeId} {c0 c1 c2 c3 c4 c5 c6 c7 : Value} (h : Box w b t [c0, c1, c2, c3, c4, c5, c6, c7]) : w.cell? ⟨b, 0, none⟩ = some c0 ∧ w.cell? ⟨b, 1, none⟩ = some c1 ∧ w.cell? ⟨b, 2, none⟩ = some c2 ∧ w.cell? ⟨b, 3, none⟩ = some c3 ∧ w.cell? ⟨b, 4, none⟩ = some c4 ∧ w.cell? ⟨b, 5, none⟩ = some c5 ∧ w.cell? ⟨b, 6, none⟩ = some c6 ∧ w.cell? ⟨b, 7, none⟩ = some c7 :=
  ⟨h.cell 0, h.cell 1, h.cell 2, h.cell 3, h.cell 4, h.cell 5, h.cell 6, h.cell 7⟩

set_option maxRecDepth 100000 in
set_option maxHeartbeats 16000000 in
theorem same_program (P : Pg) (S S' : Nat → Prop) (v v' : Value) (w : World) (hv : IsV S w (pgC P) v) (hv' : IsV S' w (pgC P) v') :
    Calls Try.prog 13 #[v, v'] w fun e w' => e = .returned (.bool true) ∧ Below w.heap.size w w' := by
  obtain ⟨a1, a2, c1, c2, rfl, hd1, hk1⟩ := hv.pgp
  obtain ⟨a3, a4, c3, c4, rfl, hd2, hk2⟩ := hv'.pgp
  have hLm := hk1.max_len
  have hLd := hd1.max_len
  obtain ⟨L, hL⟩ : ∃ L, P.binds = L := ⟨_, rfl⟩
  obtain ⟨D, hD⟩ : ∃ D, P.datas = D := ⟨_, rfl⟩
  rw [hL] at hk1 hk2 hLm
  rw [hD] at hd1 hd2 hLd
  rw [hL, hD]
  obtain ⟨m, hm⟩ : ∃ m, L.length = m := ⟨_, rfl⟩
  have HM := Lib.hid hm
  have hb0 : Below w.heap.size w ((w.alloc (.cells #[.slice a1 D.length c1, .slice a2 L.length c2] 28)).alloc (.cells #[.slice a3 D.length c3, .slice a4 L.length c4] 28)) := ((Below.refl _ w).alloc (Nat.le_refl _) _).alloc (by simp) _
  have HBa := Lib.hid ((Box.new w 28 [.slice a1 D.length c1, .slice a2 L.length c2]).alloc (.cells #[.slice a3 D.length c3, .slice a4 L.length c4] 28))
  have HBb := Lib.hid (box_two (w := w) (o := .cells #[.slice a1 D.length c1, .slice a2 L.length c2] 28) (t := 28) (cs := [.slice a3 D.length c3, .slice a4 L.length c4]))
  have HD : Hid (∀ w', Below w.heap.size w w' → Calls Try.prog 16 #[.slice a1 D.length c1, .slice a3 D.length c3] w' fun e w'' => e = .returned (.bool true) ∧ Below w'.heap.size w' w'') := fun w' hw' => same_datas D _ _ _ _ _ _ _ _ w' (hd1.under hw') (hd2.under hw')
  have HK := Lib.hid hk1
  have HK' := Lib.hid hk2
  rw [hm] at hb0 HBa HBb HK HK' hLm
  rw [hm]
  obtain ⟨nd, hnd⟩ : ∃ nd, D.length = nd := ⟨_, rfl⟩
  rw [hnd] at hb0 HBa HBb HD hLd
  rw [hnd]
  have HB0 := Lib.hid hb0
  clear hv hv' hd1 hd2 hk1 hk2 hL hD hm hnd hb0
  go_enter Try.func13, Try.ntmps13
  go_wp2_with (go_at_call 16; (with_reducible refine (HD.out _ HB0.out).mono ?_); rintro e3 wz ⟨rfl, hbz⟩; have hy1 := HBa.out.below hbz; have hy2 := HBb.out.below hbz; obtain ⟨_, _, _, _⟩ := two_cells hy1; obtain ⟨_, _, _, _⟩ := two_cells hy2; have hl3 := hy1.lt; have hl4 := hy2.lt; have HY1 := Lib.hid hy1; have HY2 := Lib.hid hy2; have HBZ := Lib.hid (HB0.out.trans (hbz.mono HB0.out.size)); clear hbz hy1 hy2)
  go_loopw [5] (fun iv wr => ∃ i : Nat, i ≤ m ∧ iv = .int .i64 (i : Int) ∧ Hid (Below wz.heap.size wz wr)) (fun iv _ => m - (intOf iv).toNat)
  case atStart => exact ⟨0, Nat.zero_le _, rfl, Below.refl _ _⟩
  case round =>
    obtain ⟨i, hi, rfl, HB⟩ := hrel
    obtain ⟨wo, rfl⟩ : ∃ wo, wo = wr := ⟨wr, rfl⟩
    have hy1 := HY1.out.below HB.out
    have hy2 := HY2.out.below HB.out
    obtain ⟨_, _, _, _⟩ := two_cells hy1
    obtain ⟨_, _, _, _⟩ := two_cells hy2
    have hl5 := hy1.lt
    have hl6 := hy2.lt
    have HBO : Hid (Below w.heap.size w wo) := HBZ.out.trans (HB.out.mono HBZ.out.size)
    clear hy1 hy2
    by_cases hlt : i < m
    · obtain ⟨x, hx⟩ : ∃ x, L[i]? = some x := ⟨_, List.getElem?_eq_getElem (by rw [HM.out]; exact hlt)⟩
      have hk1 := HK.out
      have hk2 := HK'.out
      rw [← HM.out] at hk1 hk2
      obtain ⟨b, off, us, rfl, hb, hxv, hc⟩ := hk1.elem bdC_len hx
      obtain ⟨b', off', us', rfl, hb', hxv', hc'⟩ := hk2.elem bdC_len hx
      obtain ⟨k1, q1, n1, t1, d1, h1, f1, i1, g1, j1, hz9, hx1⟩ := hxv.bd
      obtain rfl := agg_inj hz9
      obtain ⟨k2, q2, n2, t2, d2, h2, f2, i2, g2, j2, hy9, hx2⟩ := hxv'.bd
      obtain rfl := agg_inj hy9
      have hcc : ∀ (j : Nat) (u : Value), ([.string (strB x.s), .int .i64 x.p, .int .i64 k1, .int .i64 q1, .string (strB t1), .int .i64 n1, .slice d1 f1 g1, .slice h1 i1 j1] : List Value)[j]? = some u → wo.cell? ⟨b, off + (i * 8 + j), none⟩ = some u := fun j u hu => (HBO.out.cell (p := ⟨b, off + (i * 8 + j), none⟩) hb).trans (hc j u hu)
      have hcc' : ∀ (j : Nat) (u : Value), ([.string (strB x.s), .int .i64 x.p, .int .i64 k2, .int .i64 q2, .string (strB t2), .int .i64 n2, .slice d2 f2 g2, .slice h2 i2 j2] : List Value)[j]? = some u → wo.cell? ⟨b', off' + (i * 8 + j), none⟩ = some u := fun j u hu => (HBO.out.cell (p := ⟨b', off' + (i * 8 + j), none⟩) hb').trans (hc' j u hu)
      have ca0 := hcc 0 _ rfl
      have ca1 := hcc 1 _ rfl
      have ca2 := hcc 2 _ rfl
      have ca3 := hcc 3 _ rfl
      have ca4 := hcc 4 _ rfl
      have ca5 := hcc 5 _ rfl
      have ca6 := hcc 6 _ rfl
      have ca7 := hcc 7 _ rfl
      have cb0 := hcc' 0 _ rfl
      have cb1 := hcc' 1 _ rfl
      have cb2 := hcc' 2 _ rfl
      have cb3 := hcc' 3 _ rfl
      have cb4 := hcc' 4 _ rfl
      have cb5 := hcc' 5 _ rfl
      have cb6 := hcc' 6 _ rfl
      have cb7 := hcc' 7 _ rfl
      rw [← Nat.add_assoc] at ca0 ca1 ca2 ca3 ca4 ca5 ca6 ca7 cb0 cb1 cb2 cb3 cb4 cb5 cb6 cb7
      rw [Nat.add_zero] at ca0 cb0
      have hbw : b < wo.heap.size := by have := HBO.out.size; omega
      have hbw' : b' < wo.heap.size := by have := HBO.out.size; omega
      have HE : Hid (∀ w', Below wo.heap.size wo w' → Calls Try.prog 29 #[.agg #[.int .i64 k1, .int .i64 q1, .string (strB t1), .int .i64 n1, .slice d1 f1 g1, .slice h1 i1 j1], .agg #[.int .i64 k2, .int .i64 q2, .string (strB t2), .int .i64 n2, .slice d2 f2 g2, .slice h2 i2 j2]] w' fun e w'' => e = .returned (.bool true) ∧ Below w'.heap.size w' w'') := fun w' hw' => by
        have h9 := HBO.out.trans (hw'.mono HBO.out.size)
        exact same_ex x.body.deep x.body (Nat.le_refl _) _ _ _ _ w' (hx1.under h9) (hx2.under h9)
      obtain ⟨SX, hSX⟩ : ∃ SX, strB x.s = SX := ⟨_, rfl⟩
      obtain ⟨PX, hPX⟩ : ∃ PX, x.p = PX := ⟨_, rfl⟩
      rw [hSX] at ca0 cb0
      rw [hPX] at ca1 cb1
      clear hcc hcc' hc hc' hxv hxv' hx hx1 hx2 hk1 hk2 hSX hPX
      go_wp2_with fail
      go_cut [6, 7] (fun b6 b7 wx => ∃ B1 B2 : Nat, b6 = .pointer (some ⟨B1, 0, none⟩) ∧ b7 = .pointer (some ⟨B2, 0, none⟩) ∧ Box wx B1 45 [.string SX, .int .i64 PX, .int .i64 k1, .int .i64 q1, .string (strB t1), .int .i64 n1, .slice d1 f1 g1, .slice h1 i1 j1] ∧ Box wx B2 45 [.string SX, .int .i64 PX, .int .i64 k2, .int .i64 q2, .string (strB t2), .int .i64 n2, .slice d2 f2 g2, .slice h2 i2 j2] ∧ Below wo.heap.size wo wx)
      case first =>
        go_region
        all_goals go_wp2_with fail
        all_goals go_meet
        all_goals first
          | exact ⟨wo.heap.size, wo.heap.size + 1, rfl, rfl, ((Box.new wo 45 [.string SX, .int .i64 PX, .int .i64 k1, .int .i64 q1, .string (strB t1), .int .i64 n1, .slice d1 f1 g1, .slice h1 i1 j1]).alloc _).drew, box_two.drew, below_two _ _ _⟩
          | exact ⟨wo.heap.size + 1, wo.heap.size, rfl, rfl, box_two.drew, ((Box.new wo 45 [.string SX, .int .i64 PX, .int .i64 k2, .int .i64 q2, .string (strB t2), .int .i64 n2, .slice d2 f2 g2, .slice h2 i2 j2]).alloc _).drew, below_two _ _ _⟩
      case rest =>
        obtain ⟨B1, B2, rfl, rfl, hx1, hx2, hb3⟩ := hcut
        obtain ⟨_, _, _, _, _, _, _, _⟩ := eight_all hx1
        obtain ⟨_, _, _, _, _, _, _, _⟩ := eight_all hx2
        have hl1 := hx1.lt
        have hl2 := hx2.lt
        have HB3 := Lib.hid hb3
        clear hx1 hx2 hb3 ca0 ca1 ca2 ca3 ca4 ca5 ca6 ca7 cb0 cb1 cb2 cb3 cb4 cb5 cb6 cb7
        go_wp2_with (go_at_call 29; (with_reducible refine (HE.out _ HB3.out).mono ?_); rintro e4 wy ⟨rfl, hby⟩; have HBY := Lib.hid (HB3.out.trans (hby.mono HB3.out.size)); clear hby)
        exact ⟨⟨i + 1, by omega, by go_num, HB.out.trans (HBY.out.mono HB.out.size)⟩, by simp [intOf]; omega⟩
    · have him : i = m := by omega
      subst him
      go_wp2_with fail
      go_ret
      exact ⟨rfl, HBO.out⟩

end Go.Proofs.Ytccilgemfkdmkaa
