/- The walk of the law CufChains: it returns true and changes nothing that was there. -/
import Derived.Test.YtigcddafiaadiaaClwords
import Derived.Test.YtigcddafiaadiaaCuf3
import Derived.Deep.OwnRows
namespace Go.Proofs.Ytigcddafiaadiaa
open Go.RowKit
set_option linter.unusedVariables false
set_option linter.unusedSimpArgs false

/-- Two rows of noughts that the call made. -/
def TwoRows (w : World) (k : Nat) (s6 s7 : Value) (wx : World) : Prop :=
  ∃ bu bp : Nat, s6 = .slice (some ⟨bu, 0, none⟩) k k ∧ s7 = .slice (some ⟨bp, 0, none⟩) k k ∧ w.heap.size ≤ bu ∧ w.heap.size ≤ bp ∧ bu ≠ bp ∧ Box wx bu 3 (intsOf (List.replicate k 0)) ∧ Box wx bp 3 (intsOf (List.replicate k 0)) ∧ Below w.heap.size w wx

theorem Box.news2 (w : World) (t : TypeId) (cs : List Value) : Box ((w.alloc (.cells cs.toArray t)).alloc (.cells cs.toArray t)) w.heap.size t cs ∧ Box ((w.alloc (.cells cs.toArray t)).alloc (.cells cs.toArray t)) (w.heap.size + 1) t cs := by
  refine ⟨(Box.new _ _ _).alloc _, ?_⟩
  have := Box.new (w.alloc (.cells cs.toArray t)) t cs
  rwa [World.size_alloc] at this

theorem Box.own {w : World} {g : Nat} {p : List Nat} (h : Box w g 3 (intsOf p)) : Own w g p :=
  ⟨h.lt, fun i hi => ⟨(h.cell i).trans (intsOf_get hi), h.frozen i⟩⟩
theorem Box.setN {w : World} {g : Nat} {p : List Nat} (h : Box w g 3 (intsOf p)) (i v : Nat) : Box (w.setCell ⟨g, i, none⟩ (.int .i64 (v : Int))) g 3 (intsOf (p.set i v)) := by
  rw [← intsOf_set]; exact h.set i _

set_option maxRecDepth 100000 in
set_option maxHeartbeats 8000000 in
theorem chains_law (nb xb : Nat) (w : World) (hn : nb ≤ 255) (hx : xb ≤ 255) :
    Calls Try.prog 7 #[.int .u8 (nb : Int), .int .u8 (xb : Int)] w fun e w' => e = .returned (.bool true) ∧ Below w.heap.size w w' := by
  obtain ⟨k, hk⟩ : ∃ k : Nat, (1 : Int) + (nb : Int) % 40 = (k : Int) := ⟨1 + nb % 40, by omega⟩
  have hk0 : 0 < k := by omega
  have hk1 : k ≤ 40 := by omega
  obtain ⟨at', hat⟩ : ∃ a : Nat, xb % k = a := ⟨_, rfl⟩
  have hatk : at' < k := by rw [← hat]; exact Nat.mod_lt _ hk0
  have hatI : (xb : Int) % (k : Int) = (at' : Int) := by rw [← hat]; rfl
  have hkb : ((k : Int) == 0) = false := by simp; omega
  have hwn : IntKind.i64.wrap (nb : Int) = (nb : Int) := IntWalk.i64_in _ (by omega)
  obtain ⟨mk, hmk⟩ : ∃ mk, mk = madeCells #[Value.int .i64 0] k := ⟨_, rfl⟩
  have hmk2 : mk = (intsOf (List.replicate k 0)).toArray := by
    rw [hmk]
    apply Array.toList_inj.1
    simp [toList_madeCells_one, intsOf]
  have hmake : ∀ W, Sem.run Try.prog (Instr.makeSlice 22 (.int .i64 (k : Int)) (.int .i64 (k : Int))) W = .ok (.slice (some ⟨W.heap.size, 0, none⟩) k k) (W.alloc (.cells mk 3)) := by
    intro W
    rw [hmk]
    exact run_make_row' 22 3 (.int .i64 0) 8 Try.underlying22 Try.info3 rfl .i64 .i64 k (by omega) (by omega) W
  have HMK := Lib.hid hmk2
  have HK := Lib.hid hk
  clear hmk hmk2 hat
  go_enter Try.func7, Try.ntmps7
  go_upto_region 2 with fail
  clear hk
  go_cut [6, 7] from 17 to 134 (fun s6 s7 wx => TwoRows w k s6 s7 wx)
  case first =>
    go_region
    all_goals (go_wp2_with fail; go_meet)
    all_goals
      have hb0 : Below w.heap.size w ((w.alloc (.cells mk 3)).alloc (.cells mk 3)).drew := (below_two _ _ _).drew
      have hB := Box.news2 w 3 (intsOf (List.replicate k 0))
      rw [← HMK.out] at hB
      first
        | exact ⟨w.heap.size, w.heap.size + 1, rfl, rfl, Nat.le_refl _, Nat.le_succ _, by omega, hB.1, hB.2, hb0⟩
        | exact ⟨w.heap.size + 1, w.heap.size, rfl, rfl, Nat.le_succ _, Nat.le_refl _, by omega, hB.2, hB.1, hb0⟩
  case rest =>
    obtain ⟨bu, bp, rfl, rfl, hbu, hbp, hne, BU, BP, hbc⟩ := hcut
    clear hmake HMK
    go_wp2_with fail
    go_loopw [8] (fun iv wr => ∃ (i : Nat) (up q : List Nat), i ≤ k ∧ iv = .int .i64 (i : Int) ∧ Hid (Box wr bu 3 (intsOf up)) ∧ Hid (Box wr bp 3 (intsOf q)) ∧ Hid (up.length = k ∧ q.length = k) ∧ Hid (∀ j, j < i → el up j = min (j + 1) (k - 1) ∧ el q j = j / 3) ∧ Below w.heap.size w wr) (fun iv _ => k - (intOf iv).toNat)
    case atStart => exact ⟨0, List.replicate k 0, List.replicate k 0, Nat.zero_le _, rfl, BU, BP, ⟨by simp, by simp⟩, fun j hj => absurd hj (by omega), hbc⟩
    case round =>
      clear BU BP hbc
      obtain ⟨i, up, q, hi, rfl, HU, HP, HL, HE, hb⟩ := hrel
      have hU := HU.out.lt
      have hP := HP.out.lt
      by_cases hlt : i < k
      · obtain ⟨cu, fu⟩ := HU.out.own.2 i (by rw [HL.out.1]; exact hlt)
        obtain ⟨cp, fp⟩ := HP.out.own.2 i (by rw [HL.out.2]; exact hlt)
        obtain ⟨m, hm⟩ : ∃ m, min (i + 1) (k - 1) = m := ⟨_, rfl⟩
        have EA : (if (k : Int) - 1 < (i : Int) + 1 then (k : Int) - 1 else (i : Int) + 1) = (m : Int) := by split <;> omega
        obtain ⟨d, hd⟩ : ∃ d, i / 3 = d := ⟨_, rfl⟩
        have ED : (i : Int) / 3 = (d : Int) := by omega
        have HU2 := Lib.hid ((HU.out.setN i m).setOther (a := ⟨bp, i, none⟩) (by exact hne) (.int .i64 (d : Int)))
        have HP2 := Lib.hid ((HP.out.setOther (a := ⟨bu, i, none⟩) (Ne.symm hne) (.int .i64 (m : Int))).setN i d)
        have HE2 : Hid (∀ j, j < i + 1 → el (up.set i m) j = min (j + 1) (k - 1) ∧ el (q.set i d) j = j / 3) := by
          intro j hj
          by_cases e : i = j
          · subst e
            rw [el_set_self (by rw [HL.out.1]; exact hlt), el_set_self (by rw [HL.out.2]; exact hlt)]
            exact ⟨hm.symm, hd.symm⟩
          · rw [el_set_other e, el_set_other e]
            exact HE.out j (by omega)
        have hbq : bp ≠ bu := Ne.symm hne
        generalize el up i = v1 at *
        generalize el q i = v2 at *
        clear hm hd
        go_wp2_with fail
        go_roundw
        case rel => exact ⟨i + 1, _, _, by omega, by go_num, HU2, HP2, ⟨by simpa using HL.out.1, by simpa using HL.out.2⟩, HE2, (hb.setCell (p := ⟨bu, i, none⟩) hbu _).setCell (p := ⟨bp, i, none⟩) hbp _⟩
        case measure => simp [intOf]; omega
      · obtain rfl : i = k := by omega
        have eu : up = upC i := ext_el (by rw [HL.out.1]; simp [upC]) fun j hj => by rw [(HE.out j (by rw [← HL.out.1]; exact hj)).1, upC_el (by rw [← HL.out.1]; exact hj)]
        have eq : q.map (fun n : Nat => (n : Int)) = prC i := by
          have : q = (List.range i).map fun j => j / 3 := ext_el (by rw [HL.out.2]; simp) fun j hj => by rw [(HE.out j (by rw [← HL.out.2]; exact hj)).2, el_rangemap (by rw [← HL.out.2]; exact hj)]
          rw [this]; unfold prC; simp
        subst eu
        have HRU := Lib.hid (HU.out.own.row (lo := w.heap.size) (hi := wr.heap.size) HL.out.1 hbu hU)
        have HRP : Hid (Row w.heap.size wr.heap.size wr (some ⟨bp, 0, none⟩) i (prC i)) := by rw [← eq]; exact (HP.out.own.row HL.out.2 hbp hP).ints
        have HB := Lib.hid hb
        clear eq HE HL HU HP hb
        have hat1 : (0 : Int) ≤ (at' : Int) := by omega
        have hat2 : (at' : Int) < (i : Int) := by omega
        go_wp2_with fail
        refine (begin_1_yes (at' : Int) 0 (i : Int) _ hat1 hat2).mono ?_
        rintro e w1 ⟨rfl, hb1⟩
        have s1 := hb1.size
        have hbt := Box.new w1 27 [.int .i64 1, .int .i64 (at' : Int), .int .i64 0, .int .i64 1, .int .i64 (at' : Int), .int .i64 0, .int .i64 0, .int .i64 0, .bool false, .int .i64 0]
        have hru := (HRU.out.below hb1 (Nat.le_refl _)).alloc s1 (.cells #[.int .i64 1, .int .i64 (at' : Int), .int .i64 0, .int .i64 1, .int .i64 (at' : Int), .int .i64 0, .int .i64 0, .int .i64 0, .bool false, .int .i64 0] 27)
        have hrp := (HRP.out.below hb1 (Nat.le_refl _)).alloc s1 (.cells #[.int .i64 1, .int .i64 (at' : Int), .int .i64 0, .int .i64 1, .int .i64 (at' : Int), .int .i64 0, .int .i64 0, .int .i64 0, .bool false, .int .i64 0] 27)
        have hbw := (HB.out.trans (hb1.mono HB.out.size)).alloc (Nat.le_trans HB.out.size s1) (.cells #[.int .i64 1, .int .i64 (at' : Int), .int .i64 0, .int .i64 1, .int .i64 (at' : Int), .int .i64 0, .int .i64 0, .int .i64 0, .bool false, .int .i64 0] 27)
        have s2 : w1.heap.size < (w1.alloc (.cells #[.int .i64 1, .int .i64 (at' : Int), .int .i64 0, .int .i64 1, .int .i64 (at' : Int), .int .i64 0, .int .i64 0, .int .i64 0, .bool false, .int .i64 0] 27)).heap.size := by simp
        clear hb1
        go_wp2_with fail
        simp only [List.toArray] at hbt hru hrp hbw s2
        generalize w1.alloc (.cells #[.int .i64 1, .int .i64 (at' : Int), .int .i64 0, .int .i64 1, .int .i64 (at' : Int), .int .i64 0, .int .i64 0, .int .i64 0, .bool false, .int .i64 0] 27) = w2 at *
        have HBT : Hid (Box w2 w1.heap.size 27 (Tk.mk 1 at' 0 1 at' 0 0 0 false 0).cells) := hbt
        have HRU2 := Lib.hid hru
        have HRP2 := Lib.hid hrp
        have HBW := Lib.hid hbw
        have sww := HBW.out.size
        have HFC := Lib.hid (forC hk0)
        clear hbt hru hrp hbw HRU HRP HB
        refine (may_true _ _ i _ _ (upC i) (prC i) _ HFC.out HRU2.out HRP2.out (by omega)).mono ?_
        rintro e w' ⟨rfl, m1, rfl⟩
        have HRT : Hid (Calls Try.prog 13 #[.slice (some ⟨bu, 0, none⟩) i i, .int .i64 (at' : Int)] (w2.drewN m1) fun e w' => e = .returned (.int .i64 ((i : Int) - 1)) ∧ w2.drewN m1 = w') := by
          have := root_in (some ⟨bu, 0, none⟩) i i (prC i) (upC i) at' (w2.drewN m1) HFC.out (HRU2.out.drewN' _) hatk (by omega)
          rw [rtC hatk, show ((i - 1 : Nat) : Int) = (i : Int) - 1 by omega] at this
          exact this
        go_wp2_with (go_at_call 13; (with_reducible refine (HRT.out).mono ?_); rintro e w' ⟨rfl, rfl⟩)
        go_loopw [12, 13] (fun cv iv wx => ∃ (j : Nat) (t : Tk) (a' : Option Addr) (c : Nat) (up : List Nat), iv = .int .i64 (j : Int) ∧ cv = .slice a' i c ∧ Hid (∃ lo hi, RowN lo hi wx a' i up ∧ hi ≤ wx.heap.size ∧ (w1.heap.size < lo ∨ hi ≤ w1.heap.size)) ∧ Hid (Alone i (prC i) (upC i) up 1 at' 0 t) ∧ Hid (∀ z, z < i → el (upC i) z ≤ el up z) ∧ Hid (Box wx w1.heap.size 27 t.cells) ∧ Hid (j + mes (prC i) i t ≤ 3 * i) ∧ Below w1.heap.size w2 wx) (fun _ iv _ => 3 * i + 3 - (intOf iv).toNat)
        case atStart =>
          refine ⟨0, Tk.mk 1 at' 0 1 at' 0 0 0 false 0, _, _, upC i, rfl, rfl, ⟨_, _, HRU2.out.drewN' _, by simp only [size_drewN']; omega, .inr (by omega)⟩, alone_new HFC.out (by omega) (by omega) hatk hk0, fun z _ => Nat.le_refl _, HBT, ?_, below_drewN' (Below.refl _ _) _⟩
          have := mes_new (pr := prC i) (k := 1) (y := 0) hatk
          simp only [if_true] at this
          show 0 + _ ≤ _
          omega
        case round =>
          clear HBT HRT
          obtain ⟨j, t, a', c, up, rfl, rfl, hr, hA, hM, hT, hJ, hb⟩ := hrel
          have sr := hb.size
          have htb := hT.out.lt
          have hj1 : (j : Int) < 3 * (i : Int) + 3 := by have := hJ.out; omega
          obtain ⟨_, _, _, _, _, _, _, _, _, _⟩ := Tk.ten hT.out
          obtain ⟨lo, hi', hr1, hhi, hap⟩ := hr.out
          have HR := Lib.hid hr1
          have HAP := Lib.hid hap
          have HBB := Lib.hid hb
          have HRPx := Lib.hid (HRP2.out.below hb (by omega))
          have HRUx := Lib.hid (HRU2.out.below hb (by omega))
          clear hr1 hap hb
          by_cases hd : t.dn = true
          · have hf := hA.out.fin hd
            have hres : ((t.res : Int) != (i : Int) - 1) = false := by
              have := (hf.1 rfl).2
              rw [rtC hatk] at this
              simp; omega
            have HSM := Lib.hid (hf.1 rfl).1
            clear hf
            have HF := Lib.hid hA.out.F
            obtain ⟨bc, oc, rfl, _, _, hcc⟩ := HR.out.at_ hk0
            obtain ⟨bq, oq, hq1, _, _, hcu⟩ := HRUx.out.at_ hk0
            cases hq1
            have HCC := Lib.hid hcc
            have HCU := Lib.hid hcu
            have HD := Lib.hid hd
            clear hcc hcu
            go_wp2_with fail
            go_loopw [16] (fun iv wy => ∃ z n : Nat, z ≤ i ∧ iv = .int .i64 (z : Int) ∧ wy = wr.drewN n) (fun iv _ => i - (intOf iv).toNat)
            case atStart => exact ⟨0, 0, Nat.zero_le _, rfl, rfl⟩
            case round =>
              obtain ⟨z, n, hz, rfl, rfl⟩ := hrel
              by_cases hlz : z < i
              · have c1 := HCC.out z hlz
                have c2 := HCU.out z hlz
                rw [Nat.zero_add] at c2
                have hm := hM.out z hlz
                have dz : decide (el up z < el (upC i) z) = false := by simp; omega
                have hz0 : (0 : Int) ≤ (z : Int) := by omega
                have hz1 : (z : Int) < (i : Int) := by omega
                have HRR : Hid (∀ q, Calls Try.prog 14 #[.slice (some ⟨bc, oc, none⟩) i c, .int .i64 (z : Int)] (wr.drewN (n + q)) fun e w' => e = .returned (.int .i64 ((i : Int) - 1)) ∧ ∃ m, w' = wr.drewN (n + m)) := fun q => by
                  have := rroot_in (some ⟨bc, oc, none⟩) i c (prC i) up z (wr.drewN (n + q)) HF.out (HR.out.drewN' _) hlz (by omega)
                  rw [HSM.out z hlz, rtC hlz, show ((i - 1 : Nat) : Int) = (i : Int) - 1 by omega] at this
                  exact this.mono fun e w' h => ⟨h.1, q, h.2.symm⟩
                have ws : IntKind.i64.wrap ((i : Int) - 1) = (i : Int) - 1 := IntWalk.i64_in _ (by omega)
                have wb : (((i : Int) - 1) != ((i : Int) - 1)) = false := by simp
                generalize el up z = e1 at *
                generalize el (upC i) z = e2 at *
                clear hm
                go_wp2_with fail
                go_quiet ((go_at_call 14; refine HRR.out _))
                go_wp2_with fail
                go_roundw
                case rel => exact ⟨z + 1, _, by omega, by go_num, by first | exact rfl | exact World.drewN_drewN _ _ _⟩
                case measure => simp [intOf]; omega
              · obtain rfl : z = i := by omega
                go_wp2_with fail
                refine (awake_any _).mono ?_
                rintro e w9 ⟨rfl, hb9⟩
                go_wp2_with fail
                go_ret
                exact ⟨rfl, HBW.out.trans (((below_drewN' HBB.out n).mono (by omega)).trans (hb9.mono (by rw [size_drewN']; omega)))⟩
          · have hd' : t.dn = false := by simpa using hd
            obtain ⟨T, hTs⟩ : ∃ T, tks up (prC i) t = T := ⟨_, rfl⟩
            obtain ⟨U, hU⟩ : ∃ U, ups up (prC i) t = U := ⟨_, rfl⟩
            have ok := alone_step hA.out hatk hk0 hd'
            have mono := chain_mono hA.out.I hA.out.tk hA.out.F hM.out
            rw [hTs, hU] at ok
            rw [hU] at mono
            have HOK := Lib.hid ok
            have HMO := Lib.hid mono
            have hst := step_t a' (some ⟨bp, 0, none⟩) i c i (prC i) up t wr hA.out.I HR.out hhi HRPx.out (by omega) (by omega) T hTs U hU
            rw [hd'] at hst
            have HST := Lib.hid hst
            have HD := Lib.hid hd'
            have H1 := Lib.hid (Tk.one T)
            clear hTs hU ok mono hst hd
            go_wp2_with fail
            refine (HST.out).mono ?_
            rintro e w4 ⟨g4, c4, rfl, hg4, ho4, hb4⟩
            have s4 := hb4.size
            have HO4 := Lib.hid (ho4.alloc (.cells #[.int .i64 (T.k : Int), .int .i64 (T.x : Int), .int .i64 (T.y : Int), .int .i64 (T.st : Int), .int .i64 (T.u : Int), .int .i64 (T.v : Int), .int .i64 (T.w : Int), .int .i64 (T.r : Int), .bool T.dn, .int .i64 (T.res : Int)] 27))
            have HT4 := Lib.hid ((hT.out.below hb4).alloc (.cells #[.int .i64 (T.k : Int), .int .i64 (T.x : Int), .int .i64 (T.y : Int), .int .i64 (T.st : Int), .int .i64 (T.u : Int), .int .i64 (T.v : Int), .int .i64 (T.w : Int), .int .i64 (T.r : Int), .bool T.dn, .int .i64 (T.res : Int)] 27))
            have HRP4 := Lib.hid ((HRPx.out.below hb4 (by omega)).alloc (by omega) (.cells #[.int .i64 (T.k : Int), .int .i64 (T.x : Int), .int .i64 (T.y : Int), .int .i64 (T.st : Int), .int .i64 (T.u : Int), .int .i64 (T.v : Int), .int .i64 (T.w : Int), .int .i64 (T.r : Int), .bool T.dn, .int .i64 (T.res : Int)] 27))
            have HB4 := Lib.hid ((HBB.out.trans (hb4.mono (by omega))).alloc (by omega) (.cells #[.int .i64 (T.k : Int), .int .i64 (T.x : Int), .int .i64 (T.y : Int), .int .i64 (T.st : Int), .int .i64 (T.u : Int), .int .i64 (T.v : Int), .int .i64 (T.w : Int), .int .i64 (T.r : Int), .bool T.dn, .int .i64 (T.res : Int)] 27))
            have HN4 := Lib.hid (Box.new w4 27 [.int .i64 (T.k : Int), .int .i64 (T.x : Int), .int .i64 (T.y : Int), .int .i64 (T.st : Int), .int .i64 (T.u : Int), .int .i64 (T.v : Int), .int .i64 (T.w : Int), .int .i64 (T.r : Int), .bool T.dn, .int .i64 (T.res : Int)])
            have hsz : (w4.alloc (.cells #[.int .i64 (T.k : Int), .int .i64 (T.x : Int), .int .i64 (T.y : Int), .int .i64 (T.st : Int), .int .i64 (T.u : Int), .int .i64 (T.v : Int), .int .i64 (T.w : Int), .int .i64 (T.r : Int), .bool T.dn, .int .i64 (T.res : Int)] 27)).heap.size = w4.heap.size + 1 := by simp
            clear hb4 ho4
            go_wp2_with fail
            have ho5 := HO4.out
            have ht5 := HT4.out
            have hrp5 := HRP4.out
            have hb5 := HB4.out
            have hn5 := HN4.out
            simp only [List.toArray] at ho5 ht5 hrp5 hb5 hn5 hsz
            clear HO4 HT4 HRP4 HB4 HN4
            generalize w4.alloc (.cells #[.int .i64 (T.k : Int), .int .i64 (T.x : Int), .int .i64 (T.y : Int), .int .i64 (T.st : Int), .int .i64 (T.u : Int), .int .i64 (T.v : Int), .int .i64 (T.w : Int), .int .i64 (T.r : Int), .bool T.dn, .int .i64 (T.res : Int)] 27) = w5 at *
            have HO5 := Lib.hid ho5
            have HT5 := Lib.hid ht5
            have HB5 := Lib.hid hb5
            have hlU := HOK.out.1.F.len
            have t5 : w4.heap.size < w5.heap.size := by omega
            have n5 : g4 ≠ w1.heap.size := by omega
            obtain ⟨_, _, _, _, _, _, _, _, _, _⟩ := hn5.ten
            refine (rmay_true _ _ i _ _ U (prC i) _ HOK.out.1.F (ho5.row (lo := 0) (hi := w5.heap.size) hlU (Nat.zero_le _) ho5.1) hrp5 (by omega)).mono ?_
            clear ho5 ht5 hrp5 hb5 hn5 hlU hsz
            rintro e w' ⟨rfl, m2, rfl⟩
            go_wp2_with (refine wpList_store_box rfl 27 _ _ rfl w1.heap.size T.cells rfl rfl 27 _ HT5.out Try.taskSize rfl H1.out ?_; intro w7 BT7 ht7)
            have s7 := ht7.size
            simp only [size_drewN'] at s7
            have HO7 := Lib.hid (ht7.own (HO5.out.drewN m2) n5 n5)
            have HT7 := Lib.hid BT7
            have HB7 : Hid (Below w1.heap.size w2 w7) := (below_drewN' HB5.out m2).trans (ht7.below (by rw [size_drewN']; omega) (Nat.le_refl _) (Nat.le_refl _))
            clear BT7 ht7
            go_roundw
            case rel =>
              refine ⟨j + 1, T, _, _, U, by go_num, rfl, ⟨g4, w7.heap.size, HO7.out.row HOK.out.1.F.len (Nat.le_refl _) HO7.out.1, Nat.le_refl _, .inl (by omega)⟩, HOK.out.1, HMO, HT7, ?_, HB7.out⟩
              have := HOK.out.2
              have := hJ.out
              show _ ≤ _
              omega
            case measure => have := hJ.out; simp [intOf]; omega

end Go.Proofs.Ytigcddafiaadiaa
