/- The walk of the law PlayMade: it returns true and changes nothing that was there. -/
import Derived.Test.YtpfcpeljfgmjgaaDoorQanyz
namespace Go.Proofs.YtpfcpeljfgmjgaaDoor
open Go.RowKit
set_option linter.unusedVariables false
set_option linter.unusedSimpArgs false

set_option maxRecDepth 100000 in
set_option maxHeartbeats 8000000 in
theorem made_law (a1 a2 a3 : Option Addr) (l1 l2 l3 c1 c2 c3 : Nat) (x1 : List Nat) (x3 : List Int) (w : World) (h1 : RowY 0 w.heap.size w a1 l1 x1) (b1 : ∀ i, i < l1 → x1.getD i 0 ≤ 255) (m1 : l1 ≤ 9223372036854775807) (h2 : GridY w a2 l2)
    (h3 : Row 0 w.heap.size w a3 l3 x3) (m3 : l3 ≤ c3) (hT : Tab w) :
    Calls Tryd.prog 4 #[.slice a1 l1 c1, .slice a2 l2 c2, .slice a3 l3 c3] w fun e w' => e = .returned (.bool true) ∧ Below w.heap.size w w' := by
  obtain ⟨n, hn⟩ : ∃ n : Nat, (1 : Int) + (l1 : Int) % 16 = (n : Int) := ⟨1 + l1 % 16, by omega⟩
  have hn0 : 0 < n := by omega
  have hn1 : n ≤ 16 := by omega
  have H1 := Lib.hid h1
  have B1 := Lib.hid b1
  have H2 := Lib.hid h2
  have H3 := Lib.hid h3
  have HT := Lib.hid hT
  have hTl := hT.lt
  clear h1 b1 h2 h3 hT
  by_cases g3 : (500 : Int) < (l3 : Int)
  · have HA := Lib.hid (awake_any5 w HT.out)
    go_enter Tryd.func4, Tryd.ntmps4
    go_wp2_with (first | (go_at_call 11; (with_reducible refine (HA.out).mono ?_); rintro e w' ⟨rfl, hb⟩))
    go_ret
    exact ⟨rfl, hb⟩
  go_enter Tryd.func4, Tryd.ntmps4
  go_wp2_with fail
  clear hn
  refine (prio_any a1 l1 c1 x1 n _ H1.out B1.out (Nat.le_refl _) m1 (by omega)).mono ?_
  rintro e w2 ⟨gp, pr, rfl, hgp, hrp, hb2⟩
  have s2 := hb2.size
  have HRP := Lib.hid hrp
  have HB2 := Lib.hid hb2
  clear hrp hb2
  go_wp2_with fail
  have hgrid : GridY w2 a2 l2 := by
    rcases H2.out with h | ⟨b, off, e, hb, hc⟩
    · exact .inl h
    · refine .inr ⟨b, off, e, by omega, fun i hi => ?_⟩
      obtain ⟨A, L, C, xs, e1, e2, e3, e4⟩ := hc i hi
      exact ⟨A, L, C, xs, (HB2.out.cell (p := ⟨b, off + i, none⟩) hb).trans e1, e2, (e3.below HB2.out (Nat.le_refl _)).mono (Nat.le_refl _) s2, e4⟩
  refine (scripts_any a2 l2 c2 n w2 hgrid hn0 (by omega)).mono ?_
  rintro e w3 ⟨a', c', ss, rfl, hs8, hmade, hscr, hb3⟩
  have s3 := hb3.size
  obtain ⟨W, hW⟩ : ∃ W, ss.length = W := ⟨_, rfl⟩
  have hs8' := hs8
  have HS8 := Lib.hid hs8'
  rw [hW] at hs8 hscr ⊢
  have HMD := Lib.hid hmade
  have hon := made_opsN hmade
  rw [hW] at hon
  have hon2 : opsN ss ≤ 192 := by omega
  have HON := Lib.hid hon2
  have HSC := Lib.hid hscr
  have HW := Lib.hid hW
  have HB3 : Hid (Below w.heap.size w w3) := HB2.out.trans (hb3.mono s2)
  have HP3 : Hid (Row w.heap.size w2.heap.size w3 (some ⟨gp, 0, none⟩) n pr) := HRP.out.below hb3 (Nat.le_refl _)
  have HT3 : Hid (Tab w3) := HT.out.below HB3.out hTl
  clear hscr hmade hb3 hon hon2 hW hgrid hs8'
  go_wp2_with fail
  refine (play_any (some ⟨gp, 0, none⟩) a' a3 n n W c' l3 c3 pr x3 ss w3 HP3.out s3 HSC.out (Nat.le_refl _) (H3.out.below HB3.out (Nat.le_refl _)) (Nat.le_trans s2 s3) m3 (by omega) (by omega) (by have := HON.out; omega) (by omega) HT3.out).mono ?_
  rintro e w4 ⟨T, gb, cu, ev, rfl, hov, hown, hup, hb4⟩
  have s4 := hb4.size
  obtain ⟨ae, ce, rfl, _, hse⟩ := Sl.of_owns ecells_length hown rfl
  have HOV := Lib.hid hov
  have HSE := Lib.hid hse
  have HUP := Lib.hid hup
  have HB4 : Hid (Below w.heap.size w w4) := HB3.out.trans (hb4.mono (Nat.le_trans s2 s3))
  have HP4 : Hid (Row w.heap.size w2.heap.size w4 (some ⟨gp, 0, none⟩) n pr) := HP3.out.below hb4 s3
  have HSC4 : Hid (Scr w3.heap.size w4 a' W ss) := HSC.out.below hb4 (Nat.le_refl _)
  have hTb := over_le hov.1
  have hTm : T ≤ 1000000 := by
    have h1 := opsIn_valid n ss
    have h2 := HON.out
    have h3 : opsIn (ss.map (valid n)) * (16 * n + 1) ≤ 192 * (16 * 16 + 1) := Nat.mul_le_mul (by omega) (by omega)
    omega
  obtain ⟨E, hE⟩ : ∃ E, (stAt pr x3 n ss T).l.length = E := ⟨_, rfl⟩
  have hEm : E ≤ 192 := by rw [← hE]; have := len_le (pr := pr) (xs := x3) (n := n) (ss := ss) T; have := opsIn_valid n ss; have := HON.out; omega
  rw [hE] at HSE ⊢
  have HEH := Lib.hid hE
  have HFIT := Lib.hid (ev_fits HOV.out HMD.out hn1 HS8.out hTm)
  have HEVI : Hid (∀ (x : Nat) (s : List O3), ss[x]? = some s → ∀ (j : Nat) (e : Ev), (stAt pr x3 n ss T).l[j]? = some e → e.wk = (x : Int) → EvIs T x (stAt pr x3 n ss T).l s j e) := fun _ _ hs _ _ he hw => ev_is HOV.out HMD.out hs he hw
  have HALL : Hid (∀ (x : Nat) (s : List O3), ss[x]? = some s → evs x (stAt pr x3 n ss T).l = s) := fun _ _ hs => evs_over HOV.out HMD.out hs
  have HEA : Hid (∀ x j, 0 ≤ endA x ((stAt pr x3 n ss T).l.take j) ∧ endA x ((stAt pr x3 n ss T).l.take j) ≤ (T : Int)) := fun x j => endA_fits HOV.out x j
  have HF1 := Lib.hid (over_for HOV.out)
  have HU4 := HUP.out
  clear hov hown hse hup hE hTb
  have HSE' : Hid (Sl 8 w3.heap.size w4.heap.size w4 ae E ((stAt pr x3 n ss T).l.map ecells)) := HSE.out
  clear hb4
  go_wp2_with fail
  refine (rplay_any (some ⟨gp, 0, none⟩) a' a3 n n W c' l3 c3 pr x3 ss w4 HP4.out (by omega) HSC4.out s4 (H3.out.below HB4.out (Nat.le_refl _)) (by omega) (by omega) (by omega) (by have := HON.out; omega) (by omega)).mono ?_
  rintro e w5 ⟨T2, cu2, ev2, au2, rfl, hov2, hown2, hup2, hb5⟩
  obtain rfl : T2 = T := hov2.uniq HOV.out
  have s5 := hb5.size
  rw [HEH.out] at hown2
  obtain ⟨a9, c9, rfl, _, hse9⟩ := Sl.of_owns ecells_length hown2 HEH.out
  have HSE5 : Hid (Sl 8 w3.heap.size w4.heap.size w5 ae E ((stAt pr x3 n ss T2).l.map ecells)) := HSE'.out.below hb5 (Nat.le_refl _)
  have HSC5 : Hid (Scr w3.heap.size w5 a' W ss) := HSC4.out.below hb5 s4
  have HB5 : Hid (Below w.heap.size w w5) := HB4.out.trans (hb5.mono HB4.out.size)
  have HU5 : Hid (Own w5 gb (stAt pr x3 n ss T2).up) := HU4.below hb5 HU4.1
  have HS9 := Lib.hid hse9
  have HR5 := Lib.hid hup2
  clear hov2 hown2 hup2 hse9 hb5 HSE HSE' HU4
  go_wp2_with fail
  have kx : Below w5.heap.size w5 (w5.alloc (.cells #[.slice a9 E c9, .slice au2 n cu2, .int .i64 (T2 : Int)] 30)) := by go_grown
  have bX := Box.new w5 30 [.slice a9 E c9, .slice au2 n cu2, .int .i64 (T2 : Int)]
  have sX : (w5.alloc (.cells #[.slice a9 E c9, .slice au2 n cu2, .int .i64 (T2 : Int)] 30)).heap.size = w5.heap.size + 1 := World.size_alloc _ _
  simp only [List.toArray] at bX
  generalize w5.alloc (.cells #[.slice a9 E c9, .slice au2 n cu2, .int .i64 (T2 : Int)] 30) = w6 at *
  obtain ⟨_, _, _, _, _, _⟩ := bX.three
  have hXl := bX.lt
  have HSE6 : Hid (Sl 8 w3.heap.size w4.heap.size w6 ae E ((stAt pr x3 n ss T2).l.map ecells)) := HSE5.out.below kx (by omega)
  have HSC6 : Hid (Scr w3.heap.size w6 a' W ss) := HSC5.out.below kx (by omega)
  have HB6 : Hid (Below w.heap.size w w6) := HB5.out.trans (kx.mono HB5.out.size)
  have HSM : Hid (Calls Tryd.prog 14 #[.slice ae E ce, .slice a9 E c9] w6 fun e w' => e = .returned (.bool true) ∧ ∃ q, w' = w6.drewN q) := same_events ae a9 E ce c9 _ w6 HSE6.out (HS9.out.below kx (Nat.le_refl _)) HFIT.out (by omega)
  have HI : Hid (∀ q, Calls Tryd.prog 15 #[.slice (some ⟨gb, 0, none⟩) n cu, .slice au2 n cu2] (w6.drewN q) fun e w' => e = .returned (.bool true) ∧ ∃ m, w' = w6.drewN (q + m)) := fun q => by
    have hu6 := HU5.out.below kx HU5.out.1
    have ra : RowN 0 w6.heap.size (w6.drewN q) (some ⟨gb, 0, none⟩) n (stAt pr x3 n ss T2).up := (hu6.drewN q).row HF1.out.len (Nat.zero_le _) hu6.1
    have rb : RowN 0 w5.heap.size (w6.drewN q) au2 n (stAt pr x3 n ss T2).up := (HR5.out.below kx (Nat.le_refl _)).agree (fun _ _ _ => rfl)
    refine (ints_any _ _ n n cu cu2 _ _ (w6.drewN q) ra.ints rb.ints (by omega)).mono ?_
    rintro e w' ⟨rfl, m, rfl⟩
    exact ⟨by simp, m, by rw [World.drewN_drewN]⟩
  have kk : ((T2 : Int) == (T2 : Int)) = true := by simp
  have kk2 : ((T2 : Int) != (T2 : Int)) = false := by simp
  clear kx bX HSE5 HSC5 HB5 HU5 HS9 HR5
  go_wp2_with (first | (go_at_call 14; go_loud ((with_reducible refine (HSM.out).mono ?_); rintro e w' ⟨rfl, q9, rfl⟩)) | (go_at_call 15; go_loud ((with_reducible refine (HI.out _).mono ?_); rintro e w' ⟨rfl, m9, rfl⟩)))
  have HK7 : Hid (Below w6.heap.size w6 (w6.drewN (q9 + m9))) := below_drewN' (Below.refl _ _) _
  generalize w6.drewN (q9 + m9) = w7 at *
  obtain ⟨L, hL⟩ : ∃ L, (stAt pr x3 n ss T2).l = L := ⟨_, rfl⟩
  rw [hL] at HSE6 HEH HFIT HEVI HALL HEA
  clear hL HSM HI kk kk2
  go_loopg [14] (W) (fun gn x wr => ∃ k : Nat, gn + k ≤ W ∧ W ≤ gn + k ∧ x = .int .i64 (k : Int) ∧ Hid (Below w6.heap.size w6 wr))
  case atStart => exact ⟨0, by omega, by omega, rfl, HK7.out⟩
  case round =>
    rename World => wr
    obtain ⟨k, hk1, hk2, rfl, HKR⟩ := hrel
    have skr := HKR.out.size
    by_cases hkW : k < W
    · obtain ⟨s, hsk⟩ : ∃ s, ss[k]? = some s := ⟨_, List.getElem?_eq_getElem (by have := HW.out; omega)⟩
      have HSK := Lib.hid hsk
      clear hsk
      go_wp2_with fail
      go_loopg [15, 16, 17] (E) (fun gn i z j wq => ∃ t : Nat, gn + t ≤ E ∧ E ≤ gn + t ∧ j = .int .i64 (t : Int) ∧ i = .int .i64 (((evs k (L.take t)).length : Nat) : Int) ∧ z = .int .i64 (endA k (L.take t)) ∧ Hid (Below w6.heap.size w6 wq))
      case atStart => exact ⟨0, by omega, by omega, rfl, rfl, rfl, HKR.out⟩
      case round =>
        rename World => wq
        obtain ⟨t, ht1, ht2, rfl, rfl, rfl, HKQ⟩ := hrel
        have skq := HKQ.out.size
        obtain ⟨bs, os, has, hbs, hcs⟩ := (HSC6.out.below HKQ.out (by omega)).2.resolve_left (by omega)
        obtain ⟨a4, c4, h4, hop⟩ := hcs k s HSK.out
        subst has
        by_cases htE : t < E
        · obtain ⟨e, he⟩ : ∃ e, L[t]? = some e := ⟨_, List.getElem?_eq_getElem (by have := HEH.out; omega)⟩
          obtain ⟨be, oe, hae, _, hbe, hce⟩ := (HSE6.out.below HKQ.out (by omega)).at (by omega)
          obtain ⟨v0, v1, v2, v3, v4, v5, v6, v7⟩ := hce.eight he
          have T1 : ∀ W0, Sem.run Tryd.prog (Instr.indexAt 26 (.slice (some ⟨be, oe, none⟩) E ce) (.int .i64 (t : Int))) W0 = .ok (.pointer (some ⟨be, oe + t * 8, none⟩)) W0 := fun W0 => by
            have q1 : (0 : Int) ≤ (t : Int) := by omega
            have q2 : (t : Int) < (E : Int) := by omega
            go_simp
          have HE := Lib.hid he
          have HCE := Lib.hid hce
          have hbeq : be < wq.heap.size := by omega
          have hbsq : bs < wq.heap.size := by omega
          subst hae
          by_cases hw : e.wk = (k : Int)
          · obtain ⟨i1, i2, i3⟩ := HEVI.out _ _ HSK.out _ _ he hw
            obtain ⟨e1, e2⟩ := HEA.out k t
            obtain ⟨I, hI⟩ : ∃ I, (evs k (L.take t)).length = I := ⟨_, rfl⟩
            obtain ⟨Z, hZ⟩ : ∃ Z, endA k (L.take t) = Z := ⟨_, rfl⟩
            rw [hI] at i1
            rw [hZ] at i2 e1 e2
            rw [hI, hZ]
            obtain ⟨N, hN⟩ : ∃ N, s.length = N := ⟨_, rfl⟩
            have hN24 : N ≤ 24 := by rw [← hN]; exact (HMD.out s (List.mem_of_getElem? HSK.out)).1
            have hIN : I < N := by rw [← hN]; exact (List.getElem?_eq_some_iff.1 i1).1
            obtain ⟨bo, oo, hao, _, hbo, hco⟩ := hop.at (by omega)
            obtain ⟨o0, o1, o2⟩ := hco.three i1
            rw [hN] at h4
            subst hao
            have F := HFIT.out e (List.mem_of_getElem? he)
            have HOS := op_same1 (k := e.k) (x := e.x) (y := e.y)
            obtain ⟨f0, f1, f2, f3, f4, f5, f6, f7⟩ := F
            have HO1 : ∀ W0 : World, (binOp .neq 40 (.agg #[.int .i64 e.k, .int .i64 e.x, .int .i64 e.y]) (.agg #[.int .i64 e.k, .int .i64 e.x, .int .i64 e.y])).run Tryd.prog W0 = .ok (.bool false) W0 := fun W0 => by first | exact HOS W0 f1 f2 f3 | exact HOS W0 f0 f1 f2
            have T2' : ∀ W0, Sem.run Tryd.prog (Instr.indexAt 23 (.slice (some ⟨bs, os, none⟩) W c') (.int .i64 (k : Int))) W0 = .ok (.pointer (some ⟨bs, os + k, none⟩)) W0 := fun W0 => by
              have q1 : (0 : Int) ≤ (k : Int) := by omega
              have q2 : (k : Int) < (W : Int) := by omega
              go_simp
            have T3 : ∀ W0, Sem.run Tryd.prog (Instr.indexAt 43 (.slice (some ⟨bo, oo, none⟩) N c4) (.int .i64 (I : Int))) W0 = .ok (.pointer (some ⟨bo, oo + I * 3, none⟩)) W0 := fun W0 => by
              have q1 : (0 : Int) ≤ (I : Int) := by omega
              have q2 : (I : Int) < (N : Int) := by omega
              go_simp
            have g1 : decide ((N : Int) ≤ (I : Int)) = false := by simp; omega
            have g1' : decide (N ≤ I) = false := by simp; omega
            have g2 : decide (e.bg ≤ Z) = false := by simp; omega
            have g3' : decide ((T2 : Int) < e.en) = false := by simp; omega
            have g4 : (e.wk != (k : Int)) = false := by simp [hw]
            have hboq : bo < wq.heap.size := by omega
            have HI := Lib.hid hI
            have HZ := Lib.hid hZ
            have HWK := Lib.hid hw
            rw [hw] at v0
            have g5 : ((k : Int) != (k : Int)) = false := by simp
            have g6 : ((k : Int) == (k : Int)) = true := by simp
            clear he hw hI hZ hN i1 hop hco hce hcs f0 f1 f2 f3 f4 f5 f6 f7 HOS g4
            go_wp2_with fail
            go_quiet (fail)
            go_wp2_with fail
            go_roundg (E - (t + 1))
            case measure => omega
            case rel => exact ⟨t + 1, by omega, by omega, by go_num, by rw [take_at HE.out, evs_snoc, if_pos HWK.out, List.length_append, HI.out]; simp only [List.length_singleton]; go_num, by rw [take_at HE.out, endA_snoc, if_pos HWK.out], below_drewN' HKQ.out _⟩
          · have g4 : (e.wk != (k : Int)) = true := by simpa using hw
            have g5 : (e.wk == (k : Int)) = false := by simpa using hw
            have HWK := Lib.hid hw
            clear he hce hcs hop hw
            go_wp2_with fail
            go_roundg (E - (t + 1))
            case measure => omega
            case rel => exact ⟨t + 1, by omega, by omega, by go_num, by rw [take_at HE.out, evs_snoc, if_neg HWK.out, List.append_nil], by rw [take_at HE.out, endA_snoc, if_neg HWK.out], HKQ.out⟩
        · obtain rfl : t = E := by omega
          have hl : L.take t = L := List.take_of_length_le (by rw [HEH.out]; exact Nat.le_refl _)
          rw [hl, HALL.out _ _ HSK.out]
          have T2' : ∀ W0, Sem.run Tryd.prog (Instr.indexAt 23 (.slice (some ⟨bs, os, none⟩) W c') (.int .i64 (k : Int))) W0 = .ok (.pointer (some ⟨bs, os + k, none⟩)) W0 := fun W0 => by
            have q1 : (0 : Int) ≤ (k : Int) := by omega
            have q2 : (k : Int) < (W : Int) := by omega
            go_simp
          have hbsq : bs < wq.heap.size := by omega
          obtain ⟨N, hN⟩ : ∃ N, s.length = N := ⟨_, rfl⟩
          rw [hN] at h4 ⊢
          have g5 : ((N : Int) != (N : Int)) = false := by simp
          clear hcs hop hl hN
          go_wp2_with fail
          go_roundg (W - (k + 1))
          case measure => omega
          case rel => exact ⟨k + 1, by omega, by omega, by go_num, HKQ.out⟩
    · obtain rfl : k = W := by omega
      have HBR : Hid (Below w.heap.size w wr) := HB6.out.trans (HKR.out.mono HB6.out.size)
      have HA := Lib.hid (awake_any5 wr (HT.out.below HBR.out hTl))
      go_wp2_with (first | (go_at_call 11; (with_reducible refine (HA.out).mono ?_); rintro e w' ⟨rfl, hb8⟩))
      go_ret
      exact ⟨rfl, HBR.out.trans (hb8.mono HBR.out.size)⟩

end Go.Proofs.YtpfcpeljfgmjgaaDoor
