/- The walk of the law PartJoin: it returns true and changes nothing that was there. -/
import Derived.Test.YtodkdjgpmfegcaaLaworder
import Derived.Test.YtodkdjgpmfegcaaJoinm
import Derived.Deep.LoopGhost
namespace Go.Proofs.Ytodkdjgpmfegcaa
open Go.RowKit
set_option linter.unusedVariables false

theorem Try.infob : (Try.prog.info? 4).map (fun i => (i.zero, i.size, i.bytes)) = some (some (.bool false), 1, 1) := by kernel_rfl

def bools (s : List Bool) : List Value := s.map Value.bool
theorem bools_get {s : List Bool} {i : Nat} (h : i < s.length) : (bools s)[i]? = some (.bool (bl s i)) := by
  unfold bools bl; simp [h]
theorem boxb_el {w : World} {g i : Nat} {s : List Bool} (h : Box w g 4 (bools s)) (hi : i < s.length) : w.cell? ⟨g, i, none⟩ = some (.bool (bl s i)) := by
  rw [h.cell i, bools_get hi]
theorem boxb_set {w : World} {g i : Nat} {s : List Bool} (h : Box w g 4 (bools s)) (b : Bool) : Box (w.setCell ⟨g, i, none⟩ (.bool b)) g 4 (bools (s.set i b)) := by
  have := h.set i (.bool b)
  unfold bools at *
  rwa [List.map_set]
theorem Box.drewN {w : World} {g : Nat} {t : TypeId} {cs : List Value} (h : Box w g t cs) (n : Nat) : Box (w.drewN n) g t cs := h
theorem sameB_zero {p : List Nat} {n i : Nat} (hl : p.length = n) (hi : i < n) : sameB p 0 i = decide (el p 0 = el p i) := by
  unfold sameB; rw [decide_eq_decide]; simp; omega

set_option maxRecDepth 100000 in
set_option maxHeartbeats 4000000 in
theorem join_law (a b : Option Addr) (la ca lb cb : Nat) (xa xb : List Nat) (n : Nat) (w : World) (hn : n ≤ 255) (ha : RowY 0 w.heap.size w a la xa) (hb : RowY 0 w.heap.size w b lb xb)
    (ba : ∀ i, i < la → xa.getD i 0 ≤ 255) (bb : ∀ i, i < lb → xb.getD i 0 ≤ 255) :
    Calls Try.prog 8 #[.int .u8 (n : Int), .slice a la ca, .slice b lb cb] w fun e w' => e = .returned (.bool true) ∧ Below w.heap.size w w' := by
  have hA := Lib.hid ha
  have hB := Lib.hid hb
  have hbA := Lib.hid ba
  have hbB := Lib.hid bb
  clear ha hb ba bb
  obtain ⟨k0, hk⟩ : ∃ k : Nat, (n : Int) % 20 = (k : Int) := ⟨n % 20, by omega⟩
  have hk20 : k0 < 20 := by omega
  obtain ⟨k, hK⟩ : ∃ K : Nat, (1 : Int) + (k0 : Int) = (K : Int) := ⟨1 + k0, by omega⟩
  have hk40 : k ≤ 20 := by omega
  have hk1 : 0 < k := by omega
  by_cases h1 : 40 < la
  · go_enter Try.func8, Try.ntmps8
    go_wp2_with (go_at_call 9; refine (awake_any _).mono ?_; rintro e w' ⟨rfl, hb⟩)
    go_ret
    exact ⟨rfl, hb⟩
  · by_cases h2 : 40 < lb
    · go_enter Try.func8, Try.ntmps8
      go_wp2_with (go_at_call 9; refine (awake_any _).mono ?_; rintro e w' ⟨rfl, hb⟩)
      go_ret
      exact ⟨rfl, hb⟩
    · obtain ⟨i0, hi0, hz0, hz1, hz2⟩ := info_parts Try.info35
      obtain ⟨ib, hib, hzb0, hzb1, hzb2⟩ := info_parts Try.infob
      go_enter Try.func8, Try.ntmps8
      go_wp2_with fail
      refine (pairs_m _ _ _ xa k _ hA.out hbA.out (Nat.le_refl _) (by omega) (by omega)).mono ?_
      rintro e w1 ⟨a1, m1, c1, rfl, hm1, hr1, hnil1, hb1⟩
      have HN1 := Lib.hid hnil1
      have hs1 := hb1.size
      clear hnil1
      go_wp2_with fail
      refine (pairs_m _ _ _ xb k _ (hB.out.below hb1 (Nat.le_refl _)) hbB.out hs1 (by omega) (by omega)).mono ?_
      rintro e w3 ⟨a2, m2, c2, rfl, hm2, hm3, hnil2, hb2⟩
      have HN2 := Lib.hid hnil2
      have hs2 := hb2.size
      have hl3 := hr1.below hb2 (Nat.le_refl _)
      have k3 := hb1.trans (hb2.mono hs1)
      clear hnil2 hr1 hb1 hb2
      have D0 := (owns_made (w := w3) w3.heap.size (Nat.le_refl _))
      have HD0 := Lib.hid D0
      have kB : Below w3.heap.size w3 (w3.alloc (.cells #[] 35)) := (Below.refl _ _).alloc (Nat.le_refl _) _
      have HKB := Lib.hid kB
      have HNEW1 : Hid (∀ ad, a1 = some ad → ∀ j u, (cellsP (prs xa k))[j]? = some u → (w3.alloc (.cells #[] 35)).cell? (ad.add j) = some u) := fun ad h => RowP.news (h ▸ hl3.below kB (by omega))
      clear D0 kB
      go_wp2_with (at_builtin; refine wpList_append_any rfl (.tmp 37) (.tmp 38) 32 rfl w3.heap.size 35 i0 (.agg #[.int .i64 0, .int .i64 0]) 2 16 Try.underlying32 hi0 hz0 hz1 hz2 rfl (by decide) _ 0 (cellsP []) rfl HD0.out a1 m1 c1 (cellsP (prs xa k)) rfl HN1.out ?d1 HNEW1.out (cellsP_one _) ?d4 ?d5 ?d6 ?_)
      case d1 => rw [cellsP_length, hl3.1]
      case d4 => unfold maxLen; omega
      case d5 => omega
      case d6 => simp
      intro v7 w7 hown7 hgr7
      have hb7 : Below w3.heap.size w3 w7 := HKB.out.grown hgr7 (by simp) (by rintro j hj; cases hj; exact Nat.le_refl _)
      have hs7 := hb7.size
      have hr2 := hm3.below hb7 (Nat.le_refl _)
      have HNEW2 : Hid (∀ ad, a2 = some ad → ∀ j u, (cellsP (prs xb k))[j]? = some u → w7.cell? (ad.add j) = some u) := fun ad h => RowP.news (h ▸ hr2)
      have HOWN7 := Lib.hid hown7
      clear hgr7 hown7 HD0 HNEW1 HKB
      go_wp2_with (at_builtin; refine wpList_append_any rfl (.tmp 39) (.tmp 40) 32 rfl w3.heap.size 35 i0 (.agg #[.int .i64 0, .int .i64 0]) 2 16 Try.underlying32 hi0 hz0 hz1 hz2 rfl (by decide) v7 m1 _ rfl HOWN7.out a2 m2 c2 (cellsP (prs xb k)) rfl HN2.out ?d1 HNEW2.out (cellsP_one _) ?d4 ?d5 ?d6 ?_)
      case d1 => rw [cellsP_length, hr2.1]
      case d4 => unfold maxLen; omega
      case d5 => omega
      case d6 => exact hs7
      intro v8 w8 hown8 hgr8
      have hb8 : Below w3.heap.size w3 w8 := hb7.grown hgr8 hs7 (fun j hj => (HOWN7.out.lt j hj).1)
      have e8 : cellsP [] ++ (cellsP (prs xa k) ++ cellsP (prs xb k)) = cellsP (prs xa k ++ prs xb k) := by rw [cellsP_append]; rfl
      rw [e8] at hown8
      obtain ⟨a8, c8, rfl, hr8, _⟩ := RowP.owned hown8 (by rw [List.length_append, hl3.1, hm3.1])
      have hs8 := hb8.size
      have hl8 := hl3.below hb8 (by omega)
      have hm8 := hm3.below hb8 (Nat.le_refl _)
      have k8 := k3.trans (hb8.mono (by omega))
      obtain ⟨mb, hmb⟩ : ∃ mb, m1 + m2 = mb := ⟨_, rfl⟩
      have hmb40 : mb ≤ 80 := by omega
      have HPI : Hid (InR k (prs xa k ++ prs xb k)) := fun q hq => by rcases List.mem_append.1 hq with h | h; exact prs_mem h; exact prs_mem h
      have HFB : Hid (∀ q ∈ prs xa k ++ prs xb k, fits q.1 ∧ fits q.2) := fun q hq => by rcases List.mem_append.1 hq with h | h; exact prs_fits (by omega) q h; exact prs_fits (by omega) q h
      have HS1 : Hid (∀ q ∈ prs xa k, q ∈ prs xa k ++ prs xb k) := fun q hq => List.mem_append_left _ hq
      have HS2 : Hid (∀ q ∈ prs xb k, q ∈ prs xa k ++ prs xb k) := fun q hq => List.mem_append_right _ hq
      rw [hmb] at hr8 ⊢
      clear e8 hgr8 hown8 HOWN7 HNEW2 hb7 hb8 hr2 hm3 hl3 k3 HN1 HN2 hs7 hmb
      generalize prs xa k ++ prs xb k = pb at *
      go_wp2_with fail
      refine (of_nat k _ _ _ pb _ hr8 (Nat.le_refl _) (by omega) HFB.out (by omega)).mono ?_
      rintro e w9 ⟨a9, c9, rfl, hr9, hb9⟩
      have hs9 := hb9.size
      have hl9 := hl8.below hb9 (by omega)
      have hm9 := hm8.below hb9 (by omega)
      have hbo9 := hr8.below hb9 (Nat.le_refl _)
      have k9 := k8.trans (hb9.mono (by omega))
      clear hl8 hm8 hr8 hb9 k8
      go_wp2_with fail
      refine (of_nat k _ _ _ (prs xa k) _ hl9 (by omega) (by omega) (prs_fits (by omega)) (by omega)).mono ?_
      rintro e w10 ⟨a10, c10, rfl, hr10, hb10⟩
      have hs10 := hb10.size
      have hm10 := hm9.below hb10 (by omega)
      have hbo10 := hbo9.below hb10 (by omega)
      have hp10 := hr9.below hb10 (Nat.le_refl _)
      have k10 := k9.trans (hb10.mono (by omega))
      clear hl9 hm9 hbo9 hr9 hb10 k9
      go_wp2_with fail
      refine (of_nat k _ _ _ (prs xb k) _ hm10 (by omega) (by omega) (prs_fits (by omega)) (by omega)).mono ?_
      rintro e w11 ⟨a11, c11, rfl, hr11, hb11⟩
      have hs11 := hb11.size
      have HBO := Lib.hid ((hbo10.below hb11 (by omega)).mono (lo' := 0) (hi' := w11.heap.size) (by omega) (by omega))
      have HP := Lib.hid ((hp10.below hb11 (by omega)).mono (lo' := 0) (hi' := w11.heap.size) (by omega) (by omega))
      have HQ := Lib.hid ((hr10.below hb11 (Nat.le_refl _)).mono (lo' := 0) (hi' := w11.heap.size) (by omega) (by omega))
      have HR := Lib.hid (hr11.mono (lo' := 0) (hi' := w11.heap.size) (by omega) (by omega))
      have HD := Lib.hid (k10.trans (hb11.mono (by omega)))
      have hw11 : w.heap.size ≤ w11.heap.size := HD.out.size
      clear hm10 hbo10 hp10 hr10 hr11 hb11 k10 hs1 hs2 hs8 hs9 hs10 hs11
      go_wp2_with (at_make; refine wpList_make_full _ rfl _ _ 40 rfl w11.heap.size 4 ib (.bool false) 1 Try.underlying40 hib hzb0 hzb1 _ _ _ _ k rfl rfl rfl rfl ?m1 ?m2 ?m3 ?_)
      case m1 => rw [hzb2]; omega
      case m2 => unfold maxLen; omega
      case m3 => simp
      intro w12 hown hgr
      rw [toList_madeCells_one] at hown
      have hb12 : Below w11.heap.size w11 w12 := (Below.refl _ _).grown hgr (Nat.le_refl _) (by simp)
      have hs12 : w11.heap.size < w12.heap.size := (hown.lt w11.heap.size rfl).2
      have hbx : Box w12 w11.heap.size 4 (bools (List.replicate k false)) := by
        have := owns_box hown
        simpa [bools] using this
      have cz := boxb_el hbx (i := 0) (by simpa using hk1)
      have fz := hbx.frozen 0
      have hst := boxb_set (i := 0) hbx true
      have HST : Hid (Box (w12.setCell ⟨w11.heap.size, 0, none⟩ (.bool true)) w11.heap.size 4 (bools (start k))) := hst
      generalize bl (List.replicate k false) 0 = z0 at *
      have HB12 := Lib.hid hb12
      clear hgr hown hbx hst hb12
      go_wp2_with fail
      have HB13 := Lib.hid (HB12.out.setCell (p := ⟨w11.heap.size, 0, none⟩) (Nat.le_refl _) (.bool true))
      clear cz fz
      go_loopg [15] (k) (fun gn i wr => ∃ r : Nat, gn + r ≤ k ∧ k ≤ gn + r ∧ i = .int .i64 r ∧ Hid (Box wr w11.heap.size 4 (bools (rnds (start k) pb r))) ∧ Hid (Below w11.heap.size w11 wr) ∧ w11.heap.size < wr.heap.size)
      case atStart => exact ⟨0, by omega, by omega, rfl, HST, HB13, by simp; exact hs12⟩
      case round =>
        clear HST HB13 HB12 hs12
        obtain ⟨r, hr1, hr2, rfl, HX, HW, hws⟩ := hrel
        by_cases hlt : r < k
        · go_wp2_with fail
          go_loopg [16] (mb) (fun gn i wx => ∃ j : Nat, gn + j ≤ mb ∧ mb ≤ gn + j ∧ i = .int .i64 j ∧ Hid (Box wx w11.heap.size 4 (bools ((pb.take j).foldl stp (rnds (start k) pb r)))) ∧ Hid (Below w11.heap.size w11 wx) ∧ w11.heap.size < wx.heap.size)
          case atStart => exact ⟨0, by omega, by omega, rfl, HX, HW, hws⟩
          case round =>
            clear HX HW hws
            obtain ⟨j, hj1, hj2, rfl, HY, HV, hvs⟩ := hrel
            by_cases hjl : j < mb
            · obtain ⟨bp, op, rfl, _, hbp, hc⟩ := HBO.out.at_ hjl
              have hck := hc j hjl
              have hbl : pb.length = mb := HBO.out.1
              have hqi := HPI.out _ (getD_mem (ps := pb) (k := j) (by omega))
              have hT : pb.take (j + 1) = pb.take j ++ [pb.getD j (0, 0)] := by
                rw [List.take_add_one, List.getElem?_eq_getElem (by omega)]; simp [List.getD, show j < pb.length by omega]
              have hF : (pb.take (j + 1)).foldl stp (rnds (start k) pb r) = stp ((pb.take j).foldl stp (rnds (start k) pb r)) (pb.getD j (0, 0)) := by rw [hT, List.foldl_append]; rfl
              have hsl : ((pb.take j).foldl stp (rnds (start k) pb r)).length = k := by rw [fold_length, rnds_length, start_length]
              obtain ⟨s, hs⟩ : ∃ s, (pb.take j).foldl stp (rnds (start k) pb r) = s := ⟨_, rfl⟩
              rw [hs] at HY hF hsl
              obtain ⟨q, hq⟩ : ∃ q, q = pb.getD j (0, 0) := ⟨_, rfl⟩
              rw [← hq] at hck hqi hF
              obtain ⟨u, v⟩ := q
              dsimp only at hck hqi
              obtain ⟨x, rfl⟩ : ∃ x : Nat, u = x := ⟨u.toNat, by omega⟩
              obtain ⟨y, rfl⟩ : ∃ y : Nat, v = y := ⟨v.toNat, by omega⟩
              have hxk : x < k := by omega
              have hyk : y < k := by omega
              have p1 := (HV.out.cell (p := ⟨bp, op + j * 2, none⟩) (by show bp < _; omega)).trans hck.1
              have p2 := (HV.out.cell (p := ⟨bp, op + j * 2 + 1, none⟩) (by show bp < _; omega)).trans hck.2
              have hsv := HV.out.size
              have hbw : bp < wr.heap.size := by omega
              have cx := boxb_el HY.out (i := x) (by omega)
              have cy := boxb_el HY.out (i := y) (by omega)
              have fx := HY.out.frozen x
              have B2 := boxb_set (i := x) HY.out true
              have cy2 := boxb_el B2 (i := y) (by simp; omega)
              have fy2 := B2.frozen y
              have B3 := Lib.hid (boxb_set (i := y) B2 true)
              have V2 := HV.out.setCell (p := ⟨w11.heap.size, x, none⟩) (Nat.le_refl _) (.bool true)
              have V3 := Lib.hid (V2.setCell (p := ⟨w11.heap.size, y, none⟩) (Nat.le_refl _) (.bool true))
              have p3 := (V2.cell (p := ⟨bp, op + j * 2, none⟩) (by show bp < _; omega)).trans hck.1
              have p4 := (V2.cell (p := ⟨bp, op + j * 2 + 1, none⟩) (by show bp < _; omega)).trans hck.2
              have hne : w11.heap.size ≠ bp := by omega
              obtain ⟨bx, hbx⟩ : ∃ v, bl s x = v := ⟨_, rfl⟩
              obtain ⟨by', hby⟩ : ∃ v, bl s y = v := ⟨_, rfl⟩
              have hFt : bx || by' → (pb.take (j + 1)).foldl stp (rnds (start k) pb r) = (s.set x true).set y true := fun h => by
                rw [hF]; unfold stp; rw [if_pos (by simpa [hbx, hby] using h)]; simp
              have hFf : (bx || by') = false → (pb.take (j + 1)).foldl stp (rnds (start k) pb r) = s := fun h => by
                rw [hF]; unfold stp; rw [if_neg (by simp [hbx, hby]; simpa using h)]
              have HFt := Lib.hid hFt
              have HFf := Lib.hid hFf
              rw [hbx] at cx
              rw [hby] at cy
              generalize bl (s.set x true) y = z2 at *
              clear hF hFt hFf hbx hby hT hs hq hck hc hqi B2 V2 hsl hbl
              cases bx with
              | true =>
                go_wp2_with fail
                go_roundg (mb - (j + 1))
                case measure => omega
                case rel => exact ⟨j + 1, by omega, by omega, by go_num, by rw [HFt.out rfl]; exact B3, V3, by simp; exact hvs⟩
              | false =>
                cases by' with
                | true =>
                  go_wp2_with fail
                  go_roundg (mb - (j + 1))
                  case measure => omega
                  case rel => exact ⟨j + 1, by omega, by omega, by go_num, by rw [HFt.out rfl]; exact B3, V3, by simp; exact hvs⟩
                | false =>
                  clear p3 p4 cy2 fy2
                  go_wp2_with fail
                  go_roundg (mb - (j + 1))
                  case measure => omega
                  case rel => exact ⟨j + 1, by omega, by omega, by go_num, by rw [HFf.out rfl]; exact HY, HV, hvs⟩
            · obtain rfl : j = mb := by omega
              have HY2 : Hid (Box wr w11.heap.size 4 (bools (rnds (start k) pb (r + 1)))) := by
                have := HY.out
                rw [List.take_of_length_le (by rw [HBO.out.1]; exact Nat.le_refl _)] at this
                exact this
              go_wp2_with fail
              go_roundg (k - (r + 1))
              case measure => omega
              case rel => exact ⟨r + 1, by omega, by omega, by go_num, HY2, HV, hvs⟩
        · obtain rfl : r = k := by omega
          obtain ⟨s, hs⟩ : ∃ s, rnds (start r) pb r = s := ⟨_, rfl⟩
          have hsl : s.length = r := by rw [← hs, rnds_length, start_length]
          obtain ⟨p, hp⟩ : ∃ p, ofL r pb = p := ⟨_, rfl⟩
          have hpl : p.length = r := by rw [← hp, ofL_length]
          have HRE : Hid (∀ i, i < r → bl s i = sameB p 0 i) := fun i hi => by
            rw [sameB_zero hpl hi, ← hs, ← hp]; exact reached hk1 HPI.out hi
          have hle1 : leB (ofL r (prs xa r)) p = true := hp ▸ le_of_of HS1.out
          have hle2 : leB (ofL r (prs xb r)) p = true := hp ▸ le_of_of HS2.out
          have gp : Good p := hp ▸ good_of _ _
          have g1 := good_of r (prs xa r)
          have g2 := good_of r (prs xb r)
          have cl1 := cls_le g1 gp hle1
          have cl2 := cls_le g2 gp hle2
          rw [hs] at HX
          rw [hp] at HP
          have HPL := Lib.hid hpl
          have HSL := Lib.hid hsl
          have HG := Lib.hid (And.intro gp (And.intro g1 (And.intro g2 (And.intro hle1 (And.intro hle2 (And.intro cl1 cl2))))))
          clear hs hp hpl hsl hle1 hle2 gp g1 g2 cl1 cl2 HPI HFB HS1 HS2 HBO
          generalize ofL r (prs xa r) = qa at *
          generalize ofL r (prs xb r) = qb at *
          go_wp2_with fail
          go_loopw [17] (fun i wx => ∃ j : Nat, j ≤ r ∧ i = .int .i64 j ∧ Hid (Box wx w11.heap.size 4 (bools s)) ∧ Hid (Below w11.heap.size w11 wx)) (fun i _ => r - (intOf i).toNat)
          case atStart => exact ⟨0, Nat.zero_le _, rfl, HX, HW⟩
          case round =>
            clear HX HW hws
            obtain ⟨j, hj, rfl, HY, HV⟩ := hrel
            by_cases hjl : j < r
            · have cj := boxb_el HY.out (i := j) (by rw [HSL.out]; exact hjl)
              have hre := HRE.out j hjl
              obtain ⟨v, hv⟩ : ∃ v, sameB p 0 j = v := ⟨_, rfl⟩
              rw [hre, hv] at cj
              have hsv := HV.out.size
              have hgw := HY.out.lt
              have hj4 : (0 : Int) ≤ (j : Int) := by omega
              have hj5 : (j : Int) < r := by omega
              have HC : Hid (∀ n, Calls Try.prog 15 #[.slice a9 r c9, .int .i64 0, .int .i64 (j : Int)] (wr.drewN n) fun e w' => e = .returned (.bool v) ∧ ∃ m, w' = (wr.drewN n).drewN m) := fun n => by
                have := same_any a9 r c9 p 0 j (wr.drewN n) ((HP.out.below HV.out (Nat.le_refl _)).drewN n) (by omega)
                rwa [hv] at this
              clear hre hv
              cases v
              all_goals
                go_wp2_with fail
                go_quiet ((go_at_call 15; refine Calls.quiet_of (HC.out _)))
                go_wp2_with fail
                go_roundw
                case rel => exact ⟨j + 1, by omega, by go_num, Box.drewN HY.out _, below_drewN HV.out _⟩
                case measure => simp [intOf]; omega
            · obtain rfl : j = r := by omega
              have hsv := HV.out.size
              have hp := HP.out.below HV.out (Nat.le_refl _)
              have hqa := HQ.out.below HV.out (Nat.le_refl _)
              have hqb := HR.out.below HV.out (Nat.le_refl _)
              obtain ⟨gp, g1, g2, hle1, hle2, cl1, cl2⟩ := HG.out
              have mp := mayB_good gp (by rw [HPL.out]; omega)
              have hkm : j ≤ 9223372036854775807 := by omega
              obtain ⟨cp, hcp⟩ : ∃ v, clsN p = v := ⟨_, rfl⟩
              obtain ⟨c1', hc1⟩ : ∃ v, clsN qa = v := ⟨_, rfl⟩
              obtain ⟨c2', hc2⟩ : ∃ v, clsN qb = v := ⟨_, rfl⟩
              obtain ⟨M, hM⟩ : ∃ M, Hid (M = min c1' c2') := ⟨_, rfl⟩
              rw [hcp, hc1] at cl1
              rw [hcp, hc2] at cl2
              have hcm : cp ≤ M := by have := hM.out; omega
              have EM : (if c2' < c1' then (c2' : Int) else (c1' : Int)) = (M : Int) := by have := hM.out; split <;> omega
              have HL1 := Lib.hid (lift (w6 := wr) fun w' h => le_b a10 a9 j c10 j c9 qa p w' (hqa.below h (by omega)) (hp.below h (by omega)) g1 hkm true hle1)
              have HL2 := Lib.hid (lift (w6 := wr) fun w' h => le_b a11 a9 j c11 j c9 qb p w' (hqb.below h (by omega)) (hp.below h (by omega)) g2 hkm true hle2)
              have HC0 := Lib.hid (lift (w6 := wr) fun w' h => cls_b a9 j c9 p w' (hp.below h (by omega)) hkm cp hcp)
              have HC1 := Lib.hid (lift (w6 := wr) fun w' h => cls_b a10 j c10 qa w' (hqa.below h (by omega)) hkm c1' hc1)
              have HC2 := Lib.hid (lift (w6 := wr) fun w' h => cls_b a11 j c11 qb w' (hqb.below h (by omega)) hkm c2' hc2)
              have HMP := Lib.hid (lift (w6 := wr) fun w' h => rmay_b a9 j c9 _ w' (hp.ints.below h (by omega)) hkm true mp)
              have HAW := Lib.hid (lift (w6 := wr) fun w' _ => awake_any w')
              have HDD := Lib.hid (HD.out.trans (HV.out.mono HD.out.size))
              have HB : Below wr.heap.size wr wr := Below.refl _ _
              clear hp hqa hqb gp g1 g2 hle1 hle2 cl1 cl2 mp hcp hc1 hc2 HG HRE HY HV HP HQ HR
              go_wp2_with (first
                | (go_at_call 21; (with_reducible refine (HL1.out _ HB).mono ?_); clear HB; rintro e wz ⟨rfl, HB⟩)
                | (go_at_call 21; (with_reducible refine (HL2.out _ HB).mono ?_); clear HB; rintro e wz ⟨rfl, HB⟩)
                | (go_at_call 19; (with_reducible refine (HC0.out _ HB).mono ?_); clear HB; rintro e wz ⟨rfl, HB⟩)
                | (go_at_call 19; (with_reducible refine (HC1.out _ HB).mono ?_); clear HB; rintro e wz ⟨rfl, HB⟩)
                | (go_at_call 19; (with_reducible refine (HC2.out _ HB).mono ?_); clear HB; rintro e wz ⟨rfl, HB⟩)
                | (go_at_call 11; (with_reducible refine (HMP.out _ HB).mono ?_); clear HB; rintro e wz ⟨rfl, HB⟩)
                | (go_at_call 9; (with_reducible refine (HAW.out _ HB).mono ?_); clear HB; rintro e wz ⟨rfl, HB⟩))
              go_ret
              exact ⟨rfl, HDD.out.trans (HB.mono HDD.out.size)⟩

end Go.Proofs.Ytodkdjgpmfegcaa
