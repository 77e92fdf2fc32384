/- The document's Groups. -/
import Derived.Test.YtdbjmonboecfgaaGof
namespace Go.Proofs.Ytdbjmonboecfgaa
open Go.RowKit Go.Maps
set_option linter.unusedVariables false
set_option linter.unusedSimpArgs false

theorem Try.bRowInfo : (Try.prog.info? 46).map (fun i => (i.zero, i.size, i.bytes)) = some (some (.slice none 0 0), 1, 24) := by kernel_rfl
theorem mutB_eqv (g : Gr) : Eqv (mutB g) g.length :=
  ⟨fun i hi => (mutB_iff hi hi).2 ⟨.refl, .refl⟩, fun i j hi hj h => by have := (mutB_iff hi hj).1 h; exact (mutB_iff hj hi).2 ⟨this.2, this.1⟩, fun i j k hi hj hk h1 h2 => by
    have a := (mutB_iff hi hj).1 h1
    have b := (mutB_iff hj hk).1 h2
    exact (mutB_iff hi hk).2 ⟨a.1.trans b.1, b.2.trans a.2⟩⟩
/-- Rows of what each reaches. -/
structure AL (w : World) (base : Nat) (v : Value) (k n : Nat) (g : Gr) (vs : List Value) : Prop where
  own : w.ownsRow base 46 1 v k vs
  row : ∀ i, i < k → ∃ q, vg vs i = .slice (some ⟨q, 0, none⟩) n n ∧ Box w q 4 (bools (rchL g (i : Int))) ∧ v.ownBlock ≠ some q
theorem AL.push {w w1 W w9 : World} {base k n q o c : Nat} {v : Value} {g : Gr} {vs : List Value} (h : AL w base v k n g vs) (hb : Below w.heap.size w w1) (hq : w.heap.size ≤ q) (hx : Box w1 q 4 (bools (rchL g (k : Int)))) (hW : Below w1.heap.size w1 W) (hg : W.grownBy w9 v.ownBlock)
    (ho : w9.ownsRow base 46 1 (.slice (some ⟨o, 0, none⟩) (k + 1) c) (k + 1) (vs ++ [.slice (some ⟨q, 0, none⟩) n n])) (hat : v.ownBlock = some o ∨ o = W.heap.size) : AL w9 base (.slice (some ⟨o, 0, none⟩) (k + 1) c) (k + 1) n g (vs ++ [.slice (some ⟨q, 0, none⟩) n n]) := by
  have hl : vs.length = k := by have := h.own.1; simpa using this
  have hs1 := hb.size
  have hs2 := hW.size
  have keep : ∀ {p : Nat} {t : TypeId} {cs : List Value}, Box W p t cs → v.ownBlock ≠ some p → Box w9 p t cs ∧ some o ≠ some p := fun {p t cs} hbx hne => by
    refine ⟨hbx.grown hg (fun e => hne e.symm), fun e => ?_⟩
    have e := Option.some.inj e
    rcases hat with r | r
    · exact hne (by rw [r, e])
    · have := hbx.lt; omega
  refine ⟨ho, fun i hi => ?_⟩
  by_cases e : i < k
  · obtain ⟨p, h1, h2, h3⟩ := h.row i e
    have := keep ((h2.below hb).below hW) h3
    exact ⟨p, by rw [vg_app (by omega)]; exact h1, this.1, this.2⟩
  · have e : i = k := by omega
    subst e
    have := keep (hx.below hW) (fun r => by have := (ownsRow_lo h.own q r).2; omega)
    exact ⟨q, by rw [vg_last (by omega)], this.1, this.2⟩
theorem AL.below {w w' : World} {base k n : Nat} {v : Value} {g : Gr} {vs : List Value} (h : AL w base v k n g vs) (hb : Below w.heap.size w w') : AL w' base v k n g vs :=
  ⟨ownsRow_below h.own hb, fun i hi => by obtain ⟨q, h1, h2, h3⟩ := h.row i hi; exact ⟨q, h1, h2.below hb, h3⟩⟩
/-- A cell of it. -/
theorem AL.cell {w : World} {base n : Nat} {v : Value} {g : Gr} {vs : List Value} (h : AL w base v n n g vs) (hgl : g.length = n) (hn : 0 < n) : ∃ ab cap, v = .slice (some ⟨ab, 0, none⟩) n cap ∧ ab < w.heap.size ∧ ∀ i k, i < n → k < n → ∃ q, w.cell? ⟨ab, i, none⟩ = some (.slice (some ⟨q, 0, none⟩) n n) ∧ q < w.heap.size ∧ w.cell? ⟨q, k, none⟩ = some (.bool (rchB g i k)) := by
  obtain ⟨ab, cap, rfl, _, hlt⟩ := h.own.form hn
  have hl : vs.length = n := by have := h.own.1; simpa using this
  refine ⟨ab, cap, rfl, hlt, fun i k hi hk => ?_⟩
  obtain ⟨q, h1, h2, _⟩ := h.row i hi
  have hc := h.own.cells (g := ab) rfl i (vg vs i) (by simp [vg, List.getD, show i < vs.length by omega])
  rw [Addr.add_lit, Nat.zero_add, h1] at hc
  refine ⟨q, hc, h2.lt, ?_⟩
  rw [boxb_el h2 (by rw [rchL_len, hgl]; exact hk), rchL_el (by rw [hgl]; exact hk)]

set_option maxRecDepth 100000 in
set_option maxHeartbeats 8000000 in
theorem rgroups_any {hi : Nat} (ag : Option Addr) (n cg : Nat) (g : Gr) (w : World) (hg : GI hi w ag n g) (hh : hi ≤ w.heap.size) (hn : n ≤ 10000) :
    Calls Try.prog 20 #[.slice ag n cg] w fun e w' => Below w.heap.size w w' ∧ ∃ a c', e = .returned (.slice a (grpL g).length c') ∧ GI w'.heap.size w' a (grpL g).length (grpL g) := by
  have hgl := hg.1
  obtain ⟨i0, hi0, hz0, hz1, hz2⟩ := info_parts Try.info3
  obtain ⟨j0, hj0, hy0, hy1, hy2⟩ := info_parts Try.gRowInfo
  obtain ⟨l0, hl0, hx0, hx1, hx2⟩ := info_parts Try.bRowInfo
  obtain ⟨m0, hm0, hv0, hv1, hv2⟩ := info_parts Try.infoB
  have hmk : ∀ W : World, (Instr.makeSlice 46 (.int .i64 (n : Int)) (.int .i64 (n : Int))).run Try.prog W = .ok (.slice (some ⟨W.heap.size, 0, none⟩) n n) (W.alloc (.cells (bools (List.replicate n false)).toArray 4)) := fun W => by
    have h := run_make (P := Try.prog) W 46 4 m0 (.bool false) Try.underlying46 hm0 hv0 .i64 .i64 (n : Int) (n : Int) (by omega) (by omega) (by rw [hv2]; omega) (by omega)
    rw [hv1] at h
    have hm : madeCells (Value.bool false).cells (((n : Nat) : Int).toNat * 1) = (bools (List.replicate n false)).toArray := by
      apply Array.ext'
      have := toList_madeCells_one (Value.bool false) n
      rw [show (Value.bool false).cells = #[Value.bool false] from rfl]
      simpa [bools] using this
    rw [hm] at h
    simpa using h
  obtain ⟨MB, hMB⟩ : ∃ MB, (bools (List.replicate n false)).toArray = MB := ⟨_, rfl⟩
  rw [hMB] at hmk
  have HMB := Lib.hid hMB
  have HRC : Hid (∀ (W : World) (i : Nat), Below w.heap.size w W → Calls Try.prog 27 #[.slice ag n cg, .int .i64 (i : Int)] W fun e w' => ∃ q, e = .returned (.slice (some ⟨q, 0, none⟩) n n) ∧ W.heap.size ≤ q ∧ Box w' q 4 (bools (rchL g (i : Int))) ∧ Below W.heap.size W w') := fun W i hb => reached_any ag n cg g i W (hg.below hb hh) (Nat.le_trans hh hb.size) hn
  have HGL := Lib.hid hgl
  have HA0 : Hid (AL w w.heap.size (.slice none 0 0) 0 n g []) := ⟨World.ownsRow_nil _ _ _ _, fun i hi => by omega⟩
  clear hg hgl hm0 hv0 hv1 hv2 hMB hh
  go_enter Try.func20, Try.ntmps20
  go_wp2_with fail
  go_loopw [3, 4] (fun av iv wr => ∃ (i : Nat) (vs : List Value), i ≤ n ∧ iv = .int .i64 (i : Int) ∧ Hid (AL wr w.heap.size av i n g vs) ∧ Hid (Below w.heap.size w wr)) (fun _ iv _ => n - (intOf iv).toNat)
  case atStart => exact ⟨0, [], Nat.zero_le _, rfl, HA0, Lib.hid (Below.refl _ _)⟩
  case round =>
    clear HA0
    obtain ⟨i, vs, hi1, rfl, HA, HB⟩ := hrel
    have hA := HA.out.own
    obtain ⟨ava, avc, rfl⟩ := own_shape hA
    by_cases hlt : i < n
    · have HR := Lib.hid (HRC.out wr i HB.out)
      have HLO := Lib.hid (ownsRow_lo hA)
      have hs := HB.out.size
      clear hA
      go_wp2_with (first
        | (go_at_call 27; (with_reducible refine (HR.out).mono ?_); rintro e w1 ⟨q, rfl, hq, hbx, hb1⟩; have HBX := Lib.hid hbx; have HB1 := Lib.hid hb1; clear hbx hb1 HR)
        | (at_builtin; refine wpList_append_lies _ rfl _ _ 45 rfl w.heap.size 46 l0 (.slice none 0 0) 1 24 Try.underlying45 hl0 hx0 hx1 hx2 rfl (by decide) _ i vs rfl ((ownsRow_below HA.out.own HB1.out).alloc _) ⟨w1.heap.size, 0, none⟩ 1 1 [.slice (some ⟨q, 0, none⟩) n n] rfl rfl (news_at (cs := [.slice (some ⟨q, 0, none⟩) n n]) rfl) (by simp [Value.oneCell']) (by decide) ?c3 ?c4 ?c5 _ rfl ?_))
      case c3 => unfold maxLen; omega
      case c4 => omega
      case c5 => have := HB1.out.size; first | omega | (simp; omega)
      intro g9 cap9 w9 hown9 hgr9 hat9 hlt9
      have HA9 : Hid (AL w9 w.heap.size (.slice (some ⟨g9, 0, none⟩) (i + 1) cap9) (i + 1) n g _) := HA.out.push HB1.out hq HBX.out ((Below.refl _ w1).alloc (Nat.le_refl _) _) hgr9 hown9 (by rw [World.size_alloc]; exact hat9)
      have HB9 : Hid (Below w.heap.size w w9) := (HB.out.trans (HB1.out.mono hs)).trans (((Below.refl w.heap.size w1).alloc (Nat.le_trans hs HB1.out.size) _).grown hgr9 (by rw [World.size_alloc]; have := HB1.out.size; omega) fun p hp => (HLO.out p hp).1)
      clear hown9 hgr9 hat9
      go_wp2_with fail
      go_roundw
      case rel => exact ⟨i + 1, _, by omega, by go_num, HA9, HB9⟩
      case measure => simp [intOf]; omega
    · have hin : i = n := by omega
      subst hin
      have hge : ¬ ((i : Int) < (i : Int)) := by omega
      obtain ⟨w2, hw2⟩ : ∃ w2, wr = w2 := ⟨_, rfl⟩
      have hmk2 := hmk w2
      have hbx : Box (w2.alloc (.cells MB 4)) w2.heap.size 4 (bools (List.replicate i false)) := by rw [← HMB.out]; exact Box.new _ _ _
      have hba : Below w2.heap.size w2 (w2.alloc (.cells MB 4)) := (Below.refl _ _).alloc (Nat.le_refl _) _
      subst hw2
      obtain ⟨p, hp⟩ : ∃ p, wr.heap.size = p := ⟨_, rfl⟩
      obtain ⟨w3, hw3⟩ : ∃ w3, wr.alloc (.cells MB 4) = w3 := ⟨_, rfl⟩
      rw [hw3] at hmk2 hbx hba
      rw [hp] at hmk2 hbx hba
      have hpw : w.heap.size ≤ p := by rw [← hp]; exact HB.out.size
      have HAC : Hid (0 < i → ∃ ab, ava = some ⟨ab, 0, none⟩ ∧ ab < p ∧ ∀ j k, j < i → k < i → ∃ q, wr.cell? ⟨ab, j, none⟩ = some (.slice (some ⟨q, 0, none⟩) i i) ∧ q < p ∧ wr.cell? ⟨q, k, none⟩ = some (.bool (rchB g j k))) := fun h0 => by
        obtain ⟨ab, cap, e, h1, h2⟩ := HA.out.cell HGL.out h0
        cases e
        refine ⟨ab, rfl, by rw [← hp]; exact h1, fun j k hj hk => ?_⟩
        obtain ⟨q, a1, a2, a3⟩ := h2 j k hj hk
        exact ⟨q, a1, by rw [← hp]; exact a2, a3⟩
      have HBW := HB
      have HX3 := Lib.hid hbx
      have HB3 := Lib.hid hba
      have HD0 := Lib.hid (DI.zero (mutB g) i)
      have HG0 := Lib.hid (Grd.nil w3 (p + 1))
      clear hA hbx hba hw3 hp hmk HA
      go_wp2_with fail
      go_loopw [5, 7] (fun ov xv wo => ∃ (x : Nat) (L : List Bool) (rows : Gr) (vs : List Value), x ≤ i ∧ xv = .int .i64 (x : Int) ∧ Hid (DI (mutB g) i x L rows) ∧ Hid (Grd wo (p + 1) ov vs rows) ∧ Hid (Box wo p 4 (bools L)) ∧ Hid (Below p wr wo)) (fun _ xv _ => i - (intOf xv).toNat)
      case atStart => exact ⟨0, _, [], [], Nat.zero_le _, rfl, HD0, HG0, HX3, HB3⟩
      case round =>
        clear HD0 HG0 HX3 HB3 hmk2
        obtain ⟨x, L, rows, vs3, hx, rfl, HD, HG, HX, HB⟩ := hrel
        rename World => wo
        have hpl := HX.out.lt
        have hLl := HD.out.len
        have hGo := HG.out.own
        obtain ⟨ova, ovc, rfl⟩ := own_shape hGo
        by_cases hlt : x < i
        · have hcx := boxb_el HX.out (i := x) (by rw [hLl]; exact hlt)
          cases hb : bl L x with
          | true =>
            rw [hb] at hcx
            have HD2 := Lib.hid (HD.out.skip (by rw [← HGL.out]; exact mutB_eqv g) hlt hb)
            clear hb hGo hLl
            go_wp2_with fail
            go_roundw
            case rel => exact ⟨x + 1, L, rows, vs3, by omega, by go_num, HD2, HG, HX, HB⟩
            case measure => simp [intOf]; omega
          | false =>
            rw [hb] at hcx
            have HDJ := Lib.hid (DJ.start (by rw [← HGL.out]; exact mutB_eqv g) HD.out hlt hb)
            have HBL := Lib.hid hb
            have HL0 : Hid (wo.ownsRow wo.heap.size 3 1 (.slice none 0 0) ([] : List Int).length (intR [])) := World.ownsRow_nil _ _ _ _
            have HW0 : Hid (wo.grownBy wo (some p)) := ⟨rfl, rfl, rfl, Nat.le_refl _, fun _ _ _ => rfl⟩
            clear hb hGo hLl
            go_wp2_with fail
            go_loopw [8, 9] (fun lv kv wx => ∃ (k : Nat) (L2 : List Bool) (l : List Int), x ≤ k ∧ k ≤ i ∧ kv = .int .i64 (k : Int) ∧ Hid (DJ (mutB g) i x k L L2 l) ∧ Hid (wx.ownsRow wo.heap.size 3 1 lv l.length (intR l)) ∧ Hid (Box wx p 4 (bools L2)) ∧ Hid (wo.grownBy wx (some p))) (fun _ kv _ => i - (intOf kv).toNat)
            case atStart => exact ⟨x, L, [], Nat.le_refl _, hx, rfl, HDJ, HL0, HX, HW0⟩
            case round =>
              clear HDJ HL0 HW0 hcx
              obtain ⟨k, L2, l, hxk, hki, rfl, HDJ, HLO, HX2, HW⟩ := hrel
              rename World => wx
              have hpl2 := HX2.out.lt
              have hWs := HW.out.size
              have hLo := HLO.out
              obtain ⟨ll, hll⟩ : ∃ ll, l.length = ll := ⟨_, rfl⟩
              rw [hll] at hLo
              obtain ⟨lva, lvc, rfl⟩ := own_shape hLo
              have hbx2 : Below p wr wx := HB.out.trans ⟨HW.out.os, HW.out.tape, HW.out.output, HW.out.size, fun r hr => HW.out.block r (by omega) (fun e => by have := Option.some.inj e; omega)⟩
              have hll2 : ll ≤ i := by
                rw [← hll, HDJ.out.l]; exact Nat.le_trans (memI_len _ _ _) hki
              by_cases hlk : k < i
              · obtain ⟨ab, rfl, hab, hcell⟩ := HAC.out (by omega)
                obtain ⟨q1, c1, hq1, d1⟩ := hcell x k hlt hlk
                obtain ⟨q2, c2, hq2, d2⟩ := hcell k x hlk hlt
                have c1 := (hbx2.cell (p := ⟨ab, x, none⟩) hab).trans c1
                have c2 := (hbx2.cell (p := ⟨ab, k, none⟩) hab).trans c2
                have d1 := (hbx2.cell (p := ⟨q1, k, none⟩) hq1).trans d1
                have d2 := (hbx2.cell (p := ⟨q2, x, none⟩) hq2).trans d2
                have hab1 : ab < wx.heap.size := by omega
                have hq11 : q1 < wx.heap.size := by omega
                have hq21 : q2 < wx.heap.size := by omega
                obtain ⟨b1, hb1⟩ : ∃ b1, rchB g x k = b1 := ⟨_, rfl⟩
                obtain ⟨b2, hb2⟩ : ∃ b2, rchB g k x = b2 := ⟨_, rfl⟩
                rw [hb1] at d1
                rw [hb2] at d2
                have hmut : mutB g x k = (b1 && b2) := by unfold mutB; rw [hb1, hb2]
                by_cases hbb : b1 = true ∧ b2 = true
                · obtain ⟨rfl, rfl⟩ := hbb
                  have HDJ2 := Lib.hid (HDJ.out.yes hlk (by rw [hmut]; rfl))
                  have HLO2 := Lib.hid hLo
                  have HLW := Lib.hid (ownsRow_lo hLo)
                  have HLL := Lib.hid hll
                  have hL2 := HDJ.out.len
                  have hpwo : p < wo.heap.size := hpl
                  have hk2 : k < L2.length := by rw [hL2]; exact hlk
                  clear hcell hb1 hb2 hmut hLo hll hbx2 hL2
                  go_wp2_with (at_builtin; refine wpList_append_lies _ rfl _ _ 26 rfl wo.heap.size 3 i0 (.int .i64 0) 1 8 Try.underlying26 hi0 hz0 hz1 hz2 rfl (by decide) _ ll (intR l) rfl (HLO2.out.alloc _) ⟨wx.heap.size, 0, none⟩ 1 1 [.int .i64 (k : Int)] rfl rfl (news_at (cs := [.int .i64 (k : Int)]) rfl) (by simp [Value.oneCell']) (by decide) ?c3 ?c4 ?c5 _ rfl ?_)
                  case c3 => unfold maxLen; omega
                  case c4 => omega
                  case c5 => first | omega | (simp; omega)
                  intro g9 cap9 w9 hown9 hgr9 hat9 hlt9
                  have hX9 : Box w9 p 4 (bools L2) := (HX2.out.alloc _).grown hgr9 fun e => by have := (HLW.out p e.symm).1; omega
                  have c9 := boxb_el hX9 hk2
                  have f9 := hX9.frozen k
                  have l9 := hX9.lt
                  have hs9 := hgr9.size
                  rw [World.size_alloc] at hs9
                  have hg9lo : wo.heap.size ≤ g9 := by
                    rcases hat9 with e | e
                    · exact (HLW.out g9 e).1
                    · omega
                  have HX9 : Hid (Box (w9.setCell ⟨p, k, none⟩ (.bool true)) p 4 (bools (L2.set k true))) := boxb_set hX9 true
                  have HLO9 : Hid ((w9.setCell ⟨p, k, none⟩ (.bool true)).ownsRow wo.heap.size 3 1 (.slice (some ⟨g9, 0, none⟩) (ll + 1) cap9) (l ++ [(k : Int)]).length (intR (l ++ [(k : Int)]))) := by
                    show World.ownsRow _ _ _ _ _ _ _
                    have e : (l ++ [(k : Int)]).length = ll + 1 := by rw [List.length_append, HLL.out]; rfl
                    rw [e]
                    refine own_set ?_ (fun r hr => by cases hr; show g9 ≠ p; omega) _
                    simpa [intR] using hown9
                  have HW9 : Hid (wo.grownBy (w9.setCell ⟨p, k, none⟩ (.bool true)) (some p)) := by
                    refine ⟨hgr9.os.trans HW.out.os, hgr9.tape.trans HW.out.tape, hgr9.output.trans HW.out.output, by simp [World.setCell]; omega, fun r hr hne => ?_⟩
                    have hrp : r ≠ p := fun e => hne (by rw [e])
                    rw [Below.heap_setCell _ _ _ _ hrp, hgr9.block r (by rw [World.size_alloc]; omega) (fun e => by have := (HLW.out r e.symm).1; omega), Below.heap_alloc _ _ _ (by omega), HW.out.block r hr hne]
                  clear hown9 hgr9 hat9 hX9
                  go_wp2_with fail
                  go_roundw
                  case rel => exact ⟨k + 1, L2.set k true, l ++ [(k : Int)], by omega, by omega, by go_num, HDJ2, HLO9, HX9, HW9⟩
                  case measure => simp [intOf]; omega
                · have HDJ2 := Lib.hid (HDJ.out.no (by
                    rw [hmut]
                    cases b1 <;> cases b2 <;> simp_all))
                  rcases (show b1 = false ∨ (b1 = true ∧ b2 = false) from by cases b1 <;> cases b2 <;> simp_all) with rfl | ⟨rfl, rfl⟩
                  · clear hcell hb1 hb2 hmut hLo hll hbx2 hbb
                    go_wp2_with fail
                    go_roundw
                    case rel => exact ⟨k + 1, L2, l, by omega, by omega, by go_num, HDJ2, HLO, HX2, HW⟩
                    case measure => simp [intOf]; omega
                  · clear hcell hb1 hb2 hmut hLo hll hbx2 hbb
                    go_wp2_with fail
                    go_roundw
                    case rel => exact ⟨k + 1, L2, l, by omega, by omega, by go_num, HDJ2, HLO, HX2, HW⟩
                    case measure => simp [intOf]; omega
              · have hkn : k = i := by omega
                have hdj := HDJ.out
                rw [hkn] at hdj
                have HD2 := Lib.hid (hdj.done HD.out hlt HBL.out)
                obtain ⟨m, hm⟩ : ∃ m, rows.length = m := ⟨_, rfl⟩
                have hmn : m ≤ i := by
                  rw [← hm, HD.out.rows]
                  unfold grp2
                  rw [List.length_map]
                  exact Nat.le_trans (led_len _ _) hx
                have hG := HG.out
                rw [hm] at hG
                have hGx : Grd wx (p + 1) (.slice ova m ovc) vs3 rows := hG.agree (fun r hr => HW.out.block r (ownsRow_lo hG.own r hr).2 (fun e => by have := (ownsRow_lo hG.own r hr).1; have := Option.some.inj e; omega)) (fun j hj r hr => HW.out.block r (ownsRow_lo (hG.row j hj) r hr).2 (fun e => by have := (ownsRow_lo (hG.row j hj) r hr).1; have := Option.some.inj e; omega))
                have hGo := hGx.own
                rw [hm] at hGo
                have HGX := Lib.hid hGx
                have HGO := Lib.hid hGo
                have HM := Lib.hid hm
                have HGLO := Lib.hid (ownsRow_lo hG.own)
                have HGRO := Lib.hid (fun j (hj : j < rows.length) => ownsRow_lo (hG.row j hj))
                have HBX := Lib.hid hbx2
                have HLL := Lib.hid hll
                have HLO2 := Lib.hid hLo
                have HLW := Lib.hid (ownsRow_lo hLo)
                have hge : ¬ ((k : Int) < (i : Int)) := by omega
                rw [hm]
                clear hkn hdj hm hG hGx hGo hbx2 hll hLo HG
                go_wp2_with (at_builtin; refine wpList_append_lies _ rfl _ _ 23 rfl (p + 1) 26 j0 (.slice none 0 0) 1 24 Try.underlying23 hj0 hy0 hy1 hy2 rfl (by decide) _ m vs3 rfl (HGO.out.alloc _) ⟨wx.heap.size, 0, none⟩ 1 1 [.slice lva ll lvc] rfl rfl (news_at (cs := [.slice lva ll lvc]) rfl) (by simp [Value.oneCell']) (by decide) ?c3 ?c4 ?c5 _ rfl ?_)
                case c3 => unfold maxLen; omega
                case c4 => omega
                case c5 => first | omega | (simp; omega)
                intro g9 cap9 w9 hown9 hgr9 hat9 hlt9
                have HX9 : Hid (Box w9 p 4 (bools L2)) := (HX2.out.alloc _).grown hgr9 fun e => by have := (HGLO.out p e.symm).1; omega
                have HB9 : Hid (Below p wr w9) := (HBX.out.alloc (by omega) _).grown hgr9 (by rw [World.size_alloc]; omega) fun r hr => by have := (HGLO.out r hr).1; omega
                have HG9 : Hid (Grd w9 (p + 1) (.slice (some ⟨g9, 0, none⟩) (m + 1) cap9) (vs3 ++ [.slice lva ll lvc]) (rows ++ [l])) := by
                  have h9 := HGX.out
                  have hm := HM.out
                  subst hm
                  have hll := HLL.out
                  subst hll
                  have hl9 : wx.ownsRow (p + 1) 3 1 (.slice lva l.length lvc) l.length (intR l) := by
                    obtain ⟨a1, a2 | ⟨r, cp, cur, a2, a3, a4⟩⟩ := HLO2.out
                    · exact ⟨a1, .inl a2⟩
                    · exact ⟨a1, .inr ⟨r, cp, cur, a2, by omega, a4⟩⟩
                  exact h9.push (u := .slice lva l.length lvc) (r := l) hl9 (fun r hr => ⟨fun e => by have := (HLW.out r hr).1; have := (HGLO.out r e).2; omega, fun j hj e => by have := (HLW.out r hr).1; have := (HGRO.out j hj r e).2; omega⟩) ((Below.refl _ wx).alloc (Nat.le_refl _) _) hgr9 hown9 (by rw [World.size_alloc]; exact hat9)
                clear hown9 hgr9 hat9
                go_wp2_with fail
                go_roundw
                case rel => exact ⟨x + 1, L2, rows ++ [l], _, by omega, by go_num, HD2, HG9, HX9, HB9⟩
                case measure => simp [intOf]; omega
        · have hxi : x = i := by omega
          have hrows : rows = grpL g := by
            rw [HD.out.rows, hxi]; unfold grpL grpI; rw [HGL.out]
          have hrl : rows.length ≤ i := by rw [hrows]; unfold grpL; rw [HGL.out]; exact grpI_len
          have hrd := HG.out.read (by omega) (fun j => by have : (rowG rows j).length ≤ i := by rw [hrows]; unfold grpL; rw [HGL.out]; exact grp2_row
                                                          omega)
          obtain ⟨a, cc, e, hgi⟩ := hrd
          cases e
          have HGI := Lib.hid hgi
          have HRO := Lib.hid hrows
          have HBB : Hid (Below w.heap.size w wo) := HBW.out.trans (HB.out.mono hpw)
          have hge : ¬ ((x : Int) < (i : Int)) := by omega
          clear hxi hrows hgi hrl hGo hLl
          go_wp2_with fail
          go_ret
          have hgi := HGI.out
          have hro := HRO.out
          rw [hro] at hgi ⊢
          first | exact ⟨HBB.out, _, _, rfl, hgi⟩ | exact ⟨HBB.out, _, ⟨_, rfl⟩, hgi⟩

end Go.Proofs.Ytdbjmonboecfgaa
