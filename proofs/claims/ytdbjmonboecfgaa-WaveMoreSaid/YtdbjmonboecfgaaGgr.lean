/- Package scc: groups. -/
import Derived.Test.YtdbjmonboecfgaaGgd
import Derived.Test.YtdbjmonboecfgaaGgm
import Derived.Test.YtdbjmonboecfgaaGwl
import Derived.Deep.CutRange
import Derived.Deep.DeepCutAuto
namespace Go.Proofs.Ytdbjmonboecfgaa
open Go.RowKit Go.Maps
set_option linter.unusedVariables false
set_option linter.unusedSimpArgs false

theorem Try.gRowInfo : (Try.prog.info? 26).map (fun i => (i.zero, i.size, i.bytes)) = some (some (.slice none 0 0), 1, 24) := by kernel_rfl
theorem grpI_len {S : Nat → Nat → Bool} {k : Nat} : (grpI S k).length ≤ k := by
  unfold grpI grp2; rw [List.length_map]; exact led_len _ _

set_option maxRecDepth 100000 in
set_option maxHeartbeats 8000000 in
theorem groups_any {c : WB} {w : World} {wv ov : Value} {k : Nat} {G : Nat → Nat → Nat} {s : St} {ag : Option Addr} {cg : Nat} (h : WK c w wv ov k G s) (hgv : c.gv = .slice ag c.n cg) (hn : c.n ≤ 10000) (hl : s.fs.length = c.n) (hf : ∀ i, i < c.n → el s.fs i < c.n) :
    Calls Try.prog 24 #[.pointer (some ⟨c.b, 0, none⟩)] w fun e w' => Below w.heap.size w w' ∧ ∃ a c', e = .returned (.slice a (grpI (sameF s.fs) c.n).length c') ∧ GI w'.heap.size w' a (grpI (sameF s.fs) c.n).length (grpI (sameF s.fs) c.n) := by
  obtain ⟨i0, hi0, hz0, hz1, hz2⟩ := info_parts Try.info3
  obtain ⟨j0, hj0, hy0, hy1, hy2⟩ := info_parts Try.gRowInfo
  obtain ⟨base, b, mb, cb, eb, fb, n, gv⟩ := c
  dsimp only at hgv hn hl hf ⊢
  subst hgv
  have hmk : ∀ W : World, (Instr.makeSlice 26 (.int .i64 (n : Int)) (.int .i64 (n : Int))).run Try.prog W = .ok (.slice (some ⟨W.heap.size, 0, none⟩) n n) (W.alloc (.cells (List.replicate n (Value.int .i64 0)).toArray 3)) := fun W => by
    have h := run_make (P := Try.prog) W 26 3 i0 (.int .i64 0) Try.underlying26 hi0 hz0 .i64 .i64 (n : Int) (n : Int) (by omega) (by omega) (by rw [hz2]; omega) (by omega)
    rw [hz1] at h
    have hm : madeCells (Value.int .i64 0).cells (((n : Nat) : Int).toNat * 1) = (List.replicate n (Value.int .i64 0)).toArray := by
      apply Array.ext'
      have := toList_madeCells_one (Value.int .i64 0) n
      rw [show (Value.int .i64 0).cells = #[Value.int .i64 0] from rfl]
      simpa using this
    rw [hm] at h
    simpa using h
  obtain ⟨MB, hMB⟩ : ∃ MB, (List.replicate n (Value.int .i64 0)).toArray = MB := ⟨_, rfl⟩
  rw [hMB] at hmk
  have hbx : Box (w.alloc (.cells MB 3)) w.heap.size 3 (intsOf (List.replicate n 0)) := by
    rw [← hMB]
    have e : List.replicate n (Value.int .i64 0) = intsOf (List.replicate n 0) := by simp [intsOf]
    rw [e]
    exact Box.new _ _ _
  have hba : Below w.heap.size w (w.alloc (.cells MB 3)) := (Below.refl _ _).alloc (Nat.le_refl _) _
  obtain ⟨q0, q1, q2, q3, q4, q5, q6, q7⟩ := box8 h.box
  have hbl := h.box.lt
  have HFC : Hid (∀ i, i < n → w.cell? ⟨fb, i, none⟩ = some (.int .i64 (el s.fs i : Int))) := fun i hi => box_el h.fs (by rw [hl]; exact hi)
  have hfbl := h.fs.lt
  obtain ⟨F, hF⟩ : ∃ F, s.fs = F := ⟨_, rfl⟩
  rw [hF] at HFC hf ⊢
  have HF := Lib.hid hf
  dsimp only at q0 q1 q2 q3 q4 q5 q6 q7 hbl hfbl
  clear h hl hf hF q1 q2 q3 q4 q5 q6 hMB
  obtain ⟨q, hq⟩ : ∃ q, w.heap.size = q := ⟨_, rfl⟩
  have HQ := Lib.hid hq
  obtain ⟨w1, hw1⟩ : ∃ w1, w.alloc (.cells MB 3) = w1 := ⟨_, rfl⟩
  have q0' : w1.cell? ⟨b, 0, none⟩ = some (.slice ag n cg) := by rw [← hw1]; exact (hba.cell (p := ⟨b, 0, none⟩) hbl).trans q0
  have q7' : w1.cell? ⟨b, 7, none⟩ = some (.slice (some ⟨fb, 0, none⟩) n n) := by rw [← hw1]; exact (hba.cell (p := ⟨b, 7, none⟩) hbl).trans q7
  have hbl1 : b < w1.heap.size := by rw [← hw1]; simp; omega
  have hmk1 := hmk w
  rw [hw1] at hmk1 hbx hba
  rw [hq] at hmk1 hbx hba hbl hfbl
  have HX0 := Lib.hid hbx
  have HB0 := Lib.hid hba
  have HN0 := Lib.hid (NI.zero F n)
  have HG0 := Lib.hid (Grd.nil w1 (q + 1))
  have hblq : b < w.heap.size := by rw [hq]; exact hbl
  clear hbx hba hmk hw1 hq
  go_enter Try.func24, Try.ntmps24
  go_wp2_with fail
  go_loopw [3, 19] (fun lv kv wr => ∃ (k : Nat) (N : List Nat) (rows : Gr) (vs : List Value), k ≤ n ∧ kv = .int .i64 (k : Int) ∧ Hid (NI F n k N rows) ∧ Hid (Grd wr (q + 1) lv vs rows) ∧ Hid (Box wr q 3 (intsOf N)) ∧ Hid (Below q w wr)) (fun _ kv _ => n - (intOf kv).toNat)
  case atStart => exact ⟨0, _, [], [], Nat.zero_le _, rfl, HN0, HG0, HX0, HB0⟩
  case round =>
    clear HN0 HG0 HX0 HB0 q0 q7 q0' q7' hbl1 hblq hmk1
    obtain ⟨k, N, rows, vs, hk, rfl, HNI, HG, HX, HB⟩ := hrel
    have hqs := HX.out.lt
    by_cases hlt : k < n
    · have hcf := (HB.out.cell (p := ⟨fb, k, none⟩) hfbl).trans (HFC.out k hlt)
      have hfn := HF.out k hlt
      obtain ⟨f, hf⟩ : ∃ f, el F k = f := ⟨_, rfl⟩
      rw [hf] at hcf hfn
      have hstep := HNI.out.step (by rw [hf]; exact hfn)
      have hNl := HNI.out.len
      have hcn := box_el HX.out (i := f) (by rw [hNl]; exact hfn)
      have hfrz := HX.out.frozen f
      have hrl : rows.length ≤ n := by rw [HNI.out.rows]; exact Nat.le_trans grpI_len hk
      have hrr : ∀ i, (rowG rows i).length ≤ n := fun i => by rw [HNI.out.rows]; exact Nat.le_trans grp2_row hk
      rw [hf] at hstep
      obtain ⟨N1, hN1⟩ : ∃ N1, (if el N f = 0 then N.set f (rows.length + 1) else N) = N1 := ⟨_, rfl⟩
      obtain ⟨rows1, hr1⟩ : ∃ rows1, (if el N f = 0 then rows ++ [[]] else rows) = rows1 := ⟨_, rfl⟩
      dsimp only at hstep
      rw [hN1, hr1] at hstep
      obtain ⟨nv, hnv⟩ : ∃ nv, el N f = nv := ⟨_, rfl⟩
      rw [hnv] at hcn hN1 hr1
      have HN1 := Lib.hid hN1
      have HR1 := Lib.hid hr1
      have HST := Lib.hid hstep
      have HRL := Lib.hid hrl
      have HRR := Lib.hid hrr
      have HNL := Lib.hid hNl
      have hfb2 : fb < wr.heap.size := by omega
      have hG := HG.out.own
      obtain ⟨av, cv, rfl⟩ := own_shape hG
      clear hstep hN1 hr1 hNl hrl hrr hnv hf hG
      go_upto_if 28 with fail
      go_cut [3] from 20 to 52 (fun v3 wx => (∃ vs1, Grd wx (q + 1) v3 vs1 rows1) ∧ Box wx q 3 (intsOf N1) ∧ Below q w wx)
      case first =>
        by_cases h0 : nv = 0
        · subst h0
          have e1 : rows ++ [[]] = rows1 := by have := HR1.out; rwa [if_pos rfl] at this
          have e2 : N.set f (rows.length + 1) = N1 := by have := HN1.out; rwa [if_pos rfl] at this
          have E1 := Lib.hid e1
          have E2 := Lib.hid e2
          obtain ⟨m, hm⟩ : ∃ m, rows.length = m := ⟨_, rfl⟩
          have hmn : m ≤ 10000 := by have := HRL.out; omega
          have hG := HG.out
          have hGo := HG.out.own
          rw [hm] at hGo ⊢
          have HM := Lib.hid hm
          have HGO := Lib.hid hGo
          have HGR : Hid (Grd wr (q + 1) (.slice av m cv) vs rows) := by show Grd _ _ _ _ _; rw [← hm]; exact hG
          have HLO := Lib.hid (ownsRow_lo hGo)
          clear e1 e2 hm hG hGo HG
          go_wp2_with (at_builtin; refine wpList_append_lies _ rfl _ _ 23 rfl (q + 1) 26 j0 (.slice none 0 0) 1 24 Try.underlying23 hj0 hy0 hy1 hy2 rfl (by decide) _ m vs rfl (HGO.out.alloc _) ⟨wr.heap.size, 0, none⟩ 1 1 [.slice none 0 0] rfl rfl (news_at (cs := [.slice none 0 0]) rfl) (by simp [Value.oneCell']) (by decide) ?c3 ?c4 ?c5 _ rfl ?_)
          case c3 => unfold maxLen; omega
          case c4 => omega
          case c5 => first | omega | (simp; omega)
          intro g9 cap9 w9 hown9 hgr9 hat9 hlt9
          have hX9 : Box w9 q 3 (intsOf N) := (HX.out.alloc _).grown hgr9 fun e => by have := (HLO.out q e.symm).1; omega
          have hB9 : Below q w w9 := (HB.out.alloc (by omega) _).grown hgr9 (by simp; omega) fun p hp => by have := (HLO.out p hp).1; omega
          have hG9 : Grd w9 (q + 1) (.slice (some ⟨g9, 0, none⟩) (m + 1) cap9) (vs ++ [.slice none 0 0]) (rows ++ [[]]) := by
            have h9 := HGR.out
            have hm := HM.out
            subst hm
            exact h9.push (u := .slice none 0 0) (r := []) (World.ownsRow_nil _ _ _ _) (by simp [Value.ownBlock]) ((Below.refl _ wr).alloc (Nat.le_refl _) _) hgr9 hown9 (by rw [World.size_alloc]; exact hat9)
          have f9 := hX9.frozen f
          have c9 := box_el hX9 (i := f) (by rw [HNL.out]; exact hfn)
          have l9 := hX9.lt
          have HX9 : Hid (Box (w9.setCell ⟨q, f, none⟩ (.int .i64 ((m : Int) + 1))) q 3 (intsOf N1)) := by
            show Box _ _ _ _
            rw [← E2.out, HM.out, ← intsOf_set]
            have e : ((m + 1 : Nat) : Int) = (m : Int) + 1 := by omega
            rw [e]
            exact hX9.set f _
          have HG9 : Hid (Grd (w9.setCell ⟨q, f, none⟩ (.int .i64 ((m : Int) + 1))) (q + 1) (.slice (some ⟨g9, 0, none⟩) (m + 1) cap9) (vs ++ [.slice none 0 0]) rows1) := by
            show Grd _ _ _ _ _
            rw [← E1.out]
            exact hG9.agree (fun p hp => Below.heap_setCell _ _ _ _ (fun e => by have := (ownsRow_lo hG9.own p hp).1; have e' : p = q := e; omega)) (fun i hi p hp => Below.heap_setCell _ _ _ _ (fun e => by have := (ownsRow_lo (hG9.row i hi) p hp).1; have e' : p = q := e; omega))
          have HB9 : Hid (Below q w (w9.setCell ⟨q, f, none⟩ (.int .i64 ((m : Int) + 1)))) := hB9.setCell (p := ⟨q, f, none⟩) (Nat.le_refl _) _
          clear hown9 hgr9 hat9 hX9 hB9 hG9
          go_wp2_with fail
          go_meet
          exact ⟨⟨_, HG9.out⟩, HX9.out, HB9.out⟩
        · have e1 : rows = rows1 := by have := HR1.out; rwa [if_neg h0] at this
          have e2 : N = N1 := by have := HN1.out; rwa [if_neg h0] at this
          have E1 := Lib.hid e1
          have E2 := Lib.hid e2
          clear e1 e2
          go_wp2_with fail
          go_meet
          rw [← E1.out, ← E2.out]
          exact ⟨⟨_, HG.out⟩, HX.out, HB.out⟩
      case rest =>
        obtain ⟨⟨vs1, hG⟩, hX, hB⟩ := hcut
        obtain ⟨hp1, hp2, hni⟩ := HST.out
        obtain ⟨p, hp⟩ : ∃ p, el N1 f - 1 = p := ⟨_, rfl⟩
        obtain ⟨pv, hpv⟩ : ∃ pv, el N1 f = pv := ⟨_, rfl⟩
        have hN1l : N1.length = n := by have := hni.len; exact this
        have hcn1 := box_el hX (i := f) (by rw [hN1l]; exact hfn)
        rw [hpv] at hcn1 hp hp1
        rw [hpv] at hp2 hni
        rw [hp] at hp2 hni
        have hpi : (pv : Int) - 1 = (p : Int) := by omega
        obtain ⟨m, hm⟩ : ∃ m, rows1.length = m := ⟨_, rfl⟩
        have hGo := hG.own
        rw [hm] at hGo hp2
        obtain ⟨o, ocap, hv3, ho1, ho2⟩ := hGo.form (by omega)
        obtain ⟨u, hu⟩ : ∃ u, vg vs1 p = u := ⟨_, rfl⟩
        have hco := hGo.cells (g := o) (by rw [hv3]; rfl) p (vg vs1 p) (by simp [vg, List.getD, show p < vs1.length by rw [hG.len, hm]; exact hp2])
        rw [Addr.add_lit, Nat.zero_add, hu] at hco
        have hfo : wc.frozen? ⟨o, p, none⟩ = false := by rw [hv3] at hGo; exact hGo.frozenAt p
        have hrw := hG.row p (by rw [hm]; exact hp2)
        rw [hu] at hrw
        obtain ⟨lr, hlr⟩ : ∃ lr, (rowG rows1 p).length = lr := ⟨_, rfl⟩
        rw [hlr] at hrw
        have hlrn : lr ≤ 10000 := by
          rw [← hlr, ← HR1.out]
          split
          · rename_i h0
            by_cases e : p < rows.length
            · rw [rowG_app e]; have := HRR.out p; omega
            · by_cases e2 : p = rows.length
              · rw [rowG_last e2]; simp
              · rw [rowG_out (by simp; omega)]; simp
          · have := HRR.out p; omega
        have hmn : m ≤ 10001 := by
          rw [← hm, ← HR1.out]
          have := HRL.out
          split
          · rw [List.length_append]; simp; omega
          · omega
        obtain ⟨ua, uc, rfl⟩ := own_shape hrw
        subst hv3
        have hocap : p < m := hp2
        have T1 : ∀ W, Sem.run Try.prog (Instr.indexAt 23 (.slice (some ⟨o, 0, none⟩) m ocap) (.int .i64 (p : Int))) W = .ok (.pointer (some ⟨o, p, none⟩)) W := fun W => by go_simp
        have HG1 := Lib.hid hG
        have HGo1 := Lib.hid hGo
        have HRW := Lib.hid hrw
        have HX1 := Lib.hid hX
        have HB1 := Lib.hid hB
        have HNI1 := Lib.hid hni
        have HLR := Lib.hid hlr
        have HM := Lib.hid hm
        have HU := Lib.hid hu
        have HLO := Lib.hid (ownsRow_lo hrw)
        have hxl := hX.lt
        have hsz := hB.size
        have HOB := Lib.hid (show some o ≠ (Value.slice ua lr uc).ownBlock from fun e => hG.ap p (by rw [hm]; exact hp2) o (by rw [hu]; exact e.symm) rfl)
        clear hG hGo hrw hX hB hni hlr hm hu hpv hp hN1l HST
        go_wp2_with (at_builtin; refine wpList_append_lies _ rfl _ _ 26 rfl (q + 1) 3 i0 (.int .i64 0) 1 8 Try.underlying26 hi0 hz0 hz1 hz2 rfl (by decide) _ lr (intR (rowG rows1 p)) rfl (HRW.out.alloc _) ⟨wc.heap.size, 0, none⟩ 1 1 [.int .i64 (k : Int)] rfl rfl (news_at (cs := [.int .i64 (k : Int)]) rfl) (by simp [Value.oneCell']) (by decide) ?c3 ?c4 ?c5 _ rfl ?_)
        case c3 => unfold maxLen; omega
        case c4 => omega
        case c5 => simp; omega
        intro g9 cap9 w9 hown9 hgr9 hat9 hlt9
        have q9 : w9.cell? ⟨o, p, none⟩ = some (.slice ua lr uc) := (World.cell?_of_block (hgr9.block o (by simp; omega) HOB.out)).trans ((World.cell?_of_block (Below.heap_alloc _ _ _ ho2)).trans hco)
        have f9 : w9.frozen? ⟨o, p, none⟩ = false := (World.frozen?_of_block (hgr9.block o (by simp; omega) HOB.out)).trans ((World.frozen?_of_block (Below.heap_alloc _ _ _ ho2)).trans hfo)
        have o9 : o < w9.heap.size := by have := hgr9.size; rw [World.size_alloc] at this; omega
        have HG9 : Hid (Grd (w9.setCell ⟨o, p, none⟩ (.slice (some ⟨g9, 0, none⟩) (lr + 1) cap9)) (q + 1) (.slice (some ⟨o, 0, none⟩) m ocap) (vs1.set p (.slice (some ⟨g9, 0, none⟩) (lr + 1) cap9)) (rows1.set p (rowG rows1 p ++ [(k : Int)]))) := by
          have hl9 : (rowG rows1 p ++ [(k : Int)]).length = lr + 1 := by rw [List.length_append, HLR.out]; rfl
          have := HG1.out.put (W := wc.alloc (.cells #[.int .i64 (k : Int)] 3)) (w9 := w9) (i := p) (o := o) (n := m) (cap := ocap) (g := g9) (c := cap9) (r := rowG rows1 p ++ [(k : Int)]) (by rw [HM.out]; exact hocap) rfl ((Below.refl _ wc).alloc (Nat.le_refl _) _) (by rw [HU.out]; exact hgr9) (by rw [hl9]; simpa [intR] using hown9) (by rw [HU.out, World.size_alloc]; exact hat9)
          rw [hl9] at this
          exact this
        have HX9 : Hid (Box (w9.setCell ⟨o, p, none⟩ (.slice (some ⟨g9, 0, none⟩) (lr + 1) cap9)) q 3 (intsOf N1)) := Box.setOther ((HX1.out.alloc _).grown hgr9 fun e => by have := (HLO.out q e.symm).1; omega) (by show q ≠ o; omega) _
        have HB9 : Hid (Below q w (w9.setCell ⟨o, p, none⟩ (.slice (some ⟨g9, 0, none⟩) (lr + 1) cap9))) := ((HB1.out.alloc (by omega) _).grown hgr9 (by simp; omega) fun r hr => by have := (HLO.out r hr).1; omega).setCell (p := ⟨o, p, none⟩) (by show q ≤ o; omega) _
        clear hown9 hgr9 hat9
        go_wp2_with fail
        go_roundw
        case rel => exact ⟨k + 1, N1, _, _, by omega, by go_num, HNI1, HG9, HX9, HB9⟩
        case measure => simp [intOf]; omega
    · have hkn : k = n := by omega
      have hrows := HNI.out.rows
      rw [hkn] at hrows
      have hrl : rows.length ≤ n := by rw [hrows]; exact grpI_len
      have hrd := HG.out.read (by omega) (fun i => by have : (rowG rows i).length ≤ n := by rw [hrows]; exact grp2_row
                                                      omega)
      obtain ⟨a, cc, rfl, hgi⟩ := hrd
      have HGI := Lib.hid hgi
      have HRO := Lib.hid hrows
      have hge : ¬ ((k : Int) < (n : Int)) := by omega
      clear hkn hrows hgi hrl
      go_wp2_with fail
      go_ret
      have hgi := HGI.out
      have hro := HRO.out
      subst hro
      have hB := HB.out
      rw [← HQ.out] at hB
      first | exact ⟨hB, a, cc, rfl, hgi⟩ | exact ⟨hB, a, ⟨cc, rfl⟩, hgi⟩

end Go.Proofs.Ytdbjmonboecfgaa
