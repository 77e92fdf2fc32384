/- The law SccMore. -/
import Derived.Test.YtdbjmonboecfgaaGmk
import Derived.Test.YtdbjmonboecfgaaGaw
import Derived.Test.YtdbjmonboecfgaaGcm
import Derived.Test.YtdbjmonboecfgaaGoc
import Derived.Test.YtdbjmonboecfgaaGot
import Derived.Test.YtdbjmonboecfgaaGxo
import Derived.BigQuiet
namespace Go.Proofs.Ytdbjmonboecfgaa
open Go.RowKit Go.Maps
set_option linter.unusedVariables false
set_option linter.unusedSimpArgs false

/-- 'append' in a drawn region, whatever is appended. -/
theorem append_noneO {P : Program} {w : World} (base : Nat) (t ty e : TypeId) (i : TypeInfo) (size c : Nat) (ht : P.underlying t = some (.slice e)) (hi : P.info? e = some i)
    (v : Value) (n : Nat) (xs : List Value) (hown : w.ownsRow base e size v n xs) : (Builtin.append_ #[t, t] ty #[v, .slice none 0 c]).run P w = .ok v w := by
  rcases hown.2 with ⟨rfl, rfl⟩ | ⟨g, cap, cur, rfl, _, _, hnc, _⟩
  · simp [Builtin.append_, run_underlying ht, sizeOf, typeInfo, hi, Builtin.lenOf, Builtin.firstCells]
  · simp [Builtin.append_, run_underlying ht, sizeOf, typeInfo, hi, Builtin.lenOf, Builtin.firstCells, hnc, storeCells]
theorem step_append_any {P : Program} {ops : Array Oper} {o : Oper} {a : Act} {w : World} {K : Act → World → Prop} {Q : Exit → Act → World → Prop} {E : Prop} (hgd : o.guard = none) (s x : Operand) (t : TypeId)
    (ho : o.op = .call { callee := .builtin .append, args := #[s, x], argTypes := #[t, t] })
    (base : Nat) (e : TypeId) (i : TypeInfo) (z : Value) (size bytes : Nat) (ht : P.underlying t = some (.slice e)) (hi : P.info? e = some i) (hz : i.zero = some z)
    (hsize : i.size = size) (hby : i.bytes = bytes) (hzs : z.cells.size = size) (hsz : 0 < size)
    (v : Value) (n : Nat) (xs : List Value) (hs : a.eval s = v) (hown : w.ownsRow base e size v n xs)
    (ao : Option Addr) (m c : Nat) (news : List Value) (hx : a.eval x = .slice ao m c) (hnil : ao = none → m = 0) (hl : news.length = m * size)
    (hnews : ∀ ad, ao = some ad → ∀ j u, news[j]? = some u → w.cell? (ad.add j) = some u) (h1 : ∀ u ∈ news, u.oneCell' = true)
    (h63 : n + m ≤ maxLen) (hbytes : (n + m) * bytes ≤ 140737488355328) (hbase : base ≤ w.heap.size)
    (h : ∀ v' w', w'.ownsRow base e size v' (n + m) (xs ++ news) → w.grownBy w' v.ownBlock → K (a.put o.dst v') w') : if Region.wanted o (yielded ops a.tmps) = true then Oper.wp P o a w K Q else E := by
  rw [if_pos (by simp [Region.wanted, hgd])]
  cases ao with
  | some ad => exact wp_append_own (w := w) s x t ho base e i z size bytes ht hi hz hsize hby hzs hsz v n xs hs hown ad m c news hx hl (hnews ad rfl) h1 h63 hbytes hbase (fun v' w' h2 h3 _ => h v' w' h2 h3)
  | none =>
    obtain rfl := hnil rfl
    obtain rfl : news = [] := List.eq_nil_of_length_eq_zero (by simpa using hl)
    have hrun := append_noneO (P := P) (w := w) base t o.type e i size c ht hi v n xs hown
    unfold Oper.wp
    simp [execOp, ho, resolve, invoke, builtin, hs, hx, hrun, Result.andThen]
    exact h v w (by simpa using hown) (World.grownBy.refl _ _)

set_option maxRecDepth 100000 in
set_option maxHeartbeats 16000000 in
theorem more_law (a : Option Addr) (l c : Nat) (xs : List Nat) (kn ka : Nat) (w : World) {hi : Nat} (hkn : kn ≤ 255) (hka : ka ≤ 255) (hx : RowY 0 hi w a l xs) (hhi : hi ≤ w.heap.size) (hb : ∀ i, i < l → xs.getD i 0 ≤ 255) :
    Calls Try.prog 3 #[.slice a l c, .int .u8 (kn : Int), .int .u8 (ka : Int)] w fun e w' => e = .returned (.bool true) ∧ Below w.heap.size w w' := by
  have HMK := Lib.hid (make_any a l c xs kn w hkn hx hhi hb)
  obtain ⟨n, hn⟩ : ∃ n, kn % 16 = n := ⟨_, rfl⟩
  rw [hn] at HMK
  have hn16 : n < 16 := by omega
  obtain ⟨i0, hi0, hz0, hz1, hz2⟩ := info_parts Try.info3
  obtain ⟨j0, hj0, hy0, hy1, hy2⟩ := info_parts Try.gRowInfo
  have hmk : ∀ W : World, (Instr.makeSlice 23 (.int .i64 (n : Int)) (.int .i64 (n : Int))).run Try.prog W = .ok (.slice (some ⟨W.heap.size, 0, none⟩) n n) (W.alloc (.cells (List.replicate n (Value.slice none 0 0)).toArray 26)) := fun W => by
    have h := run_make (P := Try.prog) W 23 26 j0 (.slice none 0 0) Try.underlying23 hj0 hy0 .i64 .i64 (n : Int) (n : Int) (by omega) (by omega) (by rw [hy2]; omega) (by omega)
    rw [hy1] at h
    have hm : madeCells (Value.slice none 0 0).cells (((n : Nat) : Int).toNat * 1) = (List.replicate n (Value.slice none 0 0)).toArray := by
      apply Array.ext'
      have := toList_madeCells_one (Value.slice none 0 0) n
      rw [show (Value.slice none 0 0).cells = #[Value.slice none 0 0] from rfl]
      simpa using this
    rw [hm] at h
    simpa using h
  obtain ⟨MB, hMB⟩ : ∃ MB, (List.replicate n (Value.slice none 0 0)).toArray = MB := ⟨_, rfl⟩
  rw [hMB] at hmk
  have HMB := Lib.hid hMB
  clear hMB hx hb hhi hn hj0 hy0 hy1 hy2
  by_cases h0 : n = 0
  · subst h0
    go_enter Try.func3, Try.ntmps3
    go_wp2_with (first
      | (go_at_call 9; (with_reducible refine (HMK.out).mono ?_); rintro e w1 ⟨hb1, ag, cg, g, rfl, hgi, hgp⟩; have HB1 := Lib.hid hb1; clear hb1 hgi hgp HMK)
      | (go_at_call 10; (with_reducible refine (awake_any w1).mono ?_); rintro e w2 ⟨rfl, hb2⟩; have HB2 := Lib.hid hb2; clear hb2))
    go_ret
    exact ⟨rfl, HB1.out.trans (HB2.out.mono HB1.out.size)⟩
  · obtain ⟨k, hk⟩ : ∃ k, ka % n = k := ⟨_, rfl⟩
    have hkn' : k < n := by rw [← hk]; exact Nat.mod_lt _ (by omega)
    have ek1 : (ka : Int) % (n : Int) = (k : Int) := by rw [← hk]; exact (Int.natCast_emod ka n).symm
    have ek2 : (ka : Int).tmod (n : Int) = (k : Int) := by rw [Int.tmod_eq_emod_of_nonneg (by omega)]; exact ek1
    have en0 : ((n : Int) == 0) = false := by simp; omega
    have wka : IntKind.i64.wrap (ka : Int) = (ka : Int) := IntWalk.i64_in _ (by omega)
    have wk : IntKind.i64.wrap (k : Int) = (k : Int) := IntWalk.i64_in _ (by omega)
    clear hk
    go_enter Try.func3, Try.ntmps3
    go_wp2_with (first
      | (go_at_call 9; (with_reducible refine (HMK.out).mono ?_); rintro e w1 ⟨hb1, ag, cg, g, rfl, hgi, hgp⟩; have HB1 := Lib.hid hb1; have HGI := Lib.hid hgi; have HGP := Lib.hid hgp; clear hb1 hgi hgp HMK))
    have hgl : g.length = n := HGP.out.1
    have HGL := Lib.hid hgl
    have HT0 : Hid (Two ((w1.alloc (.cells MB 26)).alloc (.cells MB 26)) w1.heap.size n (List.replicate n (Value.slice none 0 0)) (List.replicate n (Value.slice none 0 0)) (List.replicate n []) (List.replicate n [])) := by
      show Two _ _ _ _ _ _ _
      rw [← HMB.out]
      exact Two.zero (by omega)
    have HH0 : Hid (HM g 0 (List.replicate n [])) := by show HM _ _ _; rw [← hgl]; exact HM.zero g
    have HK0 : Hid (BM g 0 0 (List.replicate n [])) := by show BM _ _ _ _; rw [← hgl]; exact BM.zero g
    have HBa : Hid (Below w1.heap.size w1 ((w1.alloc (.cells MB 26)).alloc (.cells MB 26))) := ((Below.refl _ w1).alloc (Nat.le_refl _) _).alloc (by simp) _
    obtain ⟨w3, hw3⟩ : ∃ w3, (w1.alloc (.cells MB 26)).alloc (.cells MB 26) = w3 := ⟨_, rfl⟩
    rw [hw3] at HT0 HBa ⊢
    obtain ⟨o, ho⟩ : ∃ o, w1.heap.size = o := ⟨_, rfl⟩
    have HO := Lib.hid ho
    rw [ho] at HT0 HBa HGI ⊢
    clear hw3 ho hgl
    go_loopw [11] (fun iv wr => ∃ (i : Nat) (h b : Gr) (hs bs : List Value), i ≤ n ∧ iv = .int .i64 (i : Int) ∧ Hid (HM g i h) ∧ Hid (BM g i 0 b) ∧ Hid (Two wr o n hs bs h b) ∧ Hid (Below o w1 wr)) (fun iv _ => n - (intOf iv).toNat)
    case atStart => exact ⟨0, _, _, _, _, by omega, rfl, HH0, HK0, HT0, HBa⟩
    case round =>
      clear HH0 HK0 HT0 HBa
      obtain ⟨i, h, b, hs, bs, hin, rfl, HHM, HBM, HT, HB⟩ := hrel
      by_cases hlt : i < n
      · have hgi := HGI.out.below HB.out (Nat.le_refl _)
        obtain ⟨gb, off, ai, ci, eag, hgbo, hcell, hrow⟩ := hgi.row hlt
        subst eag
        obtain ⟨r, hr⟩ : ∃ r, rowG g i = r := ⟨_, rfl⟩
        obtain ⟨m, hm⟩ : ∃ m, r.length = m := ⟨_, rfl⟩
        have hm40 : m ≤ 40 := by have := (HGP.out.2 i).1; rw [hr, hm] at this; exact this
        rw [hr, hm] at hcell hrow
        have hsz := HB.out.size
        have hol := (ownsRow_lo HT.out.gb.own (o + 1) rfl).2
        have holo : o < wr.heap.size := by omega
        have hgbw : gb < wr.heap.size := by omega
        have hco := HT.out.gh.own.cells (g := o) rfl i (vg hs i) (by simp [vg, List.getD, show i < hs.length by rw [HT.out.gh.len, HHM.out.len, HGL.out]; exact hlt])
        rw [Addr.add_lit, Nat.zero_add] at hco
        have hfo : wr.frozen? ⟨o, i, none⟩ = false := by have h9 := HT.out.gh.own; rw [HHM.out.len, HGL.out] at h9; exact h9.frozenAt i
        obtain ⟨u, hu⟩ : ∃ u, vg hs i = u := ⟨_, rfl⟩
        rw [hu] at hco
        have T1 : ∀ W, Sem.run Try.prog (Instr.indexAt 23 (.slice (some ⟨o, 0, none⟩) n n) (.int .i64 (i : Int))) W = .ok (.pointer (some ⟨o, i, none⟩)) W := fun W => by go_simp
        have T2 : ∀ W, Sem.run Try.prog (Instr.indexAt 23 (.slice (some ⟨gb, off, none⟩) n cg) (.int .i64 (i : Int))) W = .ok (.pointer (some ⟨gb, off + i, none⟩)) W := fun W => by go_simp
        have HROW := Lib.hid hrow
        have HR := Lib.hid hr
        have HMm := Lib.hid hm
        have HNIL : Hid (ai = none → m = 0) := fun e => by
          rcases HROW.out.2 with h | ⟨_, _, h, _⟩
          · exact h
          · rw [e] at h; cases h
        have HLS : Hid ((intR r).length = m * 1) := by show _ = _; simp [hm]
        have HNEW : Hid (∀ W, Below wr.heap.size wr W → ∀ ad, ai = some ad → ∀ (j : Nat) (u : Value), (intR r)[j]? = some u → W.cell? (ad.add j) = some u) := by
          intro W hW ad had j u hj
          rw [List.getElem?_map] at hj
          rcases HROW.out.2 with h | ⟨b9, o9, h, _, hb9, hc9⟩
          · have : r[j]? = none := List.getElem?_eq_none (by rw [HMm.out]; omega)
            rw [this] at hj
            cases hj
          · rw [had] at h
            obtain rfl := Option.some.inj h
            have hjl : j < r.length := by
              rcases Nat.lt_or_ge j r.length with q | q
              · exact q
              · rw [List.getElem?_eq_none q] at hj; cases hj
            rw [List.getElem?_eq_getElem hjl] at hj
            obtain rfl := Option.some.inj hj
            rw [Addr.add_lit, hW.cell (p := ⟨b9, o9 + j, none⟩) (by show b9 < _; omega), hc9 j (by rw [← HMm.out]; exact hjl), List.getD_eq_getElem?_getD, List.getElem?_eq_getElem hjl]
            rfl
        have HONE : Hid (∀ u ∈ intR r, u.oneCell' = true) := by
          intro u hu
          obtain ⟨z, _, rfl⟩ := List.mem_map.1 hu
          rfl
        have HQ1 : Hid (0 + m ≤ maxLen) := by show _ ≤ _; unfold maxLen; omega
        have HQ2 : Hid ((0 + m) * 8 ≤ 140737488355328) := by show _ ≤ _; omega
        have HQ3 : Hid (0 + m + m ≤ maxLen) := by show _ ≤ _; unfold maxLen; omega
        have HQ4 : Hid ((0 + m + m) * 8 ≤ 140737488355328) := by show _ ≤ _; omega
        clear hr hm hgi hrow hu
        go_upto_region 10 with fail
        go_cut [] (fun wx => ∃ hs', Hid (Two wx o n hs' bs (h.set i (r ++ r)) b) ∧ Hid (Below o w1 wx))
        case first =>
          go_region_law (first
            | (refine step_append_any rfl _ _ 26 rfl wr.heap.size 3 i0 (.int .i64 0) 1 8 Try.underlying26 hi0 hz0 hz1 hz2 rfl (by decide) _ 0 [] rfl ((World.ownsRow_made wr #[] 0 (Nat.le_refl _) (by decide) rfl).drew) ai m ci (intR r) rfl HNIL.out HLS.out (HNEW.out _ (by repeat (first | with_reducible exact Below.refl _ _ | with_reducible refine Below.drew ?_ | with_reducible refine below_alloc ?_ (Nat.le_refl _) _))) HONE.out HQ1.out HQ2.out (by simp; try omega) ?_; intro v9 w9 hown9 hgr9; have HBa := Lib.hid (show Below wr.heap.size wr w9 from Below.grown ((below_alloc (Below.refl _ _) (Nat.le_refl _) _).drew) hgr9 (by simp; try omega) (by rintro q hq; cases hq; simp)); have r9c := (HBa.out.cell (p := ⟨gb, off + i, none⟩) hgbw).trans hcell)
            | (refine step_append_any rfl _ _ 26 rfl wr.heap.size 3 i0 (.int .i64 0) 1 8 Try.underlying26 hi0 hz0 hz1 hz2 rfl (by decide) v9 (0 + m) ([] ++ intR r) rfl hown9 ai m ci (intR r) rfl HNIL.out HLS.out (HNEW.out _ HBa.out) HONE.out HQ3.out HQ4.out (by have := HBa.out.size; omega) ?_; intro v10 w10 hown10 hgr10; obtain ⟨xa, xc, rfl⟩ := own_shape hown10; have HBb := Lib.hid (show Below wr.heap.size wr w10 from HBa.out.grown hgr10 (by have := HBa.out.size; omega) (fun q hq => (ownsRow_lo hown9 q hq).1)); have r10f := (HBb.out.frozen (p := ⟨o, i, none⟩) holo).trans hfo; have r10c := (HBb.out.cell (p := ⟨o, i, none⟩) holo).trans hco))
          all_goals (
            simp only [Nat.zero_add] at hown10
            have hT9 := HT.out.seth (i := i) (by rw [HHM.out.len, HGL.out]; exact hlt) HBb.out (u := .slice xa (m + m) xc) (r := r ++ r) (by
              have e9 : (r ++ r).length = m + m := by rw [List.length_append, HMm.out]
              rw [e9]
              simpa [intR] using hown10)
            have HT9 := Lib.hid hT9
            have HB9 : Hid (Below o w1 (w10.setCell ⟨o, i, none⟩ (.slice xa (m + m) xc))) := (HB.out.trans (HBb.out.mono (Nat.le_of_lt holo))).setCell (p := ⟨o, i, none⟩) (Nat.le_refl _) _
            clear hown9 hown10 hgr9 hgr10 hT9
            go_wp2_with fail
            go_meet
            exact ⟨_, HT9, HB9⟩)
        case rest =>
          obtain ⟨w5, rfl⟩ : ∃ w5, w5 = wc := ⟨wc, rfl⟩
          obtain ⟨hs5, HT5, HB5⟩ := hcut
          have HHN := Lib.hid (HHM.out.next (show i < g.length by rw [HGL.out]; exact hlt))
          obtain ⟨h5, hh5⟩ : ∃ h5, h.set i (r ++ r) = h5 := ⟨_, rfl⟩
          rw [HR.out, hh5] at HHN
          rw [hh5] at HT5
          clear hh5 hcell hco hfo HT HB HNEW HLS HNIL HONE HQ1 HQ2 HQ3 HQ4 HHM hol holo hgbw hsz
          go_wp2_with fail
          go_loopw [12] (fun jv wx => ∃ (j : Nat) (b6 : Gr) (bs6 : List Value), j ≤ m ∧ jv = .int .i64 (j : Int) ∧ Hid (BM g i j b6) ∧ Hid (Two wx o n hs5 bs6 h5 b6) ∧ Hid (Below o w1 wx)) (fun jv _ => m - (intOf jv).toNat)
          case atStart => exact ⟨0, _, _, Nat.zero_le _, rfl, HBM, HT5, HB5⟩
          case round =>
            clear HBM HT5 HB5
            obtain ⟨j, b6, bs6, hjm, rfl, HBM, HT, HB⟩ := hrel
            rename World => wx
            have hgi := HGI.out.below HB.out (Nat.le_refl _)
            obtain ⟨gb', off', ai', ci', eag, hgbo', hcell, hrow⟩ := hgi.row hlt
            injection eag with eag
            injection eag with eag1 eag2
            subst eag1
            subst eag2
            rw [HR.out, HMm.out] at hcell hrow
            have T3 : ∀ W, Sem.run Try.prog (Instr.indexAt 23 (.slice (some ⟨gb, off, none⟩) n cg) (.int .i64 (i : Int))) W = .ok (.pointer (some ⟨gb, off + i, none⟩)) W := fun W => by go_simp
            by_cases hjl : j < m
            · obtain ⟨hrl, hrz⟩ := hrow
              obtain ⟨rb, ro, eai, _, hrb, hrc⟩ := hrz.resolve_left (by omega)
              subst eai
              have c2 := hrc j hjl
              have hrj : r[j]? = some (r.getD j 0) := by rw [List.getD_eq_getElem?_getD, List.getElem?_eq_getElem (by rw [hrl]; exact hjl)]; rfl
              have hmem : r.getD j 0 ∈ rowG g i := by rw [HR.out]; exact List.mem_of_getElem? hrj
              have hz9 := (HGP.out.2 i).2 _ hmem
              obtain ⟨z, hz⟩ : ∃ z : Nat, r.getD j 0 = (z : Int) := ⟨(r.getD j 0).toNat, by omega⟩
              rw [hz] at c2 hrj hz9
              have hzn : z < n := by omega
              have hsz := HB.out.size
              have hox := (ownsRow_lo HT.out.gb.own (o + 1) rfl).2
              have hgbw : gb < wx.heap.size := by omega
              have hrbw : rb < wx.heap.size := by omega
              have hbl : b6.length = n := by rw [HBM.out.len, HGL.out]
              have hG := HT.out.gb
              obtain ⟨u6, hu⟩ : ∃ u6, vg bs6 z = u6 := ⟨_, rfl⟩
              have hco := hG.own.cells (g := o + 1) rfl z (vg bs6 z) (by simp [vg, List.getD, show z < bs6.length by rw [hG.len, hbl]; exact hzn])
              rw [Addr.add_lit, Nat.zero_add, hu] at hco
              have hfo : wx.frozen? ⟨o + 1, z, none⟩ = false := by have h9 := hG.own; rw [hbl] at h9; exact h9.frozenAt z
              have hrw := hG.row z (by rw [hbl]; exact hzn)
              rw [hu] at hrw
              obtain ⟨lr, hlr⟩ : ∃ lr, (rowG b6 z).length = lr := ⟨_, rfl⟩
              rw [hlr] at hrw
              have hlrn : lr ≤ 40 * i + j := by rw [← hlr]; exact HBM.out.sz z
              obtain ⟨ua, uc, rfl⟩ := own_shape hrw
              have T4 : ∀ W, Sem.run Try.prog (Instr.indexAt 26 (.slice (some ⟨rb, ro, none⟩) m ci') (.int .i64 (j : Int))) W = .ok (.pointer (some ⟨rb, ro + j, none⟩)) W := fun W => by go_simp
              have T5 : ∀ W, Sem.run Try.prog (Instr.indexAt 23 (.slice (some ⟨o + 1, 0, none⟩) n n) (.int .i64 (z : Int))) W = .ok (.pointer (some ⟨o + 1, z, none⟩)) W := fun W => by go_simp
              have HRW := Lib.hid hrw
              have HLR := Lib.hid hlr
              have HU := Lib.hid hu
              have HLO := Lib.hid (ownsRow_lo hrw)
              have HPP := Lib.hid (HBM.out.push (z := z) (by rw [HR.out]; exact hrj) (by rw [HGL.out]; exact hzn))
              have hob : some (o + 1) ≠ (Value.slice ua lr uc).ownBlock := fun e => hG.ap z (by rw [hbl]; exact hzn) (o + 1) (by rw [hu]; exact e.symm) rfl
              have HKC : Hid (∀ W W9 : World, Below wx.heap.size wx W → W.grownBy W9 (Value.slice ua lr uc).ownBlock → W9.cell? ⟨gb, off + i, none⟩ = some (.slice (some ⟨rb, ro, none⟩) m ci') ∧ W9.cell? ⟨rb, ro + j, none⟩ = some (.int .i64 (z : Int)) ∧ W9.cell? ⟨o + 1, z, none⟩ = some (.slice ua lr uc) ∧ W9.frozen? ⟨o + 1, z, none⟩ = false ∧ o + 1 < W9.heap.size ∧ gb < W9.heap.size ∧ rb < W9.heap.size) := fun W W9 h4 h5 => by
                have s1 := h4.size
                have s2 := h5.size
                refine ⟨(World.cell?_of_block (h5.block gb (by omega) (fun e => by have := (HLO.out gb e.symm).1; omega))).trans ((h4.cell (p := ⟨gb, off + i, none⟩) hgbw).trans hcell), (World.cell?_of_block (h5.block rb (by omega) (fun e => by have := (HLO.out rb e.symm).1; omega))).trans ((h4.cell (p := ⟨rb, ro + j, none⟩) hrbw).trans c2), (World.cell?_of_block (h5.block (o + 1) (by omega) hob)).trans ((h4.cell (p := ⟨o + 1, z, none⟩) hox).trans hco), (World.frozen?_of_block (h5.block (o + 1) (by omega) hob)).trans ((h4.frozen (p := ⟨o + 1, z, none⟩) hox).trans hfo), by omega, by omega, by omega⟩
              have HW1 : Hid (∀ W : World, Below wx.heap.size wx W → o ≤ W.heap.size) := fun W h4 => by have := h4.size; omega
              have HQ1 : Hid (lr + 1 ≤ maxLen) := by show _ ≤ _; unfold maxLen; omega
              have HQ2 : Hid ((lr + 1) * 8 ≤ 140737488355328) := by show _ ≤ _; omega
              have HONE2 : Hid (∀ u ∈ [Value.int .i64 (i : Int)], u.oneCell' = true) := by
                intro u hu; simp at hu; rcases hu with rfl; rfl
              have HF : Hid (∀ (W W9 : World) (g9 cap9 : Nat), Below wx.heap.size wx W → W.grownBy W9 (Value.slice ua lr uc).ownBlock → W9.ownsRow o 3 1 (.slice (some ⟨g9, 0, none⟩) (lr + 1) cap9) (lr + 1) (intR (rowG b6 z) ++ [.int .i64 (i : Int)]) → ((Value.slice ua lr uc).ownBlock = some g9 ∨ g9 = W.heap.size) → (∃ bs', Two (W9.setCell ⟨o + 1, z, none⟩ (.slice (some ⟨g9, 0, none⟩) (lr + 1) cap9)) o n hs5 bs' h5 (b6.set z (rowG b6 z ++ [(i : Int)]))) ∧ Below o w1 (W9.setCell ⟨o + 1, z, none⟩ (.slice (some ⟨g9, 0, none⟩) (lr + 1) cap9))) := fun W W9 g9 cap9 h4 h5 h6 h7 => by
                have hl9 : (rowG b6 z ++ [(i : Int)]).length = lr + 1 := by rw [List.length_append, hlr]; rfl
                have hp := HT.out.putb (W := W) (w9 := W9) (j := z) (g := g9) (c := cap9) (r := rowG b6 z ++ [(i : Int)]) (by rw [hbl]; exact hzn) h4 (by rw [hu]; exact h5) (by rw [hl9]; simpa [intR] using h6) (by rw [hu]; exact h7)
                rw [hl9] at hp
                have s1 := h4.size
                exact ⟨⟨_, hp⟩, ((HB.out.trans (h4.mono (by omega))).grown h5 (by omega) fun p hp => (HLO.out p hp).1).setCell (p := ⟨o + 1, z, none⟩) (Nat.le_succ _) _⟩
              clear hG hrw hlr hu hrz hrl hrc hrj hmem hz hbl hgi hz9
              go_upto_region 14 with fail
              go_region_law ((refine step_append_lies _ rfl _ _ _ rfl o 3 i0 (.int .i64 0) 1 8 Try.underlying26 hi0 hz0 hz1 hz2 rfl (by decide) (.slice ua lr uc) lr (intR (rowG b6 z)) rfl (by first | exact (HRW.out.alloc _).drew | exact HRW.out.alloc _) _ 1 1 [.int .i64 (i : Int)] rfl rfl (by first | exact one_news (box_one wx _ _) | exact one_news (box_one wx _ _).drew) HONE2.out (by decide) HQ1.out HQ2.out (HW1.out _ (by repeat (first | with_reducible exact Below.refl _ _ | with_reducible refine Below.drew ?_ | with_reducible refine below_alloc ?_ (Nat.le_refl _) _))) _ rfl ?_; intro g9 cap9 w9 hown9 hgr9 hat9 hlt9; obtain ⟨r1, r2, r3, r4, r5, r6, r7⟩ := HKC.out _ _ (by repeat (first | with_reducible exact Below.refl _ _ | with_reducible refine Below.drew ?_ | with_reducible refine below_alloc ?_ (Nat.le_refl _) _)) hgr9))
              all_goals (
                have hF := Lib.hid (HF.out _ _ _ _ (by repeat (first | with_reducible exact Below.refl _ _ | with_reducible refine Below.drew ?_ | with_reducible refine below_alloc ?_ (Nat.le_refl _) _)) hgr9 hown9 hat9)
                clear hown9 hgr9 hat9 r1 r2 r3 r4 r5 r6 r7
                go_wp2_with fail
                obtain ⟨⟨bs', hT'⟩, hB'⟩ := hF.out
                have HT' := Lib.hid hT'
                have HB' := Lib.hid hB'
                clear hT' hB' hF
                go_roundw
                (case rel => exact ⟨j + 1, _, _, by omega, by go_num, HPP, HT', HB'⟩)
                (case measure => simp [intOf]; omega))
            · have hje : j = m := by omega
              clear hrow hgi
              go_wp2_with fail
              go_roundw
              case rel =>
                have h9 := HBM.out
                rw [hje, ← HMm.out, ← HR.out] at h9
                have h8 := h9.roll ((HGP.out.2 i).1)
                exact ⟨i + 1, _, _, _, _, by omega, by go_num, HHN, Lib.hid h8, HT, HB⟩
              case measure => simp [intOf]; omega
      · have hieq : i = n := by omega
        have hge : ¬ ((i : Int) < (n : Int)) := by omega
        rw [hieq] at HHM HBM
        have hhl : h.length = n := by rw [HHM.out.len, HGL.out]
        have hbl : b.length = n := by rw [HBM.out.len, HGL.out]
        have hsz := HB.out.size
        have hox := (ownsRow_lo HT.out.gb.own (o + 1) rfl).2
        have holo : o < wr.heap.size := by omega
        have hG := HT.out.gh
        obtain ⟨u6, hu⟩ : ∃ u6, vg hs k = u6 := ⟨_, rfl⟩
        have hco := hG.own.cells (g := o) rfl k (vg hs k) (by simp [vg, List.getD, show k < hs.length by rw [hG.len, hhl]; exact hkn'])
        rw [Addr.add_lit, Nat.zero_add, hu] at hco
        have hfo : wr.frozen? ⟨o, k, none⟩ = false := by have h9 := hG.own; rw [hhl] at h9; exact h9.frozenAt k
        have hrw := hG.row k (by rw [hhl]; exact hkn')
        rw [hu] at hrw
        obtain ⟨lr, hlr⟩ : ∃ lr, (rowG h k).length = lr := ⟨_, rfl⟩
        rw [hlr] at hrw
        have hrow80 : ∀ q, (rowG h q).length ≤ 80 := fun q => by
          by_cases e : q < n
          · rw [HHM.out.row q e, List.length_append]
            have := (HGP.out.2 q).1
            omega
          · rw [HHM.out.rest q (by omega)]; simp
        have hlrn : lr ≤ 80 := by rw [← hlr]; exact hrow80 k
        obtain ⟨ua, uc, rfl⟩ := own_shape hrw
        have T5 : ∀ W, Sem.run Try.prog (Instr.indexAt 23 (.slice (some ⟨o, 0, none⟩) n n) (.int .i64 (k : Int))) W = .ok (.pointer (some ⟨o, k, none⟩)) W := fun W => by go_simp
        have HRW := Lib.hid hrw
        have HLO := Lib.hid (ownsRow_lo hrw)
        have hob : some o ≠ (Value.slice ua lr uc).ownBlock := fun e => hG.ap k (by rw [hhl]; exact hkn') o (by rw [hu]; exact e.symm) rfl
        obtain ⟨L, hL⟩ : ∃ L, grpL g = L := ⟨_, rfl⟩
        obtain ⟨m, hm⟩ : ∃ m, L.length = m := ⟨_, rfl⟩
        obtain ⟨H, hH⟩ : ∃ H, h.set k (rowG h k ++ [(k : Int), -1, (n : Int)]) = H := ⟨_, rfl⟩
        have HgH : Hid (grpL H = L) := by
          show _ = _
          have h9 := HHM.out
          rw [← HGL.out] at h9
          have h8 := h9.groups (k := k) (by rw [HGL.out]; exact hkn')
          rw [HGL.out, hH, hL] at h8
          exact h8
        have HgB : Hid (grpL b = L) := by
          show _ = _
          have h9 := HBM.out
          rw [← HGL.out] at h9
          rw [h9.groups, hL]
        have HLm := Lib.hid hm
        have HgG := Lib.hid hL
        have HPUT : Hid (∀ (W W9 : World) (g9 cap9 : Nat), Below wr.heap.size wr W → W.grownBy W9 (Value.slice ua lr uc).ownBlock → W9.ownsRow o 3 1 (.slice (some ⟨g9, 0, none⟩) (lr + 3) cap9) (lr + 3) (intR (rowG h k) ++ [.int .i64 (k : Int), .int .i64 (-1), .int .i64 (n : Int)]) → ((Value.slice ua lr uc).ownBlock = some g9 ∨ g9 = W.heap.size) → GI (W9.setCell ⟨o, k, none⟩ (.slice (some ⟨g9, 0, none⟩) (lr + 3) cap9)).heap.size (W9.setCell ⟨o, k, none⟩ (.slice (some ⟨g9, 0, none⟩) (lr + 3) cap9)) (some ⟨o, 0, none⟩) n H ∧ GI (W9.setCell ⟨o, k, none⟩ (.slice (some ⟨g9, 0, none⟩) (lr + 3) cap9)).heap.size (W9.setCell ⟨o, k, none⟩ (.slice (some ⟨g9, 0, none⟩) (lr + 3) cap9)) (some ⟨o + 1, 0, none⟩) n b ∧ Below o w1 (W9.setCell ⟨o, k, none⟩ (.slice (some ⟨g9, 0, none⟩) (lr + 3) cap9)) ∧ W9.cell? ⟨o, k, none⟩ = some (.slice ua lr uc) ∧ W9.frozen? ⟨o, k, none⟩ = false) := fun W W9 g9 cap9 h4 h5 h6 h7 => by
          have hl9 : (rowG h k ++ [(k : Int), -1, (n : Int)]).length = lr + 3 := by rw [List.length_append, hlr]; rfl
          obtain ⟨q1, q2⟩ := HT.out.puth (W := W) (w9 := W9) (j := k) (g := g9) (c := cap9) (r := rowG h k ++ [(k : Int), -1, (n : Int)]) (by rw [hhl]; exact hkn') h4 (by rw [hu]; exact h5) (by rw [hl9]; simpa [intR] using h6) (by rw [hu]; exact h7)
          rw [hl9, hH] at q1
          rw [hl9] at q2
          have s1 := h4.size
          have hHl : H.length = n := by rw [← hH, List.length_set, hhl]
          obtain ⟨av, cv, e, gi1⟩ := q1.read (by omega) (fun q => by
            rw [← hH]
            by_cases e : k = q
            · subst e
              rw [rowG_set_self (by rw [hhl]; exact hkn'), hl9]
              omega
            · rw [rowG_set_other e]
              have := hrow80 q
              omega)
          injection e with e1 e2 e3
          subst e1
          obtain ⟨av2, cv2, e, gi2⟩ := q2.read (by omega) (fun q => by have := HBM.out.sz q; omega)
          injection e with e1 e2 e3
          subst e1
          rw [hHl] at gi1
          rw [hbl] at gi2
          exact ⟨gi1, gi2, ((HB.out.trans (h4.mono (by omega))).grown h5 (by omega) fun p hp => (HLO.out p hp).1).setCell (p := ⟨o, k, none⟩) (Nat.le_refl _) _, (World.cell?_of_block (h5.block o (by omega) hob)).trans ((h4.cell (p := ⟨o, k, none⟩) holo).trans hco), (World.frozen?_of_block (h5.block o (by omega) hob)).trans ((h4.frozen (p := ⟨o, k, none⟩) holo).trans hfo)⟩
        have HQ1 : Hid (lr + 3 ≤ maxLen) := by show _ ≤ _; unfold maxLen; omega
        have HQ2 : Hid ((lr + 3) * 8 ≤ 140737488355328) := by show _ ≤ _; omega
        clear hG hrw hu hL hm hH hlr hhl hbl hrow80
        go_wp2_with (first
          | (at_builtin; refine wpList_append_lies _ rfl _ _ 26 rfl o 3 i0 (.int .i64 0) 1 8 Try.underlying26 hi0 hz0 hz1 hz2 rfl (by decide) _ lr (intR (rowG h k)) rfl (HRW.out.alloc _) ⟨wr.heap.size, 0, none⟩ 3 3 [.int .i64 (k : Int), .int .i64 (-1), .int .i64 (n : Int)] rfl rfl (news_at (cs := [.int .i64 (k : Int), .int .i64 (-1), .int .i64 (n : Int)]) rfl) (by simp [Value.oneCell']) (by decide) HQ1.out HQ2.out (by simp; omega) _ rfl ?_
             intro g9 cap9 w9 hown9 hgr9 hat9 hlt9
             obtain ⟨q1, q2, q3, q4, q5⟩ := HPUT.out _ w9 g9 cap9 ((Below.refl _ wr).alloc (Nat.le_refl _) _) hgr9 hown9 hat9
             obtain ⟨w10, hw10⟩ : ∃ w10, w9.setCell ⟨o, k, none⟩ (.slice (some ⟨g9, 0, none⟩) (lr + 3) cap9) = w10 := ⟨_, rfl⟩
             have HX := Lib.hid hw10
             rw [hw10] at q1 q2 q3
             have HG9 := Lib.hid q1
             have HK9 := Lib.hid q2
             have HB9 := Lib.hid q3
             have HS10 : o ≤ w10.heap.size := by have := HO.out; have := q3.size; omega
             have HOF := Lib.hid (of_any ag n cg g w10 ((HGI.out.below q3 (Nat.le_refl _)).mono HS10) (Nat.le_refl _) (by omega))
             rw [HgG.out, HLm.out] at HOF
             clear hown9 hgr9 hat9 hlt9 q1 q2 q3 HPUT)
          | (go_at_call 11; (with_reducible refine (HOF.out).mono ?_); rintro e w11 ⟨hb11, al, cl, rfl, hgl11⟩
             have HB11 := Lib.hid (HB9.out.trans (hb11.mono HS10))
             have HL11 := Lib.hid hgl11
             have HK11 := Lib.hid ((HK9.out.below hb11 (Nat.le_refl _)).mono hb11.size)
             have HOF2 := Lib.hid (of_any (some ⟨o, 0, none⟩) n n H w11 ((HG9.out.below hb11 (Nat.le_refl _)).mono hb11.size) (Nat.le_refl _) (by omega))
             rw [HgH.out, HLm.out] at HOF2
             have HS11 : o ≤ w11.heap.size := Nat.le_trans HS10 hb11.size
             clear hb11 hgl11 HOF)
          | (go_at_call 11; (with_reducible refine (HOF2.out).mono ?_); rintro e w12 ⟨hb12, am, cm, rfl, hgm12⟩
             have HB12 := Lib.hid (HB11.out.trans (hb12.mono HS11))
             have HL12 := Lib.hid ((HL11.out.below hb12 (Nat.le_refl _)).mono hb12.size)
             have HK12 := Lib.hid ((HK11.out.below hb12 (Nat.le_refl _)).mono hb12.size)
             have HSM := Lib.hid (same_any w12 L L am al m m cm cl hgm12 HL12.out (Nat.le_refl _) (Nat.le_refl _))
             have HS12 : o ≤ w12.heap.size := Nat.le_trans HS11 hb12.size
             clear hb12 hgm12 HOF2)
          | (go_at_call 12; (with_reducible refine (HSM.out).mono ?_); simp only [decide_true]; rintro e w13 ⟨rfl, hb13⟩
             have HB13 := Lib.hid (HB12.out.trans (hb13.mono HS12))
             have HL13 := Lib.hid ((HL12.out.below hb13 (Nat.le_refl _)).mono hb13.size)
             have HOF3 := Lib.hid (of_any (some ⟨o + 1, 0, none⟩) n n b w13 ((HK12.out.below hb13 (Nat.le_refl _)).mono hb13.size) (Nat.le_refl _) (by omega))
             rw [HgB.out, HLm.out] at HOF3
             have HS13 : o ≤ w13.heap.size := Nat.le_trans HS12 hb13.size
             clear hb13 HSM)
          | (go_at_call 11; (with_reducible refine (HOF3.out).mono ?_); rintro e w14 ⟨hb14, ar, cr, rfl, hgr14⟩
             have HB14 := Lib.hid (HB13.out.trans (hb14.mono HS13))
             have HSM2 := Lib.hid (same_any w14 L L ar al m m cr cl hgr14 ((HL13.out.below hb14 (Nat.le_refl _)).mono hb14.size) (Nat.le_refl _) (Nat.le_refl _))
             have HS14 : o ≤ w14.heap.size := Nat.le_trans HS13 hb14.size
             clear hb14 hgr14 HOF3)
          | (go_at_call 12; (with_reducible refine (HSM2.out).mono ?_); simp only [decide_true]; rintro e w15 ⟨rfl, hb15⟩
             have HB15 := Lib.hid (HB14.out.trans (hb15.mono HS14))
             have HS15 : o ≤ w15.heap.size := Nat.le_trans HS14 hb15.size
             clear hb15 HSM2)
          | (go_at_call 13; (refine (ints_any none _ 0 0 0 0 [] [] _ (l1 := 0) (l2 := 0) (h1 := 0) (h2 := 0) ⟨rfl, .inl rfl⟩ ⟨rfl, .inl rfl⟩ (by omega)).mono ?_); simp only [decide_true]; rintro e w16 ⟨rfl, nd, rfl⟩
             have HB16 : Hid (Below o w1 ((w15.alloc (.cells #[] 3)).drewN nd)) := below_drewN (HB15.out.alloc HS15 _) nd
             have HS16 : o ≤ ((w15.alloc (.cells #[] 3)).drewN nd).heap.size := by have := HB16.out.size; have := HO.out; omega)
          | (go_at_call 10; (with_reducible refine (awake_any _).mono ?_); rintro e w17 ⟨rfl, hb17⟩
             have HB17 := Lib.hid (HB16.out.trans (hb17.mono HS16)); clear hb17))
        go_ret
        have h1 := HB17.out
        rw [← HO.out] at h1
        exact ⟨rfl, HB1.out.trans (h1.mono HB1.out.size)⟩

end Go.Proofs.Ytdbjmonboecfgaa
