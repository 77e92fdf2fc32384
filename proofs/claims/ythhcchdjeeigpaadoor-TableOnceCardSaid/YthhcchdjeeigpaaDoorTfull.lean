/- Contract of package table's Play. -/
import Derived.Test.YthhcchdjeeigpaaDoorTplay
import Derived.Deep.RegionHeldLaw
import Derived.Deep.LoopGhost
namespace Go.Proofs.YthhcchdjeeigpaaDoor
open Go.RowKit Go.Maps
set_option linter.unusedVariables false
set_option linter.unusedSimpArgs false

theorem step_len_own {P : Program} {w : World} {ops : Array Oper} {o : Oper} {a : Act} {K : Act → World → Prop} {Q : Exit → Act → World → Prop} {E : Prop} (hgd : o.guard = none) (m : Operand) (t : TypeId) (hop : o.op = Op.call { callee := Callee.builtin Builtin.len, args := #[m], argTypes := #[t] })
    (k e : TypeId) (ht : P.underlying t = some (.map k e)) (R : Value → Option (DataW Unit × List MemPlace)) (b n : Nat) (D : DataW Unit) (hm : a.eval m = .map (some b)) (hown : w.ownsMap P k R b n D) (v : Int) (hv : (Maps.size D : Int) = v)
    (hK : K (a.put o.dst (.int .i64 v)) w) : if Region.wanted o (yielded ops a.tmps) = true then Oper.wp P o a w K Q else E := by
  rw [if_pos (by simp [Region.wanted, hgd])]
  unfold Oper.wp
  simp [execOp, hop, resolve, invoke, builtin, hm, hown.len ht o.type, Result.andThen, hv]
  exact hK

/-- What a play of the table's told, in memory. -/
def TRes (w : World) (B0 W gg : Nat) (kv : Value) (gs : List Value) (g : Tg) : Prop :=
  gs.length = W ∧ g.ws.length = W ∧ B0 ≤ gg ∧ RowsIn 1 w gg (gs.map fun v => [v]) ∧ (∀ (i : Nat) (k : Tw) (gv : Value), g.ws[i]? = some k → gs[i]? = some gv → w.ownsRow B0 3 1 gv k.got.length (k.got.map (Value.int .i64))) ∧ w.ownsRow B0 57 3 kv g.keys.length (g.keys.flatMap kcell)

set_option maxRecDepth 100000 in
set_option maxHeartbeats 8000000 in
theorem tplay_any (a c : Option Addr) (la ca lc cc : Nat) (ss : List (List Ky)) (xs : List Int) (room n : Int) (w : World) {hi0 lx hx : Nat} (hs : KScr hi0 w a la ss) (hhi : hi0 ≤ w.heap.size) (hxs : Row lx hx w c lc xs) (hx1 : hx ≤ w.heap.size)
    (hm1 : la ≤ 64) (hm2 : (ss.map List.length).sum ≤ 4096) (hm3 : lc ≤ 100000) (hf : ∀ s ∈ ss, ∀ k ∈ s, kfit k) (hT : Tab w) (N : Nat) (hN : 3 * (ss.map List.length).sum = N) :
    Calls Tryd.prog 28 #[.slice a la ca, .int .i64 room, .int .i64 n, .slice c lc cc] w fun e w' => ∃ (gg : Nat) (kv : Value) (gs : List Value), e = .returned (.tuple #[.slice (some ⟨gg, 0, none⟩) la la, kv, .int .i64 (N : Int), .int .i64 0]) ∧ TRes w' w.heap.size la gg kv gs (ttAt (sg n) room xs ss N) ∧ Below w.heap.size w w' := by
  have hsl : ss.length = la := hs.1
  have hxl : xs.length = lc := hxs.1
  obtain ⟨S, hS⟩ : ∃ S, (ss.map List.length).sum = S := ⟨_, rfl⟩
  have HCT : Hid (∀ w', KScr hi0 w' a la ss → Calls Tryd.prog 45 #[.slice a la ca] w' fun e w'' => e = .returned (.int .i64 (S : Int)) ∧ w' = w'') := fun w' h => count_key a la ca (ss.map List.length) w' h.heads (by omega) (by omega) S hS
  have hkn : ∀ s ∈ ss, s.length ≤ 4096 := fun s hs' => by have := len_le_sum hs'; omega
  have HST := Lib.hid (fun w' (h : KScr hi0 w' a la ss) (hh : hi0 ≤ w'.heap.size) => tstart_any a la ca ss room n w' h hh hm1 hkn hf)
  have hd1 : decide ((64 : Int) < (la : Int)) = false := decide_eq_false (by omega)
  have hd1' : decide (64 < la) = false := decide_eq_false (by omega)
  have hd2 : decide ((4096 : Int) < (S : Int)) = false := decide_eq_false (by omega)
  have hd2' : decide (4096 < S) = false := decide_eq_false (by omega)
  have HS := Lib.hid hs
  have HX := Lib.hid hxs
  have HT := Lib.hid hT
  have HSL := Lib.hid hsl
  have HXL := Lib.hid hxl
  have HF := Lib.hid hf
  have HM2 : Hid ((ss.map List.length).sum ≤ 4096) := hm2
  have HNN := Lib.hid hN
  have hTl := hT.lt
  have hNb : N ≤ 20000 := by omega
  clear hs hxs hT hsl hxl hf hkn hm2 hN hS
  go_enter Tryd.func28, Tryd.ntmps28
  go_wp2_with (first | (go_at_call 45; (with_reducible refine (HCT.out _ HS.out).mono ?_); rintro e w' ⟨rfl, rfl⟩))
  refine (HST.out _ HS.out hhi).mono ?_
  rintro e w3 ⟨lo, G, B, M, H, rfl, hb3, l1, l2, l3, l4, hps⟩
  have s3 := hb3.size
  have HPS := Lib.hid hps
  have HB3 := Lib.hid hb3
  clear hps hb3
  go_wp2_with fail
  refine (by_any c lc cc xs _ (HX.out.below HB3.out hx1) (by omega) (by omega)).mono ?_
  rintro e w5 ⟨C, rfl, htn, hC3, hC5, hb5⟩
  have hpg := HPS.out w5 (C + 1) hb5 (by omega) (by omega)
  have HTN := Lib.hid htn
  have HPG := Lib.hid hpg
  have HB5 : Hid (Below w.heap.size w w5) := HB3.out.trans (hb5.mono s3)
  have lG := hpg.lG
  have lB := hpg.lB
  have lM := hpg.lM
  have lH := hpg.lH
  have lh := hpg.lh
  clear htn hpg hb5
  go_wp2_with fail
  refine (tenabled_w w5 _ _ _ _ _ _ _ _ _ _ _ _ _ HPG.out (by omega)).mono ?_
  rintro e w6 ⟨a6, c6, rfl, hr6, hb6⟩
  have s5 := HB5.out.size
  have s6 := hb6.size
  have HR6 := Lib.hid hr6
  have HB6 : Hid (Below w.heap.size w w6) := HB5.out.trans (hb6.mono s5)
  have HTN6 : Hid (Tn w6 C w3.heap.size C xs 0 (-1)) := HTN.out.below hb6 hC5
  have HPG6 := Lib.hid (HPG.out.below hb6)
  have HT6 : Hid (Tab w6) := HT.out.below HB6.out hTl
  clear hr6 hb6
  go_wp2_with fail
  obtain ⟨x0, hx0⟩ : ∃ x0, nxt xs 0 (-1) ((tg0 ss).en (sg n)) = x0 := ⟨_, rfl⟩
  refine (turn_any w6 C _ _ xs 0 (-1) a6 la c6 _ HTN6.out (by have := HXL.out; omega) HR6.out (Nat.le_refl _) (by omega) HT6.out (by omega) x0 hx0).mono ?_
  rintro e w7 ⟨rfl, htn7, ht7⟩
  have HX0 := Lib.hid hx0
  have HTN7 := Lib.hid htn7
  have s7 := ht7.size
  have HPG7 := Lib.hid (HPG6.out.two ht7 hC3 (Nat.lt_succ_self _))
  have HB7 : Hid (Below w.heap.size w w7) := HB6.out.trans (ht7.below (by omega) (by omega) (by omega))
  have HSZ : Hid (w.heap.size ≤ w3.heap.size) := s3
  clear hx0 htn7 ht7 HTN HPG HTN6 HPG6 HT6 HR6 HB5 HB6
  go_wp2_with fail
  go_loopg [14] (N) (fun gn ev wr => ∃ (t : Nat) (x : Int) (kv : Value) (gs : List Value), gn + t = N ∧ ev = .int .i64 x ∧ Hid (nxt xs t (ttAt (sg n) room xs ss t).last ((ttAt (sg n) room xs ss t).en (sg n)) = x) ∧ Hid (TG wr n room la lo w3.heap.size (C + 1) G B M H kv gs (ttAt (sg n) room xs ss t)) ∧ Hid (on 0 ((ttAt (sg n) room xs ss t).en (sg n)) ≠ [] → Tn wr C w3.heap.size C xs (t + 1) x) ∧ Hid (Below w.heap.size w wr))
  case atStart => exact ⟨0, x0, .slice none 0 0, _, Nat.add_zero _, rfl, HX0.out, HPG7.out, HTN7.out, HB7.out⟩
  case round =>
    clear HX0 HPG7 HTN7 HB7
    obtain ⟨t, x, kv, gs, hgk, rfl, HXT, HP, HC, HB⟩ := hrel
    have hsr := HB.out.size
    have hok := tt_ok (sg n) room xs ss t
    have htN : t ≤ 3 * (ss.map List.length).sum := by rw [HNN.out]; omega
    have hon := tt_on (sg n) room xs ss t htN
    have htd := tt_todo (sg n) room xs ss t htN
    rw [HNN.out] at hon
    have hTM := htd.2
    have HTM := Lib.hid hTM
    have HOK := Lib.hid hok
    have hGl := HP.out.box.lt
    by_cases hend : t = N
    · subst hend
      have hone := hon.2 rfl
      obtain rfl : x = -1 := by rw [← HXT.out]; unfold nxt; rw [if_pos hone]
      have hbx := HP.out.box
      rw [hTM] at hbx
      obtain ⟨_, _, _, _, _, _⟩ := hbx.six
      have hnl : ∀ s, (ttAt (sg n) room xs ss t).locked (sg n) s = false := fun s => by
        have := tt_locked (sg n) room xs ss s
        unfold ttEnd at this
        rwa [HNN.out] at this
      obtain ⟨D, m, hD, hinv, _⟩ := HP.out.lock
      have hsz0 : (Maps.size D : Int) = 0 := by rw [hinv_none hinv hnl]; rfl
      have HGT := Lib.hid (got_w wr.drew _ _ _ _ _ _ _ _ _ _ _ _ _ (HP.out.agree (w' := wr.drew) (fun b _ _ => rfl) (Nat.le_refl _)) (by omega))
      have HS0 := Lib.hid hsz0
      have HDD := Lib.hid hD
      have HBX := Lib.hid hbx
      clear hon htd hTM hok hbx hsz0 hD hinv hnl hone htN
      go_wp2_with fail
      have HD0 : Hid (wr.drew.ownsMap Tryd.prog 3 (plainElem Tryd.prog 3) H m D) := HDD.out
      have K0 : Hid (wr.drew.cell? ⟨G, 1, none⟩ = some kv ∧ wr.drew.cell? ⟨G, 3, none⟩ = some (.map (some H)) ∧ wr.drew.cell? ⟨G, 5, none⟩ = some (.int .i64 (t : Int))) := ⟨HBX.out.cell 1, HBX.out.cell 3, HBX.out.cell 5⟩
      go_region_held_law (fun w' => w'.cell? ⟨G, 1, none⟩ = some kv ∧ w'.cell? ⟨G, 3, none⟩ = some (.map (some H)) ∧ w'.cell? ⟨G, 5, none⟩ = some (.int .i64 (t : Int)))
        (first
          | (with_reducible apply Hid.out K0)
          | (with_reducible apply Hid.out K1))
        (first
          | (refine step_len_own rfl _ 111 rfl 3 3 Tryd.underlying111 _ H m D rfl HD0.out 0 HS0.out ?_; simp only [Act.put, List.setIfInBounds_toArray, List.set_cons_zero, List.set_cons_succ, List.getElem_toArray, List.getElem_cons_succ, List.getElem_cons_zero])
          | (refine step_len_own rfl _ 111 rfl 3 3 Tryd.underlying111 _ H m D rfl HD1.out 0 HS0.out ?_; simp only [Act.put, List.setIfInBounds_toArray, List.set_cons_zero, List.set_cons_succ, List.getElem_toArray, List.getElem_cons_succ, List.getElem_cons_zero])
          | (go_at_call 49; (with_reducible refine (HGT.out).mono ?_); rintro e wz ⟨gg, rfl, hgg, hrg, hbz⟩; have hbq := HBX.out.drew.below hbz; have K1 : Hid (wz.cell? ⟨G, 1, none⟩ = some kv ∧ wz.cell? ⟨G, 3, none⟩ = some (.map (some H)) ∧ wz.cell? ⟨G, 5, none⟩ = some (.int .i64 (t : Int))) := ⟨hbq.cell 1, hbq.cell 3, hbq.cell 5⟩; have HD1 := Lib.hid (ownsMap_agree (w := wr) (w' := wz) HDD.out (hbz.block H (ownsMap_lt HDD.out))); have HRG := Lib.hid hrg; have HBZ := Lib.hid hbz; clear hrg hbz hbq))
      all_goals (
        go_wp2_with fail
        refine bodyPost_ret (v := .tuple #[.slice (some ⟨gg, 0, none⟩) la la, kv, .int .i64 (t : Int), .int .i64 0]) (by simp only [results, Tryd.results28]; go_simp) rfl ?_
        have hbz2 := HBZ.out
        have hsz2 : wr.heap.size ≤ wz.heap.size := hbz2.size
        have hgg2 : wr.heap.size ≤ gg := hgg
        have hag : ∀ (v : Value) (e : TypeId) (sz nn : Nat) (vs : List Value), wr.ownsRow (C + 1) e sz v nn vs → wz.ownsRow w.heap.size e sz v nn vs := fun v e sz nn vs h => ownsRow_base (ownsRow_agree h fun q hq => hbz2.block q (ownsRow_lo h q hq).2) (by omega)
        refine ⟨gg, kv, gs, rfl, ⟨HP.out.gl, HP.out.wl, by omega, HRG.out, fun i k gv hk hg => hag _ _ _ _ _ (HP.out.gots i k gv hk hg), hag _ _ _ _ _ HP.out.keys⟩, ?_⟩
        exact HB.out.drew.trans (hbz2.mono hsr))
    · obtain ⟨y, hy⟩ : ∃ y : Nat, whoN xs t (ttAt (sg n) room xs ss t).last ((ttAt (sg n) room xs ss t).en (sg n)) = y := ⟨_, rfl⟩
      have hne : on 0 ((ttAt (sg n) room xs ss t).en (sg n)) ≠ [] := fun e => hend (hon.1 e)
      obtain rfl : (y : Int) = x := by rw [← HXT.out]; unfold nxt; rw [if_neg hne, hy]
      have hwho : (ttAt (sg n) room xs ss t).who (sg n) xs = y := by unfold Tg.who; rw [hTM]; exact hy
      have hyl : y < (ttAt (sg n) room xs ss t).ws.length := by rw [← hwho]; exact Tg.who_lt hne
      have hye : (ttAt (sg n) room xs ss t).enW (sg n) ((ttAt (sg n) room xs ss t).tw y) = true := by rw [← hwho]; exact Tg.who_en hne
      have hnx : ttAt (sg n) room xs ss (t + 1) = tadv room (ttAt (sg n) room xs ss t) y := by rw [← hwho]; exact tt_next hne
      have HGO : Hid (Calls Tryd.prog 48 #[.pointer (some ⟨G, 0, none⟩), .int .i64 (y : Int)] wr fun e w'' => e = .returned (.tuple #[]) ∧ ∃ kv' gs', TG w'' n room la lo w3.heap.size (C + 1) G B M H kv' gs' (ttAt (sg n) room xs ss (t + 1)) ∧ Out (TS G B M H (C + 1)) wr w'') := by
        rw [hnx]
        exact tgo_w wr n room la lo w3.heap.size (C + 1) G B M H kv gs (ttAt (sg n) room xs ss t) ss HP.out hok y hyl hye HF.out HM2.out (by rw [hTM]; omega) (by omega)
      have hlast : (ttAt (sg n) room xs ss (t + 1)).last = (y : Int) := by rw [hnx]; rfl
      have hT1 := HC.out hne
      have HT1 := Lib.hid hT1
      have HLAST := Lib.hid hlast
      have hes := HP.out.es
      obtain ⟨x2, hx2⟩ : ∃ x2, nxt xs (t + 1) (y : Int) ((ttAt (sg n) room xs ss (t + 1)).en (sg n)) = x2 := ⟨_, rfl⟩
      have HX2 := Lib.hid hx2
      clear hok hon htd hTM hne hy hwho hyl hye hnx hlast hT1 hx2 htN
      go_wp2_with fail
      refine (HGO.out).mono ?_
      rintro e wg ⟨rfl, kv2, gs2, hP2, hout⟩
      have sg' := hout.size
      have HP2 := Lib.hid hP2
      have HTG : Hid (Tn wg C w3.heap.size C xs (t + 1) (y : Int)) := HT1.out.agree fun k hk => hout.block k (by rcases hk with rfl | hk <;> omega) (by rintro (e | e | e | e | e) <;> (rcases hk with rfl | hk <;> omega))
      have HBG : Hid (Below w.heap.size w wg) := HB.out.trans (hout.below (by omega) (fun k hk => by rintro (e | e | e | e | e) <;> omega))
      clear hP2 hout HGO
      go_wp2_with fail
      refine (tenabled_w wg _ _ _ _ _ _ _ _ _ _ _ _ _ HP2.out (by omega)).mono ?_
      rintro e we ⟨a8, c8, rfl, hr8, hb8⟩
      have s8 := hb8.size
      have HR8 := Lib.hid hr8
      have hCg : C < wg.heap.size := by omega
      have HTE := Lib.hid (HTG.out.below hb8 hCg)
      have HPE := Lib.hid (HP2.out.below hb8)
      have HBE : Hid (Below w.heap.size w we) := HBG.out.trans (hb8.mono HBG.out.size)
      have HTTE : Hid (Tab we) := HT.out.below HBE.out hTl
      clear hr8 hb8
      go_wp2_with fail
      refine (turn_any we C _ _ xs (t + 1) (y : Int) a8 la c8 _ HTE.out (by have := HXL.out; omega) HR8.out (Nat.le_refl _) (by omega) HTTE.out (by omega) x2 HX2.out).mono ?_
      rintro e wn ⟨rfl, htn9, ht9⟩
      have HTN9 := Lib.hid htn9
      have HPN := Lib.hid (HPE.out.two ht9 hC3 (Nat.lt_succ_self _))
      have HBN : Hid (Below w.heap.size w wn) := HBE.out.trans (ht9.below (by omega) (by omega) (by omega))
      clear htn9 ht9
      go_wp2_with fail
      go_roundg (gk - 1)
      case measure => omega
      case rel => exact ⟨t + 1, x2, kv2, gs2, by omega, rfl, by show nxt _ _ _ _ = _; rw [HLAST.out]; exact HX2.out, HPN.out, HTN9.out, HBN.out⟩

end Go.Proofs.YthhcchdjeeigpaaDoor
