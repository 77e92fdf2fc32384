/- Contract of Of of package part. -/
import Derived.Test.YtodkdjgpmfegcaaOfm
namespace Go.Proofs.Ytodkdjgpmfegcaa
open Go.RowKit Go.Maps
set_option linter.unusedVariables false

theorem ownsMap_below {w w' : World} {P : Program} {k : TypeId} {R : Value → Option (DataW Unit × List MemPlace)} {b n : Nat} {D : DataW Unit} (h : w.ownsMap P k R b n D) (hb : Below w.heap.size w w') : w'.ownsMap P k R b n D :=
  h.kept (row := none) ⟨hb.os, hb.tape, hb.output, hb.size, fun k hk _ => hb.block k hk⟩ (by simp)

/-- The look-up in a set, its answer known. -/
theorem wpList_lookup_val {P : Program} (w : World) {ops : Array Oper} {rest : List Oper} {o : Oper} {a : Act} {Q : Exit → Act → World → Prop} (hg : o.guard = none) (m x : Operand) (t : TypeId) (hop : o.op = Op.lookup t m x true)
    (k e : TypeId) (K : Keyed P k) (ht : P.underlying t = some (.map k e)) (hz : (zeroValue e).run P w = .ok (.agg #[]) w) (b n : Nat) (D : DataW Unit)
    (hm : a.eval m = .map (some b)) (hown : w.ownsMap P k unitElem b n D) (key : Value) (kl : Lit) (hx : a.eval x = key) (hkey : keyOf P k key = some kl) (v : Bool) (hv : Maps.has D kl = v)
    (hK : wpList P ops Q rest (a.put o.dst (.tuple #[.agg #[], .bool v])) w) : wpList P ops Q (o :: rest) a w :=
  wpList_lookup_own_unit w hg m x t hop k e K ht hz b n D hm hown key kl hx hkey (hv ▸ hK)

theorem ofL_take_succ (n : Nat) (ps : List (Int × Int)) {k : Nat} (h : k < ps.length) : ofL n (ps.take (k + 1)) = uniL (ofL n (ps.take k)) (ps.getD k (0, 0)).1 (ps.getD k (0, 0)).2 := by
  have e : ps.take (k + 1) = ps.take k ++ [ps.getD k (0, 0)] := by
    rw [List.take_add_one, List.getElem?_eq_getElem h]; simp [List.getD, h]
  rw [e, ofL_snoc]
theorem getD_mem {ps : List (Int × Int)} {k : Nat} (h : k < ps.length) : ps.getD k (0, 0) ∈ ps := by
  rw [List.getD_eq_getElem?_getD, List.getElem?_eq_getElem h]; simp

set_option maxRecDepth 100000 in
set_option maxHeartbeats 1000000 in
theorem of_any (n : Int) (a : Option Addr) (np c : Nat) (ps : List (Int × Int)) (w : World) {lo hi : Nat} (hp : RowP lo hi w a np ps) (hhi : hi ≤ w.heap.size) (hm : np ≤ 1000000) (hf : ∀ q ∈ ps, fits q.1 ∧ fits q.2) :
    Calls Try.prog 24 #[.int .i64 n, .slice a np c] w fun e w' => ∃ a' c', e = .returned (.slice a' (cutN n) c') ∧ RowN w.heap.size w'.heap.size w' a' (cutN n) (ofL (cutN n) ps) ∧ Below w.heap.size w w' := by
  have hmm := @run_makeMap Try.prog
  obtain ⟨N, hN⟩ : ∃ N, cutN n = N := ⟨_, rfl⟩
  have hN6 : N ≤ 65536 := by rw [← hN]; exact cutN_le n
  have HN := Lib.hid hN
  have HL := Lib.hid hp.1
  have HP := Lib.hid hp
  have HF := Lib.hid hf
  rw [hN]
  clear hN hp hf
  go_enter Try.func24, Try.ntmps24
  go_wp2_with fail
  refine (new_any n w).mono ?_
  rw [HN.out]
  rintro e w1 ⟨g, rfl, hg0, hg1, hb1, hbel⟩
  have hs1 := hbel.size
  go_wp2_with fail
  go_loopw [16] (fun i wr => ∃ (k : Nat) (u : List Nat) (D : DataW Unit), k ≤ np ∧ i = .int .i64 k ∧ Box wr g 3 (intsOf u) ∧ Hid (u.length = N) ∧ Hid (Up u) ∧ Hid (∀ z, z < N → rt u z = el (ofL N (ps.take k)) z) ∧
      wr.ownsMap Try.prog 35 unitElem w1.heap.size k D ∧ Hid (Inv (ofL N (ps.take k)) D) ∧ Below w.heap.size w wr ∧ w1.heap.size < wr.heap.size) (fun i _ => np - (intOf i).toNat)
  case atStart =>
    refine ⟨0, List.range N, .map [], Nat.zero_le _, rfl, hb1.alloc _, by simp [Hid], ?_, ?_, World.ownsMap_made _ _ _ _, inv_nil _, hbel.alloc (by omega) _, by simp⟩
    · intro i hi; simp at hi; rw [el_range hi]; exact Nat.le_refl _
    · intro z hz
      rw [List.take_zero, ofL_nil, el_range hz, rt_fix (el_range hz)]
  case round =>
    clear hb1 hbel
    obtain ⟨k, u, D, hk, rfl, hb, HU0, HU, HR, hmap, HI, hbw, hsz⟩ := hrel
    by_cases hlt : k < np
    · obtain ⟨bp, op, rfl, _, hbp, hc⟩ := HP.out.at_ hlt
      have hck := hc k hlt
      have hsw := hbw.size
      have c1 := (hbw.cell (p := ⟨bp, op + k * 2, none⟩) (by show bp < _; omega)).trans hck.1
      have c2 := (hbw.cell (p := ⟨bp, op + k * 2 + 1, none⟩) (by show bp < _; omega)).trans hck.2
      have hfk := HF.out _ (getD_mem (by rw [HL.out]; exact hlt))
      have HT := Lib.hid (ofL_take_succ N ps (k := k) (by rw [HL.out]; exact hlt))
      obtain ⟨q, hq⟩ : ∃ q, q = ps.getD k (0, 0) := ⟨_, rfl⟩
      rw [← hq] at c1 c2 hfk HT
      obtain ⟨x, y⟩ := q
      have hbp2 : bp < wr.heap.size := by omega
      clear hc hck hq
      dsimp only at c1 c2 hfk
      have fX : fits (min x y) := by have := hfk; unfold fits at this ⊢; omega
      have fY : fits (max x y) := by have := hfk; unfold fits at this ⊢; omega
      obtain ⟨kl, hkey, hkl⟩ := pair_key fX fY
      have HT2 : Hid (ofL N (ps.take (k + 1)) = uniL (ofL N (ps.take k)) (min x y) (max x y)) := HT.out.trans (uniL_minmax _ _ _).symm
      have hml := hmap.lt
      clear fX fY hfk
      have HB := Lib.hid hb
      have HM := Lib.hid hmap
      clear hb hmap HT
      go_wp2_with fail
      refine (rising_any x y _).mono ?_
      obtain ⟨X, hX⟩ : ∃ X, min x y = X := ⟨_, rfl⟩
      obtain ⟨Y, hY⟩ : ∃ Y, max x y = Y := ⟨_, rfl⟩
      have HXY : Hid (X ≤ Y) := by show X ≤ Y; omega
      rw [hX, hY] at hkey HT2 ⊢
      clear hX hY
      rintro e w2 ⟨rfl, hb2⟩
      have hs2 := hb2.size
      rw [World.size_alloc] at hs2
      have bx := (Box.new wr 35 [.int .i64 x, .int .i64 y]).below hb2
      obtain ⟨_, _, _, _⟩ := bx.two
      have hw2 : wr.heap.size < w2.heap.size := by omega
      have hkw : Below w.heap.size w w2 := (hbw.alloc hsw _).trans (hb2.mono (by simp; omega))
      have HB2 := Lib.hid ((HB.out.alloc (.cells #[.int .i64 x, .int .i64 y] 35)).below hb2)
      have HM2 := Lib.hid (ownsMap_below (HM.out.alloc (.cells #[.int .i64 x, .int .i64 y] 35)) hb2)
      have hne1 : w1.heap.size ≠ wr.heap.size := by omega
      have hne2 : g ≠ wr.heap.size := by omega
      have hne3 : g ≠ w1.heap.size := by omega
      have bx3 := (bx.set 0 (.int .i64 X)).set 1 (.int .i64 Y)
      have HM3 := Lib.hid ((HM2.out.setCell (a := ⟨wr.heap.size, 0, none⟩) hne1 (.int .i64 X)).setCell (a := ⟨wr.heap.size, 1, none⟩) hne1 (.int .i64 Y))
      have HB4 := Lib.hid (((HB2.out.setOther (a := ⟨wr.heap.size, 0, none⟩) hne2 (.int .i64 X)).setOther (a := ⟨wr.heap.size, 1, none⟩) hne2 (.int .i64 Y)).alloc (.cells #[] 47))
      have HM4 := Lib.hid (HM3.out.alloc (.cells #[] 47))
      have bx4 := bx3.alloc (.cells #[] 47)
      have hk4 : Below w.heap.size w (((w2.setCell ⟨wr.heap.size, 0, none⟩ (.int .i64 X)).setCell ⟨wr.heap.size, 1, none⟩ (.int .i64 Y)).alloc (.cells #[] 47)) := ((hkw.setCell hsw _).setCell hsw _).alloc (by simp; omega) _
      clear hb2
      cases hh : Maps.has D kl with
      | true =>
        have HH := Lib.hid hh
        have HE : Hid (ofL N (ps.take (k + 1)) = ofL N (ps.take k)) := HT2.out.trans (inv_hit HI.out hkey hh)
        clear hh
        go_wp2_with (first | (at_lookup; refine wpList_lookup_val _ rfl _ _ 45 rfl 35 47 Try.pairKeyed Try.underlying45 (Try.zeroUnit _) w1.heap.size k D rfl HM3.out _ _ rfl hkey _ HH.out ?_))
        go_roundw
        case rel => exact ⟨k + 1, u, D, by omega, by go_num, HB4.out, HU0, HU, by rw [HE.out]; exact HR, HM4.out.mono (Nat.le_succ _), by rw [HE.out]; exact HI, hk4, by simp; omega⟩
        case measure => simp [intOf]; omega
      | false =>
        have HH := Lib.hid hh
        clear hh
        by_cases h1 : 0 ≤ X ∧ X < N
        · obtain ⟨h1a, h1b⟩ := h1
          by_cases h2 : 0 ≤ Y ∧ Y < N
          · obtain ⟨h2a, h2b⟩ := h2
            obtain ⟨i, rfl⟩ : ∃ i : Nat, X = i := ⟨X.toNat, by omega⟩
            obtain ⟨j, rfl⟩ : ∃ j : Nat, Y = j := ⟨Y.toNat, by omega⟩
            have hiN : i < N := by omega
            have hjN : j < N := by omega
            have hin : inB (ofL N (ps.take k)) (i : Int) (j : Int) = true := by simp only [inB, ofL_length, decide_eq_true_eq]; omega
            have HIN := Lib.hid hin
            have HJ : Hid (∀ z, z < N → el (ofL N (ps.take (k + 1))) z = join (rt u i) (rt u j) (rt u z)) := fun z hz => by
              rw [HT2.out, uniL_el hin (by rw [ofL_length]; exact hz), HR.out i hiN, HR.out j hjN, HR.out z hz, Int.toNat_natCast, Int.toNat_natCast]
            clear hin
            go_wp2_with (first | (at_lookup; refine wpList_lookup_val _ rfl _ _ 45 rfl 35 47 Try.pairKeyed Try.underlying45 (Try.zeroUnit _) w1.heap.size k D rfl HM3.out _ _ rfl hkey _ HH.out ?_) | (go_at_call 25; (with_reducible refine (there_yes _ _ _ _ _ h1a h1b).mono ?_); rintro e w' ⟨rfl, rfl⟩) | (go_at_call 25; (with_reducible refine (there_yes _ _ _ _ _ h2a h2b).mono ?_); rintro e w' ⟨rfl, rfl⟩) | (fail))
            refine (link_any g N _ u i j _ HB4.out HU0.out HU.out hiN hjN hN6).mono ?_
            rintro e w5 ⟨u', b, rfl, _, hl5, hu5, hr5, hb5, hg5⟩
            have hs5 := hg5.size
            simp only [World.size_alloc, World.size_setCell] at hs5
            have bx5 := bx4.grown hg5 (by simp; omega)
            have hm5 := HM4.out.kept hg5 (by simp; omega)
            have hk5 := hk4.grown hg5 (by simp; omega) (fun q hq => by cases hq; exact hg0)
            have HL5 : Hid (u'.length = N) := hl5
            have HU5 : Hid (Up u') := hu5
            have HR5 : Hid (∀ z, z < N → rt u' z = el (ofL N (ps.take (k + 1))) z) := fun z hz => by rw [hr5 z hz, HJ.out z hz]
            have HB5 := Lib.hid hb5
            obtain ⟨_, _, _, _⟩ := bx5.two
            have hws : wr.heap.size < w5.heap.size := by omega
            clear hl5 hu5 hr5 hb5 hg5
            cases b with
            | false =>
              have HI5 : Hid (Inv (ofL N (ps.take (k + 1))) D) := by rw [HT2.out]; exact inv_uni HI.out _ _
              have HM5 := Lib.hid hm5
              clear hm5
              go_wp2_with fail
              go_roundw
              case rel => exact ⟨k + 1, u', D, by omega, by go_num, HB5.out, HL5, HU5, HR5, HM5.out.mono (Nat.le_succ _), HI5, hk5, by omega⟩
              case measure => simp [intOf]; omega
            | true =>
              have HI5 : Hid (Inv (ofL N (ps.take (k + 1))) (D.put kl (.agg []))) := by rw [HT2.out]; exact inv_put HI.out HIN.out hkey _
              have HM5 := Lib.hid hm5
              clear hm5
              go_wp2_with (at_mapUpdate; refine wpList_mapUpdate_own _ rfl _ _ _ 45 rfl 35 47 Try.pairKeyed Try.underlying45 (unitElem (H := Unit)) w1.heap.size k _ rfl HM5.out (by unfold maxLen; omega) _ _ _ rfl rfl hkey _ [] unitElem_mk ?_; intro w6 hown6 hgrow6)
              have hs6 := hgrow6.size
              have HB6 := Lib.hid (HB5.out.grown hgrow6 (by simp; omega))
              have hk6 := hk5.grown hgrow6 (by omega) (fun q hq => by cases hq; exact hs1)
              clear hgrow6
              go_wp2_with fail
              go_roundw
              case rel => exact ⟨k + 1, u', _, by omega, by go_num, HB6.out, HL5, HU5, HR5, hown6, HI5, hk6, by omega⟩
              case measure => simp [intOf]; omega
          · have HE : Hid (ofL N (ps.take (k + 1)) = ofL N (ps.take k)) := HT2.out.trans (uniL_out (by simp only [inB, ofL_length, decide_eq_true_eq]; omega))
            go_wp2_with (first | (at_lookup; refine wpList_lookup_val _ rfl _ _ 45 rfl 35 47 Try.pairKeyed Try.underlying45 (Try.zeroUnit _) w1.heap.size k D rfl HM3.out _ _ rfl hkey _ HH.out ?_) | (go_at_call 25; (with_reducible refine (there_yes _ _ _ _ _ h1a h1b).mono ?_); rintro e w' ⟨rfl, rfl⟩) | (go_at_call 25; (with_reducible refine (there_no _ _ _ _ _ h2).mono ?_); rintro e w' ⟨rfl, rfl⟩))
            go_roundw
            case rel => exact ⟨k + 1, u, D, by omega, by go_num, HB4.out, HU0, HU, by rw [HE.out]; exact HR, HM4.out.mono (Nat.le_succ _), by rw [HE.out]; exact HI, hk4, by simp; omega⟩
            case measure => simp [intOf]; omega
        · have HE : Hid (ofL N (ps.take (k + 1)) = ofL N (ps.take k)) := HT2.out.trans (uniL_out (by simp only [inB, ofL_length, decide_eq_true_eq]; omega))
          go_wp2_with (first | (at_lookup; refine wpList_lookup_val _ rfl _ _ 45 rfl 35 47 Try.pairKeyed Try.underlying45 (Try.zeroUnit _) w1.heap.size k D rfl HM3.out _ _ rfl hkey _ HH.out ?_) | (go_at_call 25; (with_reducible refine (there_no _ _ _ _ _ h1).mono ?_); rintro e w' ⟨rfl, rfl⟩))
          go_roundw
          case rel => exact ⟨k + 1, u, D, by omega, by go_num, HB4.out, HU0, HU, by rw [HE.out]; exact HR, HM4.out.mono (Nat.le_succ _), by rw [HE.out]; exact HI, hk4, by simp; omega⟩
          case measure => simp [intOf]; omega
    · obtain rfl : k = np := by omega
      have HR2 : Hid (∀ z, z < N → rt u z = el (ofL N ps) z) := by rw [List.take_of_length_le (by rw [HL.out]; exact Nat.le_refl _)] at HR; exact HR
      clear HR hmap HI
      have HB := Lib.hid hb
      clear hb
      go_wp2_with fail
      refine (flat_any g N _ u _ HB.out HU0.out HU.out hN6).mono ?_
      rintro e w2 ⟨v, rfl, hv1, hv2, hv3, hg2⟩
      go_wp2_with fail
      go_ret
      have e : v = ofL N ps := ext_el (by rw [ofL_length]; exact hv1) fun i hi => by rw [hv2 i (by omega), HR2.out i (by omega)]
      subst e
      have hs2 := hg2.size
      have hs3 := hbw.size
      exact ⟨_, _, rfl, hv3.rowN (ofL_length _ _) hg0 (by omega), hbw.grown hg2 (by omega) (fun q hq => by cases hq; exact hg0)⟩

end Go.Proofs.Ytodkdjgpmfegcaa
