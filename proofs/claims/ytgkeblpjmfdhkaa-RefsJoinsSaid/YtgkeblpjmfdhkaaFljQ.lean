/- The law RefsJoins: what is free in two side by side. -/
import Derived.Test.YtgkeblpjmfdhkaaFlbQ
namespace Go.Proofs.Ytgkeblpjmfdhkaa
open Go.RowKit Go.Maps
set_option linter.unusedVariables false
set_option linter.unusedSimpArgs false

/-- What a text "let q = ..;" is: the texts' sums, the parse. -/
structure Txq (xs : List Nat) (EX M L2 : ByteArray) (O : Out3) : Prop where
  e : strB (exprT 8 xs) = EX
  t1 : ∀ W, Sem.run Try.prog (Op.stringOp .add ⟨#[108, 101, 116, 32, 113, 32, 61, 32]⟩ EX) W = .ok (.string M) W
  t2 : ∀ W, Sem.run Try.prog (Op.stringOp .add M ⟨#[59]⟩) W = .ok (.string L2) W
  y : ∀ w, Calls Try.prog 22 #[.string L2] w fun e w' => ∃ a b, e = .returned (.agg #[a, b, .int .i64 (O.e : Int), .int .i64 O.at_]) ∧ IsV (New w) w' (pgC O.p) (.agg #[a, b]) ∧ Below w.heap.size w w'
  fit : PFit 65536 O.p
  pos : O.e = 0 → 0 < O.p.binds.length
theorem txq (xs : List Nat) (hx : ∀ x ∈ xs, x ≤ 255) : ∃ EX M L2 O, Txq xs EX M L2 O := by
  have hel := (txt_len 8 xs hx).1
  refine ⟨_, strB ([108, 101, 116, 32, 113, 32, 61, 32] ++ exprT 8 xs), strB (lqT xs), parseA (lqT xs), rfl, fun W => ?_, fun W => ?_, fun w => y_ParseA _ w rfl, parseA_fit _, parseA_first xs hx⟩
  · exact run_cat14 (a := [108, 101, 116, 32, 113, 32, 61, 32]) rfl (by simp only [List.length_cons, List.length_nil]; omega) W
  · exact run_cat14 (b := [59]) rfl (by rw [List.length_append]; simp only [List.length_cons, List.length_nil]; omega) W
/-- The first Bind's Body of such a text, its six cells in memory at a world and ever after. -/
theorem Txq.body {xs : List Nat} {EX M L2 : ByteArray} {O : Out3} (h : Txq xs EX M L2 O) (h0 : O.e = 0) : ∃ (x : Bd) (nb : Nat), O.p.binds[0]? = some x ∧ O.p.binds.length = nb ∧ 0 < nb ∧ nb ≤ 65536 ∧ x.body.fit ∧ x.body.nn ≤ 262144 := by
  have hp := h.pos h0
  have hx : O.p.binds[0]? = some O.p.binds[0] := List.getElem?_eq_getElem hp
  have hm := List.mem_of_getElem? hx
  exact ⟨_, _, hx, rfl, hp, h.fit.nb, (h.fit.binds _ hm).2, by have := h.fit.nn; have := sum_mem hm; omega⟩

theorem strs_news {S : Nat → Prop} {w : World} {l : List By} {a : Option Addr} {m c : Nat} (h : InC S w (.s l.length 1 (strsC l)) (.slice a m c)) : ∀ ad, a = some ad → ∀ (j : Nat) (u : Value), (l.map strV)[j]? = some u → w.cell? (ad.add j) = some u := by
  rintro ad rfl j u hu
  rw [List.getElem?_map] at hu
  cases hx : l[j]? with
  | none => rw [hx] at hu; cases hu
  | some x =>
    rw [hx] at hu
    obtain rfl := Option.some.inj hu
    obtain ⟨b, off, e, hb, hc⟩ := h.text hx
    cases e
    rw [Addr.add_lit]
    exact hc
theorem strV_one (l : List By) : ∀ u ∈ l.map strV, u.oneCell' = true := fun u hu => by obtain ⟨x, _, rfl⟩ := List.mem_map.1 hu; rfl
theorem tri_new {S : Nat → Prop} {w : World} {x y z : Ex} {us vs ws : List Value} {k p n : Int} {s : By} (h : IsV S w (exC x) (.agg us.toArray)) (h' : IsV S w (exC y) (.agg vs.toArray)) (h2 : IsV S w (exC z) (.agg ws.toArray)) (hS : S w.heap.size) : IsV S (w.alloc (.cells (us ++ (vs ++ ws)).toArray 43)) (exC (.mk k p s n [x, y, z] [])) (.agg #[.int .i64 k, .int .i64 p, .string (strB s), .int .i64 n, .slice (some ⟨w.heap.size, 0, none⟩) 3 3, .slice none 0 0]) := by
  have h1 : InS S w (exsC [x]) us := by have := h.cells; simpa [exsC, Value.cells] using this
  have h3 : InS S w (exsC [y]) vs := by have := h'.cells; simpa [exsC, Value.cells] using this
  have h4 : InS S w (exsC [z]) ws := by have := h2.cells; simpa [exsC, Value.cells] using this
  exact IsV.of_ex (kids := [x, y, z]) (alts := []) (InC.of_new (n := 3) (k := 6) (by have := h1.app (h3.app h4); simpa [exsC] using this) hS (by simp [exsC, exC_len]) (by decide)) (.e _ _ _)
def newL (A B : List By) : List By := B.filter fun s => decide (s ∉ A)
theorem new_next {A B : List By} {r : Nat} {y : By} (h : B[r]? = some y) : newL A (B.take (r + 1)) = if y ∈ A then newL A (B.take r) else newL A (B.take r) ++ [y] := by
  unfold newL
  rw [take_snoc' h, List.filter_append]
  by_cases e : y ∈ A
  · rw [if_pos e, List.filter_cons_of_neg (by simpa using e)]; simp
  · rw [if_neg e, List.filter_cons_of_pos (by simpa using e)]; simp
theorem belowSix {B b : Nat} {w wz : World} {v0 v1 v2 v3 v4 v5 : Value} (h : Below B w wz) (hb : B ≤ b) : Below B w ((((((wz.setCell ⟨b, 0, none⟩ v0).setCell ⟨b, 1, none⟩ v1).setCell ⟨b, 2, none⟩ v2).setCell ⟨b, 3, none⟩ v3).setCell ⟨b, 4, none⟩ v4).setCell ⟨b, 5, none⟩ v5) :=
  (((((h.setCell (p := ⟨b, 0, none⟩) hb v0).setCell (p := ⟨b, 1, none⟩) hb v1).setCell (p := ⟨b, 2, none⟩) hb v2).setCell (p := ⟨b, 3, none⟩) hb v3).setCell (p := ⟨b, 4, none⟩) hb v4).setCell (p := ⟨b, 5, none⟩) hb v5
set_option maxRecDepth 100000 in
set_option maxHeartbeats 16000000 in
theorem joins14_law (a : Option Addr) (l c : Nat) (xs : List Nat) (a' : Option Addr) (l' c' : Nat) (ys : List Nat) (w : World) (h : RB w a l c xs) (h' : RB w a' l' c' ys) :
    Calls Try.prog 12 #[.slice a l c, .slice a' l' c'] w fun e w' => e = .returned (.bool true) ∧ Below w.heap.size w w' := by
  have hcap := h.cap
  have hsm := h.small
  have hcap' := h'.cap
  have hsm' := h'.small
  have H4 := Lib.hid (fun (w' : World) => r_awake w')
  by_cases hl : 30 < l ∨ 30 < l'
  · have hd : decide ((30 : Int) < (l : Int)) = true ∨ (decide ((30 : Int) < (l : Int)) = false ∧ decide ((30 : Int) < (l' : Int)) = true) := by
      by_cases h1 : 30 < l
      · exact .inl (decide_eq_true (by omega))
      · exact .inr ⟨decide_eq_false (by omega), decide_eq_true (by omega)⟩
    clear h h' hl
    rcases hd with hd | ⟨hd, hd'⟩
    · go_enter Try.func12, Try.ntmps12
      go_wp2_with (go_at_call 32; (with_reducible refine (H4.out _).mono ?_); rintro e w7 ⟨rfl, hb7⟩; have HB7 := Lib.hid hb7; clear hb7)
      go_ret
      exact ⟨rfl, HB7.out⟩
    · go_enter Try.func12, Try.ntmps12
      go_wp2_with (go_at_call 32; (with_reducible refine (H4.out _).mono ?_); rintro e w7 ⟨rfl, hb7⟩; have HB7 := Lib.hid hb7; clear hb7)
      go_ret
      exact ⟨rfl, HB7.out⟩
  · have hd : decide ((30 : Int) < (l : Int)) = false := decide_eq_false (by omega)
    have hd' : decide ((30 : Int) < (l' : Int)) = false := decide_eq_false (by omega)
    have hl2 : l ≤ 30 := by omega
    have hl2' : l' ≤ 30 := by omega
    obtain ⟨EX, M, L2, O, hq⟩ := txq xs h.le
    obtain ⟨EX', M', L2', O', hq'⟩ := txq ys h'.le
    have HE := Lib.hid (fun (w' : World) (hw : Below w.heap.size w w') => t_Expr a l c xs w' (h.under hw))
    have HE' := Lib.hid (fun (w' : World) (hw : Below w.heap.size w w') => t_Expr a' l' c' ys w' (h'.under hw))
    rw [hq.e] at HE
    rw [hq'.e] at HE'
    have T1 := hq.t1
    have T2 := hq.t2
    have T1' := hq'.t1
    have T2' := hq'.t2
    have HY := Lib.hid hq.y
    have HY' := Lib.hid hq'.y
    obtain ⟨e0, he0⟩ : ∃ e0 : Int, (O.e : Int) = e0 := ⟨_, rfl⟩
    obtain ⟨e1, he1⟩ : ∃ e1 : Int, (O'.e : Int) = e1 := ⟨_, rfl⟩
    rw [he0] at HY
    rw [he1] at HY'
    by_cases h0 : O.e = 0 ∧ O'.e = 0
    · have hz0 : (e0 != 0) = false := by rw [← he0, h0.1]; rfl
      have hz1 : (e1 != 0) = false := by rw [← he1, h0.2]; rfl
      obtain ⟨x, nb, hx0, hnb, hnb0, hnbm, hxf, hxn⟩ := hq.body h0.1
      obtain ⟨x', nb', hx0', hnb', hnb0', hnbm', hxf', hxn'⟩ := hq'.body h0.2
      have HX0 := Lib.hid hx0
      have HNB := Lib.hid hnb
      have HX0' := Lib.hid hx0'
      have HNB' := Lib.hid hnb'
      obtain ⟨X, hX⟩ : ∃ X, x.body = X := ⟨_, rfl⟩
      obtain ⟨X', hX'⟩ : ∃ X', x'.body = X' := ⟨_, rfl⟩
      have HX := Lib.hid hX
      have HX' := Lib.hid hX'
      rw [hX] at hxf hxn
      rw [hX'] at hxf' hxn'
      obtain ⟨A, hA⟩ : ∃ A, freeL X = A := ⟨_, rfl⟩
      obtain ⟨B, hB⟩ : ∃ B, freeL X' = B := ⟨_, rfl⟩
      have hAl : A.length ≤ 300000 := by
        rw [← hA]; refine Nat.le_trans (addAll_len _ _) ?_
        have := Ex.occ_len X []; simp; omega
      have hBl : B.length ≤ 300000 := by
        rw [← hB]; refine Nat.le_trans (addAll_len _ _) ?_
        have := Ex.occ_len X' []; simp; omega
      have HF1 := Lib.hid (fun (S : Nat → Prop) (w : World) (u : Value) (hu : IsV S w (exC X) u) => f_Free X w u hxf hu (by omega))
      have HF2 := Lib.hid (fun (S : Nat → Prop) (w : World) (u : Value) (hu : IsV S w (exC X') u) => f_Free X' w u hxf' hu (by omega))
      have HF3 := Lib.hid (fun (S : Nat → Prop) (w : World) (u : Value) (hu : IsV S w (exC (.mk 5 0 [] 0 [X, X'] [])) u) => f_Free (.mk 5 0 [] 0 [X, X'] []) w u (by simp only [Ex.fit, Ex.fits, Al.fits]; exact ⟨by simp, fun q => by simp at q, ⟨hxf, hxf', trivial⟩, trivial⟩) hu (by simp only [Ex.nn, Ex.nns, Al.nns]; omega))
      have HF4 := Lib.hid (fun (S : Nat → Prop) (w : World) (u : Value) (hu : IsV S w (exC (.mk 8 0 [] 0 [X, X', X] [])) u) => f_Free (.mk 8 0 [] 0 [X, X', X] []) w u (by simp only [Ex.fit, Ex.fits, Al.fits]; exact ⟨by simp, fun q => by simp at q, ⟨hxf, hxf', hxf, trivial⟩, trivial⟩) hu (by simp only [Ex.nn, Ex.nns, Al.nns]; omega))
      rw [hA] at HF1
      rw [hB] at HF2
      rw [free_app _ _ _ _ _ _ (by decide), hA, hB] at HF3
      rw [free_tuple _ _ _ _ _ _ (by decide), hA, hB] at HF4
      clear h h' hl hq hq' he0 he1 h0 hx0 hnb hx0' hnb' hX hX' hxf hxn hxf' hxn' hA hB hcap hsm hcap' hsm'
      go_enter Try.func12, Try.ntmps12
      go_upto_region 6 with (first
        | (go_at_call 15; (with_reducible refine (HE.out _ (Below.refl _ _)).mono ?_); rintro e w1 ⟨rfl, hb1⟩; have HB1 := Lib.hid hb1; clear hb1)
        | (go_at_call 22; (with_reducible refine (HY.out _).mono ?_); go_loud (rintro e w3 ⟨u1, u2, rfl, hv3, hb3⟩; obtain ⟨a1, a2, c1, c2, hab, hd3, hi3⟩ := hv3.pgp; simp only [Value.agg.injEq, Array.mk.injEq, List.cons.injEq, and_true] at hab; obtain ⟨rfl, rfl⟩ := hab; rw [HNB.out]; have HI3 := Lib.hid hi3; have HB3 := Lib.hid (HB1.out.trans (hb3.mono HB1.out.size)); clear hv3 hd3 hi3 hb3 HY))
        | (go_at_call 15; (with_reducible refine (HE'.out _ HB3.out).mono ?_); rintro e w5 ⟨rfl, hb5⟩; have HB5 := Lib.hid (HB3.out.trans (hb5.mono HB3.out.size)); have HI5 := Lib.hid (HI3.out.under hb5); clear hb5)
        | (go_at_call 22; (with_reducible refine (HY'.out _).mono ?_); go_loud (rintro e w7 ⟨u1, u2, rfl, hv7, hb7⟩; obtain ⟨a1', a2', c1', c2', hab, hd7, hi7⟩ := hv7.pgp; simp only [Value.agg.injEq, Array.mk.injEq, List.cons.injEq, and_true] at hab; obtain ⟨rfl, rfl⟩ := hab; rw [HNB'.out]; have HJ7 := Lib.hid hi7; have HI7 := Lib.hid (HI5.out.under hb7); have HB7 := Lib.hid (HB5.out.trans (hb7.mono HB5.out.size)); clear hv7 hd7 hi7 hb7 HY')))
      have hX1 := Box.new w7 49 [.slice a1 O.p.datas.length c1, .slice a2 nb c2, .int .i64 e0, .int .i64 O.at_]
      have hX2 := hX1.alloc (.cells #[.slice a1' O'.p.datas.length c1', .slice a2' nb' c2', .int .i64 e1, .int .i64 O'.at_] 49)
      have hY2 := Box.new (w7.alloc (.cells #[.slice a1 O.p.datas.length c1, .slice a2 nb c2, .int .i64 e0, .int .i64 O.at_] 49)) 49 [.slice a1' O'.p.datas.length c1', .slice a2' nb' c2', .int .i64 e1, .int .i64 O'.at_]
      rw [World.size_alloc] at hY2
      have hBW : Below w7.heap.size w7 ((w7.alloc (.cells #[.slice a1 O.p.datas.length c1, .slice a2 nb c2, .int .i64 e0, .int .i64 O.at_] 49)).alloc (.cells #[.slice a1' O'.p.datas.length c1', .slice a2' nb' c2', .int .i64 e1, .int .i64 O'.at_] 49)) := ((Below.refl _ w7).alloc (Nat.le_refl _) _).alloc (by simp) _
      have hI := HI7.out.under hBW
      have hJ := HJ7.out.under hBW
      have hB7 := HB7.out.trans (hBW.mono HB7.out.size)
      obtain ⟨W, hW⟩ : ∃ W, (w7.alloc (.cells #[.slice a1 O.p.datas.length c1, .slice a2 nb c2, .int .i64 e0, .int .i64 O.at_] 49)).alloc (.cells #[.slice a1' O'.p.datas.length c1', .slice a2' nb' c2', .int .i64 e1, .int .i64 O'.at_] 49) = W := ⟨_, rfl⟩
      rw [hW] at hX2 hI hJ hB7
      rw [show (w7.alloc (.cells #[.slice a1 O.p.datas.length c1, .slice a2 nb c2, .int .i64 e0, .int .i64 O.at_] 49)).alloc (.cells ([.slice a1' O'.p.datas.length c1', .slice a2' nb' c2', .int .i64 e1, .int .i64 O'.at_] : List Value).toArray 49) = W from hW] at hY2
      try rw [hW]
      obtain ⟨g, off, k, p, n, s, b1, b2, m1, m2, d1, d2, rfl, hg, hbv, q2, q3, q4, q5, q6, q7⟩ := hI.body HX0.out
      obtain ⟨g', off', k', p', n', s', b1', b2', m1', m2', d1', d2', rfl, hg', hbv', r2, r3, r4, r5, r6, r7⟩ := hJ.body HX0'.out
      simp only [Nat.zero_mul, Nat.add_zero] at q2 q3 q4 q5 q6 q7 r2 r3 r4 r5 r6 r7
      rw [HX.out] at hbv
      rw [HX'.out] at hbv'
      obtain ⟨sz, hsz⟩ : ∃ sz, strB s = sz := ⟨_, rfl⟩
      obtain ⟨sz', hsz'⟩ : ∃ sz', strB s' = sz' := ⟨_, rfl⟩
      rw [hsz] at hbv q4
      rw [hsz'] at hbv' r4
      have hT := hbv.mono (S' := fun _ => True) fun _ _ _ => trivial
      have hT' := hbv'.mono (S' := fun _ => True) fun _ _ _ => trivial
      have HT := Lib.hid hT
      have HT' := Lib.hid hT'
      have hx1 := hX2.cell 1
      have hy1 := hY2.cell 1
      have hxl := hX2.lt
      have hyl := hY2.lt
      have HB := Lib.hid hB7
      have HK : Hid (∀ w', Below W.heap.size W w' → (Below W.heap.size W w' ∧ w'.cell? ⟨w7.heap.size, 1, none⟩ = some (.slice (some ⟨g, off, none⟩) nb c2) ∧ w'.cell? ⟨w7.heap.size + 1, 1, none⟩ = some (.slice (some ⟨g', off', none⟩) nb' c2') ∧
          w'.cell? ⟨g, off + 2, none⟩ = some (.int .i64 k) ∧ w'.cell? ⟨g, off + 2 + 1, none⟩ = some (.int .i64 p) ∧ w'.cell? ⟨g, off + 2 + 2, none⟩ = some (.string sz) ∧ w'.cell? ⟨g, off + 2 + 3, none⟩ = some (.int .i64 n) ∧ w'.cell? ⟨g, off + 2 + 4, none⟩ = some (.slice b1 m1 d1) ∧ w'.cell? ⟨g, off + 2 + 5, none⟩ = some (.slice b2 m2 d2) ∧
          w'.cell? ⟨g', off' + 2, none⟩ = some (.int .i64 k') ∧ w'.cell? ⟨g', off' + 2 + 1, none⟩ = some (.int .i64 p') ∧ w'.cell? ⟨g', off' + 2 + 2, none⟩ = some (.string sz') ∧ w'.cell? ⟨g', off' + 2 + 3, none⟩ = some (.int .i64 n') ∧ w'.cell? ⟨g', off' + 2 + 4, none⟩ = some (.slice b1' m1' d1') ∧ w'.cell? ⟨g', off' + 2 + 5, none⟩ = some (.slice b2' m2' d2'))) := fun w' hb =>
        ⟨hb, six_below hb hxl hx1, six_below hb hyl hy1, six_below hb hg q2, six_below hb hg q3, six_below hb hg q4, six_below hb hg q5, six_below hb hg q6, six_below hb hg q7, six_below hb hg' r2, six_below hb hg' r3, six_below hb hg' r4, six_below hb hg' r5, six_below hb hg' r6, six_below hb hg' r7⟩
      clear hX1 hX2 hY2 hBW hI hJ hB7 hW hbv hbv' hsz hsz' hT hT' hx1 hy1 q2 q3 q4 q5 q6 q7 r2 r3 r4 r5 r6 r7 hg hg' hxl hyl HI7 HJ7 HB1 HB3 HB5 HI3 HI5 HX0 HX0' HX HX' HNB HNB'
      clear T1 T2 T1' T2' HE'
      go_cut [7, 8] (fun v7 v8 wx => ∃ b7 b8 : Nat, v7 = .pointer (some ⟨b7, 0, none⟩) ∧ v8 = .pointer (some ⟨b8, 0, none⟩) ∧ Box wx b7 43 [.int .i64 k, .int .i64 p, .string sz, .int .i64 n, .slice b1 m1 d1, .slice b2 m2 d2] ∧ Box wx b8 43 [.int .i64 k', .int .i64 p', .string sz', .int .i64 n', .slice b1' m1' d1', .slice b2' m2' d2'] ∧ Below W.heap.size W wx)
      case first =>
       go_region_held3 (fun w' => Below W.heap.size W w' ∧ w'.cell? ⟨w7.heap.size, 1, none⟩ = some (.slice (some ⟨g, off, none⟩) nb c2) ∧ w'.cell? ⟨w7.heap.size + 1, 1, none⟩ = some (.slice (some ⟨g', off', none⟩) nb' c2') ∧
          w'.cell? ⟨g, off + 2, none⟩ = some (.int .i64 k) ∧ w'.cell? ⟨g, off + 2 + 1, none⟩ = some (.int .i64 p) ∧ w'.cell? ⟨g, off + 2 + 2, none⟩ = some (.string sz) ∧ w'.cell? ⟨g, off + 2 + 3, none⟩ = some (.int .i64 n) ∧ w'.cell? ⟨g, off + 2 + 4, none⟩ = some (.slice b1 m1 d1) ∧ w'.cell? ⟨g, off + 2 + 5, none⟩ = some (.slice b2 m2 d2) ∧
          w'.cell? ⟨g', off' + 2, none⟩ = some (.int .i64 k') ∧ w'.cell? ⟨g', off' + 2 + 1, none⟩ = some (.int .i64 p') ∧ w'.cell? ⟨g', off' + 2 + 2, none⟩ = some (.string sz') ∧ w'.cell? ⟨g', off' + 2 + 3, none⟩ = some (.int .i64 n') ∧ w'.cell? ⟨g', off' + 2 + 4, none⟩ = some (.slice b1' m1' d1') ∧ w'.cell? ⟨g', off' + 2 + 5, none⟩ = some (.slice b2' m2' d2'))
        (first
          | (with_reducible apply HK.out; repeat (first | with_reducible exact Below.refl _ _ | with_reducible refine Below.drew ?_ | with_reducible refine below_alloc ?_ (Nat.le_refl _) _ | with_reducible refine belowSix ?_ (Nat.le_refl _) | with_reducible refine belowSix ?_ (Nat.le_succ _)))
          | (trace_state; fail))
        (fail)
       all_goals go_wp2_with fail
       all_goals go_meet
       · have h1 := (Box.new W 43 [.int .i64 k, .int .i64 p, .string sz, .int .i64 n, .slice b1 m1 d1, .slice b2 m2 d2]).alloc (.cells #[.int .i64 k', .int .i64 p', .string sz', .int .i64 n', .slice b1' m1' d1', .slice b2' m2' d2'] 43)
         have h2 := Box.new (W.alloc (.cells #[.int .i64 k, .int .i64 p, .string sz, .int .i64 n, .slice b1 m1 d1, .slice b2 m2 d2] 43)) 43 [.int .i64 k', .int .i64 p', .string sz', .int .i64 n', .slice b1' m1' d1', .slice b2' m2' d2']
         rw [World.size_alloc] at h2
         exact ⟨_, _, rfl, rfl, h1, h2, (((Below.refl _ W).alloc (Nat.le_refl _) _).alloc (by simp) _).drew⟩
       · have h1 := (Box.new W 43 [.int .i64 k', .int .i64 p', .string sz', .int .i64 n', .slice b1' m1' d1', .slice b2' m2' d2']).alloc (.cells #[.int .i64 k, .int .i64 p, .string sz, .int .i64 n, .slice b1 m1 d1, .slice b2 m2 d2] 43)
         have h2 := Box.new (W.alloc (.cells #[.int .i64 k', .int .i64 p', .string sz', .int .i64 n', .slice b1' m1' d1', .slice b2' m2' d2'] 43)) 43 [.int .i64 k, .int .i64 p, .string sz, .int .i64 n, .slice b1 m1 d1, .slice b2 m2 d2]
         rw [World.size_alloc] at h2
         exact ⟨_, _, rfl, rfl, h2, h1, (((Below.refl _ W).alloc (Nat.le_refl _) _).alloc (by simp) _).drew⟩
      case rest =>
      obtain ⟨w8, rfl⟩ : ∃ w8, w8 = wc := ⟨wc, rfl⟩
      obtain ⟨b7, b8, rfl, rfl, h7, h8, hb8⟩ := hcut
      have HT8 := Lib.hid (HT.out.under hb8)
      have HT8' := Lib.hid (HT'.out.under hb8)
      have HB8 := Lib.hid (HB.out.trans (hb8.mono HB.out.size))
      have HX7 := Lib.hid h7
      have HX8 := Lib.hid h8
      have HTX : Hid (∀ w', Below w8.heap.size w8 w' → IsV (fun _ => True) w' (exC X) (.agg #[.int .i64 k, .int .i64 p, .string sz, .int .i64 n, .slice b1 m1 d1, .slice b2 m2 d2])) := fun w' hw => HT8.out.under hw
      have HTY : Hid (∀ w', Below w8.heap.size w8 w' → IsV (fun _ => True) w' (exC X') (.agg #[.int .i64 k', .int .i64 p', .string sz', .int .i64 n', .slice b1' m1' d1', .slice b2' m2' d2'])) := fun w' hw => HT8'.out.under hw
      have HC0 : Hid (Below w8.heap.size w8 w8.drew) := (Below.refl _ w8).drew
      have d7 := h7.drew
      have d8 := h8.drew
      obtain ⟨_, _, _, _, _, _⟩ := six_cells d7
      obtain ⟨_, _, _, _, _, _⟩ := six_cells d8
      have l7 := d7.lt
      have l8 := d8.lt
      clear h7 h8 hb8 d7 d8 HK HT HT' HB HB7
      go_upto_region 7 with fail
      go_cut [9, 10] (fun v9 v10 wx => ∃ (a9 a10 : Option Addr) (c9 c10 : Nat), v9 = .slice a9 A.length c9 ∧ v10 = .slice a10 B.length c10 ∧ InC (fun _ => True) wx (.s A.length 1 (strsC A)) (.slice a9 A.length c9) ∧ InC (fun _ => True) wx (.s B.length 1 (strsC B)) (.slice a10 B.length c10) ∧ (a9 = none → A.length = 0 ∧ c9 = 0) ∧ Below w8.heap.size w8 wx)
      case first =>
       go_region_with (first
        | (go_at_call 34; (with_reducible refine (HF1.out _ _ _ (HTX.out _ HC0.out)).mono ?_); rintro e wa ⟨a9, c9, rfl, h9, n9, hb⟩; have HCA := Lib.hid (HC0.out.trans (hb.mono HC0.out.size)); have e7 := HX7.out.below HCA.out; obtain ⟨_, _, _, _, _, _⟩ := six_cells e7; have e8 := HX8.out.below HCA.out; obtain ⟨_, _, _, _, _, _⟩ := six_cells e8; have l7a := e7.lt; have l8a := e8.lt; have HA9 := Lib.hid (h9.mono (S' := fun _ => True) fun _ _ _ => trivial); have HN9 := Lib.hid n9; clear h9 n9 hb e7 e8)
        | (go_at_call 34; (with_reducible refine (HF2.out _ _ _ (HTY.out _ HCA.out)).mono ?_); rintro e wb ⟨a10, c10, rfl, h10, n10, hb⟩; have HCB := Lib.hid (HCA.out.trans (hb.mono HCA.out.size)); have HA10 := Lib.hid (h10.mono (S' := fun _ => True) fun _ _ _ => trivial); have HA9B := Lib.hid (HA9.out.under hb); clear h10 n10 hb)
        | (go_at_call 34; (with_reducible refine (HF2.out _ _ _ (HTY.out _ HC0.out)).mono ?_); rintro e wa ⟨a10, c10, rfl, h10, n10, hb⟩; have HCA' := Lib.hid (HC0.out.trans (hb.mono HC0.out.size)); have e7 := HX7.out.below HCA'.out; obtain ⟨_, _, _, _, _, _⟩ := six_cells e7; have e8 := HX8.out.below HCA'.out; obtain ⟨_, _, _, _, _, _⟩ := six_cells e8; have l7a := e7.lt; have l8a := e8.lt; have HA10' := Lib.hid (h10.mono (S' := fun _ => True) fun _ _ _ => trivial); clear h10 n10 hb e7 e8)
        | (go_at_call 34; (with_reducible refine (HF1.out _ _ _ (HTX.out _ HCA'.out)).mono ?_); rintro e wb ⟨a9, c9, rfl, h9, n9, hb⟩; have HCB := Lib.hid (HCA'.out.trans (hb.mono HCA'.out.size)); have HA9B := Lib.hid (h9.mono (S' := fun _ => True) fun _ _ _ => trivial); have HA10 := Lib.hid (HA10'.out.under hb); have HN9 := Lib.hid n9; clear h9 n9 hb))
       all_goals go_wp2_with fail
       all_goals go_meet
       all_goals exact ⟨a9, a10, c9, c10, rfl, rfl, HA9B.out, HA10.out, HN9.out, HCB.out⟩
      case rest =>
      obtain ⟨w9, rfl⟩ : ∃ w9, w9 = wc := ⟨wc, rfl⟩
      obtain ⟨a9, a10, c9, c10, rfl, rfl, hA9, hA10, hn9, hb9⟩ := hcut
      obtain ⟨i0, hi0, hy0, hy1, hy2⟩ := info_parts Try.zstrInfo
      obtain ⟨na, hna⟩ : ∃ na, A.length = na := ⟨_, rfl⟩
      obtain ⟨mb, hmb⟩ : ∃ mb, B.length = mb := ⟨_, rfl⟩
      have HA9 := Lib.hid hA9
      have HA10 := Lib.hid hA10
      have HNI := Lib.hid hn9
      have HC9 := Lib.hid hb9
      have HNA := Lib.hid hna
      have HMB := Lib.hid hmb
      have HNEW := Lib.hid (strs_news (hA9.alloc (.cells #[] 9)))
      rw [hna] at hAl HNI
      rw [hmb] at hBl
      rw [hna, hmb]
      clear hA9 hA10 hn9 hb9 hna hmb HF1 HF2 HTX HTY HC0
      go_wp2_with (at_builtin; refine wpList_append_any rfl _ _ 53 rfl w9.heap.size 9 i0 (.string ⟨#[]⟩) 1 16 Try.underlying53 hi0 hy0 hy1 hy2 rfl (by decide) _ 0 [] rfl ?c0 _ na c9 (A.map strV) rfl ?cn ?c1 ?c2 ?c3 ?c4 ?c5 ?c6 ?_)
      case c0 => exact World.ownsRow_made w9 #[] 0 (Nat.le_refl _) (by decide) rfl
      case cn => exact HNI.out
      case c1 => simp [HNA.out]
      case c2 => exact HNEW.out
      case c3 => exact strV_one A
      case c4 => unfold maxLen; omega
      case c5 => omega
      case c6 => simp
      intro v11 w11 hown11 hgr11
      have hb11 : Below w9.heap.size w9 w11 := ((Below.refl _ w9).alloc (Nat.le_refl _) _).grown hgr11 (by simp) (by rintro q hq; cases hq; exact Nat.le_refl _)
      have HB11 := Lib.hid hb11
      have HOW0 : Hid (w11.ownsRow w9.heap.size 9 1 v11 (na + 0) ((A ++ newL A (B.take 0)).map strV)) := by
        have e1 : (A ++ newL A (B.take 0)).map strV = A.map strV := by simp [newL]
        rw [e1]
        exact hown11
      clear hown11 hgr11 hb11 HNEW
      go_wp2_with fail
      go_loopg [11, 12] (mb) (fun gn vw iv wr => ∃ (r j : Nat), gn + r ≤ mb ∧ mb ≤ gn + r ∧ iv = .int .i64 (r : Int) ∧ j ≤ r ∧ Hid ((newL A (B.take r)).length = j) ∧ Hid (wr.ownsRow w9.heap.size 9 1 vw (na + j) ((A ++ newL A (B.take r)).map strV)) ∧ Hid (Below w9.heap.size w9 wr))
      case atStart => exact ⟨0, 0, by omega, by omega, rfl, Nat.le_refl _, rfl, HOW0, HB11⟩
      case round =>
        clear HOW0 HB11
        obtain ⟨r, j, hr1, hr2, rfl, hj, HJ, HW, HBB⟩ := hrel
        by_cases hlt : r < mb
        · obtain ⟨y, hy⟩ : ∃ y, B[r]? = some y := ⟨_, List.getElem?_eq_getElem (by rw [HMB.out]; exact hlt)⟩
          obtain ⟨gb, ob, rfl, hgb, ry9⟩ := HA10.out.text hy
          have ry := (HBB.out.cell (p := ⟨gb, ob + r, none⟩) hgb).trans ry9
          have hnn := new_next (A := A) hy
          obtain ⟨yz, hyz⟩ : ∃ yz, strB y = yz := ⟨_, rfl⟩
          rw [hyz] at ry
          have HYZ := Lib.hid hyz
          have HNN := Lib.hid hnn
          have hs9 := HBB.out.size
          have hgbw : gb < wr.heap.size := by omega
          clear hy ry9 hnn hyz
          go_wp2_with fail
          go_loopg [13, 14] (na) (fun gn vq iv wx => ∃ (q : Nat) (bq : Bool), gn + q ≤ na ∧ na ≤ gn + q ∧ iv = .int .i64 (q : Int) ∧ vq = .bool bq ∧ Hid (bq = decide (y ∈ A.take q)) ∧ Hid (Below wr.heap.size wr wx))
          case atStart => exact ⟨0, false, by omega, by omega, rfl, rfl, rfl, Below.refl _ _⟩
          case round =>
            obtain ⟨q, bq, hq1, hq2, rfl, rfl, HQ, HBX⟩ := hrel
            rename World => wx
            by_cases hql : q < na
            · obtain ⟨x9, hx9⟩ : ∃ x9, A[q]? = some x9 := ⟨_, List.getElem?_eq_getElem (by rw [HNA.out]; exact hql)⟩
              obtain ⟨ga, oa, rfl, hga, rx9⟩ := HA9.out.text hx9
              have rx := (HBX.out.cell (p := ⟨ga, oa + q, none⟩) (by show ga < _; omega)).trans ((HBB.out.cell (p := ⟨ga, oa + q, none⟩) hga).trans rx9)
              have ryx := (HBX.out.cell (p := ⟨gb, ob + r, none⟩) hgbw).trans ry
              have hsx := HBX.out.size
              have hgax : ga < wx.heap.size := by omega
              have hgbx : gb < wx.heap.size := by omega
              have htk : (y ∈ A.take (q + 1)) ↔ (y ∈ A.take q ∨ x9 = y) := by rw [take_snoc' hx9]; simp [eq_comm]
              cases bq with
              | true =>
                have HQ2 : Hid (true = decide (y ∈ A.take (q + 1))) := (decide_eq_true (htk.2 (.inl (of_decide_eq_true HQ.out.symm)))).symm
                clear hx9 rx9 rx htk HQ
                go_wp2_with fail
                go_quiet (fail)
                go_wp2_with fail
                go_roundg (na - (q + 1))
                case measure => omega
                case rel => exact ⟨q + 1, true, by omega, by omega, by go_num, rfl, HQ2, below_drN HBX.out _⟩
              | false =>
                by_cases e : x9 = y
                · have HQ2 : Hid (true = decide (y ∈ A.take (q + 1))) := (decide_eq_true (htk.2 (.inr e))).symm
                  rw [e, HYZ.out] at rx
                  clear hx9 rx9 htk HQ e
                  go_wp2_with fail
                  go_quiet (fail)
                  go_wp2_with fail
                  go_roundg (na - (q + 1))
                  case measure => omega
                  case rel => exact ⟨q + 1, true, by omega, by omega, by go_num, rfl, HQ2, below_drN HBX.out _⟩
                · have hno : ¬ y ∈ A.take q := of_decide_eq_false HQ.out.symm
                  have HQ2 : Hid (false = decide (y ∈ A.take (q + 1))) := (decide_eq_false (fun h => (htk.1 h).elim hno e)).symm
                  have hne := strB_ne e
                  rw [HYZ.out] at hne
                  obtain ⟨xz, hxz⟩ : ∃ xz, strB x9 = xz := ⟨_, rfl⟩
                  rw [hxz] at rx hne
                  clear hx9 rx9 htk HQ e hno hxz
                  go_wp2_with fail
                  go_quiet (fail)
                  go_wp2_with fail
                  go_roundg (na - (q + 1))
                  case measure => omega
                  case rel => exact ⟨q + 1, false, by omega, by omega, by go_num, rfl, HQ2, below_drN HBX.out _⟩
            · have hqn : q = na := by omega
              have hfull : A.take q = A := List.take_of_length_le (by rw [HNA.out, hqn]; exact Nat.le_refl _)
              rw [hfull] at HQ
              have HBBx := Lib.hid (HBB.out.trans (HBX.out.mono HBB.out.size))
              have hsx := HBX.out.size
              have ryx := (HBX.out.cell (p := ⟨gb, ob + r, none⟩) hgbw).trans ry
              have hgbx : gb < wx.heap.size := by omega
              have HWx := Lib.hid (ownsRow_below HW.out HBX.out)
              cases bq with
              | true =>
                have hin : y ∈ A := of_decide_eq_true HQ.out.symm
                have HJ2 : Hid ((newL A (B.take (r + 1))).length = j) := by show _ = _; rw [HNN.out, if_pos hin]; exact HJ.out
                have HW2 : Hid (newL A (B.take (r + 1)) = newL A (B.take r)) := by show _ = _; rw [HNN.out, if_pos hin]
                clear hfull hqn hin HQ HW HBB HBX
                go_wp2_with fail
                go_roundg (mb - (r + 1))
                case measure => omega
                case rel => exact ⟨r + 1, j, by omega, by omega, by go_num, by omega, HJ2, by rw [HW2.out]; exact HWx, HBBx⟩
              | false =>
                have hin : ¬ y ∈ A := of_decide_eq_false HQ.out.symm
                have HJ2 : Hid ((newL A (B.take (r + 1))).length = j + 1) := by show _ = _; rw [HNN.out, if_neg hin, List.length_append, HJ.out]; rfl
                have HW2 : Hid ((A ++ newL A (B.take (r + 1))).map strV = (A ++ newL A (B.take r)).map strV ++ [.string yz]) := by show _ = _; rw [HNN.out, if_neg hin, ← HYZ.out]; simp [strV]
                obtain ⟨va, vc, rfl⟩ := own_shape HWx.out
                have HLO := Lib.hid (ownsRow_lo HWx.out)
                have hs9x := HBBx.out.size
                clear hfull hqn hin HQ HW HBB HBX
                go_wp2_with (first
                  | (at_builtin; refine wpList_append_lies _ rfl _ _ 53 rfl w9.heap.size 9 i0 (.string ⟨#[]⟩) 1 16 Try.underlying53 hi0 hy0 hy1 hy2 rfl (by decide) _ (na + j) ((A ++ newL A (B.take r)).map strV) rfl (HWx.out.alloc _) ⟨wx.heap.size, 0, none⟩ 1 1 [.string yz] rfl rfl (news_at (cs := [.string yz]) rfl) (by simp [Value.oneCell']) (by decide) ?c3 ?c4 ?c5 _ rfl ?_))
                case c3 => unfold maxLen; omega
                case c4 => omega
                case c5 => simp; omega
                intro g9 cap9 w13 hown9 hgrow hat hlt9
                have HB13 : Hid (Below w9.heap.size w9 w13) := (HBBx.out.alloc (by omega) _).grown hgrow (by simp; omega) fun q hq => (HLO.out q hq).1
                have HW13 : Hid (w13.ownsRow w9.heap.size 9 1 (.slice (some ⟨g9, 0, none⟩) (na + j + 1) cap9) (na + (j + 1)) ((A ++ newL A (B.take (r + 1))).map strV)) := by
                  show World.ownsRow _ _ _ _ _ _ _
                  rw [HW2.out]
                  have h9 := hown9
                  simp only [List.append_assoc, List.map_append] at h9 ⊢
                  exact h9
                clear hown9 hgrow hat hlt9 HWx HBBx
                go_wp2_with fail
                go_roundg (mb - (r + 1))
                case measure => omega
                case rel => exact ⟨r + 1, j + 1, by omega, by omega, by go_num, by omega, HJ2, HW13, HB13⟩
        · have hrn : r = mb := by omega
          have hfull : B.take r = B := List.take_of_length_le (by rw [HMB.out, hrn]; exact Nat.le_refl _)
          rw [hfull] at HJ HW
          obtain ⟨WL, hWL⟩ : ∃ WL, A ++ newL A B = WL := ⟨_, rfl⟩
          obtain ⟨nw, hnw⟩ : ∃ nw, WL.length = nw := ⟨_, rfl⟩
          have hnj : na + j = nw := by rw [← hnw, ← hWL, List.length_append, HJ.out, HNA.out]
          rw [hWL, hnj] at HW
          rw [show (B.filter fun s => decide (s ∉ A)) = newL A B from rfl, hWL, hnw] at HF3 HF4
          obtain ⟨va, vc, hva⟩ := own_shape HW.out
          have hwi := InC.of_owns HW.out (strsC_ins (New w9) _ WL) (fun b hb => (ownsRow_lo HW.out b hb).1) (by rw [← hnw]; exact strsC_len WL)
          rw [hva] at hwi
          have HCW := Lib.hid (HC9.out.trans (HBB.out.mono HC9.out.size))
          have x7 := HX7.out.below HCW.out
          have x8 := HX8.out.below HCW.out
          obtain ⟨_, _, _, _, _, _⟩ := six_cells x7
          obtain ⟨_, _, _, _, _, _⟩ := six_cells x8
          have l7 := x7.lt
          have l8 := x8.lt
          have tx := HT8.out.under HCW.out
          have ty := HT8'.out.under HCW.out
          have HL1 : Hid (IsV (fun _ => True) (wr.alloc (.cells #[.int .i64 k, .int .i64 p, .string sz, .int .i64 n, .slice b1 m1 d1, .slice b2 m2 d2, .int .i64 k', .int .i64 p', .string sz', .int .i64 n', .slice b1' m1' d1', .slice b2' m2' d2'] 43)) (exC (.mk 5 0 [] 0 [X, X'] [])) (.agg #[.int .i64 5, .int .i64 0, .string ⟨#[]⟩, .int .i64 0, .slice (some ⟨wr.heap.size, 0, none⟩) 2 2, .slice none 0 0])) := let_new (us := [.int .i64 k, .int .i64 p, .string sz, .int .i64 n, .slice b1 m1 d1, .slice b2 m2 d2]) (vs := [.int .i64 k', .int .i64 p', .string sz', .int .i64 n', .slice b1' m1' d1', .slice b2' m2' d2']) (k := 5) (p := 0) (n := 0) (s := []) tx ty trivial
          have HX7' := Lib.hid x7
          have HX8' := Lib.hid x8
          have HTX := Lib.hid tx
          have HTY := Lib.hid ty
          have HSA : Hid (∀ (w' : World) (u : Option Addr) (c0 : Nat), Below wr.heap.size wr w' → InC (fun _ => True) w' (.s nw 1 (strsC WL)) (.slice u nw c0) → Calls Try.prog 33 #[.slice u nw c0, .slice va nw vc] w' fun e w'' => e = .returned (.bool true) ∧ Below w'.heap.size w' w'') := fun w' u c0 hw hc => same_texts WL _ _ _ _ _ _ _ _ w' (by rw [hnw]; exact hc) (by rw [hnw]; exact hwi.under hw)
          have HBW := Lib.hid (HB8.out.trans (HCW.out.mono HB8.out.size))
          subst hva
          have hge : ¬ ((r : Int) < (mb : Int)) := by omega
          clear hfull HJ HW hwi hlt hrn hnj hWL hnw HBB x7 x8 tx ty HX7 HX8 HT8 HT8' HNI HA9 HA10
          go_wp2_with (first
            | (go_at_call 34; (with_reducible refine (HF3.out _ _ _ HL1.out).mono ?_); go_loud (rintro e w14 ⟨a14, c14, rfl, h14, n14, hb⟩; have hba : Below wr.heap.size wr w14 := ((Below.refl _ wr).alloc (Nat.le_refl _) (.cells #[.int .i64 k, .int .i64 p, .string sz, .int .i64 n, .slice b1 m1 d1, .slice b2 m2 d2, .int .i64 k', .int .i64 p', .string sz', .int .i64 n', .slice b1' m1' d1', .slice b2' m2' d2'] 43)).trans (hb.mono (by simp)); have y7 := HX7'.out.below hba; have y8 := HX8'.out.below hba; have HB14 := Lib.hid hba; have HR14 := Lib.hid (h14.mono (S' := fun _ => True) fun _ _ _ => trivial); have HY7 := Lib.hid y7; have HY8 := Lib.hid y8; clear h14 n14 hb hba y7 y8))
            | (go_at_call 33; (with_reducible refine (HSA.out _ _ _ HB14.out HR14.out).mono ?_); go_loud (rintro e w15 ⟨rfl, hb⟩; have y7 := HY7.out.below hb; have y8 := HY8.out.below hb; obtain ⟨_, _, _, _, _, _⟩ := six_cells y7; obtain ⟨_, _, _, _, _, _⟩ := six_cells y8; have l7 := y7.lt; have l8 := y8.lt; have HB15 := Lib.hid (HB14.out.trans (hb.mono HB14.out.size)); have HL2 : Hid (IsV (fun _ => True) (w15.alloc (.cells #[.int .i64 k, .int .i64 p, .string sz, .int .i64 n, .slice b1 m1 d1, .slice b2 m2 d2, .int .i64 k', .int .i64 p', .string sz', .int .i64 n', .slice b1' m1' d1', .slice b2' m2' d2', .int .i64 k, .int .i64 p, .string sz, .int .i64 n, .slice b1 m1 d1, .slice b2 m2 d2] 43)) (exC (.mk 8 0 [] 0 [X, X', X] [])) (.agg #[.int .i64 8, .int .i64 0, .string ⟨#[]⟩, .int .i64 0, .slice (some ⟨w15.heap.size, 0, none⟩) 3 3, .slice none 0 0])) := tri_new (us := [.int .i64 k, .int .i64 p, .string sz, .int .i64 n, .slice b1 m1 d1, .slice b2 m2 d2]) (vs := [.int .i64 k', .int .i64 p', .string sz', .int .i64 n', .slice b1' m1' d1', .slice b2' m2' d2']) (ws := [.int .i64 k, .int .i64 p, .string sz, .int .i64 n, .slice b1 m1 d1, .slice b2 m2 d2]) (k := 8) (p := 0) (n := 0) (s := []) (HTX.out.under HB15.out) (HTY.out.under HB15.out) (HTX.out.under HB15.out) trivial; clear hb y7 y8))
            | (go_at_call 34; (with_reducible refine (HF4.out _ _ _ HL2.out).mono ?_); go_loud (rintro e w16 ⟨a16, c16, rfl, h16, n16, hb⟩; have HB16 := Lib.hid ((HB15.out.alloc HB15.out.size (.cells #[.int .i64 k, .int .i64 p, .string sz, .int .i64 n, .slice b1 m1 d1, .slice b2 m2 d2, .int .i64 k', .int .i64 p', .string sz', .int .i64 n', .slice b1' m1' d1', .slice b2' m2' d2', .int .i64 k, .int .i64 p, .string sz, .int .i64 n, .slice b1 m1 d1, .slice b2 m2 d2] 43)).trans (hb.mono (by have := HB15.out.size; simp; omega))); have HR16 := Lib.hid (h16.mono (S' := fun _ => True) fun _ _ _ => trivial); clear h16 n16 hb))
            | (go_at_call 33; (with_reducible refine (HSA.out _ _ _ HB16.out HR16.out).mono ?_); go_loud (rintro e w17 ⟨rfl, hb⟩; have HB17 := Lib.hid (HB16.out.trans (hb.mono HB16.out.size)); clear hb))
            | (go_at_call 32; (with_reducible refine (H4.out _).mono ?_); go_loud (rintro e w18 ⟨rfl, hb⟩; have HB18 := Lib.hid (HB17.out.trans (hb.mono HB17.out.size)); clear hb)))
          go_ret
          exact ⟨rfl, HBW.out.trans (HB18.out.mono HBW.out.size)⟩
    · have hz : (e0 != 0) = true ∨ ((e0 != 0) = false ∧ (e1 != 0) = true) := by
        by_cases h1 : O.e = 0
        · have h2 : O'.e ≠ 0 := fun q => h0 ⟨h1, q⟩
          exact .inr ⟨by rw [← he0, h1]; rfl, by rw [← he1]; simp; omega⟩
        · exact .inl (by rw [← he0]; simp; omega)
      clear h h' hl hq hq' he0 he1 h0
      rcases hz with hz | ⟨hz, hz'⟩
      all_goals go_enter Try.func12, Try.ntmps12
      all_goals go_wp2_with (first
        | (go_at_call 15; (with_reducible refine (HE.out _ (Below.refl _ _)).mono ?_); rintro e w1 ⟨rfl, hb1⟩; have HB1 := Lib.hid hb1; clear hb1 HE)
        | (go_at_call 22; (with_reducible refine (HY.out _).mono ?_); rintro e w3 ⟨u1, u2, rfl, hv3, hb3⟩; obtain ⟨a1, a2, c1, c2, hab, _, _⟩ := hv3.pgp; simp only [Value.agg.injEq, Array.mk.injEq, List.cons.injEq, and_true] at hab; obtain ⟨rfl, rfl⟩ := hab; have HB3 := Lib.hid (HB1.out.trans (hb3.mono HB1.out.size)); clear hv3 hb3 HY)
        | (go_at_call 15; (with_reducible refine (HE'.out _ HB3.out).mono ?_); rintro e w5 ⟨rfl, hb5⟩; have HB5 := Lib.hid (HB3.out.trans (hb5.mono HB3.out.size)); clear hb5)
        | (go_at_call 22; (with_reducible refine (HY'.out _).mono ?_); rintro e w7 ⟨u1, u2, rfl, hv7, hb7⟩; obtain ⟨a1', a2', c1', c2', hab, _, _⟩ := hv7.pgp; simp only [Value.agg.injEq, Array.mk.injEq, List.cons.injEq, and_true] at hab; obtain ⟨rfl, rfl⟩ := hab; have HB7 := Lib.hid (HB5.out.trans (hb7.mono HB5.out.size)); clear hv7 hb7 HY')
        | (go_at_call 32; (with_reducible refine (H4.out _).mono ?_); rintro e w9 ⟨rfl, hb9⟩; have HB9 := Lib.hid hb9; clear hb9))
      all_goals go_ret
      all_goals exact ⟨rfl, ((HB7.out.alloc HB7.out.size _).alloc (by have := HB7.out.size; simp; omega) _).trans (HB9.out.mono (by have := HB7.out.size; simp; omega))⟩

end Go.Proofs.Ytgkeblpjmfdhkaa
