/- The law RefsBound: a name that is bound around all is not free; all others are as they were. -/
import Derived.Test.YtgkeblpjmfdhkaaFpaQ
import Derived.Test.YtgkeblpjmfdhkaaZMQ
import Derived.Test.YtgkeblpjmfdhkaaZJQ
import Derived.Test.YtgkeblpjmfdhkaaYtxtQ
namespace Go.Proofs.Ytgkeblpjmfdhkaa
open Go.RowKit Go.Maps
set_option linter.unusedVariables false
set_option linter.unusedSimpArgs false

theorem run_cat14 {P : Program} {a b c : By} (h : c = a ++ b) (hl : a.length + b.length ≤ 9000000000000000000) (W : World) : Sem.run P (Op.stringOp .add (strB a) (strB b)) W = .ok (.string (strB c)) W := by
  subst h
  rw [← strB_app]
  exact run_string_add_sum W (strB a) (strB b) (by rw [strB_size, strB_size]; omega)
theorem Try.strElem14 : Try.prog.underlying 53 = some (.slice (Try.prog.elem 53)) := by kernel_rfl
theorem Try.strSize14 : (Try.prog.info? (Try.prog.elem 53)).map (fun i => i.size) = some 1 := by kernel_rfl
/-- All but the first. -/
theorem InC.rest14 {S : Nat → Prop} {w : World} {x : By} {l : List By} {a : Option Addr} {n c : Nat} (h : InC S w (.s (x :: l).length 1 (strsC (x :: l))) (.slice a n c)) :
    ∃ a' c', (∀ W, Sem.run Try.prog (Instr.slice 53 (.slice a n c) (some (.int .i64 1)) none none) W = .ok (.slice a' l.length c') W) ∧ InC S w (.s l.length 1 (strsC l)) (.slice a' l.length c') := by
  have hm := h.max_len
  obtain ⟨hn, h0 | ⟨b, off, us, rfl, hS, hb, hi, hc⟩⟩ := h.at_
  · simp at h0
  · obtain ⟨a1, c1, e1, hcp, _⟩ := h.slice
    have hcap : n ≤ c := by cases e1; rw [hn]; exact hcp
    have hcm : c ≤ maxLen := by cases h; assumption
    rw [List.length_cons] at hn
    obtain ⟨a', ha, hr⟩ := run_skip_b Try.strElem14 Try.strSize14 (some ⟨b, off, none⟩) n c 1 (by omega) hcap
    have e2 : n - 1 = l.length := by omega
    rw [e2] at hr
    refine ⟨a', c - 1, hr, ?_⟩
    cases l with
    | nil => exact .e _ _ _
    | cons y r =>
      rw [ha b off rfl (by rw [List.length_cons] at hn; omega)]
      have hul := hi.1
      cases us with
      | nil => simp [strsC] at hul
      | cons u ur =>
        refine .s _ _ _ b (off + 1) (c - 1) ur hS hb (by simp [strsC]) (by simpa [strsC] using hul) (by simp) (by omega) (by omega) (fun i u' hu => ?_) (fun i c' u' h1 h2 => ?_)
        · have := hc (i + 1) u' (by simpa using hu)
          rwa [show off + 1 + i = off + (i + 1) by omega]
        · exact hi.2 (i + 1) c' u' (by simpa [strsC] using h1) (by simpa using h2)
def nm14 : List By := [[120], [121], [102], [103], [105, 100], [122]]
theorem nm14_cell (w1 : World) (j : Nat) (hj : j < 6) : (w1.alloc (.cells #[.string ⟨#[120]⟩, .string ⟨#[121]⟩, .string ⟨#[102]⟩, .string ⟨#[103]⟩, .string ⟨#[105, 100]⟩, .string ⟨#[122]⟩] 9)).cell? ⟨w1.heap.size, j, none⟩ = some (.string (strB (nm14.getD j []))) := by
  have hb := (Box.new w1 9 [.string ⟨#[120]⟩, .string ⟨#[121]⟩, .string ⟨#[102]⟩, .string ⟨#[103]⟩, .string ⟨#[105, 100]⟩, .string ⟨#[122]⟩]).cell j
  have h5 : j = 0 ∨ j = 1 ∨ j = 2 ∨ j = 3 ∨ j = 4 ∨ j = 5 := by omega
  rcases h5 with rfl | rfl | rfl | rfl | rfl | rfl <;> exact hb
theorem nm14_len (j : Nat) : (nm14.getD j []).length ≤ 1000000 := by
  have : ∀ j < 6, (nm14.getD j []).length ≤ 1000000 := by decide
  by_cases h : j < 6
  · exact this j h
  · have h2 : nm14[j]? = none := List.getElem?_eq_none (show nm14.length ≤ j by show 6 ≤ j; omega)
    show (nm14[j]?.getD []).length ≤ _
    rw [h2]; simp
/-- An expression in new memory: its kids are in a row that was made. -/
theorem lam_new {S : Nat → Prop} {w : World} {x : Ex} {us : List Value} {k p n : Int} {s : By} (h : IsV S w (exC x) (.agg us.toArray)) (hS : S w.heap.size) : IsV S (w.alloc (.cells us.toArray 43)) (exC (.mk k p s n [x] [])) (.agg #[.int .i64 k, .int .i64 p, .string (strB s), .int .i64 n, .slice (some ⟨w.heap.size, 0, none⟩) 1 1, .slice none 0 0]) := by
  have h1 : InS S w (exsC [x]) us := by have := h.cells; simpa [exsC, Value.cells] using this
  exact IsV.of_ex (kids := [x]) (alts := []) (InC.of_new (n := 1) (k := 6) h1 hS (by simp [exsC, exC_len]) (by decide)) (.e _ _ _)
theorem let_new {S : Nat → Prop} {w : World} {x y : Ex} {us vs : List Value} {k p n : Int} {s : By} (h : IsV S w (exC x) (.agg us.toArray)) (h' : IsV S w (exC y) (.agg vs.toArray)) (hS : S w.heap.size) : IsV S (w.alloc (.cells (us ++ vs).toArray 43)) (exC (.mk k p s n [x, y] [])) (.agg #[.int .i64 k, .int .i64 p, .string (strB s), .int .i64 n, .slice (some ⟨w.heap.size, 0, none⟩) 2 2, .slice none 0 0]) := by
  have h1 : InS S w (exsC [x]) us := by have := h.cells; simpa [exsC, Value.cells] using this
  have h2 : InS S w (exsC [y]) vs := by have := h'.cells; simpa [exsC, Value.cells] using this
  exact IsV.of_ex (kids := [x, y]) (alts := []) (InC.of_new (n := 2) (k := 6) (by have := h1.app h2; simpa [exsC] using this) hS (by simp [exsC, exC_len]) (by decide)) (.e _ _ _)
theorem var_new (S : Nat → Prop) (w : World) (k p n : Int) (s : By) : IsV S w (exC (.mk k p s n [] [])) (.agg #[.int .i64 k, .int .i64 p, .string (strB s), .int .i64 n, .slice none 0 0, .slice none 0 0]) := IsV.of_ex (kids := []) (alts := []) (.e _ _ _) (.e _ _ _)

def wantL (nm : By) (l : List By) : List By := l.filter fun s => decide (s ≠ nm)
theorem want_next {nm : By} {l : List By} {k : Nat} {s : By} (h : l[k]? = some s) : wantL nm (l.take (k + 1)) = if s = nm then wantL nm (l.take k) else wantL nm (l.take k) ++ [s] := by
  unfold wantL
  rw [take_snoc' h, List.filter_append]
  by_cases e : s = nm
  · rw [if_pos e, List.filter_cons_of_neg (by simpa using e)]; simp
  · rw [if_neg e, List.filter_cons_of_pos (by simpa using e)]; simp
theorem want_same {nm : By} {l : List By} (h : nm ∉ l) : wantL nm l = l := List.filter_eq_self.2 fun s hs => decide_eq_true fun e => h (e ▸ hs)

set_option maxRecDepth 100000 in
set_option maxHeartbeats 8000000 in
theorem bound14_law (a : Option Addr) (l c : Nat) (xs : List Nat) (t : Nat) (w : World) (h : RB w a l c xs) (ht : t < 256) :
    Calls Try.prog 11 #[.slice a l c, .int .u8 (t : Int)] w fun e w' => e = .returned (.bool true) ∧ Below w.heap.size w w' := by
  have hcap := h.cap
  have hsm := h.small
  have hx := h.le
  have H4 := Lib.hid (fun (w' : World) => r_awake w')
  by_cases hl : 40 < l
  · clear h hx
    go_enter Try.func11, Try.ntmps11
    go_wp2_with (go_at_call 32; (with_reducible refine (H4.out _).mono ?_); rintro e w7 ⟨rfl, hb7⟩; have HB7 := Lib.hid hb7; clear hb7)
    go_ret
    exact ⟨rfl, HB7.out⟩
  · have hl2 : l ≤ 40 := by omega
    have HE := Lib.hid (fun (w' : World) (hw : Below w.heap.size w w') => t_Expr a l c xs w' (h.under hw))
    obtain ⟨EX, hEX⟩ : ∃ EX, strB (exprT 8 xs) = EX := ⟨_, rfl⟩
    rw [hEX] at HE
    have hel := (txt_len 8 xs hx).1
    obtain ⟨M, hM⟩ : ∃ M, strB ([108, 101, 116, 32, 113, 32, 61, 32] ++ exprT 8 xs) = M := ⟨_, rfl⟩
    obtain ⟨L2, hL2⟩ : ∃ L2, strB (lqT xs) = L2 := ⟨_, rfl⟩
    have T1 : ∀ W, Sem.run Try.prog (Op.stringOp .add ⟨#[108, 101, 116, 32, 113, 32, 61, 32]⟩ EX) W = .ok (.string M) W := fun W => by
      rw [← hEX, ← hM]
      exact run_cat14 (a := [108, 101, 116, 32, 113, 32, 61, 32]) rfl (by simp only [List.length_cons, List.length_nil]; omega) W
    have T2 : ∀ W, Sem.run Try.prog (Op.stringOp .add M ⟨#[59]⟩) W = .ok (.string L2) W := fun W => by
      rw [← hM, ← hL2]
      exact run_cat14 (b := [59]) rfl (by rw [List.length_append]; simp only [List.length_cons, List.length_nil]; omega) W
    obtain ⟨O, hO⟩ : ∃ O, parseA (lqT xs) = O := ⟨_, rfl⟩
    have HY := Lib.hid (fun w => y_ParseA (lqT xs) w hO)
    rw [hL2] at HY
    have hpf := parseA_fit (lqT xs)
    have hp0 := parseA_first xs hx
    rw [hO] at hpf hp0
    obtain ⟨e0, he0⟩ : ∃ e0 : Int, (O.e : Int) = e0 := ⟨_, rfl⟩
    rw [he0] at HY
    by_cases h0 : O.e = 0
    · have hz0 : (e0 != 0) = false := by rw [← he0, h0]; rfl
      obtain ⟨x, hx0⟩ : ∃ x, O.p.binds[0]? = some x := ⟨_, List.getElem?_eq_getElem (hp0 h0)⟩
      have hxm := List.mem_of_getElem? hx0
      have hxf := (hpf.binds x hxm).2
      have hxn : x.body.nn ≤ 262144 := by have := hpf.nn; have := sum_mem hxm; omega
      obtain ⟨X, hX⟩ : ∃ X, x.body = X := ⟨_, rfl⟩
      obtain ⟨nb, hnb⟩ : ∃ nb, O.p.binds.length = nb := ⟨_, rfl⟩
      have hnb0 : 0 < nb := by rw [← hnb]; exact hp0 h0
      have hnbm : nb ≤ 65536 := by rw [← hnb]; exact hpf.nb
      rw [hX] at hxf hxn
      obtain ⟨r, hr⟩ : ∃ r, t % 6 = r := ⟨_, rfl⟩
      have hr6 : r < 6 := by omega
      have er : (t : Int).tmod 6 = (r : Int) := by rw [Int.tmod_eq_emod_of_nonneg (by omega)]; omega
      have er2 : (t : Int) % 6 = (r : Int) := by omega
      obtain ⟨nm, hnm⟩ : ∃ nm, nm14.getD r [] = nm := ⟨_, rfl⟩
      have hnml : nm.length ≤ 1000000 := by rw [← hnm]; exact nm14_len r
      obtain ⟨A, hA⟩ : ∃ A, freeL X = A := ⟨_, rfl⟩
      have hAl : A.length ≤ 300000 := by
        rw [← hA]; refine Nat.le_trans (addAll_len _ _) ?_
        have := Ex.occ_len X []; simp; omega
      obtain ⟨Z, hZ⟩ : ∃ Z, strB nm = Z := ⟨_, rfl⟩
      have HF1 := Lib.hid (fun (S : Nat → Prop) (w : World) (u : Value) (hu : IsV S w (exC X) u) => f_Free X w u hxf hu (by omega))
      have HF2 := Lib.hid (fun (S : Nat → Prop) (w : World) (u : Value) (hu : IsV S w (exC (.mk 6 0 nm 0 [X] [])) u) => f_Free (.mk 6 0 nm 0 [X] []) w u (by simp only [Ex.fit, Ex.fits, Al.fits]; exact ⟨hnml, fun _ => rfl, ⟨hxf, trivial⟩, trivial⟩) hu (by simp only [Ex.nn, Ex.nns, Al.nns]; omega))
      have HF3 := Lib.hid (fun (S : Nat → Prop) (w : World) (u : Value) (hu : IsV S w (exC (.mk 7 0 nm 0 [.mk 1 0 nm 0 [] [], X] [])) u) => f_Free (.mk 7 0 nm 0 [.mk 1 0 nm 0 [] [], X] []) w u (by simp only [Ex.fit, Ex.fits, Al.fits]; exact ⟨hnml, fun q => by simp at q, ⟨⟨hnml, fun q => by simp at q, trivial, trivial⟩, hxf, trivial⟩, trivial⟩) hu (by simp only [Ex.nn, Ex.nns, Al.nns]; omega))
      rw [hA] at HF1
      rw [free_lam, hA] at HF2
      rw [free_let, hA] at HF3
      have HX0 := Lib.hid hx0
      have HX := Lib.hid hX
      have HNB := Lib.hid hnb
      have HZ := Lib.hid hZ
      have HNM := Lib.hid hnm
      have HC := Lib.hid nm14_cell
      clear h hx hEX hM hL2 hel hl hO hpf hp0 he0 h0 hx0 hxm hxf hxn hX hnb hA hZ hnm hr hnml hcap hsm
      go_enter Try.func11, Try.ntmps11
      go_upto_region 7 with (first
        | (go_at_call 15; (with_reducible refine (HE.out _ (Below.refl _ _)).mono ?_); rintro e w1 ⟨rfl, hb1⟩; have HB1 := Lib.hid hb1; clear hb1)
        | (go_at_call 22; (with_reducible refine (HY.out _).mono ?_); go_loud (rintro e w3 ⟨a, b, rfl, hv3, hb3⟩; obtain ⟨a1, a2, c1, c2, hab, hd3, hi3⟩ := hv3.pgp; simp only [Value.agg.injEq, Array.mk.injEq, List.cons.injEq, and_true] at hab; obtain ⟨rfl, rfl⟩ := hab; have hi4 := hi3.alloc (.cells #[.slice a1 O.p.datas.length c1, .slice a2 O.p.binds.length c2, .int .i64 e0, .int .i64 O.at_] 49); obtain ⟨g, off, k, p, n, s, b1, b2, m1, m2, d1, d2, rfl, hg, hbv, q2, q3, q4, q5, q6, q7⟩ := hi4.body HX0.out; simp only [Nat.zero_mul, Nat.add_zero] at q2 q3 q4 q5 q6 q7; rw [HX.out] at hbv; rw [HNB.out] at hg q2 q3 q4 q5 q6 q7 hbv ⊢; obtain ⟨sz, hsz⟩ : ∃ sz, strB s = sz := ⟨_, rfl⟩; rw [hsz] at hbv q4; have HV := Lib.hid hbv; have HB3 := Lib.hid (HB1.out.trans (hb3.mono HB1.out.size)); clear hv3 hd3 hi3 hi4 hbv hb3 hsz HY)))
      have hbe := Box.new (w3.alloc (.cells #[.slice a1 O.p.datas.length c1, .slice (some ⟨g, off, none⟩) nb c2, .int .i64 e0, .int .i64 O.at_] 49)) 43 [.int .i64 k, .int .i64 p, .string sz, .int .i64 n, .slice b1 m1 d1, .slice b2 m2 d2]
      have hv4 := HV.out.under ((Below.refl _ (w3.alloc (.cells #[.slice a1 O.p.datas.length c1, .slice (some ⟨g, off, none⟩) nb c2, .int .i64 e0, .int .i64 O.at_] 49))).alloc (Nat.le_refl _) (.cells #[.int .i64 k, .int .i64 p, .string sz, .int .i64 n, .slice b1 m1 d1, .slice b2 m2 d2] 43))
      have hb4 : Below w.heap.size w ((w3.alloc (.cells #[.slice a1 O.p.datas.length c1, .slice (some ⟨g, off, none⟩) nb c2, .int .i64 e0, .int .i64 O.at_] 49)).alloc (.cells #[.int .i64 k, .int .i64 p, .string sz, .int .i64 n, .slice b1 m1 d1, .slice b2 m2 d2] 43)) := (HB3.out.alloc HB3.out.size _).alloc (by have := HB3.out.size; simp; omega) _
      rw [World.size_alloc] at hbe
      obtain ⟨W4, hW4⟩ : ∃ W4, ((w3.alloc (.cells #[.slice a1 O.p.datas.length c1, .slice (some ⟨g, off, none⟩) nb c2, .int .i64 e0, .int .i64 O.at_] 49)).alloc (.cells #[.int .i64 k, .int .i64 p, .string sz, .int .i64 n, .slice b1 m1 d1, .slice b2 m2 d2] 43)) = W4 := ⟨_, rfl⟩
      rw [show (w3.alloc (.cells #[.slice a1 O.p.datas.length c1, .slice (some ⟨g, off, none⟩) nb c2, .int .i64 e0, .int .i64 O.at_] 49)).alloc (.cells ([.int .i64 k, .int .i64 p, .string sz, .int .i64 n, .slice b1 m1 d1, .slice b2 m2 d2] : List Value).toArray 43) = W4 from hW4] at hbe
      rw [hW4] at hv4 hb4
      try rw [hW4]
      have hT := hv4.mono (S' := fun _ => True) fun _ _ _ => trivial
      have rc := HC.out W4 r hr6
      rw [HNM.out, HZ.out] at rc
      have hrr : (r : Int) < 6 := by omega
      have T7 : ∀ W, Sem.run Try.prog (Instr.indexAt 53 (.slice (some ⟨W4.heap.size, 0, none⟩) 6 6) (.int .u8 (r : Int))) W = .ok (.pointer (some ⟨W4.heap.size, r, none⟩)) W := fun W => by go_simp
      go_upto_region 8 with fail
      have hbe5 := hbe.alloc (.cells #[.string ⟨#[120]⟩, .string ⟨#[121]⟩, .string ⟨#[102]⟩, .string ⟨#[103]⟩, .string ⟨#[105, 100]⟩, .string ⟨#[122]⟩] 9)
      have hT5 := hT.under ((Below.refl _ W4).alloc (Nat.le_refl _) (.cells #[.string ⟨#[120]⟩, .string ⟨#[121]⟩, .string ⟨#[102]⟩, .string ⟨#[103]⟩, .string ⟨#[105, 100]⟩, .string ⟨#[122]⟩] 9))
      have hb5 : Below w.heap.size w (W4.alloc (.cells #[.string ⟨#[120]⟩, .string ⟨#[121]⟩, .string ⟨#[102]⟩, .string ⟨#[103]⟩, .string ⟨#[105, 100]⟩, .string ⟨#[122]⟩] 9)) := hb4.alloc hb4.size _
      obtain ⟨W5, hW5⟩ : ∃ W5, W4.alloc (.cells #[.string ⟨#[120]⟩, .string ⟨#[121]⟩, .string ⟨#[102]⟩, .string ⟨#[103]⟩, .string ⟨#[105, 100]⟩, .string ⟨#[122]⟩] 9) = W5 := ⟨_, rfl⟩
      rw [hW5] at hbe5 hT5 hb5
      try rw [hW5]
      have HT5 := Lib.hid hT5
      have HBE5 := Lib.hid hbe5
      have HB5 := Lib.hid hb5
      obtain ⟨_, _, _, _, _, _⟩ := six_cells hbe5
      have hle5 := hbe5.lt
      obtain ⟨WL, hWL⟩ : ∃ WL, wantL nm A = WL := ⟨_, rfl⟩
      rw [show (A.filter fun s => decide (s ≠ nm)) = WL from hWL] at HF2 HF3
      have hWLl : WL.length ≤ 300000 := by rw [← hWL]; exact Nat.le_trans (List.length_filter_le _ _) hAl
      obtain ⟨na, hna⟩ : ∃ na, A.length = na := ⟨_, rfl⟩
      obtain ⟨nw, hnw⟩ : ∃ nw, WL.length = nw := ⟨_, rfl⟩
      have HWL := Lib.hid hWL
      have HNA := Lib.hid hna
      have HNW := Lib.hid hnw
      rw [hnw] at hWLl HF2
      rw [List.length_cons, hnw] at HF3
      rw [hna] at hAl HF1
      clear hbe hv4 hb4 hW4 hT hbe5 hT5 hb5 hW5 rc T7 q2 q3 q4 q5 q6 q7 hg hWL hna hnw
      go_upto_region 11 with (first
        | (go_at_call 34; (with_reducible refine (HF1.out _ _ _ HT5.out).mono ?_); go_loud (rintro e w6 ⟨a6, c6, rfl, h6, hn6, hb6⟩; have bx6 := HBE5.out.below hb6; obtain ⟨_, _, _, _, _, _⟩ := six_cells bx6; have bl6 := bx6.lt; have HBE6 := Lib.hid bx6; have HT6 := Lib.hid (HT5.out.under hb6); have HB6 := Lib.hid (HB5.out.trans (hb6.mono HB5.out.size)); have HI6 := Lib.hid h6; have HL6 : Hid (IsV (fun _ => True) (w6.alloc (.cells #[.int .i64 k, .int .i64 p, .string sz, .int .i64 n, .slice b1 m1 d1, .slice b2 m2 d2] 43)) (exC (.mk 6 0 nm 0 [X] [])) (.agg #[.int .i64 6, .int .i64 0, .string Z, .int .i64 0, .slice (some ⟨w6.heap.size, 0, none⟩) 1 1, .slice none 0 0])) := (by have := lam_new (us := [.int .i64 k, .int .i64 p, .string sz, .int .i64 n, .slice b1 m1 d1, .slice b2 m2 d2]) (k := 6) (p := 0) (n := 0) (s := nm) HT6.out trivial; rw [HZ.out] at this; exact this); clear h6 hn6 hb6 bx6))
        | (go_at_call 34; (with_reducible refine (HF2.out _ _ _ HL6.out).mono ?_); go_loud (rintro e w7 ⟨a7, c7, rfl, h7, hn7, hb7⟩; have bx7 := (HBE6.out.alloc (.cells #[.int .i64 k, .int .i64 p, .string sz, .int .i64 n, .slice b1 m1 d1, .slice b2 m2 d2] 43)).below hb7; obtain ⟨_, _, _, _, _, _⟩ := six_cells bx7; have bl7 := bx7.lt; have HT7 := Lib.hid ((HT6.out.under ((Below.refl _ w6).alloc (Nat.le_refl _) _)).under hb7); have HB7 := Lib.hid ((HB6.out.alloc HB6.out.size _).trans (hb7.mono (by have := HB6.out.size; simp; omega))); have HI7 := Lib.hid h7; have HJ7 := Lib.hid ((HI6.out.alloc (.cells #[.int .i64 k, .int .i64 p, .string sz, .int .i64 n, .slice b1 m1 d1, .slice b2 m2 d2] 43)).under hb7); have HL7 : Hid (IsV (fun _ => True) (w7.alloc (.cells #[.int .i64 1, .int .i64 0, .string Z, .int .i64 0, .slice none 0 0, .slice none 0 0, .int .i64 k, .int .i64 p, .string sz, .int .i64 n, .slice b1 m1 d1, .slice b2 m2 d2] 43)) (exC (.mk 7 0 nm 0 [.mk 1 0 nm 0 [] [], X] [])) (.agg #[.int .i64 7, .int .i64 0, .string Z, .int .i64 0, .slice (some ⟨w7.heap.size, 0, none⟩) 2 2, .slice none 0 0])) := (by have := let_new (us := [.int .i64 1, .int .i64 0, .string (strB nm), .int .i64 0, .slice none 0 0, .slice none 0 0]) (vs := [.int .i64 k, .int .i64 p, .string sz, .int .i64 n, .slice b1 m1 d1, .slice b2 m2 d2]) (k := 7) (p := 0) (n := 0) (s := nm) (var_new _ _ 1 0 0 nm) HT7.out trivial; rw [HZ.out] at this; exact this); clear h7 hn7 hb7 bx7))
        | (go_at_call 34; (with_reducible refine (HF3.out _ _ _ HL7.out).mono ?_); go_loud (rintro e w8 ⟨a8, c8, rfl, h8, hn8, hb8⟩; have HB8 := Lib.hid ((HB7.out.alloc HB7.out.size _).trans (hb8.mono (by have := HB7.out.size; simp; omega))); have HI8 := Lib.hid ((HJ7.out.alloc (.cells #[.int .i64 1, .int .i64 0, .string Z, .int .i64 0, .slice none 0 0, .slice none 0 0, .int .i64 k, .int .i64 p, .string sz, .int .i64 n, .slice b1 m1 d1, .slice b2 m2 d2] 43)).under hb8); have HJ8 := Lib.hid ((HI7.out.alloc (.cells #[.int .i64 1, .int .i64 0, .string Z, .int .i64 0, .slice none 0 0, .slice none 0 0, .int .i64 k, .int .i64 p, .string sz, .int .i64 n, .slice b1 m1 d1, .slice b2 m2 d2] 43)).under hb8); have HK8 := Lib.hid h8; clear h8 hn8 hb8)))
      obtain ⟨i0, hi0, hz0', hz1, hz2⟩ := info_parts Try.zstrInfo
      have HCT := HK8
      obtain ⟨a9, c9, hr9, hi9⟩ := InC.rest14 (x := nm) (l := WL) (by rw [List.length_cons, HNW.out]; exact HK8.out)
      obtain ⟨g8, o8, rfl, hg8, r8⟩ := InC.text (l := nm :: WL) (i := 0) (x := nm) (by rw [List.length_cons, HNW.out]; exact HK8.out) rfl
      rw [Nat.add_zero, HZ.out] at r8
      rw [HNW.out] at hr9
      have HI9 := Lib.hid hi9
      have HR8 := Lib.hid r8
      clear hi9 r8 HF1 HF2 HF3 HL6 HL7 HT5 HT6 HT7 HI6 HI7 HJ7 HBE5 HBE6 HV HE
      go_wp2_with fail
      go_loopw [11, 12, 13] (fun vw vb iv wr => ∃ (k : Nat) (q : Bool) (j : Nat), k ≤ na ∧ iv = .int .i64 (k : Int) ∧ vb = .bool q ∧ Hid (q = decide (nm ∈ A.take k)) ∧ Hid ((wantL nm (A.take k)).length = j) ∧ j ≤ k ∧ Hid (wr.ownsRow w8.heap.size 9 1 vw j ((wantL nm (A.take k)).map strV)) ∧ Hid (Below w8.heap.size w8 wr)) (fun _ _ iv _ => na - (intOf iv).toNat)
      case atStart => exact ⟨0, false, 0, Nat.zero_le _, rfl, rfl, rfl, rfl, Nat.le_refl _, World.ownsRow_nil _ _ _ _, Below.refl _ _⟩
      case round =>
        obtain ⟨k', q, j, hk, rfl, rfl, HQ, HJ, hj, HW, HBB⟩ := hrel
        by_cases hlt : k' < na
        · obtain ⟨y, hy⟩ : ∃ y, A[k']? = some y := ⟨_, List.getElem?_eq_getElem (by rw [HNA.out]; exact hlt)⟩
          have HI8w := HI8.out.under HBB.out
          rw [← HNA.out] at HI8w
          obtain ⟨gy, oy, rfl, hgy, ry⟩ := HI8w.text hy
          have hwn := want_next (nm := nm) hy
          have hin : (nm ∈ A.take (k' + 1)) ↔ (nm ∈ A.take k' ∨ y = nm) := by rw [take_snoc' hy]; simp [eq_comm]
          by_cases e : y = nm
          · rw [if_pos e] at hwn
            rw [e, HZ.out] at ry
            have HW2 := HW
            rw [← hwn] at HW2
            have HJ2 : Hid ((wantL nm (A.take (k' + 1))).length = j) := by show _ = _; rw [hwn]; exact HJ.out
            have HQ2 : Hid (true = decide (nm ∈ A.take (k' + 1))) := (decide_eq_true (hin.2 (.inr e))).symm
            clear hy HI8w hwn hin e HQ HJ HW
            go_wp2_with fail
            go_roundw
            case rel => exact ⟨k' + 1, true, j, by omega, by go_num, rfl, HQ2, HJ2, by omega, HW2, HBB⟩
            case measure => simp [intOf]; omega
          · rw [if_neg e] at hwn
            have hne := strB_ne e
            rw [HZ.out] at hne
            have HQ2 : Hid (q = decide (nm ∈ A.take (k' + 1))) := by show _ = _; rw [HQ.out]; exact decide_eq_decide.2 (by rw [hin]; exact ⟨.inl, fun h => h.resolve_right e⟩)
            have HJ2 : Hid ((wantL nm (A.take (k' + 1))).length = j + 1) := by show _ = _; rw [hwn, List.length_append, HJ.out]; rfl
            obtain ⟨yz, hyz⟩ : ∃ yz, strB y = yz := ⟨_, rfl⟩
            rw [hyz] at ry hne
            have HWN : Hid ((wantL nm (A.take (k' + 1))).map strV = (wantL nm (A.take k')).map strV ++ [.string yz]) := by show _ = _; rw [hwn, List.map_append, ← hyz]; rfl
            obtain ⟨va, vc, rfl⟩ := own_shape HW.out
            have HLO := Lib.hid (ownsRow_lo HW.out)
            have hs8 := HBB.out.size
            clear hy HI8w hwn hin e HQ HJ hyz
            go_wp2_with (first
              | (at_builtin; refine wpList_append_lies _ rfl _ _ 53 rfl w8.heap.size 9 i0 (.string ⟨#[]⟩) 1 16 Try.underlying53 hi0 hz0' hz1 hz2 rfl (by decide) _ j ((wantL nm (A.take k')).map strV) rfl (HW.out.alloc _) ⟨wr.heap.size, 0, none⟩ 1 1 [.string yz] rfl rfl (news_at (cs := [.string yz]) rfl) (by simp [Value.oneCell']) (by decide) ?c3 ?c4 ?c5 _ rfl ?_))
            case c3 => unfold maxLen; omega
            case c4 => omega
            case c5 => simp; omega
            intro g9 cap9 w9 hown9 hgrow hat hlt9
            have HB9 : Hid (Below w8.heap.size w8 w9) := (HBB.out.alloc (by omega) _).grown hgrow (by simp; omega) fun q hq => (HLO.out q hq).1
            have HW9 : Hid (w9.ownsRow w8.heap.size 9 1 (.slice (some ⟨g9, 0, none⟩) (j + 1) cap9) (j + 1) ((wantL nm (A.take (k' + 1))).map strV)) := by rw [HWN.out]; exact hown9
            clear hown9 hgrow hat hlt9 HW HBB
            go_wp2_with fail
            go_roundw
            case rel => exact ⟨k' + 1, q, j + 1, by omega, by go_num, rfl, HQ2, HJ2, by omega, HW9, HB9⟩
            case measure => simp [intOf]; omega
        · have hkn : k' = na := by omega
          have hfull : A.take k' = A := List.take_of_length_le (by rw [HNA.out, hkn]; exact Nat.le_refl _)
          rw [hfull] at HQ HJ HW
          rw [HWL.out] at HJ HW
          have hjn : j = nw := by rw [← HJ.out]; exact HNW.out
          obtain ⟨va, vc, hva⟩ := own_shape HW.out
          have hwi := InC.of_owns HW.out (strsC_ins (New w8) _ WL) (fun b hb => (ownsRow_lo HW.out b hb).1) (by rw [hjn, ← HNW.out]; exact strsC_len WL)
          rw [hva, hjn] at hwi
          rw [hjn] at hva
          have HSA : Hid (∀ w', Below wr.heap.size wr w' → Calls Try.prog 33 #[.slice a7 nw c7, .slice va nw vc] w' fun e w'' => e = .returned (.bool true) ∧ Below w'.heap.size w' w'') := fun w' hw => same_texts WL _ _ _ _ _ _ _ _ w' (by rw [HNW.out]; exact (HJ8.out.under HBB.out).under hw) (by rw [HNW.out]; exact hwi.under hw)
          have HSB : Hid (∀ w', Below wr.heap.size wr w' → Calls Try.prog 33 #[.slice a9 nw c9, .slice va nw vc] w' fun e w'' => e = .returned (.bool true) ∧ Below w'.heap.size w' w'') := fun w' hw => same_texts WL _ _ _ _ _ _ _ _ w' (by have := (HI9.out.under HBB.out).under hw; rw [HNW.out] at this ⊢; exact this) (by rw [HNW.out]; exact hwi.under hw)
          have hcase : q = true ∨ (q = false ∧ na = nw) := by
            by_cases e : nm ∈ A
            · exact .inl (by rw [HQ.out]; exact decide_eq_true e)
            · exact .inr ⟨by rw [HQ.out]; exact decide_eq_false e, by rw [← HNA.out, ← HNW.out, ← HWL.out, want_same e]⟩
          have hr8 := HR8.out
          have hs8 := HBB.out.size
          have r8w := (HBB.out.cell (p := ⟨g8, o8, none⟩) hg8).trans hr8
          have HBW := Lib.hid (HB8.out.trans (HBB.out.mono HB8.out.size))
          have HZB := Lib.hid HBB.out
          subst hva
          clear hfull HQ HJ HW hwi hkn hr8 HBB hjn hj hk
          rcases hcase with rfl | ⟨rfl, hnn⟩
          · go_wp2_with (first
              | (go_at_call 33; (with_reducible refine (HSA.out _ (Below.refl _ _)).mono ?_); rintro e w10 ⟨rfl, hb10⟩; have r10 := (hb10.cell (p := ⟨g8, o8, none⟩) (by show g8 < _; omega)).trans r8w; have HX10 := Lib.hid hb10; clear hb10)
              | (go_at_call 33; (with_reducible refine (HSB.out _ HX10.out).mono ?_); rintro e w11 ⟨rfl, hb11⟩; have HX11 := Lib.hid (HX10.out.trans (hb11.mono HX10.out.size)); clear hb11)
              | (go_at_call 32; (with_reducible refine (H4.out _).mono ?_); go_loud (rintro e w12 ⟨rfl, hb12⟩; have HX12 := Lib.hid (HX11.out.trans (hb12.mono HX11.out.size)); clear hb12)))
            go_ret
            exact ⟨rfl, HBW.out.trans (HX12.out.mono HBW.out.size)⟩
          · have HNN := Lib.hid hnn
            subst hnn
            go_wp2_with (first
              | (go_at_call 33; (with_reducible refine (HSA.out _ (Below.refl _ _)).mono ?_); rintro e w10 ⟨rfl, hb10⟩; have r10 := (hb10.cell (p := ⟨g8, o8, none⟩) (by show g8 < _; omega)).trans r8w; have HX10 := Lib.hid hb10; clear hb10)
              | (go_at_call 33; (with_reducible refine (HSB.out _ HX10.out).mono ?_); rintro e w11 ⟨rfl, hb11⟩; have HX11 := Lib.hid (HX10.out.trans (hb11.mono HX10.out.size)); clear hb11)
              | (go_at_call 32; (with_reducible refine (H4.out _).mono ?_); go_loud (rintro e w12 ⟨rfl, hb12⟩; have HX12 := Lib.hid (HX11.out.trans (hb12.mono HX11.out.size)); clear hb12)))
            go_ret
            exact ⟨rfl, HBW.out.trans (HX12.out.mono HBW.out.size)⟩
    · have hz0 : (e0 != 0) = true := by rw [← he0]; simp; omega
      clear h hx hEX hM hL2 hel hl hO hpf hp0 he0 h0
      go_enter Try.func11, Try.ntmps11
      go_wp2_with (first
        | (go_at_call 15; (with_reducible refine (HE.out _ (Below.refl _ _)).mono ?_); rintro e w1 ⟨rfl, hb1⟩; have HB1 := Lib.hid hb1; clear hb1)
        | (go_at_call 22; (with_reducible refine (HY.out _).mono ?_); rintro e w3 ⟨a, b, rfl, hv3, hb3⟩; obtain ⟨a1, a2, c1, c2, hab, _, _⟩ := hv3.pgp; simp only [Value.agg.injEq, Array.mk.injEq, List.cons.injEq, and_true] at hab; obtain ⟨rfl, rfl⟩ := hab; have HB3 := Lib.hid (HB1.out.trans (hb3.mono HB1.out.size)); clear hv3 hb3 HY)
        | (go_at_call 32; (with_reducible refine (H4.out _).mono ?_); rintro e w7 ⟨rfl, hb7⟩; have HB7 := Lib.hid hb7; clear hb7))
      go_ret
      exact ⟨rfl, (HB3.out.alloc HB3.out.size _).trans (HB7.out.mono (by have := HB3.out.size; simp; omega))⟩

end Go.Proofs.Ytgkeblpjmfdhkaa
