/- What a text that begins with a Bind is as a program; the statement's example (awake). The law RefsMade. -/
import Derived.Test.YtgkeblpjmfdhkaaFAM
import Derived.Test.YtgkeblpjmfdhkaaYlongM
import Derived.Test.YtgkeblpjmfdhkaaZPM
import Derived.Test.YtgkeblpjmfdhkaaYSM
import Derived.Test.YtgkeblpjmfdhkaaZAM
import Derived.Test.YtgkeblpjmfdhkaaFRM
import Derived.Test.YtgkeblpjmfdhkaaZMM
import Derived.Deep.RegionHeld3
import Derived.BigRegion
namespace Go.Proofs.Ytgkeblpjmfdhkaa
open Go.RowKit Go.Maps
set_option linter.unusedVariables false
set_option linter.unusedSimpArgs false

theorem lex_tfA {s : By} {ts : List Tk} (hs : s.length ≤ 65536) (h : lexL s 0 = .ok ts) : TF ts := by
  have h1 := lexL_len h
  have h2 := lexL_fit (by omega) h
  exact ⟨by omega, fun t ht => (h2 t ht).2.2.1⟩
theorem PFit.monoA {N M : Nat} {p : Pg} (h : PFit N p) (hm : N ≤ M) : PFit M p := ⟨h.datas, h.args, h.binds, by have := h.nn; omega, by have := h.nb; omega, by have := h.nd; omega, by have := h.nc; omega⟩
theorem parseA_fit (s : By) : PFit 65536 (parseA s).p := by
  unfold parseA
  split
  · rename_i hs
    unfold parseL
    cases hx : lexL s 0 with
    | inl i => exact PFit.empty _
    | inr ts =>
      have ht := lex_tfA hs hx
      have hl := lexL_len hx
      have h := programF_fit s.length (ts.length + 1) ⟨ts, false, 0⟩ ht
      show PFit 65536 (parseTs s.length ts).p
      unfold parseTs
      dsimp only
      split
      · exact PFit.empty _
      · split
        · exact h.monoA (by show ts.length ≤ _; omega)
        · exact PFit.empty _
  · exact PFit.empty _
theorem sum_mem {l : List Bd} {b : Bd} (h : b ∈ l) : b.body.nn ≤ sumOf bdN l := by
  induction l with
  | nil => simp at h
  | cons x r ih =>
    have e : sumOf bdN (x :: r) = x.body.nn + sumOf bdN r := rfl
    rcases List.mem_cons.1 h with rfl | h
    · omega
    · have := ih h; omega

/-- The first Bind's Body, as its six cells. -/
theorem InC.body {S : Nat → Prop} {w : World} {l : List Bd} {a : Option Addr} {m c : Nat} (h : InC S w (.s l.length 8 (l.flatMap bdC)) (.slice a m c)) {i : Nat} {x : Bd} (hx : l[i]? = some x) :
    ∃ (g off : Nat) (k p n : Int) (s : By) (a1 a2 : Option Addr) (m1 m2 c1 c2 : Nat), a = some ⟨g, off, none⟩ ∧ g < w.heap.size ∧ IsV S w (exC x.body) (.agg #[.int .i64 k, .int .i64 p, .string (strB s), .int .i64 n, .slice a1 m1 c1, .slice a2 m2 c2]) ∧
      w.cell? ⟨g, off + i * 8 + 2, none⟩ = some (.int .i64 k) ∧ w.cell? ⟨g, off + i * 8 + 2 + 1, none⟩ = some (.int .i64 p) ∧ w.cell? ⟨g, off + i * 8 + 2 + 2, none⟩ = some (.string (strB s)) ∧ w.cell? ⟨g, off + i * 8 + 2 + 3, none⟩ = some (.int .i64 n) ∧ w.cell? ⟨g, off + i * 8 + 2 + 4, none⟩ = some (.slice a1 m1 c1) ∧ w.cell? ⟨g, off + i * 8 + 2 + 5, none⟩ = some (.slice a2 m2 c2) := by
  obtain ⟨g, off, us, rfl, hg, hxv, hc⟩ := h.elem bdC_len hx
  obtain ⟨k, p, n, s, a1, a2, m1, m2, c1, c2, hz9, hb⟩ := hxv.bd
  obtain rfl := agg_inj hz9
  refine ⟨g, off, k, p, n, s, a1, a2, m1, m2, c1, c2, rfl, hg, hb, ?_, ?_, ?_, ?_, ?_, ?_⟩
  · have := hc 2 _ rfl; rwa [← Nat.add_assoc] at this
  · have := hc 3 _ rfl; rwa [← Nat.add_assoc, show off + i * 8 + 3 = off + i * 8 + 2 + 1 by omega] at this
  · have := hc 4 _ rfl; rwa [← Nat.add_assoc, show off + i * 8 + 4 = off + i * 8 + 2 + 2 by omega] at this
  · have := hc 5 _ rfl; rwa [← Nat.add_assoc, show off + i * 8 + 5 = off + i * 8 + 2 + 3 by omega] at this
  · have := hc 6 _ rfl; rwa [← Nat.add_assoc, show off + i * 8 + 6 = off + i * 8 + 2 + 4 by omega] at this
  · have := hc 7 _ rfl; rwa [← Nat.add_assoc, show off + i * 8 + 7 = off + i * 8 + 2 + 5 by omega] at this
def awT : By := [108, 101, 116, 32, 113, 32, 61, 32, 92, 120, 32, 45, 62, 32, 102, 32, 120, 59]
theorem awT_f : (parseL awT).p.binds.map (fun b => freeL b.body) = [[[102]]] := by decide +kernel
theorem awT_A : parseA awT = parseL awT := by unfold parseA; rw [if_pos (by decide)]

set_option maxRecDepth 100000 in
set_option maxHeartbeats 4000000 in
theorem r_awake (w : World) : Calls Try.prog 32 #[] w fun e w' => e = .returned (.bool true) ∧ Below w.heap.size w w' := by
  obtain ⟨O, hO⟩ : ∃ O, parseA awT = O := ⟨_, rfl⟩
  have HY := Lib.hid (fun w => y_ParseA awT w hO)
  rw [show strB awT = ⟨#[108, 101, 116, 32, 113, 32, 61, 32, 92, 120, 32, 45, 62, 32, 102, 32, 120, 59]⟩ from rfl] at HY
  have hf := parseA_fit awT
  have h1 := awT_f
  rw [← awT_A] at h1
  rw [hO] at h1 hf
  obtain ⟨x, hx, hfr⟩ : ∃ x, O.p.binds = [x] ∧ freeL x.body = [[102]] := by
    cases hb : O.p.binds with
    | nil => rw [hb] at h1; simp at h1
    | cons x r =>
      rw [hb] at h1
      cases r with
      | nil => exact ⟨x, rfl, by simpa using h1⟩
      | cons y r => simp at h1
  have hxf := (hf.binds x (by rw [hx]; simp)).2
  have hxn : x.body.nn ≤ 262144 := by have := hf.nn; have := sum_mem (l := O.p.binds) (b := x) (by rw [hx]; simp); omega
  have HX0 : Hid (O.p.binds[0]? = some x) := by show _ = _; rw [hx]; rfl
  obtain ⟨nb, hnb⟩ : ∃ nb, O.p.binds.length = nb := ⟨_, rfl⟩
  have hnb0 : 0 < nb := by rw [← hnb, hx]; simp
  have HNB := Lib.hid hnb
  have HFC := Lib.hid (fun (S : Nat → Prop) (w : World) (u : Value) (hu : IsV S w (exC x.body) u) => f_Free x.body w u hxf hu (by omega))
  rw [hfr] at HFC
  clear h1 hf hO hx hxf hxn hfr hnb
  go_enter Try.func32, Try.ntmps32
  go_wp2_with (first
    | (go_at_call 22; (with_reducible refine (HY.out _).mono ?_); go_loud (rintro e w3 ⟨a, b, rfl, hv3, hb3⟩; obtain ⟨a1, a2, c1, c2, hab, hd3, hi3⟩ := hv3.pgp; simp only [Value.agg.injEq, Array.mk.injEq, List.cons.injEq, and_true] at hab; obtain ⟨rfl, rfl⟩ := hab; have hi4 := hi3.alloc (.cells #[.slice a1 O.p.datas.length c1, .slice a2 O.p.binds.length c2, .int .i64 (O.e : Int), .int .i64 O.at_] 49); obtain ⟨g, off, k, p, n, s, b1, b2, m1, m2, d1, d2, rfl, hg, hbv, q2, q3, q4, q5, q6, q7⟩ := hi4.body HX0.out; simp only [Nat.zero_mul, Nat.add_zero] at q2 q3 q4 q5 q6 q7; rw [HNB.out] at hg q2 q3 q4 q5 q6 q7 hbv ⊢; have HV := Lib.hid hbv; have HB3 := Lib.hid hb3; clear hv3 hd3 hi3 hi4 hbv hb3 HY))
    | (go_at_call 34; (with_reducible refine (HFC.out _ _ _ HV.out).mono ?_); rintro e w4 ⟨a4, c4, rfl, h4, hn4, hb4⟩; obtain ⟨g4, o4, rfl, hg4, r4⟩ := h4.text (i := 0) (x := [102]) rfl; rw [Nat.add_zero, show strB [102] = ⟨#[102]⟩ from rfl] at r4; have HB4 := Lib.hid hb4; clear h4 hb4))
  go_ret
  exact ⟨rfl, (HB3.out.alloc HB3.out.size _).trans (HB4.out.mono (by have := HB3.out.size; simp; omega))⟩

end Go.Proofs.Ytgkeblpjmfdhkaa

namespace Go.Proofs.Ytgkeblpjmfdhkaa
open Go.RowKit Go.Maps
set_option linter.unusedVariables false
set_option linter.unusedSimpArgs false

def tailM : By := [108, 101, 116, 32, 120, 32, 61, 32, 102, 59, 32, 108, 101, 116, 32, 121, 32, 61, 32, 103, 32, 105, 100, 59]
theorem run_catM {P : Program} {a b c : By} (h : c = a ++ b) (hl : a.length + b.length ≤ 9000000000000000000) (W : World) : Sem.run P (Op.stringOp .add (strB a) (strB b)) W = .ok (.string (strB c)) W := by
  subst h
  rw [← strB_app]
  exact run_string_add_sum W (strB a) (strB b) (by rw [strB_size, strB_size]; omega)
theorem four_allm {w : World} {b : Nat} {t : TypeId} {c0 c1 c2 c3 : Value} (h : Box w b t [c0, c1, c2, c3]) : w.cell? ⟨b, 0, none⟩ = some c0 ∧ w.cell? ⟨b, 1, none⟩ = some c1 ∧ w.cell? ⟨b, 2, none⟩ = some c2 ∧ w.cell? ⟨b, 3, none⟩ = some c3 := ⟨h.cell 0, h.cell 1, h.cell 2, h.cell 3⟩

set_option maxRecDepth 100000 in
set_option maxHeartbeats 16000000 in
theorem made14_law (a : Option Addr) (l c : Nat) (w : World) (hg : GB w a l c) :
    Calls Try.prog 10 #[.slice a l c] w fun e w' => e = .returned (.bool true) ∧ Below w.heap.size w w' := by
  have HS := Lib.hid (t_Source a l c w hg)
  have H4 := Lib.hid (fun (w' : World) => r_awake w')
  clear hg
  go_enter Try.func10, Try.ntmps10
  go_wp2_with fail
  go_at_call 20
  refine HS.out.mono ?_
  rintro e w1 ⟨S, rfl, hN, hSl, hb1⟩
  have HB1 := Lib.hid hb1
  clear hb1 HS hN
  obtain ⟨T, hT⟩ : ∃ T, T = S ++ tailM := ⟨_, rfl⟩
  have t1 := run_catM (P := Try.prog) hT (by show S.length + 24 ≤ _; omega)
  rw [show strB tailM = ⟨#[108, 101, 116, 32, 120, 32, 61, 32, 102, 59, 32, 108, 101, 116, 32, 121, 32, 61, 32, 103, 32, 105, 100, 59]⟩ from rfl] at t1
  obtain ⟨O, hO⟩ : ∃ O, parseA T = O := ⟨_, rfl⟩
  have hpf := parseA_fit T
  have HY := Lib.hid (fun w => y_ParseA T w hO)
  rw [hO] at hpf
  obtain ⟨Z, hZ⟩ : ∃ Z, strB S = Z := ⟨_, rfl⟩
  obtain ⟨ZT, hZT⟩ : ∃ ZT, strB T = ZT := ⟨_, rfl⟩
  obtain ⟨e0, he0⟩ : ∃ e0 : Int, (O.e : Int) = e0 := ⟨_, rfl⟩
  rw [hZ, hZT] at t1
  rw [hZT, he0] at HY
  rw [hZ]
  obtain ⟨nb, hnb⟩ : ∃ nb, O.p.binds.length = nb := ⟨_, rfl⟩
  obtain ⟨BS, hBS⟩ : ∃ BS, O.p.binds = BS := ⟨_, rfl⟩
  have HNB : Hid (BS.length = nb) := by rw [← hBS]; exact hnb
  have hnbl : nb ≤ 100000 := by have := hpf.nb; omega
  have HFIT : Hid (∀ b ∈ BS, b.s.length ≤ 1000000 ∧ b.body.fit ∧ 3 * b.body.nn + 4 ≤ 900000) := fun b hb => by
    rw [← hBS] at hb
    exact ⟨(hpf.binds b hb).1, (hpf.binds b hb).2, by have := hpf.nn; have := sum_mem hb; omega⟩
  have HNB0 := Lib.hid hnb
  have HBS := Lib.hid hBS
  clear hT hO hpf hZ hZT he0 hnb hBS hSl
  go_upto_region 2 with (first
    | (go_at_call 22; (with_reducible refine (HY.out _).mono ?_); go_loud (rintro e w3 ⟨u1, u2, rfl, hv3, hb3⟩; obtain ⟨a1, a2, c1, c2, hab, hd3, hi3⟩ := hv3.pgp; simp only [Value.agg.injEq, Array.mk.injEq, List.cons.injEq, and_true] at hab; obtain ⟨rfl, rfl⟩ := hab; rw [HNB0.out, HBS.out] at hi3; rw [HNB0.out]; have HI3 := Lib.hid hi3; have HB3 := Lib.hid (HB1.out.trans (hb3.mono HB1.out.size)); clear hv3 hd3 hi3 hb3 HY HNB0 HBS)))
  obtain ⟨nd, hnd⟩ : ∃ nd, O.p.datas.length = nd := ⟨_, rfl⟩
  obtain ⟨oa, hoa⟩ : ∃ oa, O.at_ = oa := ⟨_, rfl⟩
  rw [hnd, hoa]
  clear hnd hoa t1
  have hX := Box.new w3 49 [.slice a1 nd c1, .slice a2 nb c2, .int .i64 e0, .int .i64 oa]
  have hbw : Below w3.heap.size w3 (w3.alloc (.cells #[.slice a1 nd c1, .slice a2 nb c2, .int .i64 e0, .int .i64 oa] 49)) := (Below.refl _ w3).alloc (Nat.le_refl _) _
  have hI := HI3.out.under hbw
  have hB := HB3.out.trans (hbw.mono HB3.out.size)
  obtain ⟨W, hW⟩ : ∃ W, w3.alloc (.cells #[.slice a1 nd c1, .slice a2 nb c2, .int .i64 e0, .int .i64 oa] 49) = W := ⟨_, rfl⟩
  rw [hW] at hX hI hB ⊢
  have HX := Lib.hid hX
  have HI := Lib.hid hI
  have HB := Lib.hid hB
  have hxl := hX.lt
  clear hW hX hI hB hbw HI3 HB3 HB1
  obtain ⟨pb, hpb⟩ : ∃ pb, w3.heap.size = pb := ⟨_, rfl⟩
  rw [hpb] at HX hxl ⊢
  clear hpb
  obtain ⟨_, _, _, _⟩ := four_allm HX.out
  by_cases hz : e0 = 0
  · have hz0 : (e0 != 0) = false := by rw [hz]; rfl
    clear hz
    go_wp2_with fail
    go_loopw [4] (fun iv wr => ∃ i : Nat, i ≤ nb ∧ iv = .int .i64 (i : Int) ∧ Hid (Below W.heap.size W wr)) (fun iv _ => nb - (intOf iv).toNat)
    case atStart => exact ⟨0, Nat.zero_le _, rfl, Lib.hid (Below.refl _ _)⟩
    case round =>
      obtain ⟨i, hi, rfl, HR⟩ := hrel
      rename World => wr
      have hbx := HX.out.below HR.out
      obtain ⟨_, _, _, _⟩ := four_allm hbx
      have hyl := hbx.lt
      by_cases hlt : i < nb
      · obtain ⟨x, hx⟩ : ∃ x, BS[i]? = some x := ⟨_, List.getElem?_eq_getElem (by rw [HNB.out]; exact hlt)⟩
        obtain ⟨hf1, hf2, hf3⟩ := HFIT.out x (List.mem_of_getElem? hx)
        have hI9 := HI.out.under HR.out
        rw [← HNB.out] at hI9
        obtain ⟨g, o, r, rfl, hg, _, hrow, hbody⟩ := hI9.bind8 hx
        obtain ⟨xs, xp, xk, xq, xz, xn, xa1, xm1, xd1, xa2, xm2, xd2⟩ := r
        obtain ⟨_, _, q2, q3, q4, q5, q6, q7⟩ := hrow
        dsimp only [BRow.c1, BRow.c2, BRow.c3, BRow.c4, BRow.c5, BRow.c6, BRow.c7] at q2 q3 q4 q5 q6 q7 hbody
        obtain ⟨FL, hFL⟩ : ∃ FL, freeL x.body = FL := ⟨_, rfl⟩
        obtain ⟨nf, hnf⟩ : ∃ nf, FL.length = nf := ⟨_, rfl⟩
        have HFA : Hid (∀ w' : World, Below wr.heap.size wr w' → Calls Try.prog 34 #[.agg #[.int .i64 xk, .int .i64 xq, .string xz, .int .i64 xn, .slice xa1 xm1 xd1, .slice xa2 xm2 xd2]] w' fun e w'' => ∃ a c, e = .returned (.slice a nf c) ∧ InC (fun _ => True) w'' (.s nf 1 (strsC FL)) (.slice a nf c) ∧ Below w'.heap.size w' w'') := fun w' hw => by
          have h := f_Free x.body w' _ hf2 (hbody.under hw) (by omega)
          rw [hFL, hnf] at h
          exact h.mono fun e w'' ⟨a, c, h1, h2, _, h3⟩ => ⟨a, c, h1, h2.mono fun _ _ _ => trivial, h3⟩
        have HFB : Hid (∀ w' : World, Below wr.heap.size wr w' → Calls Try.prog 35 #[.agg #[.int .i64 xk, .int .i64 xq, .string xz, .int .i64 xn, .slice xa1 xm1 xd1, .slice xa2 xm2 xd2]] w' fun e w'' => ∃ a c, e = .returned (.slice a nf c) ∧ InC (fun _ => True) w'' (.s nf 1 (strsC FL)) (.slice a nf c) ∧ Below w'.heap.size w' w'') := fun w' hw => by
          have h := r_Free x.body w' _ hf2 (hbody.under hw) (by omega)
          rw [hFL, hnf] at h
          exact h.mono fun e w'' ⟨a, c, h1, h2, _, h3⟩ => ⟨a, c, h1, h2, h3⟩
        have HTX : Hid (∀ (w' : World) (aa ab : Option Addr) (ca cb : Nat), InC (fun _ => True) w' (.s nf 1 (strsC FL)) (.slice aa nf ca) → InC (fun _ => True) w' (.s nf 1 (strsC FL)) (.slice ab nf cb) → Calls Try.prog 33 #[.slice aa nf ca, .slice ab nf cb] w' fun e w'' => e = .returned (.bool true) ∧ Below w'.heap.size w' w'') := fun w' aa ab ca cb h1 h2 => by
          rw [← hnf] at h1 h2 ⊢
          exact same_texts FL _ _ aa ab _ _ ca cb w' h1 h2
        have T1 : ∀ W, Sem.run Try.prog (Instr.indexAt 26 (.slice (some ⟨g, o, none⟩) nb c2) (.int .i64 (i : Int))) W = .ok (.pointer (some ⟨g, o + i * 8, none⟩)) W := fun W => by go_simp
        have hS0 := hbx.cell 1
        have HK5 : Hid (∀ w', Below wr.heap.size wr w' → (Below wr.heap.size wr w' ∧ w'.cell? ⟨pb, 1, none⟩ = some (.slice (some ⟨g, o, none⟩) nb c2) ∧ w'.cell? ⟨g, o + i * 8 + 2, none⟩ = some (.int .i64 xk) ∧ w'.cell? ⟨g, o + i * 8 + 2 + 1, none⟩ = some (.int .i64 xq) ∧ w'.cell? ⟨g, o + i * 8 + 2 + 2, none⟩ = some (.string xz) ∧ w'.cell? ⟨g, o + i * 8 + 2 + 3, none⟩ = some (.int .i64 xn) ∧ w'.cell? ⟨g, o + i * 8 + 2 + 4, none⟩ = some (.slice xa1 xm1 xd1) ∧ w'.cell? ⟨g, o + i * 8 + 2 + 5, none⟩ = some (.slice xa2 xm2 xd2))) := fun w' hb =>
          ⟨hb, six_belowF hb hyl hS0, six_belowF hb hg q2, six_belowF hb hg q3, six_belowF hb hg q4, six_belowF hb hg q5, six_belowF hb hg q6, six_belowF hb hg q7⟩
        clear hx hf1 hf2 hf3 hI9 hbody hFL hnf hS0 q2 q3 q4 q5 q6 q7 hbx
        go_upto_region 7 with fail
        go_region_held3 (fun w' => Below wr.heap.size wr w' ∧ w'.cell? ⟨pb, 1, none⟩ = some (.slice (some ⟨g, o, none⟩) nb c2) ∧ w'.cell? ⟨g, o + i * 8 + 2, none⟩ = some (.int .i64 xk) ∧ w'.cell? ⟨g, o + i * 8 + 2 + 1, none⟩ = some (.int .i64 xq) ∧ w'.cell? ⟨g, o + i * 8 + 2 + 2, none⟩ = some (.string xz) ∧ w'.cell? ⟨g, o + i * 8 + 2 + 3, none⟩ = some (.int .i64 xn) ∧ w'.cell? ⟨g, o + i * 8 + 2 + 4, none⟩ = some (.slice xa1 xm1 xd1) ∧ w'.cell? ⟨g, o + i * 8 + 2 + 5, none⟩ = some (.slice xa2 xm2 xd2))
          (first
            | exact HK5.out _ (Below.refl _ _).drew
            | exact HK5.out _ (below_next (And.left (by assumption)) hbt (Nat.le_refl _))
            | exact HK5.out _ (below_next (And.left (by assumption)) hbb (Nat.le_refl _))
            | exact HK5.out _ (below_next (And.left (by assumption)) hba (Nat.le_refl _)))
          (first
            | (go_at_call 34; (with_reducible refine (HFA.out _ (And.left (by assumption))).mono ?_); rintro e wa ⟨aa, ca, rfl, ha, hba⟩)
            | (go_at_call 35; (with_reducible refine (HFB.out _ (And.left (by assumption))).mono ?_); rintro e wb ⟨ab, cb, rfl, hb, hbb⟩)
            | (go_at_call 33; (with_reducible refine (HTX.out _ _ _ _ _ (ha.under hbb) hb).mono ?_); rintro e wt ⟨rfl, hbt⟩)
            | (go_at_call 33; (with_reducible refine (HTX.out _ _ _ _ _ ha (hb.under hba)).mono ?_); rintro e wt ⟨rfl, hbt⟩))
        all_goals (
          have HB9 : Hid (Below wr.heap.size wr wt) := Lib.hid (And.left (by assumption))
          have HB8 := Lib.hid (HR.out.trans (HB9.out.mono HR.out.size))
          clear ha hb hba hbb hbt
          go_wp2_with fail
          go_roundw
          case rel => exact ⟨i + 1, by omega, by go_num, HB8⟩
          case measure => (simp [intOf]; omega))
      · have hge : ¬ ((i : Int) < (nb : Int)) := by omega
        obtain ⟨RS, hRS⟩ : ∃ RS, graphL BS = RS := ⟨_, rfl⟩
        have hRL : RS.length = nb := by rw [← hRS]; simp [graphL, HNB.out]
        have hI9 := HI.out.under HR.out
        have HGA : Hid (∀ w' : World, Below wr.heap.size wr w' → Calls Try.prog 37 #[.slice a2 nb c2] w' fun e w'' => ∃ a c, e = .returned (.slice a nb c) ∧ InC (fun _ => True) w'' (.s nb 1 (RS.map rowCl)) (.slice a nb c) ∧ Below w'.heap.size w' w'') := fun w' hw => by
          have h := f_Graph w' BS a2 nb c2 HNB.out hnbl (fun b hb => ⟨(HFIT.out b hb).1, (HFIT.out b hb).2.1, by have := (HFIT.out b hb).2.2; omega⟩) (by rw [HNB.out]; exact hI9.under hw)
          rw [hRS, hRL] at h
          exact h.mono fun e w'' ⟨a, c, h1, h2, h3⟩ => ⟨a, c, h1, h2.mono fun _ _ _ => trivial, h3⟩
        have HGB : Hid (∀ w' : World, Below wr.heap.size wr w' → Calls Try.prog 38 #[.slice a2 nb c2] w' fun e w'' => ∃ a c, e = .returned (.slice a nb c) ∧ InC (fun _ => True) w'' (.s nb 1 (RS.map rowCl)) (.slice a nb c) ∧ Below w'.heap.size w' w'') := fun w' hw => by
          have h := r_Graph w' BS a2 nb c2 HNB.out hnbl (fun b hb => ⟨(HFIT.out b hb).1, (HFIT.out b hb).2.1, by have := (HFIT.out b hb).2.2; omega⟩) (by rw [HNB.out]; exact hI9.under hw)
          rw [hRS, hRL] at h
          exact h.mono fun e w'' ⟨a, c, h1, h2, h3⟩ => ⟨a, c, h1, h2.mono fun _ _ _ => trivial, h3⟩
        have HSM : Hid (∀ (w' : World) (aa ab : Option Addr) (ca cb : Nat), InC (fun _ => True) w' (.s nb 1 (RS.map rowCl)) (.slice aa nb ca) → InC (fun _ => True) w' (.s nb 1 (RS.map rowCl)) (.slice ab nb cb) → Calls Try.prog 36 #[.slice aa nb ca, .slice ab nb cb] w' fun e w'' => e = .returned (.bool true) ∧ Below w'.heap.size w' w'') := fun w' aa ab ca cb h1 h2 => r_Same w' RS aa ab nb ca cb (by rw [hRL]; exact h1) (by rw [hRL]; exact h2)
        have hS0 := hbx.cell 1
        have HK5 : Hid (∀ w', Below wr.heap.size wr w' → (Below wr.heap.size wr w' ∧ w'.cell? ⟨pb, 1, none⟩ = some (.slice a2 nb c2))) := fun w' hb => ⟨hb, six_belowF hb hyl hS0⟩
        clear hRS hRL hI9 hS0 hbx
        go_upto_region 9 with fail
        go_region_held3 (fun w' => Below wr.heap.size wr w' ∧ w'.cell? ⟨pb, 1, none⟩ = some (.slice a2 nb c2))
          (first
            | exact HK5.out _ (Below.refl _ _).drew
            | exact HK5.out _ (below_next (And.left (by assumption)) hbw (Nat.le_refl _))
            | exact HK5.out _ (below_next (And.left (by assumption)) hbt (Nat.le_refl _))
            | exact HK5.out _ (below_next (And.left (by assumption)) hbb (Nat.le_refl _))
            | exact HK5.out _ (below_next (And.left (by assumption)) hba (Nat.le_refl _)))
          (first
            | (go_at_call 37; (with_reducible refine (HGA.out _ (And.left (by assumption))).mono ?_); rintro e wa ⟨aa, ca, rfl, ha, hba⟩)
            | (go_at_call 38; (with_reducible refine (HGB.out _ (And.left (by assumption))).mono ?_); rintro e wb ⟨ab, cb, rfl, hb, hbb⟩)
            | (go_at_call 36; (with_reducible refine (HSM.out _ _ _ _ _ (ha.under hbb) hb).mono ?_); rintro e wt ⟨rfl, hbt⟩)
            | (go_at_call 36; (with_reducible refine (HSM.out _ _ _ _ _ ha (hb.under hba)).mono ?_); rintro e wt ⟨rfl, hbt⟩)
            | (go_at_call 32; (with_reducible refine (H4.out _).mono ?_); rintro e wz ⟨rfl, hbw⟩))
        all_goals (
          have HB9 : Hid (Below wr.heap.size wr wz) := Lib.hid (And.left (by assumption))
          have HB8 := Lib.hid (HR.out.trans (HB9.out.mono HR.out.size))
          clear ha hb hba hbb hbt hbw
          go_wp2_with fail
          go_ret
          exact ⟨rfl, HB.out.trans (HB8.out.mono HB.out.size)⟩)
  · have hz0 : (e0 != 0) = true := by simpa using hz
    go_wp2_with (go_at_call 32; (with_reducible refine (H4.out _).mono ?_); rintro e w7 ⟨rfl, hb7⟩; have HB7 := Lib.hid hb7; clear hb7)
    go_ret
    exact ⟨rfl, HB.out.trans (HB7.out.mono HB.out.size)⟩

end Go.Proofs.Ytgkeblpjmfdhkaa
