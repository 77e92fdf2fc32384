/- PROVED: the law ParseDeep (so deep, and no deeper) returns true at every input, and leaves its arguments as they were. No condition. -/
import Derived.Test.YteiailpmieihnaaZI
import Derived.Test.YteiailpmieihnaaZH
import Derived.Deep.Strs
import Derived.Test.YteiailpmieihnaaRows
import Derived.Test.YteiailpmieihnaaZA
import Derived.ProofKit
import Derived.OpenShut
import Derived.ShutString
import Derived.ChangeOld
import Derived.Lib.SmallJoins
namespace Go.Proofs.Yteiailpmieihnaa
open Go.RowKit Go.Maps
set_option linter.unusedVariables false
set_option linter.unusedSimpArgs false

theorem strB_add (a b : By) : strB a ++ strB b = strB (a ++ b) := by
  apply ByteArray.ext; simp [strB]
theorem add_run {A B C : ByteArray} (a b : By) (hA : A = strB a) (hB : B = strB b) (hC : C = strB (a ++ b)) (hl : a.length + b.length ≤ 100000) : ∀ W, Sem.run Try.prog (Op.stringOp .add A B) W = .ok (.string C) W := fun W => by
  subst hA hB hC
  rw [run_string_add_sum W _ _ (by rw [strB_size, strB_size]; omega), strB_add]
theorem deepE_len (h : Nat) : ∀ k, (deepE h k).length ≤ 1 + 13 * k
  | 0 => by simp [deepE]
  | k + 1 => by
    have := deepE_len h k
    show (pad h (deepE h k)).length ≤ _
    unfold pad
    split <;> simp <;> omega
theorem deep_fact {h k : Nat} (hh : h < 4) (hk : k < 70) : ∃ O, parseL (deepT h k) = O ∧ (60 < k + 1 → O.e = 5 ∧ O.at_ = 15 ∧ O.p.binds.length = 0) ∧ (¬ 60 < k + 1 → O.e = 0 ∧ ∃ b0 b1, O.p.binds = [b0, b1] ∧ b1.body.deep = k + 1) := by
  have e := deep_all hh hk
  unfold deepOk at e
  obtain ⟨O, hO⟩ : ∃ O, parseL (deepT h k) = O := ⟨_, rfl⟩
  rw [hO] at e
  obtain ⟨p, E, A⟩ := O
  dsimp only at e
  refine ⟨⟨p, E, A⟩, hO, ?_, ?_⟩
  · intro h1
    rw [if_pos h1] at e
    simp at e
    simp [e]
  · intro h1
    rw [if_neg h1, Bool.and_eq_true] at e
    refine ⟨by simpa using e.1, ?_⟩
    have e2 := e.2
    split at e2
    · rename_i b0 b1 hb
      exact ⟨b0, b1, hb, by simpa using e2⟩
    · cases e2

set_option maxRecDepth 100000 in
set_option maxHeartbeats 4000000 in
theorem deep_law (n how : Nat) (w : World) (hn : n < 256) (hw : how < 256) : Calls Try.prog 6 #[.int .u8 (n : Int), .int .u8 (how : Int)] w fun e w' => e = .returned (.bool true) ∧ Below w.heap.size w w' := by
  obtain ⟨K, hK⟩ : ∃ K, n % 70 = K := ⟨_, rfl⟩
  obtain ⟨h, hh⟩ : ∃ h, how % 4 = h := ⟨_, rfl⟩
  have hK70 : K < 70 := by omega
  have hh4 : h < 4 := by omega
  have em : (n : Int) % 70 = (K : Int) := by omega
  have em2 : (n : Int).tmod 70 = (K : Int) := by rw [Int.tmod_eq_emod_of_nonneg (by omega)]; exact em
  have eh : (how : Int) % 4 = (h : Int) := by omega
  have eh2 : (how : Int).tmod 4 = (h : Int) := by rw [Int.tmod_eq_emod_of_nonneg (by omega)]; exact eh
  have hc : h = 0 ∨ h = 1 ∨ h = 2 ∨ h = 3 := by omega
  obtain ⟨O, hO, HO1, HO2⟩ := deep_fact hh4 hK70
  have HP := Lib.hid (fun w => z_Parse (deepT h K) w (by unfold deepT; have := deepE_len h K; simp; omega) hO)
  have HO3 := Lib.hid HO1
  have HO4 := Lib.hid HO2
  clear HO1 HO2
  have T1 : ∀ W, Sem.run Try.prog (Op.stringOp .add ⟨#[108, 101, 116, 32, 97, 32, 61, 32, 49, 59, 32, 108, 101, 116, 32, 113, 32, 61, 32]⟩ (strB (deepE h K))) W = .ok (.string (strB ([108, 101, 116, 32, 97, 32, 61, 32, 49, 59, 32, 108, 101, 116, 32, 113, 32, 61, 32] ++ deepE h K))) W := add_run _ _ rfl rfl rfl (by have := deepE_len h K; simp; omega)
  have T2 : ∀ W, Sem.run Try.prog (Op.stringOp .add (strB ([108, 101, 116, 32, 97, 32, 61, 32, 49, 59, 32, 108, 101, 116, 32, 113, 32, 61, 32] ++ deepE h K)) ⟨#[59]⟩) W = .ok (.string (strB (deepT h K))) W := add_run _ _ rfl rfl rfl (by have := deepE_len h K; simp; omega)
  have HL := Lib.hid (deepE_len h)
  obtain ⟨E, hE⟩ : ∃ E, deepE h = E := ⟨_, rfl⟩
  have HS : Hid (∀ k, E (k + 1) = pad h (E k)) := by subst hE; exact fun k => rfl
  have hE0 : strB (E 0) = ⟨#[120]⟩ := by subst hE; rfl
  rw [hE] at T1 T2 HL
  obtain ⟨LK, hLK⟩ : ∃ LK, strB (E K) = LK := ⟨_, rfl⟩
  rw [hLK] at T1
  have HLK := Lib.hid hLK
  obtain ⟨M1, hM1⟩ : ∃ M1, strB ([108, 101, 116, 32, 97, 32, 61, 32, 49, 59, 32, 108, 101, 116, 32, 113, 32, 61, 32] ++ E K) = M1 := ⟨_, rfl⟩
  rw [hM1] at T1 T2
  obtain ⟨Z, hZ⟩ : ∃ Z, strB (deepT h K) = Z := ⟨_, rfl⟩
  rw [hZ] at T2 HP
  have HE0 := Lib.hid hE0
  clear hK hh hO hE hLK hM1 hZ hE0
  go_enter Try.func6, Try.ntmps6
  go_wp2_with fail
  go_loopg [6, 8] (K) (fun gn ev iv wr => ∃ i : Nat, gn + i ≤ K ∧ K ≤ gn + i ∧ iv = .int .i64 (i : Int) ∧ ev = .string (strB (E i)) ∧ wr = w)
  case atStart => exact ⟨0, by omega, by omega, rfl, by rw [HE0.out], rfl⟩
  case round =>
    obtain ⟨i, hi1, hi2, rfl, rfl, rfl⟩ := hrel
    by_cases hlt : i < K
    · have hsn := HS.out i
      have hle := HL.out i
      obtain ⟨L0, hL0⟩ : ∃ L0, strB (E i) = L0 := ⟨_, rfl⟩
      obtain ⟨L1, hL1⟩ : ∃ L1, strB (E (i + 1)) = L1 := ⟨_, rfl⟩
      rw [hL0]
      rcases hc with rfl | rfl | rfl | rfl
      · have T3 : ∀ W, Sem.run Try.prog (Op.stringOp .add ⟨#[92, 121, 32, 45, 62, 32]⟩ L0) W = .ok (.string L1) W := add_run [92, 121, 32, 45, 62, 32] (E i) rfl hL0.symm (by rw [← hL1, hsn]; rfl) (by simp; omega)
        have HL1 := Lib.hid hL1
        clear hL0 hL1 hsn hle
        go_wp2_with fail
        go_roundg (K - (i + 1))
        case measure => omega
        case rel => exact ⟨i + 1, by omega, by omega, by go_num, by rw [HL1.out], rfl⟩
      · have T3 : ∀ W, Sem.run Try.prog (Op.stringOp .add ⟨#[102, 32, 40]⟩ L0) W = .ok (.string (strB ([102, 32, 40] ++ E i))) W := add_run [102, 32, 40] (E i) rfl hL0.symm rfl (by simp; omega)
        have T4 : ∀ W, Sem.run Try.prog (Op.stringOp .add (strB ([102, 32, 40] ++ E i)) ⟨#[41]⟩) W = .ok (.string L1) W := add_run ([102, 32, 40] ++ E i) [41] rfl rfl (by rw [← hL1, hsn]; rfl) (by simp; omega)
        obtain ⟨M3, hM3⟩ : ∃ M3, strB ([102, 32, 40] ++ E i) = M3 := ⟨_, rfl⟩
        rw [hM3] at T3 T4
        have HL1 := Lib.hid hL1
        clear hL0 hL1 hsn hle hM3
        go_wp2_with fail
        go_roundg (K - (i + 1))
        case measure => omega
        case rel => exact ⟨i + 1, by omega, by omega, by go_num, by rw [HL1.out], rfl⟩
      · have T3 : ∀ W, Sem.run Try.prog (Op.stringOp .add ⟨#[40]⟩ L0) W = .ok (.string (strB ([40] ++ E i))) W := add_run [40] (E i) rfl hL0.symm rfl (by simp; omega)
        have T4 : ∀ W, Sem.run Try.prog (Op.stringOp .add (strB ([40] ++ E i)) ⟨#[44, 32, 49, 41]⟩) W = .ok (.string L1) W := add_run ([40] ++ E i) [44, 32, 49, 41] rfl rfl (by rw [← hL1, hsn]; rfl) (by simp; omega)
        obtain ⟨M3, hM3⟩ : ∃ M3, strB ([40] ++ E i) = M3 := ⟨_, rfl⟩
        rw [hM3] at T3 T4
        have HL1 := Lib.hid hL1
        clear hL0 hL1 hsn hle hM3
        go_wp2_with fail
        go_roundg (K - (i + 1))
        case measure => omega
        case rel => exact ⟨i + 1, by omega, by omega, by go_num, by rw [HL1.out], rfl⟩
      · have T3 : ∀ W, Sem.run Try.prog (Op.stringOp .add ⟨#[108, 101, 116, 32, 121, 32, 61, 32, 49, 32, 105, 110, 32]⟩ L0) W = .ok (.string L1) W := add_run [108, 101, 116, 32, 121, 32, 61, 32, 49, 32, 105, 110, 32] (E i) rfl hL0.symm (by rw [← hL1, hsn]; rfl) (by simp; omega)
        have HL1 := Lib.hid hL1
        clear hL0 hL1 hsn hle
        go_wp2_with fail
        go_roundg (K - (i + 1))
        case measure => omega
        case rel => exact ⟨i + 1, by omega, by omega, by go_num, by rw [HL1.out], rfl⟩
    · obtain rfl : i = K := by omega
      rw [HLK.out]
      clear HS HL HLK HE0 hi1 hi2 hlt em em2 eh eh2 hc
      by_cases hd : 60 < i + 1
      · obtain ⟨h5, h15, hb0⟩ := HO3.out hd
        have hp := HP.out
        have e5 : (O.e : Int) = 5 := by omega
        simp only [e5, h15] at hp
        have HP2 := Lib.hid hp
        have HB0 := Lib.hid hb0
        have hdd : (60 : Int) < (i : Int) + 1 := by omega
        clear h5 h15 hp e5 hb0 HP HO3 HO4
        go_wp2_with (first
          | (go_at_call 11; refine (HP2.out _).mono ?_; rintro e w1 ⟨v, rfl, hv, hb1⟩; obtain ⟨a1, a2, c1, c2, rfl⟩ := hv.pg2; rw [HB0.out]; have HB1 := Lib.hid hb1; clear hv hb1)
          | (go_at_call 12; refine (num_any _ _).mono ?_; rintro e w' ⟨rfl, hw⟩; have hw := hw.symm; subst hw)
          | (go_at_call 9; refine (z_awake _).mono ?_; rintro e wz ⟨rfl, hbz⟩; have HBZ := Lib.hid hbz; clear hbz))
        go_ret
        refine ⟨rfl, ?_⟩
        exact (HB1.out.alloc HB1.out.size _).trans (HBZ.out.mono (by have := HB1.out.size; simp; omega))
      · obtain ⟨h5, b0, b1, hb, hdp⟩ := HO4.out hd
        have hp := HP.out
        have e5 : (O.e : Int) = 0 := by omega
        simp only [e5] at hp
        have HP2 := Lib.hid hp
        have HBD := Lib.hid hb
        have HDP := Lib.hid hdp
        clear h5 hp e5 hb hdp HP HO3 HO4
        go_wp2_with (first
          | (go_at_call 11; refine (HP2.out _).mono ?_; rintro e w1 ⟨v, rfl, hv, hb1⟩; obtain ⟨a1, a2, c1, c2, rfl, _, hc2, _, hk⟩ := hv.pg3; rw [HBD.out] at hk hc2; rw [HBD.out]; dsimp only [List.length_cons, List.length_nil] at hk hc2 ⊢; obtain ⟨g, off, us, rfl, hg, hxv, hc⟩ := InC.elem bdC_len (l := [b0, b1]) (i := 1) hk rfl; obtain ⟨k, q, nn, sb, ea, ea', m, m', ec, ec', hz8, hbody⟩ := hxv.bd; obtain rfl := agg_inj hz8; have q0 : w1.cell? ⟨g, off + 8 + 2, none⟩ = _ := hc 2 _ rfl; have q1 : w1.cell? ⟨g, off + 8 + 2 + 1, none⟩ = _ := hc 3 _ rfl; have q2 : w1.cell? ⟨g, off + 8 + 2 + 2, none⟩ = _ := hc 4 _ rfl; have q3 : w1.cell? ⟨g, off + 8 + 2 + 3, none⟩ = _ := hc 5 _ rfl; have q4 : w1.cell? ⟨g, off + 8 + 2 + 4, none⟩ = _ := hc 6 _ rfl; have q5 : w1.cell? ⟨g, off + 8 + 2 + 5, none⟩ = _ := hc 7 _ rfl; have HBODY := Lib.hid hbody; have HB1 := Lib.hid hb1; clear hv hb1 hk hxv hc hbody)
          | (go_at_call 12; refine (num_any _ _).mono ?_; rintro e w' ⟨rfl, hw⟩; have hw := hw.symm; subst hw)
          | (go_at_call 9; refine (z_awake _).mono ?_; rintro e wz ⟨rfl, hbz⟩; have HBZ := Lib.hid hbz; clear hbz)
          | (go_at_call 16; refine (z_Deep (i + 1) b1.body _ _ _ (Nat.le_of_eq HDP.out) (by omega) (HBODY.out.under ((Below.refl _ w1).alloc (Nat.le_refl _) _))).mono ?_; rintro e wd ⟨rfl, hbd⟩; have hdi : (b1.body.deep : Int) = (i : Int) + 1 := (by have := HDP.out; omega); rw [hdi]; clear hdi; have HBDP := Lib.hid hbd; clear hbd))
        go_ret
        refine ⟨rfl, ?_⟩
        have h1 := HB1.out.alloc HB1.out.size (.cells #[.slice a1 O.p.datas.length c1, .slice (some ⟨g, off, none⟩) 2 c2] 28)
        have h2 := h1.trans (HBDP.out.mono h1.size)
        exact h2.trans (HBZ.out.mono h2.size)

end Go.Proofs.Yteiailpmieihnaa

namespace Go.Proofs.Yteiailpmieihnaa
open Go.ChangeShapes Go.WideShapes Go.ChangeAt Go.RowKit Go.Joins
open Go.ChangeMaps (open_string shut_string)
set_option linter.unusedVariables false

theorem parseDeep_own : ownKnob Try.prog.godebug = none := by kernel_rfl
theorem parseDeep_laidOut : laidOutB Try.prog = true := by kernel_rfl

set_option maxRecDepth 100000 in
theorem parseDeep_lifted (os : Os) (started : os.Started) (H : Type) (enc : TypeId × Value → H) :
    ReturnsInHanded {} Try.checked os 6 .any (Rows.parseDeepSpec.pre6 enc Try.prog Try.f6 Rows.parseDeepRow.domain false) (Rows.parseDeepSpec.post enc Try.prog Try.f6 false true false false) := by
  refine returnsInHanded_of_change (C := Try.checked) parseDeep_own started (by kernel_rfl) Try.func6
    (ChangeSpec.witness6 (enc := enc) (C := Try.checked) false ⟨#[], #[.int .u8 0, .int .u8 0], []⟩ 8 (by kernel_rfl) (by kernel_rfl) (by kernel_rfl) (by kernel_rfl)) ?_
  intro W base args ds gs before hval0 hW hcnd _
  have hval : ∀ (j : Nat) t v, Try.f6.params[j]? = some t → args[j]? = some v → Value.okWide Try.prog W .any base t v := hval0
  have hW' := hW
  obtain ⟨p, q, hA0, hV, rfl, hfz, hnd⟩ := hW
  have hA : DataW.TrodAll enc Try.prog W 0 (fun _ => true) true Try.f6.params.toList args.toList ds p := hA0
  rw [Try.params6] at hA hval
  obtain ⟨v0, vs0, d0, ds0, p0, q0, hargs, rfl, rfl, h0, r0⟩ := trodAll_cons hA
  obtain ⟨v1, vs1, d1, ds1, p1, q1, rfl, rfl, rfl, h1, r1⟩ := trodAll_cons r0
  obtain ⟨rfl, rfl, rfl⟩ := trodAll_nil r1
  obtain rfl : args = #[v0, v1] := by cases args; simp_all
  obtain ⟨rfl, rfl⟩ := trodVars_none hV
  have k0 := h0
  have lt0 : ∀ x ∈ p0, x.block < W.heap.size := by obtain ⟨m, hm⟩ := k0; exact DataW.trod_lt m _ _ _ hm
  have k1 := h1
  have lt1 : ∀ x ∈ p1, x.block < W.heap.size := by obtain ⟨m, hm⟩ := k1; exact DataW.trod_lt m _ _ _ hm
  obtain ⟨n, rfl, rfl, rfl, wf_n⟩ := open_int Try.underlying5 (hval 0 5 v0 rfl rfl) h0
  have bd_n : 0 ≤ n ∧ n ≤ 255 := by have h := wf_n; simp [Lit.wf, IntKind.min, IntKind.max, IntKind.signed, IntKind.bits] at h; omega
  obtain ⟨k_n, rfl⟩ : ∃ k : Nat, n = k := ⟨n.toNat, by omega⟩
  obtain ⟨m, rfl, rfl, rfl, wf_m⟩ := open_int Try.underlying5 (hval 1 5 v1 rfl rfl) h1
  have bd_m : 0 ≤ m ∧ m ≤ 255 := by have h := wf_m; simp [Lit.wf, IntKind.min, IntKind.max, IntKind.signed, IntKind.bits] at h; omega
  obtain ⟨k_m, rfl⟩ : ∃ k : Nat, m = k := ⟨m.toNat, by omega⟩
  clear hA0 hval0
  refine (deep_law k_n k_m W (by omega) (by omega)).mono fun e W' ⟨he, bel⟩ => ?_
  subst he
  exact ⟨_, rfl, _, _, _, [], _, [], hW', trodAll_mk1 (shut_bool Try.underlying4 _), (trodAll_cons_mk (Below.trod parseDeep_laidOut (by kernel_rfl) (of_decide_eq_true (by kernel_rfl)) k0 bel lt0) (trodAll_cons_mk (Below.trod parseDeep_laidOut (by kernel_rfl) (of_decide_eq_true (by kernel_rfl)) k1 bel lt1) trodAll_mk0)), rfl, bel.frame _, fun h => by cases h⟩

theorem parseDeep_holds : Rows.ParseDeepSaid :=
  OpenClaim.holds_of_wide 6 Try.f6 rfl rfl rfl rfl rfl rfl rfl ⟨rfl, rfl, rfl, rfl, rfl⟩ rfl rfl rfl rfl rfl (by kernel_rfl) Try.func6 (by kernel_rfl)
    (of_decide_eq_true (by kernel_rfl)) (by unfold Func.isWrapper; first | (rw [if_pos (by decide +kernel)]; kernel_rfl) | (rw [if_neg (by decide +kernel)]; exact ⟨rfl, rfl⟩))
    (fun os started H enc _ => parseDeep_lifted os started H enc)
#print axioms parseDeep_holds

end Go.Proofs.Yteiailpmieihnaa
