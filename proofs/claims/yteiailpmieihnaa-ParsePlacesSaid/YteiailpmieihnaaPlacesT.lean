/- PROVED: the law ParsePlaces (where a text can go on no more is told: a whole program, and then something that may not stand there) returns true at every input, and leaves its arguments as they were. No condition. -/
import Derived.Test.YteiailpmieihnaaZL
import Derived.Test.YteiailpmieihnaaZM
import Derived.Test.YteiailpmieihnaaZI
import Derived.Test.YteiailpmieihnaaRows
import Derived.Test.YteiailpmieihnaaZA
import Derived.ProofKit
import Derived.OpenShut
import Derived.ShutString
import Derived.ChangeOld
import Derived.Lib.SmallJoins
namespace Go.Proofs.Yteiailpmieihnaa
open Go.RowKit Go.Maps
set_option linter.unusedVariables false
set_option linter.unusedSimpArgs false

theorem tab_int (w : World) {t : TypeId} (l : List Nat) (j : Nat) (hj : j < l.length) {vs : List Value} (hv : vs = l.map fun x : Nat => Value.int .i64 (x : Int)) : (w.alloc (.cells vs.toArray t)).cell? ⟨w.heap.size, j, none⟩ = some (.int .i64 ((l.getD j 0 : Nat) : Int)) := by
  subst hv
  refine ((Box.new w t (l.map fun x : Nat => Value.int .i64 (x : Int))).cell j).trans ?_
  rw [List.getElem?_map, List.getElem?_eq_getElem hj, List.getD_eq_getElem?_getD, List.getElem?_eq_getElem hj]
  rfl
theorem tab_at {l : List By} {k : Nat} (hk : k < l.length) {vs : List Value} (hv : vs = l.map fun x => Value.string (strB x)) : ∀ h : k < vs.length, vs[k] = .string (strB (l.getD k [])) := fun h => by
  subst hv
  rw [List.getElem_map, List.getD_eq_getElem?_getD, List.getElem?_eq_getElem hk]
  rfl
theorem tab_atI {l : List Nat} {k : Nat} (hk : k < l.length) {vs : List Value} (hv : vs = l.map fun x : Nat => Value.int .i64 (x : Int)) : ∀ h : k < vs.length, vs[k] = .int .i64 ((l.getD k 0 : Nat) : Int) := fun h => by
  subst hv
  rw [List.getElem_map, List.getD_eq_getElem?_getD, List.getElem?_eq_getElem hk]
  rfl
theorem farL_le {k : Nat} (hk : k < 15) : farL.getD k 0 ≤ 19 := by
  have h : ∀ x ∈ farL, x ≤ 19 := by decide
  rw [List.getD_eq_getElem?_getD, List.getElem?_eq_getElem (show k < farL.length from hk)]
  exact h _ (List.getElem_mem _)
theorem badT_len : ∀ x ∈ badT, x.length ≤ 60 := by decide
set_option maxRecDepth 100000 in
set_option maxHeartbeats 8000000 in
theorem places_law (a : Option Addr) (n c which : Nat) (w : World) (hg : GB w a n c) (hw : which < 256)
    (HS : Calls Try.prog 15 #[.slice a n c] w fun e w' => ∃ S : By, e = .returned (.string (strB S)) ∧ NLs S ∧ S.length ≤ 40000000 ∧ Below w.heap.size w w') :
    Calls Try.prog 5 #[.slice a n c, .int .u8 (which : Int)] w fun e w' => e = .returned (.bool true) ∧ Below w.heap.size w w' := by
  obtain ⟨k, hk⟩ : ∃ k, which % 15 = k := ⟨_, rfl⟩
  have hk15 : k < 15 := by omega
  have ek1 : (which : Int) % 15 = (k : Int) := by omega
  have ek2 : (which : Int).tmod 15 = (k : Int) := by rw [Int.tmod_eq_emod_of_nonneg (by omega)]; exact ek1
  clear hk
  have HS := Lib.hid HS
  go_enter Try.func5, Try.ntmps5
  go_wp2_with fail
  go_at_call 15
  refine HS.out.mono ?_
  rintro e w1 ⟨S, rfl, hN, hSl, hb1⟩
  have HB1 := Lib.hid hb1
  clear hb1
  obtain ⟨Z, hZ⟩ : ∃ Z, strB S = Z := ⟨_, rfl⟩
  have hZs : Z.size = S.length := by rw [← hZ, strB_size]
  rw [hZ]
  by_cases hbig : 65536 < S.length
  · have HP := Lib.hid (fun w => z_ParseLong Z w (by omega))
    have hl : decide ((3000 : Int) < (S.length : Int)) = true := decide_eq_true (by omega)
    have hl2 : (3000 : Int) < (S.length : Int) := by omega
    clear hZ
    go_wp2_with (first
      | (go_at_call 11; refine (HP.out _).mono ?_; rintro e w2 ⟨v, rfl, hv, hb2⟩; obtain ⟨a1, a2, c1, c2, rfl⟩ := hv.pg2; have HB2 := Lib.hid hb2; clear hv hb2)
      | (go_at_call 9; refine (z_awake _).mono ?_; rintro e wz ⟨rfl, hbz⟩; have HBZ := Lib.hid hbz; clear hbz))
    go_ret
    have h2 := (HB1.out.trans (HB2.out.mono HB1.out.size))
    exact ⟨rfl, (h2.alloc h2.size _).trans (HBZ.out.mono (by have := h2.size; simp; omega))⟩
  · obtain ⟨O, hO⟩ : ∃ O, parseL S = O := ⟨_, rfl⟩
    have HP := Lib.hid (fun w => z_Parse S w (by omega) hO)
    rw [hZ] at HP
    by_cases hlong : 3000 < S.length
    · have hl : decide ((3000 : Int) < (S.length : Int)) = true := decide_eq_true (by omega)
      have hl2 : (3000 : Int) < (S.length : Int) := by omega
      clear hZ hO
      go_wp2_with (first
        | (go_at_call 11; refine (HP.out _).mono ?_; rintro e w2 ⟨v, rfl, hv, hb2⟩; obtain ⟨a1, a2, c1, c2, rfl⟩ := hv.pg2; have HB2 := Lib.hid hb2; clear hv hb2)
        | (go_at_call 9; refine (z_awake _).mono ?_; rintro e wz ⟨rfl, hbz⟩; have HBZ := Lib.hid hbz; clear hbz))
      go_ret
      have h2 := (HB1.out.trans (HB2.out.mono HB1.out.size))
      exact ⟨rfl, (h2.alloc h2.size _).trans (HBZ.out.mono (by have := h2.size; simp; omega))⟩
    · have hl : decide ((3000 : Int) < (S.length : Int)) = false := decide_eq_false (by omega)
      have hl2 : ¬ (3000 : Int) < (S.length : Int) := by omega
      by_cases h0 : O.e = 0
      · obtain ⟨O2, hO2, he2, hat2⟩ := places_fact hN (by rw [hO]; exact h0) k hk15
        have hBl := getD_len badT_len k
        have HP2 := Lib.hid (fun w => z_Parse (S ++ badT.getD k []) w (by rw [List.length_append]; omega) hO2)
        have TA : ∀ W, Sem.run Try.prog (Op.stringOp .add Z (strB (badT.getD k []))) W = .ok (.string (strB (S ++ badT.getD k []))) W := run_plus S _ hZ.symm rfl rfl (by omega)
        have dB : ∀ W : World, (W.alloc (.cells #[.string ⟨#[120]⟩, .string ⟨#[108, 101, 116]⟩, .string ⟨#[108, 101, 116, 32, 88]⟩, .string ⟨#[108, 101, 116, 32, 102]⟩, .string ⟨#[108, 101, 116, 32, 102, 32, 61, 32]⟩, .string ⟨#[108, 101, 116, 32, 102, 32, 61, 32, 41, 59]⟩, .string ⟨#[100, 97, 116, 97, 32, 100]⟩, .string ⟨#[100, 97, 116, 97, 32, 68, 32, 61, 32, 59]⟩, .string ⟨#[100, 97, 116, 97, 32, 68, 32, 61, 32, 67, 32, 124, 59]⟩, .string ⟨#[108, 101, 116, 32, 102, 32, 61, 32, 40, 97, 44, 32, 59]⟩, .string ⟨#[108, 101, 116, 32, 102, 32, 61, 32, 99, 97, 115, 101, 32, 120, 32, 111, 102, 32, 123, 125, 59]⟩, .string ⟨#[108, 101, 116, 32, 102, 32, 61, 32, 92, 32, 45, 62, 32, 120, 59]⟩, .string ⟨#[108, 101, 116, 32, 102, 32, 61, 32, 105, 102, 32, 97, 32, 116, 104, 101, 110, 32, 98, 59]⟩, .string ⟨#[108, 101, 116, 32, 102, 32, 61, 32, 49]⟩, .string ⟨#[105, 110]⟩] 9)).cell? ⟨W.heap.size, k, none⟩ = some (.string (strB (badT.getD k []))) := fun W => tab_cell W badT k hk15 (vs := [.string ⟨#[120]⟩, .string ⟨#[108, 101, 116]⟩, .string ⟨#[108, 101, 116, 32, 88]⟩, .string ⟨#[108, 101, 116, 32, 102]⟩, .string ⟨#[108, 101, 116, 32, 102, 32, 61, 32]⟩, .string ⟨#[108, 101, 116, 32, 102, 32, 61, 32, 41, 59]⟩, .string ⟨#[100, 97, 116, 97, 32, 100]⟩, .string ⟨#[100, 97, 116, 97, 32, 68, 32, 61, 32, 59]⟩, .string ⟨#[100, 97, 116, 97, 32, 68, 32, 61, 32, 67, 32, 124, 59]⟩, .string ⟨#[108, 101, 116, 32, 102, 32, 61, 32, 40, 97, 44, 32, 59]⟩, .string ⟨#[108, 101, 116, 32, 102, 32, 61, 32, 99, 97, 115, 101, 32, 120, 32, 111, 102, 32, 123, 125, 59]⟩, .string ⟨#[108, 101, 116, 32, 102, 32, 61, 32, 92, 32, 45, 62, 32, 120, 59]⟩, .string ⟨#[108, 101, 116, 32, 102, 32, 61, 32, 105, 102, 32, 97, 32, 116, 104, 101, 110, 32, 98, 59]⟩, .string ⟨#[108, 101, 116, 32, 102, 32, 61, 32, 49]⟩, .string ⟨#[105, 110]⟩]) rfl
        have dF : ∀ W : World, (W.alloc (.cells #[.int .i64 0, .int .i64 3, .int .i64 4, .int .i64 5, .int .i64 8, .int .i64 8, .int .i64 5, .int .i64 9, .int .i64 12, .int .i64 12, .int .i64 19, .int .i64 10, .int .i64 19, .int .i64 9, .int .i64 0] 3)).cell? ⟨W.heap.size, k, none⟩ = some (.int .i64 ((farL.getD k 0 : Nat) : Int)) := fun W => tab_int W farL k hk15 (vs := [.int .i64 0, .int .i64 3, .int .i64 4, .int .i64 5, .int .i64 8, .int .i64 8, .int .i64 5, .int .i64 9, .int .i64 12, .int .i64 12, .int .i64 19, .int .i64 10, .int .i64 19, .int .i64 9, .int .i64 0]) rfl
        have gB : ∀ h : k < ([.string ⟨#[120]⟩, .string ⟨#[108, 101, 116]⟩, .string ⟨#[108, 101, 116, 32, 88]⟩, .string ⟨#[108, 101, 116, 32, 102]⟩, .string ⟨#[108, 101, 116, 32, 102, 32, 61, 32]⟩, .string ⟨#[108, 101, 116, 32, 102, 32, 61, 32, 41, 59]⟩, .string ⟨#[100, 97, 116, 97, 32, 100]⟩, .string ⟨#[100, 97, 116, 97, 32, 68, 32, 61, 32, 59]⟩, .string ⟨#[100, 97, 116, 97, 32, 68, 32, 61, 32, 67, 32, 124, 59]⟩, .string ⟨#[108, 101, 116, 32, 102, 32, 61, 32, 40, 97, 44, 32, 59]⟩, .string ⟨#[108, 101, 116, 32, 102, 32, 61, 32, 99, 97, 115, 101, 32, 120, 32, 111, 102, 32, 123, 125, 59]⟩, .string ⟨#[108, 101, 116, 32, 102, 32, 61, 32, 92, 32, 45, 62, 32, 120, 59]⟩, .string ⟨#[108, 101, 116, 32, 102, 32, 61, 32, 105, 102, 32, 97, 32, 116, 104, 101, 110, 32, 98, 59]⟩, .string ⟨#[108, 101, 116, 32, 102, 32, 61, 32, 49]⟩, .string ⟨#[105, 110]⟩] : List Value).length, ([.string ⟨#[120]⟩, .string ⟨#[108, 101, 116]⟩, .string ⟨#[108, 101, 116, 32, 88]⟩, .string ⟨#[108, 101, 116, 32, 102]⟩, .string ⟨#[108, 101, 116, 32, 102, 32, 61, 32]⟩, .string ⟨#[108, 101, 116, 32, 102, 32, 61, 32, 41, 59]⟩, .string ⟨#[100, 97, 116, 97, 32, 100]⟩, .string ⟨#[100, 97, 116, 97, 32, 68, 32, 61, 32, 59]⟩, .string ⟨#[100, 97, 116, 97, 32, 68, 32, 61, 32, 67, 32, 124, 59]⟩, .string ⟨#[108, 101, 116, 32, 102, 32, 61, 32, 40, 97, 44, 32, 59]⟩, .string ⟨#[108, 101, 116, 32, 102, 32, 61, 32, 99, 97, 115, 101, 32, 120, 32, 111, 102, 32, 123, 125, 59]⟩, .string ⟨#[108, 101, 116, 32, 102, 32, 61, 32, 92, 32, 45, 62, 32, 120, 59]⟩, .string ⟨#[108, 101, 116, 32, 102, 32, 61, 32, 105, 102, 32, 97, 32, 116, 104, 101, 110, 32, 98, 59]⟩, .string ⟨#[108, 101, 116, 32, 102, 32, 61, 32, 49]⟩, .string ⟨#[105, 110]⟩] : List Value)[k] = .string (strB (badT.getD k [])) := tab_at (l := badT) hk15 rfl
        have gF : ∀ h : k < ([.int .i64 0, .int .i64 3, .int .i64 4, .int .i64 5, .int .i64 8, .int .i64 8, .int .i64 5, .int .i64 9, .int .i64 12, .int .i64 12, .int .i64 19, .int .i64 10, .int .i64 19, .int .i64 9, .int .i64 0] : List Value).length, ([.int .i64 0, .int .i64 3, .int .i64 4, .int .i64 5, .int .i64 8, .int .i64 8, .int .i64 5, .int .i64 9, .int .i64 12, .int .i64 12, .int .i64 19, .int .i64 10, .int .i64 19, .int .i64 9, .int .i64 0] : List Value)[k] = .int .i64 ((farL.getD k 0 : Nat) : Int) := tab_atI (l := farL) hk15 rfl
        have hFb := farL_le hk15
        obtain ⟨F, hF⟩ : ∃ F, farL.getD k 0 = F := ⟨_, rfl⟩
        rw [hF] at hat2 dF gF hFb
        have hat3 : O2.at_ = (S.length : Int) + (F : Int) := by rw [hat2]; omega
        have e4 : (O2.e : Int) = 4 := by omega
        have e0 : (O.e : Int) = 0 := by omega
        generalize strB (badT.getD k []) = BK at *
        generalize strB (S ++ badT.getD k []) = ZK at *
        simp only [e4, hat3] at HP2
        simp only [e0] at HP
        clear hZ hO hO2 hat2 hF he2 h0 e4 e0 hat3
        go_wp2_with (first
          | (go_at_call 11; refine (HP.out _).mono ?_; rintro e w2 ⟨v, rfl, hv, hb2⟩; obtain ⟨a1, a2, c1, c2, rfl⟩ := hv.pg2; have HB2 := Lib.hid hb2; clear hv hb2 HP)
          | (go_at_call 12; refine (num_any _ _).mono ?_; rintro e w' ⟨rfl, hw⟩; have hw := hw.symm; subst hw))
        go_at_call 11
        refine (HP2.out _).mono ?_
        rintro e w3 ⟨v, rfl, hv, hb3⟩
        obtain ⟨b1, b2, d1, d2, rfl⟩ := hv.pg2
        have HB3 := Lib.hid hb3
        have bF := (Box.new ((w2.alloc (.cells #[.slice a1 O.p.datas.length c1, .slice a2 O.p.binds.length c2] 28)).alloc (.cells #[.string ⟨#[120]⟩, .string ⟨#[108, 101, 116]⟩, .string ⟨#[108, 101, 116, 32, 88]⟩, .string ⟨#[108, 101, 116, 32, 102]⟩, .string ⟨#[108, 101, 116, 32, 102, 32, 61, 32]⟩, .string ⟨#[108, 101, 116, 32, 102, 32, 61, 32, 41, 59]⟩, .string ⟨#[100, 97, 116, 97, 32, 100]⟩, .string ⟨#[100, 97, 116, 97, 32, 68, 32, 61, 32, 59]⟩, .string ⟨#[100, 97, 116, 97, 32, 68, 32, 61, 32, 67, 32, 124, 59]⟩, .string ⟨#[108, 101, 116, 32, 102, 32, 61, 32, 40, 97, 44, 32, 59]⟩, .string ⟨#[108, 101, 116, 32, 102, 32, 61, 32, 99, 97, 115, 101, 32, 120, 32, 111, 102, 32, 123, 125, 59]⟩, .string ⟨#[108, 101, 116, 32, 102, 32, 61, 32, 92, 32, 45, 62, 32, 120, 59]⟩, .string ⟨#[108, 101, 116, 32, 102, 32, 61, 32, 105, 102, 32, 97, 32, 116, 104, 101, 110, 32, 98, 59]⟩, .string ⟨#[108, 101, 116, 32, 102, 32, 61, 32, 49]⟩, .string ⟨#[105, 110]⟩] 9)) 3 [.int .i64 0, .int .i64 3, .int .i64 4, .int .i64 5, .int .i64 8, .int .i64 8, .int .i64 5, .int .i64 9, .int .i64 12, .int .i64 12, .int .i64 19, .int .i64 10, .int .i64 19, .int .i64 9, .int .i64 0]).below hb3
        rw [show ((w2.alloc (.cells #[.slice a1 O.p.datas.length c1, .slice a2 O.p.binds.length c2] 28)).alloc (.cells #[.string ⟨#[120]⟩, .string ⟨#[108, 101, 116]⟩, .string ⟨#[108, 101, 116, 32, 88]⟩, .string ⟨#[108, 101, 116, 32, 102]⟩, .string ⟨#[108, 101, 116, 32, 102, 32, 61, 32]⟩, .string ⟨#[108, 101, 116, 32, 102, 32, 61, 32, 41, 59]⟩, .string ⟨#[100, 97, 116, 97, 32, 100]⟩, .string ⟨#[100, 97, 116, 97, 32, 68, 32, 61, 32, 59]⟩, .string ⟨#[100, 97, 116, 97, 32, 68, 32, 61, 32, 67, 32, 124, 59]⟩, .string ⟨#[108, 101, 116, 32, 102, 32, 61, 32, 40, 97, 44, 32, 59]⟩, .string ⟨#[108, 101, 116, 32, 102, 32, 61, 32, 99, 97, 115, 101, 32, 120, 32, 111, 102, 32, 123, 125, 59]⟩, .string ⟨#[108, 101, 116, 32, 102, 32, 61, 32, 92, 32, 45, 62, 32, 120, 59]⟩, .string ⟨#[108, 101, 116, 32, 102, 32, 61, 32, 105, 102, 32, 97, 32, 116, 104, 101, 110, 32, 98, 59]⟩, .string ⟨#[108, 101, 116, 32, 102, 32, 61, 32, 49]⟩, .string ⟨#[105, 110]⟩] 9)).heap.size = w2.heap.size + 1 + 1 from by simp] at bF
        have cF := (bF.cell k).trans (by rw [List.getElem?_eq_getElem (show k < ([.int .i64 0, .int .i64 3, .int .i64 4, .int .i64 5, .int .i64 8, .int .i64 8, .int .i64 5, .int .i64 9, .int .i64 12, .int .i64 12, .int .i64 19, .int .i64 10, .int .i64 19, .int .i64 9, .int .i64 0] : List Value).length from hk15), gF])
        have hlF := bF.lt
        have CF := Lib.hid cF
        clear hv hb3 bF HP2 gB gF dB dF TA ek1 ek2 cF hl hl2 hbig hlong
        have cF := CF.out
        obtain ⟨NS, hNS⟩ : ∃ NS, S.length = NS := ⟨_, rfl⟩
        have hsum : IntKind.i64.wrap ((NS : Int) + (F : Int)) = (NS : Int) + (F : Int) := IntWalk.i64_in _ (by omega)
        have hsum2 : ((NS : Int) + (F : Int) == (NS : Int) + (F : Int)) = true := by simp
        rw [hNS] at hZs hSl ⊢
        clear hNS
        go_wp2_with (first
          | (go_at_call 12; refine (num_any _ _).mono ?_; rintro e w' ⟨rfl, hw⟩; have hw := hw.symm; subst hw)
          | (go_at_call 9; refine (z_awake _).mono ?_; rintro e wz ⟨rfl, hbz⟩; have HBZ := Lib.hid hbz; clear hbz))
        go_ret
        have h2 := HB1.out.trans (HB2.out.mono HB1.out.size)
        have h3 : Below w.heap.size w w3 := up2 (w := w) HB3.out (by (repeat (first | exact h2 | refine below_alloc ?_ (Nat.le_refl _) _)))
        have h4 := h3.alloc h3.size (.cells #[.slice b1 O2.p.datas.length d1, .slice b2 O2.p.binds.length d2] 28)
        exact ⟨rfl, up2 (w := w) HBZ.out h4⟩
      · have ene : ((O.e : Int) != 0) = true := by simp; omega
        clear hZ hO
        go_wp2_with (first
          | (go_at_call 11; refine (HP.out _).mono ?_; rintro e w2 ⟨v, rfl, hv, hb2⟩; obtain ⟨a1, a2, c1, c2, rfl⟩ := hv.pg2; have HB2 := Lib.hid hb2; clear hv hb2)
          | (go_at_call 12; refine (num_any _ _).mono ?_; rintro e w' ⟨rfl, hw⟩; have hw := hw.symm; subst hw)
          | (go_at_call 9; refine (z_awake _).mono ?_; rintro e wz ⟨rfl, hbz⟩; have HBZ := Lib.hid hbz; clear hbz))
        go_ret
        have h2 := (HB1.out.trans (HB2.out.mono HB1.out.size))
        exact ⟨rfl, (h2.alloc h2.size _).trans (HBZ.out.mono (by have := h2.size; simp; omega))⟩

end Go.Proofs.Yteiailpmieihnaa

namespace Go.Proofs.Yteiailpmieihnaa
open Go.ChangeShapes Go.WideShapes Go.ChangeAt Go.RowKit Go.Joins
open Go.ChangeMaps (open_string shut_string)
set_option linter.unusedVariables false

theorem parsePlaces_own : ownKnob Try.prog.godebug = none := by kernel_rfl
theorem parsePlaces_laidOut : laidOutB Try.prog = true := by kernel_rfl

set_option maxRecDepth 100000 in
theorem parsePlaces_lifted (os : Os) (started : os.Started) (H : Type) (enc : TypeId × Value → H) :
    ReturnsInHanded {} Try.checked os 5 .any (Rows.parsePlacesSpec.pre6 enc Try.prog Try.f5 Rows.parsePlacesRow.domain false) (Rows.parsePlacesSpec.post enc Try.prog Try.f5 false true false false) := by
  refine returnsInHanded_of_change (C := Try.checked) parsePlaces_own started (by kernel_rfl) Try.func5
    (ChangeSpec.witness6 (enc := enc) (C := Try.checked) false ⟨#[], #[.slice none 0 0, .int .u8 0], []⟩ 8 (by kernel_rfl) (by kernel_rfl) (by kernel_rfl) (by kernel_rfl)) ?_
  intro W base args ds gs before hval0 hW hcnd _
  have hval : ∀ (j : Nat) t v, Try.f5.params[j]? = some t → args[j]? = some v → Value.okWide Try.prog W .any base t v := hval0
  have hW' := hW
  obtain ⟨p, q, hA0, hV, rfl, hfz, hnd⟩ := hW
  have hA : DataW.TrodAll enc Try.prog W 0 (fun _ => true) true Try.f5.params.toList args.toList ds p := hA0
  rw [Try.params5] at hA hval
  obtain ⟨v0, vs0, d0, ds0, p0, q0, hargs, rfl, rfl, h0, r0⟩ := trodAll_cons hA
  obtain ⟨v1, vs1, d1, ds1, p1, q1, rfl, rfl, rfl, h1, r1⟩ := trodAll_cons r0
  obtain ⟨rfl, rfl, rfl⟩ := trodAll_nil r1
  obtain rfl : args = #[v0, v1] := by cases args; simp_all
  obtain ⟨rfl, rfl⟩ := trodVars_none hV
  have k0 := h0
  have lt0 : ∀ x ∈ p0, x.block < W.heap.size := by obtain ⟨m, hm⟩ := k0; exact DataW.trod_lt m _ _ _ hm
  have k1 := h1
  have lt1 : ∀ x ∈ p1, x.block < W.heap.size := by obtain ⟨m, hm⟩ := k1; exact DataW.trod_lt m _ _ _ hm
  obtain ⟨a_s, l_s, c_s, rfl⟩ := okWide_slice Try.underlying38 (hval 0 38 v0 rfl rfl)
  have grid_s : GB W a_s l_s c_s := by obtain ⟨fuel, hf⟩ := h0; exact GB_of_trod Try.underlying38 Try.underlying22 Try.underlying5 (by kernel_rfl) (by kernel_rfl) hf rfl
  obtain ⟨n, rfl, rfl, rfl, wf_n⟩ := open_int Try.underlying5 (hval 1 5 v1 rfl rfl) h1
  have bd_n : 0 ≤ n ∧ n ≤ 255 := by have h := wf_n; simp [Lit.wf, IntKind.min, IntKind.max, IntKind.signed, IntKind.bits] at h; omega
  obtain ⟨k_n, rfl⟩ : ∃ k : Nat, n = k := ⟨n.toNat, by omega⟩
  clear hA0 hval0
  refine (places_law a_s l_s c_s k_n W grid_s (by omega) (t_Source a_s l_s c_s W grid_s)).mono fun e W' ⟨he, bel⟩ => ?_
  subst he
  exact ⟨_, rfl, _, _, _, [], _, [], hW', trodAll_mk1 (shut_bool Try.underlying4 _), (trodAll_cons_mk (Below.trod parsePlaces_laidOut (by kernel_rfl) (of_decide_eq_true (by kernel_rfl)) k0 bel lt0) (trodAll_cons_mk (Below.trod parsePlaces_laidOut (by kernel_rfl) (of_decide_eq_true (by kernel_rfl)) k1 bel lt1) trodAll_mk0)), rfl, bel.frame _, fun h => by cases h⟩

theorem parsePlaces_holds : Rows.ParsePlacesSaid :=
  OpenClaim.holds_of_wide 5 Try.f5 rfl rfl rfl rfl rfl rfl rfl ⟨rfl, rfl, rfl, rfl, rfl⟩ rfl rfl rfl rfl rfl (by kernel_rfl) Try.func5 (by kernel_rfl)
    (of_decide_eq_true (by kernel_rfl)) (by unfold Func.isWrapper; first | (rw [if_pos (by decide +kernel)]; kernel_rfl) | (rw [if_neg (by decide +kernel)]; exact ⟨rfl, rfl⟩))
    (fun os started H enc _ => parsePlaces_lifted os started H enc)
#print axioms parsePlaces_holds

end Go.Proofs.Yteiailpmieihnaa
