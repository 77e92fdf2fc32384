/- The law ParseAll: what any text is as a program, or where it is none, is the document's. -/
import Derived.Test.YtccilgemfkdmkaaGreatYparm
import Derived.Test.YtccilgemfkdmkaaGreatYsp
import Derived.Test.YtccilgemfkdmkaaGreatZI
import Derived.Test.YtccilgemfkdmkaaGreatZA
import Derived.Deep.RegionHeld3
namespace Go.Proofs.YtccilgemfkdmkaaGreat
open Go.RowKit Go.Maps
set_option linter.unusedVariables false
set_option linter.unusedSimpArgs false

theorem quiet_y {F : Nat} {args : Array Value} {v : Value} (h : ∀ w, Calls Tryz.prog F args w fun e w' => e = .returned v ∧ w' = w) (B : World) : ∀ w', Below B.heap.size B w' → Calls Tryz.prog F args w' fun e w'' => e = .returned v ∧ Below w'.heap.size w' w'' :=
  fun w' _ => (h w').mono fun _ _ ⟨h1, h2⟩ => ⟨h1, by rw [h2]; exact Below.refl _ _⟩
theorem below_nxy {B : Nat} {w w' w'' : World} (h : Below B w w') (k : Below w'.heap.size w' w'') (hB : B ≤ w.heap.size) : Below B w w'' := h.trans (k.mono (Nat.le_trans hB h.size))
theorem same_prog_below (P : Pg) {S S' : Nat → Prop} {v v' : Value} {B : World} (h : IsV S B (pgC P) v) (h' : IsV S' B (pgC P) v') : ∀ w', Below B.heap.size B w' → Calls Tryz.prog 8 #[v, v'] w' fun e w'' => e = .returned (.bool true) ∧ Below w'.heap.size w' w'' :=
  fun w' hw => same_program P S S' v v' w' (h.under hw) (h'.under hw)

set_option maxRecDepth 100000 in
set_option maxHeartbeats 4000000 in
theorem parse_all_law (Z : ByteArray) (w : World) (hZ : Z.size ≤ 9223372036854775807) :
    Calls Tryz.prog 3 #[.string Z] w fun e w' => e = .returned (.bool true) ∧ Below w.heap.size w w' := by
  by_cases h1 : 3000 < Z.size
  · go_enter Tryz.func3, Tryz.ntmps3
    go_wp2_with (go_at_call 5; refine (z_awake _).mono ?_; rintro e w' ⟨rfl, hb⟩)
    go_ret
    exact ⟨rfl, hb⟩
  · obtain ⟨S, hS⟩ : ∃ S, Z.data.toList = S := ⟨_, rfl⟩
    have hZS := eq_strB hS
    have hSl : S.length ≤ 3000 := by rw [hZS, strB_size] at h1; omega
    obtain ⟨O, hO⟩ : ∃ O, parseL S = O := ⟨_, rfl⟩
    have HP := Lib.hid (fun w => z_Parse S w (by omega) hO)
    have HY := Lib.hid (fun w => y_Parse S w (by omega) hO)
    rw [← hZS] at HP HY
    clear hZS hS hO
    go_enter Tryz.func3, Tryz.ntmps3
    go_wp2_with (go_at_call 6; refine (HP.out _).mono ?_; rintro e w2 ⟨v, rfl, hv, hb2⟩; obtain ⟨a1, a2, c1, c2, rfl⟩ := hv.pg2; have HV := Lib.hid hv; have HB2 := Lib.hid hb2; clear hv hb2)
    obtain ⟨w2a, hw2a⟩ : ∃ x, w2.alloc (.cells #[.slice a1 O.p.datas.length c1, .slice a2 O.p.binds.length c2] 26) = x := ⟨_, rfl⟩
    have bp := Box.new w2 26 [.slice a1 O.p.datas.length c1, .slice a2 O.p.binds.length c2]
    have hba : Below w2.heap.size w2 (w2.alloc (.cells #[.slice a1 O.p.datas.length c1, .slice a2 O.p.binds.length c2] 26)) := (Below.refl _ _).alloc (Nat.le_refl _) _
    rw [show (w2.alloc (.cells ([.slice a1 O.p.datas.length c1, .slice a2 O.p.binds.length c2] : List Value).toArray 26)) = w2a from hw2a] at bp
    rw [hw2a] at hba
    have hs2 := bp.lt
    go_at_call 7
    try rw [hw2a]
    refine (HY.out _).mono ?_
    rintro e w3 ⟨a, b, rfl, hv3, hb3⟩
    obtain ⟨b1, b2, d1, d2, hab⟩ := hv3.pg2
    simp only [Value.agg.injEq, Array.mk.injEq, List.cons.injEq, and_true] at hab
    obtain ⟨rfl, rfl⟩ := hab
    have bp3 := bp.below hb3
    have HV2 := HV.out.under (hba.trans (hb3.mono hba.size))
    have HB3 := Lib.hid (HB2.out.trans ((hba.trans (hb3.mono hba.size)).mono HB2.out.size))
    have HV3 := Lib.hid hv3
    clear hb3 hba bp hw2a hv3
    go_wp2_with fail
    have HX := Lib.hid (show Below w.heap.size w (w3.alloc (.cells #[.slice b1 O.p.datas.length d1, .slice b2 O.p.binds.length d2, .int .i64 (O.e : Int), .int .i64 O.at_] 31)) from HB3.out.alloc HB3.out.size _)
    have bq := Box.new w3 31 [.slice b1 O.p.datas.length d1, .slice b2 O.p.binds.length d2, .int .i64 (O.e : Int), .int .i64 O.at_]
    have hb5 : Below w3.heap.size w3 (w3.alloc (.cells #[.slice b1 O.p.datas.length d1, .slice b2 O.p.binds.length d2, .int .i64 (O.e : Int), .int .i64 O.at_] 31)) := (Below.refl _ _).alloc (Nat.le_refl _) _
    have bp5 := bp3.below hb5
    have hv5 := HV2.under hb5
    have hv6 := HV3.out.under hb5
    have hzz : ((O.e : Int) == (O.e : Int)) = true := by simp
    have hyy : (O.at_ == O.at_) = true := by simp
    obtain ⟨w5, hw5⟩ : ∃ w5, w3.alloc (.cells #[.slice b1 O.p.datas.length d1, .slice b2 O.p.binds.length d2, .int .i64 (O.e : Int), .int .i64 O.at_] 31) = w5 := ⟨_, rfl⟩
    rw [show (w3.alloc (.cells ([.slice b1 O.p.datas.length d1, .slice b2 O.p.binds.length d2, .int .i64 (O.e : Int), .int .i64 O.at_] : List Value).toArray 31)) = w5 from hw5] at bq
    rw [hw5] at HX bp5 hv5 hv6 ⊢
    clear hb5 hw5
    obtain ⟨nd, hnd⟩ : ∃ nd, O.p.datas.length = nd := ⟨_, rfl⟩
    obtain ⟨nb, hnb⟩ : ∃ nb, O.p.binds.length = nb := ⟨_, rfl⟩
    obtain ⟨E, hE⟩ : ∃ E : Int, (O.e : Int) = E := ⟨_, rfl⟩
    obtain ⟨A, hA⟩ : ∃ A : Int, O.at_ = A := ⟨_, rfl⟩
    have H1 := same_prog_below O.p hv5 hv6
    rw [hnd, hnb] at H1 bp5 bq
    rw [hE, hA] at bq
    rw [hnd, hnb]
    rw [hE] at hzz ⊢
    rw [hA] at hyy ⊢
    replace H1 := Lib.hid H1
    have H2 := Lib.hid (quiet_y (fun w => num_any E w) w5)
    have H7 : Hid (∀ w', Below w5.heap.size w5 w' → Calls Tryz.prog 5 #[] w' fun e w'' => e = .returned (.bool true) ∧ Below w'.heap.size w' w'') := fun w' _ => z_awake w'
    have HK : Hid (∀ w', Below w5.heap.size w5 w' → (Below w5.heap.size w5 w' ∧ w'.cell? ⟨w2.heap.size, 0, none⟩ = some (.slice a1 nd c1) ∧ w'.cell? ⟨w2.heap.size, 1, none⟩ = some (.slice a2 nb c2) ∧ w'.cell? ⟨w3.heap.size, 0, none⟩ = some (.slice b1 nd d1) ∧ w'.cell? ⟨w3.heap.size, 1, none⟩ = some (.slice b2 nb d2) ∧ w'.cell? ⟨w3.heap.size, 2, none⟩ = some (.int .i64 E) ∧ w'.cell? ⟨w3.heap.size, 3, none⟩ = some (.int .i64 A))) :=
      fun w' h => ⟨h, (bp5.below h).cell 0, (bp5.below h).cell 1, (bq.below h).cell 0, (bq.below h).cell 1, (bq.below h).cell 2, (bq.below h).cell 3⟩
    have hs3 := bq.lt
    have hs4 := bp5.lt
    clear HP HY HV HV3 HB2 HB3 HV2 bp3 bp5 bq hv5 hv6 hnd hnb hE hA
    go_region_held3 (fun w' => Below w5.heap.size w5 w' ∧ w'.cell? ⟨w2.heap.size, 0, none⟩ = some (.slice a1 nd c1) ∧ w'.cell? ⟨w2.heap.size, 1, none⟩ = some (.slice a2 nb c2) ∧ w'.cell? ⟨w3.heap.size, 0, none⟩ = some (.slice b1 nd d1) ∧ w'.cell? ⟨w3.heap.size, 1, none⟩ = some (.slice b2 nb d2) ∧ w'.cell? ⟨w3.heap.size, 2, none⟩ = some (.int .i64 E) ∧ w'.cell? ⟨w3.heap.size, 3, none⟩ = some (.int .i64 A))
      (first
        | exact HK.out _ (Below.refl _ _).drew
        | exact HK.out _ (below_nxy (And.left (by assumption)) hbz (Nat.le_refl _)))
      (first
        | (go_at_call 8; (with_reducible refine (H1.out _ ?_).mono ?_); exact And.left (by assumption); rintro e wz ⟨rfl, hbz⟩)
        | (go_at_call 9; (with_reducible refine (H2.out _ ?_).mono ?_); exact And.left (by assumption); rintro e wz ⟨rfl, hbz⟩)
        | (go_at_call 5; (with_reducible refine (H7.out _ ?_).mono ?_); exact And.left (by assumption); rintro e wz ⟨rfl, hbz⟩))
    all_goals go_wp2
    all_goals go_ret
    all_goals refine ⟨rfl, HX.out.trans (Below.mono (B := w5.heap.size) ?_ HX.out.size)⟩
    all_goals exact And.left (by assumption)

end Go.Proofs.YtccilgemfkdmkaaGreat
