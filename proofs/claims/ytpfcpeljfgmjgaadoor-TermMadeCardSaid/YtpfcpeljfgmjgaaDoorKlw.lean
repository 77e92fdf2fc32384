/- The laws' awake. -/
import Derived.Test.YtpfcpeljfgmjgaaDoorKml
import Derived.Test.YtpfcpeljfgmjgaaDoorKtt
import Derived.Test.YtpfcpeljfgmjgaaDoorKit
import Derived.Test.YtpfcpeljfgmjgaaDoorKca
import Derived.Test.YtpfcpeljfgmjgaaDoorKna
import Derived.Test.YtpfcpeljfgmjgaaDoorKsa
namespace Go.Proofs.YtpfcpeljfgmjgaaDoor
open Go.RowKit
set_option linter.unusedVariables false
set_option linter.unusedSimpArgs false

theorem itw_small (B : Nat) (w : World) (n : Nat) (h : n < 100) : ITW B w n := fun w' _ => (Go.Proofs.YtpfcpeljfgmjgaaDoor.itoa_small n h w').mono (by rintro e w'' ⟨rfl, rfl⟩; exact ⟨rfl, Below.refl _ _⟩)
def awT : Ty := arT (vrT 3) (vrT 0)
theorem txt_b1 : strB (textL (vrT 27)) = ⟨#[98, 49]⟩ := by
  have h : textL (vrT 27) = [98, 49] := by rw [vrT, textL_var]; unfold varTx; rw [if_pos (by decide), show (Int.toNat 27 / 26) = 1 from rfl, show (Int.toNat 27 % 26) = 1 from rfl]; unfold Lib.decDigits; simp
  rw [h]; rfl
theorem can_awT : canonL awT = arT (vrT 0) (vrT 1) := by rfl
theorem txt_ab : strB (textL (canonL awT)) = ⟨#[97, 32, 45, 62, 32, 98]⟩ := by
  have h : textL (canonL awT) = [97, 32, 45, 62, 32, 98] := by
    rw [can_awT, arT, textL_arr, vrT, vrT, textL_var, textL_var]; decide
  rw [h]; rfl
theorem may_awT : mayL 100 awT = true := by decide
theorem may_can : mayL 100 (canonL awT) = true := by rw [can_awT]; decide
theorem may_27 : mayL 100 (vrT 27) = true := by decide
theorem sz_awT : min awT.nn 401 = 3 := by decide
set_option maxRecDepth 100000 in
set_option maxHeartbeats 4000000 in
theorem awake_law (w : World) : Calls Tryd.prog 19 #[] w fun e w' => e = .returned (.bool true) ∧ Below w.heap.size w w' := by
  have HT : Hid (∀ W, Calls Tryd.prog 32 #[.agg #[.int .i64 1, .int .i64 27, .string ⟨#[]⟩, .slice none 0 0]] W fun e w' => e = .returned (.string ⟨#[98, 49]⟩) ∧ Below W.heap.size W w') := by
    show ∀ W, _
    intro W
    have := ty_Text (vrT 27) (fun _ => True) _ W (vr_isV _ W 27) may_27 (by decide) (fun v hv h26 => by
      simp [vrT, Ty.vs, Ty.vss] at hv; subst hv; exact itw_small _ _ _ (by decide))
    rwa [txt_b1] at this
  have HT2 : Hid (∀ (W : World) (u : Value), IsV (fun _ => True) W (tyC (canonL awT)) u → Calls Tryd.prog 32 #[u] W fun e w' => e = .returned (.string ⟨#[97, 32, 45, 62, 32, 98]⟩) ∧ Below W.heap.size W w') := by
    show ∀ (W : World) (u : Value), _
    intro W u hu
    have := ty_Text (canonL awT) (fun _ => True) u W hu may_can (by rw [can_awT]; decide) (fun v hv h26 => by
      rw [can_awT] at hv
      simp [arT, vrT, Ty.vs, Ty.vss] at hv; omega)
    rwa [txt_ab] at this
  go_enter Tryd.func19, Tryd.ntmps19
  go_upto_region 2 with (first
    | (go_at_call 35; (with_reducible refine (r_Var 3 _).mono ?_); rintro e w1 ⟨rfl, hb1⟩; have HB1 := Lib.hid hb1; clear hb1)
    | (go_at_call 35; (with_reducible refine (r_Var 0 _).mono ?_); rintro e w2 ⟨rfl, hb2⟩; have HB2 := Lib.hid (HB1.out.trans (hb2.mono HB1.out.size)); clear hb2))
  have hin := two_new (x := vrT 3) (y := vrT 0) (S := fun _ => True) (vr_isV _ w2 3) (vr_isV _ w2 0) trivial
  obtain ⟨W3, hW3⟩ : ∃ W3, w2.alloc (.cells #[.int .i64 1, .int .i64 3, .string ⟨#[]⟩, .slice none 0 0, .int .i64 1, .int .i64 0, .string ⟨#[]⟩, .slice none 0 0] 47) = W3 := ⟨_, rfl⟩
  rw [hW3] at hin
  have hsz3 : W3.heap.size = w2.heap.size + 1 := by rw [← hW3]; simp
  have hb3 : Below w.heap.size w W3 := hW3 ▸ HB2.out.alloc HB2.out.size _
  rw [hW3, ← hsz3]
  obtain ⟨W4, hW4⟩ : ∃ W4, W3.alloc (.cells #[.int .i64 2, .int .i64 0, .string ⟨#[45, 62]⟩, .slice (some ⟨w2.heap.size, 0, none⟩) 2 2] 47) = W4 := ⟨_, rfl⟩
  have hb34 : Below W3.heap.size W3 W4 := hW4 ▸ (Below.refl _ W3).alloc (Nat.le_refl _) _
  have hbx : Box W4 W3.heap.size 47 [.int .i64 2, .int .i64 0, .string ⟨#[45, 62]⟩, .slice (some ⟨w2.heap.size, 0, none⟩) 2 2] := hW4 ▸ Box.new W3 47 [.int .i64 2, .int .i64 0, .string ⟨#[45, 62]⟩, .slice (some ⟨w2.heap.size, 0, none⟩) 2 2]
  have HV : Hid (IsV (fun _ => True) W4 (tyC awT) (.agg #[.int .i64 2, .int .i64 0, .string ⟨#[45, 62]⟩, .slice (some ⟨w2.heap.size, 0, none⟩) 2 2])) := (IsV.of_ty (n := 0) (s := tArrow) hin).under hb34
  have HB4 : Hid (Below w.heap.size w W4) := hb3.trans (hb34.mono hb3.size)
  have HBX := Lib.hid hbx
  obtain ⟨_, _, _, _⟩ := four_cells hbx
  have hlx := hbx.lt
  rw [hW4]
  clear hW3 hW4 hsz3 hb3 hb34 hin hbx HB1 HB2
  go_wp2_with (first
    | (go_at_call 35; (with_reducible refine (r_Var 27 _).mono ?_); rintro e w5 ⟨rfl, hb5⟩; have HB5 := Lib.hid hb5; have hx5 := HBX.out.below hb5; obtain ⟨_, _, _, _⟩ := four_cells hx5; have hlx5 := hx5.lt; have HBX5 := Lib.hid hx5; clear hb5 hx5)
    | (go_at_call 32; (with_reducible refine (HT.out _).mono ?_); rintro e w6 ⟨rfl, hb6⟩; have HB6 : Hid (Below W4.heap.size W4 w6) := HB5.out.trans (hb6.mono HB5.out.size); have hx6 := HBX5.out.below hb6; obtain ⟨_, _, _, _⟩ := four_cells hx6; have hlx6 := hx6.lt; have HBX6 := Lib.hid hx6; clear hb6 hx6)
    | (go_at_call 30; (with_reducible refine (ty_Canon awT _ _ _ (HV.out.under HB6.out) may_awT (by decide)).mono ?_); rintro e w7 ⟨v7, rfl, hv7, hb7⟩; have HV7 := Lib.hid (hv7.mono fun _ _ _ => trivial : IsV (fun _ => True) w7 (tyC (canonL awT)) v7); obtain ⟨k7, n7, s7, a7, m7, c7, rfl⟩ := hv7.tys; have HB7 : Hid (Below W4.heap.size W4 w7) := HB6.out.trans (hb7.mono HB6.out.size); have hx7 := HBX6.out.below hb7; obtain ⟨_, _, _, _⟩ := four_cells hx7; have hlx7 := hx7.lt; have HBX7 := Lib.hid hx7; clear hb7 hx7 hv7)
    | (go_at_call 32; (with_reducible refine (HT2.out _ _ HV7.out).mono ?_); rintro e w8 ⟨rfl, hb8⟩; have HB8 : Hid (Below W4.heap.size W4 w8) := HB7.out.trans (hb8.mono HB7.out.size); have hx8 := HBX7.out.below hb8; obtain ⟨_, _, _, _⟩ := four_cells hx8; have hlx8 := hx8.lt; clear hb8 hx8)
    | (go_at_call 22; (with_reducible refine (ty_Size awT _ _ _ (HV.out.under HB8.out)).mono ?_); rw [sz_awT]; rintro e w9 ⟨rfl, hb9⟩; have HB9 : Hid (Below W4.heap.size W4 w9) := HB8.out.trans (hb9.mono HB8.out.size); clear hb9))
  go_ret
  exact ⟨rfl, HB4.out.trans (HB9.out.mono HB4.out.size)⟩

end Go.Proofs.YtpfcpeljfgmjgaaDoor
