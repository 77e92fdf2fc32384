/- Contracts of the document's Ints and of slices.Clone of ints; words for the walks of this seat. -/
import Derived.Test.YthhcchdjeeigpaaDoorBase
import Derived.Test.YthhcchdjeeigpaaDoorPartm
import Derived.Test.YthhcchdjeeigpaaDoorProg
namespace Go.Proofs.YthhcchdjeeigpaaDoor
open Go.RowKit
set_option linter.unusedVariables false



theorem ints_any (a b : Option Addr) (la lb ca cb : Nat) (xs ys : List Int) (w : World) {l1 l2 h1 h2 : Nat} (hx : Row l1 h1 w a la xs) (hy : Row l2 h2 w b lb ys) (hm : la ≤ 9223372036854775807) :
    Calls Tryd.prog 19 #[.slice a la ca, .slice b lb cb] w fun e w' => e = .returned (.bool (decide (xs = ys))) ∧ ∃ n, w' = w.drewN n := by
  obtain ⟨hlx, hx⟩ := hx
  obtain ⟨hly, hy⟩ := hy
  by_cases hne : la = lb
  · obtain rfl := hne
    rcases hx with h0 | ⟨bx, ox, rfl, _, hbx, hcx⟩
    · subst h0
      have : xs = [] := List.length_eq_zero_iff.1 hlx
      have : ys = [] := List.length_eq_zero_iff.1 hly
      subst xs ys
      go_enter Tryd.func19, Tryd.ntmps19
      go_wp2
      go_rounds 1
      go_ret
      exact ⟨rfl, 0, rfl⟩
    · rcases hy with h0 | ⟨by', oy, rfl, _, hby, hcy⟩
      · subst h0
        have : xs = [] := List.length_eq_zero_iff.1 hlx
        have : ys = [] := List.length_eq_zero_iff.1 hly
        subst xs ys
        go_enter Tryd.func19, Tryd.ntmps19
        go_wp2
        go_rounds 1
        go_ret
        exact ⟨rfl, 0, rfl⟩
      · have HX : Hid (∀ i, i < la → w.cell? ⟨bx, ox + i, none⟩ = some (.int .i64 (xs.getD i 0))) := hcx
        have HY : Hid (∀ i, i < la → w.cell? ⟨by', oy + i, none⟩ = some (.int .i64 (ys.getD i 0))) := hcy
        have HL : Hid (xs.length = la ∧ ys.length = la) := ⟨hlx, hly⟩
        clear hcx hcy hlx hly
        go_enter Tryd.func19, Tryd.ntmps19
        go_wp2
        go_loopw [5] (fun i wr => ∃ k n : Nat, k ≤ la ∧ i = .int .i64 k ∧ wr = w.drewN n ∧ Hid (xs.take k = ys.take k)) (fun i _ => la - (intOf i).toNat)
        case atStart => exact ⟨0, 0, Nat.zero_le _, rfl, rfl, by simp [Hid]⟩
        case round =>
          obtain ⟨k, n, hk, rfl, rfl, hp⟩ := hrel
          by_cases hlt : k < la
          · have c1 := HX.out k hlt
            have c2 := HY.out k hlt
            obtain ⟨x, hxk⟩ : ∃ x, xs.getD k 0 = x := ⟨_, rfl⟩
            obtain ⟨y, hyk⟩ : ∃ y, ys.getD k 0 = y := ⟨_, rfl⟩
            rw [hxk] at c1
            rw [hyk] at c2
            have HXk : Hid (xs.getD k 0 = x) := hxk
            have HYk : Hid (ys.getD k 0 = y) := hyk
            clear hxk hyk
            by_cases he : x = y
            · subst he
              go_wp2
              go_quiet (fail)
              go_wp2
              go_roundw
              case rel => exact ⟨k + 1, _, by omega, by go_num, rfl, take_succ_eq (by rw [HL.out.1]; exact hlt) (by rw [HL.out.2]; exact hlt) hp.out (HXk.out.trans HYk.out.symm)⟩
              case measure => simp [intOf]; omega
            · go_wp2
              go_quiet (fail)
              go_wp2
              go_ret
              refine ⟨?_, _, World.drewN_drewN _ _ _⟩
              have : xs ≠ ys := by
                rintro rfl
                exact he (HXk.out.symm.trans HYk.out)
              simp [this]
          · go_wp2
            go_ret
            refine ⟨?_, _, rfl⟩
            obtain rfl : k = la := by omega
            have := hp.out
            rw [List.take_of_length_le (by have := HL.out.1; omega), List.take_of_length_le (by have := HL.out.2; omega)] at this
            simp [this]
  · have hn : xs ≠ ys := by rintro rfl; omega
    have hni : ((la : Int) == (lb : Int)) = false := by simp; omega
    clear hlx hly hx hy
    go_enter Tryd.func19, Tryd.ntmps19
    go_wp2
    go_ret
    exact ⟨by simp [hn], 0, rfl⟩



theorem Tryd.info3 : (Tryd.prog.info? 3).map (fun i => (i.zero, i.size, i.bytes)) = some (some (.int .i64 0), 1, 8) := by kernel_rfl

theorem clone_any (a : Option Addr) (la ca : Nat) (xs : List Int) (w : World) {lo hi : Nat} (hx : Row lo hi w a la xs) (hhi : hi ≤ w.heap.size) (hm : la ≤ 1000000) :
    Calls Tryd.prog 73 #[.slice a la ca] w fun e w' => ∃ a' c', e = .returned (.slice a' la c') ∧ Row w.heap.size w'.heap.size w' a' la xs ∧ Below w.heap.size w w' := by
  have hne := fun (w : World) (a : Option Addr) (n c : Nat) => Lib.run_eql_slice_nil (P := Tryd.prog) w 22 3 a n c 0 0 Tryd.underlying22
  cases a with
  | none =>
    have h0 : la = 0 := hx.nil_len
    subst h0
    go_enter Tryd.func73, Tryd.ntmps73
    go_wp2
    go_ret
    exact ⟨_, _, rfl, ⟨hx.1, .inl rfl⟩, Below.refl _ _⟩
  | some a =>
    obtain ⟨i0, hi0, hz0, hz1, hz2⟩ := info_parts Tryd.info3
    have hb0 : Below w.heap.size w (w.alloc (.cells #[] 3)) := (Below.refl _ _).alloc (Nat.le_refl _) _
    go_enter Tryd.func73, Tryd.ntmps73
    go_wp2_with (at_builtin; refine wpList_append_own _ rfl _ _ 22 rfl w.heap.size 3 i0 (.int .i64 0) 1 8 Tryd.underlying22 hi0 hz0 hz1 hz2 rfl (by decide) _ 0 [] rfl ?c0 a la ca (xs.map (Value.int .i64)) rfl ?c1 ?c2 ?c3 ?c4 ?c5 ?c6 ?_)
    case c0 => exact World.ownsRow_made w #[] 0 (Nat.le_refl _) (by decide) rfl
    case c1 => simp [hx.1]
    case c2 => exact (hx.alloc hhi _).news
    case c3 => exact ints_oneCell _ _
    case c4 => unfold maxLen; omega
    case c5 => omega
    case c6 => simp
    intro v' w1 hown hgr hnn
    have hb1 : Below w.heap.size w w1 := hb0.grown hgr (by simp) (by rintro k hk; cases hk; exact Nat.le_refl _)
    obtain ⟨a', c', rfl, hr⟩ := RowF.of_owns (f := Value.int .i64) (d := (0 : Int)) (xs := xs) (by rw [hx.1]; exact hown)
    clear hown hgr hnn hb0
    go_wp2
    go_ret
    rw [hx.1] at hr ⊢
    exact ⟨_, _, rfl, hr, hb1⟩


/-- A slice of numbers that are not below 0. -/
abbrev RowN := RowF (fun n : Nat => Value.int .i64 (n : Int)) (0 : Nat)

section
variable {lo hi : Nat} {w w' : World} {a : Option Addr} {len : Nat} {p : List Nat}
theorem RowF.ints (h : RowN lo hi w a len p) : Row lo hi w a len (p.map fun n : Nat => (n : Int)) := by
  obtain ⟨h1, h2⟩ := h
  refine ⟨by simpa using h1, h2.imp id fun ⟨b, off, e, hb, hh, hc⟩ => ⟨b, off, e, hb, hh, fun i hi => ?_⟩⟩
  rw [hc i hi]
  simp [List.getD, show i < p.length by omega]
theorem RowF.nats {xs : List Int} (h : Row lo hi w a len xs) (hn : ∀ i, i < len → 0 ≤ xs.getD i 0) : RowN lo hi w a len (xs.map Int.toNat) := by
  obtain ⟨h1, h2⟩ := h
  refine ⟨by simpa using h1, h2.imp id fun ⟨b, off, e, hb, hh, hc⟩ => ⟨b, off, e, hb, hh, fun i hi => ?_⟩⟩
  rw [hc i hi]
  have := hn i hi
  simp [List.getD, show i < xs.length by omega] at this ⊢
  omega
theorem RowF.at_ (h : RowN lo hi w a len p) {i : Nat} (hi' : i < len) : ∃ b off, a = some ⟨b, off, none⟩ ∧ lo ≤ b ∧ b < hi ∧ ∀ i, i < len → w.cell? ⟨b, off + i, none⟩ = some (.int .i64 (el p i : Nat)) :=
  h.2.resolve_left (by omega)
theorem RowF.len_ (h : RowN lo hi w a len p) : p.length = len := h.1
end

theorem ints_eq {p q : List Nat} : decide (p.map (fun n : Nat => (n : Int)) = q.map (fun n : Nat => (n : Int))) = decide (p = q) := by
  have : Function.Injective (fun n : Nat => (n : Int)) := fun a b h => Int.ofNat_inj.1 h
  rw [decide_eq_decide]
  exact List.map_inj_right this

end Go.Proofs.YthhcchdjeeigpaaDoor
