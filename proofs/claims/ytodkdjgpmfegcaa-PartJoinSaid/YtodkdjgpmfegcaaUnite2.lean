/- Contract of the document's Unite. -/
import Derived.Test.YtodkdjgpmfegcaaUnite
namespace Go.Proofs.Ytodkdjgpmfegcaa
open Go.RowKit
set_option linter.unusedVariables false

set_option maxRecDepth 100000 in
set_option maxHeartbeats 1000000 in
theorem runite_any (a : Option Addr) (la ca : Nat) (p : List Nat) (x y : Int) (w : World) {lo hi : Nat} (hp : RowN lo hi w a la p) (hhi : hi ≤ w.heap.size) (hm : la ≤ 1000000) (hnil : a = none → ca = 0) :
    Calls Try.prog 18 #[.slice a la ca, .int .i64 x, .int .i64 y] w fun e w' => ∃ a' c', e = .returned (.slice a' la c') ∧ RowN w.heap.size w'.heap.size w' a' la (uniL p x y) ∧ (a' = none → c' = 0) ∧ Below w.heap.size w w' := by
  have HP := Lib.hid hp
  have hl := hp.1
  obtain ⟨i0, hi0, hz0, hz1, hz2⟩ := info_parts Try.info3
  have HB0 : Hid (Below w.heap.size w (w.alloc (.cells #[] 3))) := (Below.refl _ _).alloc (Nat.le_refl _) _
  have HNIL : Hid (a = none → la = 0 ∧ ca = 0) := fun h => ⟨RowF.nil_len (h ▸ hp), hnil h⟩
  have HNEW : Hid (∀ ad, a = some ad → ∀ j u, (intsOf p)[j]? = some u → (w.alloc (.cells #[] 3)).cell? (ad.add j) = some u) := fun ad h => RowF.news (h ▸ hp.alloc hhi _)
  clear hp hnil
  by_cases hx : 0 ≤ x ∧ x < la
  · by_cases hy : 0 ≤ y ∧ y < la
    · obtain ⟨i, rfl⟩ : ∃ i : Nat, x = i := ⟨x.toNat, by omega⟩
      obtain ⟨j, rfl⟩ : ∃ j : Nat, y = j := ⟨y.toNat, by omega⟩
      have hi' : i < la := by omega
      have hj' : j < la := by omega
      obtain ⟨b, off, rfl, _, hbb, hc⟩ := HP.out.at_ hi'
      have ci := hc i hi'
      have cj := hc j hj'
      have e : uniL p i j = p.map (join (el p i) (el p j)) := by
        unfold uniL; rw [if_pos (by simp [inB]; omega)]; simp
      obtain ⟨u, hu⟩ : ∃ u, el p i = u := ⟨_, rfl⟩
      obtain ⟨v, hv⟩ : ∃ v, el p j = v := ⟨_, rfl⟩
      rw [e]
      rw [hu] at ci ⊢
      rw [hv] at cj ⊢
      have hx0 : (0 : Int) ≤ i := by omega
      have hy0 : (0 : Int) ≤ j := by omega
      have hx1 : (i : Int) < la := by omega
      have hy1 : (j : Int) < la := by omega
      have HL := Lib.hid hl
      obtain ⟨A, HA⟩ : ∃ A, Hid (A = min u v) := ⟨_, rfl⟩
      obtain ⟨B, HB⟩ : ∃ B, Hid (B = max u v) := ⟨_, rfl⟩
      have EA : (if v < u then (v : Int) else (u : Int)) = (A : Int) := by have := HA.out; split <;> omega
      have EB : (if u < v then (v : Int) else (u : Int)) = (B : Int) := by have := HB.out; split <;> omega
      clear hc hl e hu hv hx hy
      go_enter Try.func18, Try.ntmps18
      go_wp2_with (at_builtin; refine wpList_append_any rfl _ _ 22 rfl w.heap.size 3 i0 (.int .i64 0) 1 8 Try.underlying22 hi0 hz0 hz1 hz2 rfl (by decide) _ 0 [] rfl ?c0 _ la ca (intsOf p) rfl ?cn ?c1 ?c2 ?c3 ?c4 ?c5 ?c6 ?_)
      case c0 => exact World.ownsRow_made w #[] 0 (Nat.le_refl _) (by decide) rfl
      case cn => exact HNIL.out
      case c1 => simp [intsOf, HL.out]
      case c2 => exact HNEW.out
      case c3 => intro u hu; simp [intsOf] at hu; obtain ⟨n, _, rfl⟩ := hu; rfl
      case c4 => unfold maxLen; omega
      case c5 => omega
      case c6 => simp
      intro v7 w1 hown hgr
      have hb1 : Below w.heap.size w w1 := HB0.out.grown hgr (by simp) (by rintro k hk; cases hk; exact Nat.le_refl _)
      clear hgr
      obtain ⟨a7, c7, e7, _⟩ := RowF.owned hown HL.out
      subst e7
      have c1 := (hb1.cell (p := ⟨b, off + i, none⟩) (by show b < _; omega)).trans ci
      have c2 := (hb1.cell (p := ⟨b, off + j, none⟩) (by show b < _; omega)).trans cj
      have hs1 := hb1.size
      have hbb1 : b < w1.heap.size := by omega
      clear ci cj
      go_wp2_with fail
      refine (rthere_yes _ _ _ hx0 hx1).mono ?_
      rintro e w' ⟨rfl, rfl⟩
      go_wp2_with fail
      refine (rthere_yes _ _ _ hy0 hy1).mono ?_
      rintro e w' ⟨rfl, rfl⟩
      go_wp2_with fail
      go_quiet (fail)
      clear EA EB
      go_wp2_with fail
      go_loopw [10] (fun i wr => ∃ k : Nat, k ≤ la ∧ i = .int .i64 k ∧ wr.ownsRow w.heap.size 3 1 (.slice a7 la c7) la (intsOf (joinK u v p k)) ∧ Below w.heap.size w wr) (fun i _ => la - (intOf i).toNat)
      case atStart => exact ⟨0, Nat.zero_le _, rfl, by rw [joinK_zero]; exact drew_owns hown _, below_drewN hb1 _⟩
      case round =>
        clear hown hb1 hs1 c1 c2 hbb1
        obtain ⟨k, hk, rfl, hown, hb⟩ := hrel
        by_cases hlt : k < la
        · obtain ⟨g, c', e7, hg, hg2⟩ := hown.form (by omega)
          cases e7
          have hkl : k < (joinK u v p k).length := by rw [joinK_length, HL.out]; exact hlt
          have ck : wr.cell? ⟨g, k, none⟩ = some (.int .i64 (el p k : Nat)) := by
            rw [hown.cellAt k (by omega), intsOf_get hkl, joinK_el _ _ _ (by rw [HL.out]; exact hlt)]
          have fk := hown.frozenAt k
          have hst := (hown.stored k (.int .i64 (A : Int))).1
          rw [intsOf_set] at hst
          by_cases he : el p k = B
          · have HN := Lib.hid (joinK_succ u v p (k := k) (by rw [HL.out]; exact hlt))
            have hj : join u v (el p k) = A := by unfold join; rw [if_pos (by rw [he]; exact HB.out)]; exact HA.out.symm
            rw [hj] at HN
            rw [he] at ck
            have HST := Lib.hid hst
            have HOWN := Lib.hid hown
            have hs : (((B : Nat) : Int) == ((B : Nat) : Int)) = true := by simp
            clear hst hown hj he hkl
            go_wp2_with fail
            go_roundw
            case rel => exact ⟨k + 1, by omega, by go_num, by rw [HN.out]; exact HST.out, hb.setCell hg _⟩
            case measure => simp [intOf]; omega
          · have HN := Lib.hid (joinK_keep u v p (k := k) (by rw [HL.out]; exact hlt) (by rw [← HB.out]; exact he))
            have hs : (((el p k : Nat) : Int) == ((B : Nat) : Int)) = false := by simp; omega
            have HOWN := Lib.hid hown
            generalize el p k = z at *
            clear hst hown he hkl
            go_wp2_with fail
            go_roundw
            case rel => exact ⟨k + 1, by omega, by go_num, by rw [HN.out]; exact HOWN.out, hb⟩
            case measure => simp [intOf]; omega
        · obtain rfl : k = la := by omega
          go_wp2_with fail
          go_ret
          rw [joinK_all _ _ _ HL.out] at hown
          obtain ⟨a', c', e7, hr, hnl⟩ := RowF.owned hown (by simp [HL.out])
          cases e7
          exact ⟨_, _, rfl, hr, hnl, hb⟩
    · have e : uniL p x y = p := uniL_out (by simp [inB]; omega)
      obtain ⟨hx0, hx1⟩ := hx
      have HL := Lib.hid hl
      rw [e]
      clear e hl
      go_enter Try.func18, Try.ntmps18
      go_wp2_with (at_builtin; refine wpList_append_any rfl _ _ 22 rfl w.heap.size 3 i0 (.int .i64 0) 1 8 Try.underlying22 hi0 hz0 hz1 hz2 rfl (by decide) _ 0 [] rfl ?c0 _ la ca (intsOf p) rfl ?cn ?c1 ?c2 ?c3 ?c4 ?c5 ?c6 ?_)
      case c0 => exact World.ownsRow_made w #[] 0 (Nat.le_refl _) (by decide) rfl
      case cn => exact HNIL.out
      case c1 => simp [intsOf, HL.out]
      case c2 => exact HNEW.out
      case c3 => intro u hu; simp [intsOf] at hu; obtain ⟨n, _, rfl⟩ := hu; rfl
      case c4 => unfold maxLen; omega
      case c5 => omega
      case c6 => simp
      intro v7 w1 hown hgr
      have hb1 : Below w.heap.size w w1 := HB0.out.grown hgr (by simp) (by rintro k hk; cases hk; exact Nat.le_refl _)
      clear hgr
      go_wp2_with fail
      refine (rthere_yes _ _ _ hx0 hx1).mono ?_
      rintro e w' ⟨rfl, rfl⟩
      go_wp2_with fail
      refine (rthere_no _ _ _ hy).mono ?_
      rintro e w' ⟨rfl, rfl⟩
      go_wp2_with fail
      go_ret
      obtain ⟨a', c', rfl, hr, hnl⟩ := RowF.owned hown HL.out
      exact ⟨_, _, rfl, hr, hnl, hb1⟩
  · have e : uniL p x y = p := uniL_out (by simp [inB]; omega)
    have HL := Lib.hid hl
    rw [e]
    clear e hl
    go_enter Try.func18, Try.ntmps18
    go_wp2_with (at_builtin; refine wpList_append_any rfl _ _ 22 rfl w.heap.size 3 i0 (.int .i64 0) 1 8 Try.underlying22 hi0 hz0 hz1 hz2 rfl (by decide) _ 0 [] rfl ?c0 _ la ca (intsOf p) rfl ?cn ?c1 ?c2 ?c3 ?c4 ?c5 ?c6 ?_)
    case c0 => exact World.ownsRow_made w #[] 0 (Nat.le_refl _) (by decide) rfl
    case cn => exact HNIL.out
    case c1 => simp [intsOf, HL.out]
    case c2 => exact HNEW.out
    case c3 => intro u hu; simp [intsOf] at hu; obtain ⟨n, _, rfl⟩ := hu; rfl
    case c4 => unfold maxLen; omega
    case c5 => omega
    case c6 => simp
    intro v7 w1 hown hgr
    have hb1 : Below w.heap.size w w1 := HB0.out.grown hgr (by simp) (by rintro k hk; cases hk; exact Nat.le_refl _)
    clear hgr
    go_wp2_with fail
    refine (rthere_no _ _ _ hx).mono ?_
    rintro e w' ⟨rfl, rfl⟩
    go_wp2_with fail
    go_ret
    obtain ⟨a', c', rfl, hr, hnl⟩ := RowF.owned hown HL.out
    exact ⟨_, _, rfl, hr, hnl, hb1⟩

end Go.Proofs.Ytodkdjgpmfegcaa
