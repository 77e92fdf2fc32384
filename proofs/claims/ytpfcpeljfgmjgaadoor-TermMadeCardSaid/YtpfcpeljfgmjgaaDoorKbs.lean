/- Words of this stage: trees in memory by their elements, a type's cells, the document's Ints. -/
import Derived.Test.YtpfcpeljfgmjgaaDoorZmem
import Derived.Test.YtpfcpeljfgmjgaaDoorLexc
import Derived.Test.YtpfcpeljfgmjgaaDoorMem
import Derived.KernelRfl
namespace Go.Proofs.YtpfcpeljfgmjgaaDoor
open Go.RowKit
set_option linter.unusedVariables false
set_option linter.unusedSimpArgs false

theorem agg_inj {us vs : List Value} (h : Value.agg us.toArray = .agg vs.toArray) : us = vs := by
  have := congrArg (fun v => v.cells.toList) h
  simpa [Value.cells] using this
theorem four_cells {w : World} {b : Nat} {t : TypeId} {c0 c1 c2 c3 : Value} (h : Box w b t [c0, c1, c2, c3]) : w.cell? ⟨b, 0, none⟩ = some c0 ∧ w.cell? ⟨b, 1, none⟩ = some c1 ∧ w.cell? ⟨b, 2, none⟩ = some c2 ∧ w.cell? ⟨b, 3, none⟩ = some c3 :=
  ⟨h.cell 0, h.cell 1, h.cell 2, h.cell 3⟩
theorem four_frozen {w : World} {b : Nat} {t : TypeId} {c0 c1 c2 c3 : Value} (h : Box w b t [c0, c1, c2, c3]) : w.frozen? ⟨b, 0, none⟩ = false ∧ w.frozen? ⟨b, 1, none⟩ = false ∧ w.frozen? ⟨b, 2, none⟩ = false ∧ w.frozen? ⟨b, 3, none⟩ = false :=
  ⟨h.frozen 0, h.frozen 1, h.frozen 2, h.frozen 3⟩
theorem flatC_at {α : Type} {k : Nat} {f : α → List Cl} (hk : ∀ x, (f x).length = k) : ∀ (l : List α) (i : Nat) (x : α), l[i]? = some x → ∀ j, j < k → (l.flatMap f)[i * k + j]? = (f x)[j]?
  | q :: r, 0, x, hx, j, hj => by
    simp at hx; subst hx
    rw [List.flatMap_cons, List.getElem?_append_left (by rw [hk]; omega)]; simp
  | q :: r, i + 1, x, hx, j, hj => by
    have ih := flatC_at hk r i x (by simpa using hx) j hj
    rw [List.flatMap_cons, List.getElem?_append_right (by rw [hk, Nat.add_mul]; omega), hk, ← ih]
    congr 1
    rw [Nat.add_mul]; omega
/-- The i-th thing behind a slice, cell by cell. -/
theorem InC.elem {α : Type} {S : Nat → Prop} {w : World} {k m cp : Nat} {f : α → List Cl} (hk : ∀ x, (f x).length = k) {l : List α} {a : Option Addr} (h : InC S w (.s l.length k (l.flatMap f)) (.slice a m cp)) {i : Nat} {x : α} (hx : l[i]? = some x) :
    ∃ (b off : Nat) (us : List Value), a = some ⟨b, off, none⟩ ∧ b < w.heap.size ∧ IsV S w (f x) (.agg us.toArray) ∧ ∀ (j : Nat) (u : Value), us[j]? = some u → w.cell? ⟨b, off + (i * k + j), none⟩ = some u := by
  have hi : i < l.length := (List.getElem?_eq_some_iff.1 hx).1
  obtain ⟨_, h2 | ⟨b, off, us, h2, h3, h4, h5, h6⟩⟩ := h.at_
  · omega
  · have hul : us.length = l.length * k := by rw [h5.1, flatC_len hk]
    have hik : i * k + k ≤ l.length * k := by have := Nat.mul_le_mul_right k (show i + 1 ≤ l.length from hi); rw [Nat.add_mul] at this; omega
    have hg : ∀ j, j < k → ((us.drop (i * k)).take k)[j]? = us[i * k + j]? := fun j hj => by
      rw [List.getElem?_take, if_pos hj, List.getElem?_drop]
    have hl2 : ((us.drop (i * k)).take k).length = k := by rw [List.length_take, List.length_drop]; omega
    refine ⟨b, off, (us.drop (i * k)).take k, h2, h4, ⟨_, rfl, ?_, fun j c u h7 h8 => ?_⟩, fun j u hu => ?_⟩
    · rw [hk, hl2]
    · have hj : j < k := by have := (List.getElem?_eq_some_iff.1 h7).1; rwa [hk] at this
      rw [hg j hj] at h8
      exact h5.2 (i * k + j) c u (by rw [flatC_at hk l i x hx j hj]; exact h7) h8
    · have hj : j < k := by have := (List.getElem?_eq_some_iff.1 hu).1; omega
      rw [hg j hj] at hu
      exact h6 _ _ hu
theorem take_snoc' {α : Type} {l : List α} {i : Nat} {x : α} (h : l[i]? = some x) : l.take (i + 1) = l.take i ++ [x] := by
  rw [List.take_add_one, h]; rfl
theorem Tryd.zinfoT : (Tryd.prog.info? 47).map (fun i => (i.zero, i.size, i.bytes)) = some (some (.agg #[.int .i64 0, .int .i64 0, .string ⟨#[]⟩, .slice none 0 0]), 4, 56) := by kernel_rfl
theorem Tryd.tySize4 : (Tryd.prog.info? 47).map (·.size) = some 4 := by kernel_rfl
theorem ints_any (a b : Option Addr) (la lb ca cb : Nat) (xs ys : List Int) (w : World) {l1 l2 h1 h2 : Nat} (hx : Row l1 h1 w a la xs) (hy : Row l2 h2 w b lb ys) (hm : la ≤ 9223372036854775807) :
    Calls Tryd.prog 15 #[.slice a la ca, .slice b lb cb] w fun e w' => e = .returned (.bool (decide (xs = ys))) ∧ ∃ n, w' = w.drewN n := by
  obtain ⟨hlx, hx⟩ := hx
  obtain ⟨hly, hy⟩ := hy
  by_cases hne : la = lb
  · obtain rfl := hne
    rcases hx with h0 | ⟨bx, ox, rfl, _, hbx, hcx⟩
    · subst h0
      have : xs = [] := List.length_eq_zero_iff.1 hlx
      have : ys = [] := List.length_eq_zero_iff.1 hly
      subst xs ys
      go_enter Tryd.func15, Tryd.ntmps15
      go_wp2
      go_rounds 1
      go_ret
      exact ⟨rfl, 0, rfl⟩
    · rcases hy with h0 | ⟨by', oy, rfl, _, hby, hcy⟩
      · subst h0
        have : xs = [] := List.length_eq_zero_iff.1 hlx
        have : ys = [] := List.length_eq_zero_iff.1 hly
        subst xs ys
        go_enter Tryd.func15, Tryd.ntmps15
        go_wp2
        go_rounds 1
        go_ret
        exact ⟨rfl, 0, rfl⟩
      · have HX : Hid (∀ i, i < la → w.cell? ⟨bx, ox + i, none⟩ = some (.int .i64 (xs.getD i 0))) := hcx
        have HY : Hid (∀ i, i < la → w.cell? ⟨by', oy + i, none⟩ = some (.int .i64 (ys.getD i 0))) := hcy
        have HL : Hid (xs.length = la ∧ ys.length = la) := ⟨hlx, hly⟩
        clear hcx hcy hlx hly
        go_enter Tryd.func15, Tryd.ntmps15
        go_wp2
        go_loopw [5] (fun i wr => ∃ k n : Nat, k ≤ la ∧ i = .int .i64 k ∧ wr = w.drewN n ∧ Hid (xs.take k = ys.take k)) (fun i _ => la - (intOf i).toNat)
        case atStart => exact ⟨0, 0, Nat.zero_le _, rfl, rfl, by simp [Hid]⟩
        case round =>
          obtain ⟨k, n, hk, rfl, rfl, hp⟩ := hrel
          by_cases hlt : k < la
          · have c1 := HX.out k hlt
            have c2 := HY.out k hlt
            obtain ⟨x, hxk⟩ : ∃ x, xs.getD k 0 = x := ⟨_, rfl⟩
            obtain ⟨y, hyk⟩ : ∃ y, ys.getD k 0 = y := ⟨_, rfl⟩
            rw [hxk] at c1
            rw [hyk] at c2
            have HXk : Hid (xs.getD k 0 = x) := hxk
            have HYk : Hid (ys.getD k 0 = y) := hyk
            clear hxk hyk
            by_cases he : x = y
            · subst he
              go_wp2
              go_quiet (fail)
              go_wp2
              go_roundw
              case rel => exact ⟨k + 1, _, by omega, by go_num, rfl, take_succ_eq (by rw [HL.out.1]; exact hlt) (by rw [HL.out.2]; exact hlt) hp.out (HXk.out.trans HYk.out.symm)⟩
              case measure => simp [intOf]; omega
            · go_wp2
              go_quiet (fail)
              go_wp2
              go_ret
              refine ⟨?_, _, World.drewN_drewN _ _ _⟩
              have : xs ≠ ys := by
                rintro rfl
                exact he (HXk.out.symm.trans HYk.out)
              simp [this]
          · go_wp2
            go_ret
            refine ⟨?_, _, rfl⟩
            obtain rfl : k = la := by omega
            have := hp.out
            rw [List.take_of_length_le (by have := HL.out.1; omega), List.take_of_length_le (by have := HL.out.2; omega)] at this
            simp [this]
  · have hn : xs ≠ ys := by rintro rfl; omega
    have hni : ((la : Int) == (lb : Int)) = false := by simp; omega
    clear hlx hly hx hy
    go_enter Tryd.func15, Tryd.ntmps15
    go_wp2
    go_ret
    exact ⟨by simp [hn], 0, rfl⟩

end Go.Proofs.YtpfcpeljfgmjgaaDoor
