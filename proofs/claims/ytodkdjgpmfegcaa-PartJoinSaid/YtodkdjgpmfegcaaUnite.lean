/- Contracts of Unite of package part and of the document. -/
import Derived.Test.YtodkdjgpmfegcaaMay
import Derived.Deep.AppendLies
namespace Go.Proofs.Ytodkdjgpmfegcaa
open Go.RowKit
set_option linter.unusedVariables false

def intsOf (p : List Nat) : List Value := p.map fun n : Nat => Value.int .i64 (n : Int)
theorem intsOf_length (p : List Nat) : (intsOf p).length = p.length := by simp [intsOf]
theorem intsOf_get {p : List Nat} {i : Nat} (h : i < p.length) : (intsOf p)[i]? = some (.int .i64 (el p i : Nat)) := by
  unfold intsOf el; simp [h]
theorem intsOf_set (p : List Nat) (i v : Nat) : (intsOf p).set i (.int .i64 (v : Int)) = intsOf (p.set i v) := by
  unfold intsOf; rw [List.map_set]
theorem RowF.owned {w : World} {base e : Nat} {v : Value} {n : Nat} {p : List Nat} (h : w.ownsRow base e 1 v n (intsOf p)) (hl : p.length = n) : ∃ a c, v = .slice a n c ∧ RowN base w.heap.size w a n p ∧ (a = none → c = 0) := by
  subst hl
  obtain ⟨a, c, h1, h2⟩ := RowF.of_owns (f := fun n : Nat => Value.int .i64 (n : Int)) (d := 0) h
  refine ⟨a, c, h1, h2, fun ha => ?_⟩
  rcases h.2 with ⟨e, _⟩ | ⟨g, cap, cur, e, _⟩
  · rw [h1] at e; simp at e; exact e.2.2
  · rw [h1, ha] at e; cases e

theorem clone_own (a : Option Addr) (la ca : Nat) (p : List Nat) (w : World) {lo hi : Nat} (hx : RowN lo hi w a la p) (hhi : hi ≤ w.heap.size) (hm : la ≤ 1000000) :
    Calls Try.prog 27 #[.slice a la ca] w fun e w' => ∃ v, e = .returned v ∧ w'.ownsRow w.heap.size 3 1 v la (intsOf p) ∧ Below w.heap.size w w' := by
  have hne := fun (w : World) (a : Option Addr) (n c : Nat) => Lib.run_eql_slice_nil (P := Try.prog) w 22 3 a n c 0 0 Try.underlying22
  cases a with
  | none =>
    have h0 : la = 0 := hx.nil_len
    subst h0
    have : p = [] := List.length_eq_zero_iff.1 hx.1
    subst this
    go_enter Try.func27, Try.ntmps27
    go_wp2
    go_ret
    exact ⟨_, rfl, World.ownsRow_nil _ _ _ _, Below.refl _ _⟩
  | some a =>
    obtain ⟨i0, hi0, hz0, hz1, hz2⟩ := info_parts Try.info3
    have hb0 : Below w.heap.size w (w.alloc (.cells #[] 3)) := (Below.refl _ _).alloc (Nat.le_refl _) _
    go_enter Try.func27, Try.ntmps27
    go_wp2_with (at_builtin; refine wpList_append_own _ rfl _ _ 22 rfl w.heap.size 3 i0 (.int .i64 0) 1 8 Try.underlying22 hi0 hz0 hz1 hz2 rfl (by decide) _ 0 [] rfl ?c0 a la ca (intsOf p) rfl ?c1 ?c2 ?c3 ?c4 ?c5 ?c6 ?_)
    case c0 => exact World.ownsRow_made w #[] 0 (Nat.le_refl _) (by decide) rfl
    case c1 => simp [intsOf, hx.1]
    case c2 => exact (hx.alloc hhi _).news
    case c3 => intro u hu; simp [intsOf] at hu; obtain ⟨n, _, rfl⟩ := hu; rfl
    case c4 => unfold maxLen; omega
    case c5 => omega
    case c6 => simp
    intro v' w1 hown hgr hnn
    have hb1 : Below w.heap.size w w1 := hb0.grown hgr (by simp) (by rintro k hk; cases hk; exact Nat.le_refl _)
    clear hgr hnn hb0
    go_wp2
    go_ret
    exact ⟨_, rfl, by simpa using hown, hb1⟩

/-- Behind k rounds. -/
def joinK (A B : Nat) (p : List Nat) (k : Nat) : List Nat := (p.take k).map (join A B) ++ p.drop k
theorem joinK_length (A B : Nat) (p : List Nat) (k : Nat) : (joinK A B p k).length = p.length := by
  unfold joinK; simp; omega
theorem joinK_zero (A B : Nat) (p : List Nat) : joinK A B p 0 = p := by simp [joinK]
theorem joinK_all (A B : Nat) (p : List Nat) {n : Nat} (h : p.length = n) : joinK A B p n = p.map (join A B) := by subst h; simp [joinK]
theorem joinK_el (A B : Nat) (p : List Nat) {k : Nat} (h : k < p.length) : el (joinK A B p k) k = el p k := by
  unfold joinK el
  rw [List.getD_eq_getElem?_getD, List.getElem?_append_right (by simp; omega)]
  simp [List.getD, Nat.min_eq_left (Nat.le_of_lt h)]
theorem joinK_succ (A B : Nat) (p : List Nat) {k : Nat} (h : k < p.length) : joinK A B p (k + 1) = (joinK A B p k).set k (join A B (el p k)) := by
  refine ext_el (by simp [joinK_length]) fun i hi => ?_
  rw [joinK_length] at hi
  have hl := joinK_length A B p k
  unfold el joinK at *
  by_cases e : k = i
  · subst e
    rw [List.getD_eq_getElem?_getD, List.getElem?_append_left (by simp; omega)]
    rw [List.getD_eq_getElem?_getD, List.getElem?_set_self (by simp; omega)]
    simp [List.getD, h]
  · rw [List.getD_eq_getElem?_getD (l := List.set _ _ _), List.getElem?_set_ne e, ← List.getD_eq_getElem?_getD]
    by_cases h2 : i < k
    · rw [List.getD_eq_getElem?_getD, List.getElem?_append_left (by simp; omega), List.getD_eq_getElem?_getD, List.getElem?_append_left (by simp; omega)]
      simp [h2, show i < k + 1 by omega]
    · rw [List.getD_eq_getElem?_getD, List.getElem?_append_right (by simp; omega), List.getD_eq_getElem?_getD, List.getElem?_append_right (by simp; omega)]
      have e1 : min (k + 1) p.length = k + 1 := by omega
      have e2 : min k p.length = k := by omega
      simp [e1, e2]
      congr 2
      omega
theorem joinK_keep (A B : Nat) (p : List Nat) {k : Nat} (h : k < p.length) (he : el p k ≠ max A B) : joinK A B p (k + 1) = joinK A B p k := by
  rw [joinK_succ A B p h]
  have : join A B (el p k) = el (joinK A B p k) k := by rw [joinK_el A B p h]; unfold join; rw [if_neg he]
  rw [this]
  refine ext_el (by simp) fun i hi => ?_
  by_cases e : k = i
  · subst e; rw [el_set_self (by rw [joinK_length]; exact h)]
  · rw [el_set_other e]

theorem drew_owns {w : World} {base e size : Nat} {v : Value} {n : Nat} {xs : List Value} (h : w.ownsRow base e size v n xs) (k : Nat) : (w.drewN k).ownsRow base e size v n xs := h


set_option maxRecDepth 100000 in
set_option maxHeartbeats 1000000 in
theorem unite_any (a : Option Addr) (la ca : Nat) (p : List Nat) (x y : Int) (w : World) {lo hi : Nat} (hp : RowN lo hi w a la p) (hhi : hi ≤ w.heap.size) (hm : la ≤ 1000000) :
    Calls Try.prog 17 #[.slice a la ca, .int .i64 x, .int .i64 y] w fun e w' => ∃ a' c', e = .returned (.slice a' la c') ∧ RowN w.heap.size w'.heap.size w' a' la (uniL p x y) ∧ Below w.heap.size w w' := by
  have HP := Lib.hid hp
  have hl := hp.1
  clear hp
  by_cases hx : 0 ≤ x ∧ x < la
  · by_cases hy : 0 ≤ y ∧ y < la
    · obtain ⟨i, rfl⟩ : ∃ i : Nat, x = i := ⟨x.toNat, by omega⟩
      obtain ⟨j, rfl⟩ : ∃ j : Nat, y = j := ⟨y.toNat, by omega⟩
      have hi' : i < la := by omega
      have hj' : j < la := by omega
      obtain ⟨b, off, rfl, _, hbb, hc⟩ := HP.out.at_ hi'
      have ci := hc i hi'
      have cj := hc j hj'
      have e : uniL p i j = p.map (join (el p i) (el p j)) := by
        unfold uniL; rw [if_pos (by simp [inB]; omega)]; simp
      obtain ⟨u, hu⟩ : ∃ u, el p i = u := ⟨_, rfl⟩
      obtain ⟨v, hv⟩ : ∃ v, el p j = v := ⟨_, rfl⟩
      rw [e]
      rw [hu] at ci ⊢
      rw [hv] at cj ⊢
      have hx0 : (0 : Int) ≤ i := by omega
      have hy0 : (0 : Int) ≤ j := by omega
      have hx1 : (i : Int) < la := by omega
      have hy1 : (j : Int) < la := by omega
      have HL := Lib.hid hl
      obtain ⟨A, HA⟩ : ∃ A, Hid (A = min u v) := ⟨_, rfl⟩
      obtain ⟨B, HB⟩ : ∃ B, Hid (B = max u v) := ⟨_, rfl⟩
      have EA : (if v < u then (v : Int) else (u : Int)) = (A : Int) := by have := HA.out; split <;> omega
      have EB : (if u < v then (v : Int) else (u : Int)) = (B : Int) := by have := HB.out; split <;> omega
      clear hc hl e hu hv hx hy
      go_enter Try.func17, Try.ntmps17
      go_wp2_with fail
      refine (clone_own _ _ _ p _ HP.out hhi hm).mono ?_
      rintro e w1 ⟨v7, rfl, hown, hb1⟩
      obtain ⟨a7, c7, e7, _⟩ := RowF.owned hown HL.out
      subst e7
      have c1 := (hb1.cell (p := ⟨b, off + i, none⟩) (by show b < _; omega)).trans ci
      have c2 := (hb1.cell (p := ⟨b, off + j, none⟩) (by show b < _; omega)).trans cj
      have hs1 := hb1.size
      have hbb1 : b < w1.heap.size := by omega
      clear ci cj
      go_wp2_with fail
      refine (there_yes _ _ _ _ _ hx0 hx1).mono ?_
      rintro e w' ⟨rfl, rfl⟩
      go_wp2_with fail
      refine (there_yes _ _ _ _ _ hy0 hy1).mono ?_
      rintro e w' ⟨rfl, rfl⟩
      go_wp2_with fail
      go_quiet (fail)
      clear EA EB
      go_wp2_with fail
      go_loopw [45] (fun i wr => ∃ k : Nat, k ≤ la ∧ i = .int .i64 k ∧ wr.ownsRow w.heap.size 3 1 (.slice a7 la c7) la (intsOf (joinK u v p k)) ∧ Below w.heap.size w wr) (fun i _ => la - (intOf i).toNat)
      case atStart => exact ⟨0, Nat.zero_le _, rfl, by rw [joinK_zero]; exact drew_owns hown _, below_drewN hb1 _⟩
      case round =>
        clear hown hb1 hs1 c1 c2 hbb1
        obtain ⟨k, hk, rfl, hown, hb⟩ := hrel
        by_cases hlt : k < la
        · obtain ⟨g, c', e7, hg, hg2⟩ := hown.form (by omega)
          cases e7
          have hkl : k < (joinK u v p k).length := by rw [joinK_length, HL.out]; exact hlt
          have ck : wr.cell? ⟨g, k, none⟩ = some (.int .i64 (el p k : Nat)) := by
            rw [hown.cellAt k (by omega), intsOf_get hkl, joinK_el _ _ _ (by rw [HL.out]; exact hlt)]
          have fk := hown.frozenAt k
          have hst := (hown.stored k (.int .i64 (A : Int))).1
          rw [intsOf_set] at hst
          by_cases he : el p k = B
          · have HN := Lib.hid (joinK_succ u v p (k := k) (by rw [HL.out]; exact hlt))
            have hj : join u v (el p k) = A := by unfold join; rw [if_pos (by rw [he]; exact HB.out)]; exact HA.out.symm
            rw [hj] at HN
            rw [he] at ck
            have HST := Lib.hid hst
            have HOWN := Lib.hid hown
            have hs : (((B : Nat) : Int) == ((B : Nat) : Int)) = true := by simp
            clear hst hown hj he hkl
            go_wp2_with fail
            go_roundw
            case rel => exact ⟨k + 1, by omega, by go_num, by rw [HN.out]; exact HST.out, hb.setCell hg _⟩
            case measure => simp [intOf]; omega
          · have HN := Lib.hid (joinK_keep u v p (k := k) (by rw [HL.out]; exact hlt) (by rw [← HB.out]; exact he))
            have hs : (((el p k : Nat) : Int) == ((B : Nat) : Int)) = false := by simp; omega
            have HOWN := Lib.hid hown
            generalize el p k = z at *
            clear hst hown he hkl
            go_wp2_with fail
            go_roundw
            case rel => exact ⟨k + 1, by omega, by go_num, by rw [HN.out]; exact HOWN.out, hb⟩
            case measure => simp [intOf]; omega
        · obtain rfl : k = la := by omega
          go_wp2_with fail
          go_ret
          rw [joinK_all _ _ _ HL.out] at hown
          obtain ⟨a', c', e7, hr, _⟩ := RowF.owned hown (by simp [HL.out])
          cases e7
          exact ⟨_, _, rfl, hr, hb⟩
    · have e : uniL p x y = p := uniL_out (by simp [inB]; omega)
      obtain ⟨hx0, hx1⟩ := hx
      have HL := Lib.hid hl
      rw [e]
      clear e hl
      go_enter Try.func17, Try.ntmps17
      go_wp2_with fail
      refine (clone_own _ _ _ p _ HP.out hhi hm).mono ?_
      rintro e w1 ⟨v7, rfl, hown, hb1⟩
      go_wp2_with fail
      refine (there_yes _ _ _ _ _ hx0 hx1).mono ?_
      rintro e w' ⟨rfl, rfl⟩
      go_wp2_with fail
      refine (there_no _ _ _ _ _ hy).mono ?_
      rintro e w' ⟨rfl, rfl⟩
      go_wp2_with fail
      go_ret
      obtain ⟨a', c', rfl, hr, _⟩ := RowF.owned hown HL.out
      exact ⟨_, _, rfl, hr, hb1⟩
  · have e : uniL p x y = p := uniL_out (by simp [inB]; omega)
    have HL := Lib.hid hl
    rw [e]
    clear e hl
    go_enter Try.func17, Try.ntmps17
    go_wp2_with fail
    refine (clone_own _ _ _ p _ HP.out hhi hm).mono ?_
    rintro e w1 ⟨v7, rfl, hown, hb1⟩
    go_wp2_with fail
    refine (there_no _ _ _ _ _ hx).mono ?_
    rintro e w' ⟨rfl, rfl⟩
    go_wp2_with fail
    go_ret
    obtain ⟨a', c', rfl, hr, _⟩ := RowF.owned hown HL.out
    exact ⟨_, _, rfl, hr, hb1⟩

end Go.Proofs.Ytodkdjgpmfegcaa
