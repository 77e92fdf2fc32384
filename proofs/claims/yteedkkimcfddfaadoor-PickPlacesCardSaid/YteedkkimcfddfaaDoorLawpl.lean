/- The walk of the law PickPlaces: it returns true and changes nothing that was there. -/
import Derived.Test.YteedkkimcfddfaaDoorSame
namespace Go.Proofs.YteedkkimcfddfaaDoor
open Go.RowKit

theorem behind_next (en : List Bool) (k : Nat) (hk : k < (on 0 en).length) : behindI en ((on 0 en).getD k 0 : Nat) = ((on 0 en).getD ((k + 1) % (on 0 en).length) 0 : Nat) := by
  have hp := on_pairwise en 0
  rw [List.pairwise_iff_getElem] at hp
  have hle : ∀ x ∈ (on 0 en).take (k + 1), (x : Int) ≤ ((on 0 en).getD k 0 : Nat) := by
    intro x hx
    obtain ⟨i, hi, rfl⟩ := List.getElem_of_mem hx
    have hi1 : i < (on 0 en).length := by simp at hi; omega
    have hi2 : i ≤ k := by simp at hi; omega
    rw [List.getElem_take, List.getD_eq_getElem?_getD, List.getElem?_eq_getElem hk]
    simp
    rcases Nat.lt_or_eq_of_le hi2 with h | h
    · have := hp i k hi1 hk h; omega
    · subst h; exact Nat.le_refl _
  by_cases h : k + 1 < (on 0 en).length
  · rw [Nat.mod_eq_of_lt h]
    refine behind_found en _ (k + 1) _ h hle rfl ?_
    have := hp k (k + 1) hk h (by omega)
    rw [List.getD_eq_getElem?_getD, List.getElem?_eq_getElem hk, List.getD_eq_getElem?_getD, List.getElem?_eq_getElem h]
    simpa using this
  · obtain h' : k + 1 = (on 0 en).length := by omega
    rw [h', Nat.mod_self]
    refine behind_round en _ ?_
    rw [h', List.take_of_length_le (Nat.le_refl _)] at hle
    exact hle

theorem next_one (en : List Bool) (hon : on 0 en ≠ []) (n : Int) : nextI [n] 0 (-1) en = ((on 0 en).getD (n % ((on 0 en).length : Int)).toNat 0 : Nat) ∧ nextAt [n] 0 en = 1 ∧ nextLast [n] 0 (-1) en = ((on 0 en).getD (n % ((on 0 en).length : Int)).toNat 0 : Nat) := by
  simp [nextI, nextAt, nextLast, hon]

theorem next_two (en : List Bool) (hon : on 0 en ≠ []) (n l : Int) : nextI [n] 1 l en = behindI en l := by
  simp [nextI, hon]

theorem places_vals (en : List Bool) (hon : on 0 en ≠ []) (n : Int) : ∃ k v1 v2 : Nat, k < (on 0 en).length ∧ n % ((on 0 en).length : Int) = k ∧ (on 0 en).getD k 0 = v1 ∧ (on 0 en).getD ((k + 1) % (on 0 en).length) 0 = v2 ∧
    (nextI [n] 0 (-1) en = v1 ∧ nextAt [n] 0 en = 1 ∧ nextLast [n] 0 (-1) en = v1) ∧
    (nextI [n + ((on 0 en).length : Int)] 0 (-1) en = v1 ∧ nextAt [n + ((on 0 en).length : Int)] 0 en = 1 ∧ nextLast [n + ((on 0 en).length : Int)] 0 (-1) en = v1) ∧
    (nextI [n + 1] 0 (-1) en = v2 ∧ nextAt [n + 1] 0 en = 1 ∧ nextLast [n + 1] 0 (-1) en = v2) ∧ nextI [n] 1 v1 en = v2 := by
  have hpos : 1 ≤ (on 0 en).length := by cases h : on 0 en with
    | nil => exact absurd h hon
    | cons _ _ => simp
  have h0 := Int.emod_nonneg n (by omega : ((on 0 en).length : Int) ≠ 0)
  have h1 := Int.emod_lt_of_pos n (by omega : (0 : Int) < ((on 0 en).length : Int))
  refine ⟨(n % ((on 0 en).length : Int)).toNat, _, _, by omega, by omega, rfl, rfl, next_one en hon n, ?_, ?_, ?_⟩
  · have := next_one en hon (n + ((on 0 en).length : Int))
    rwa [Int.add_emod_right] at this
  · have := next_one en hon (n + 1)
    have e : (n + 1) % ((on 0 en).length : Int) = ((((n % ((on 0 en).length : Int)).toNat + 1) % (on 0 en).length : Nat) : Int) := by
      rw [Int.natCast_emod, Int.natCast_add, Int.toNat_of_nonneg h0, Int.natCast_one, Int.emod_add_emod]
    rw [e, Int.toNat_natCast] at this
    exact this
  · rw [next_two en hon, behind_next en _ (by omega)]

set_option maxRecDepth 100000 in
set_option maxHeartbeats 2000000 in
theorem places_any (n : Int) (b : Option Addr) (lb cb : Nat) (en : List Bool) (w : World) (hy : RowB 0 w.heap.size w b lb en) (hT : Tab w) :
    Calls Tryd.prog 6 #[.int .i64 n, .slice b lb cb] w fun e w' => e = .returned (.bool true) ∧ Below w.heap.size w w' := by
  by_cases h1 : 70 < lb
  · go_enter Tryd.func6, Tryd.ntmps6
    go_wp2_with (go_at_call 7; refine (awake_any _ hT).mono ?_; rintro e w' ⟨rfl, hb⟩)
    go_ret
    exact ⟨rfl, hb⟩
  by_cases h2 : 1099511627776 < n
  · go_enter Tryd.func6, Tryd.ntmps6
    go_wp2_with (go_at_call 7; refine (awake_any _ hT).mono ?_; rintro e w' ⟨rfl, hb⟩)
    go_ret
    exact ⟨rfl, hb⟩
  by_cases h3 : n < -1099511627776
  · go_enter Tryd.func6, Tryd.ntmps6
    go_wp2_with (go_at_call 7; refine (awake_any _ hT).mono ?_; rintro e w' ⟨rfl, hb⟩)
    go_ret
    exact ⟨rfl, hb⟩
  have HT := Lib.hid hT
  have HY := Lib.hid hy
  obtain ⟨i0, hi0, hz0, hz1, hz2⟩ := info_parts Tryd.info3
  have hle := on_length_le en 0
  have hle1 : (on 0 en).length ≤ 70 := by have := hy.1; omega
  clear hT hy hle
  go_enter Tryd.func6, Tryd.ntmps6
  go_wp2_with fail
  go_loopw [5, 6] (fun v i wr => ∃ k : Nat, k ≤ lb ∧ i = .int .i64 k ∧ wr.ownsRow w.heap.size 3 1 v (on 0 (en.take k)).length ((on 0 (en.take k)).map (fun x : Nat => Value.int .i64 x)) ∧ Below w.heap.size w wr) (fun _ i _ => lb - (intOf i).toNat)
  case atStart => exact ⟨0, Nat.zero_le _, rfl, World.ownsRow_nil _ _ _ _, Below.refl _ _⟩
  case round =>
    obtain ⟨k, hk, rfl, hown, hbw⟩ := hrel
    have hszr := hbw.size
    by_cases hlt : k < lb
    · obtain ⟨b', off', rfl, _, hbb, hcc⟩ := HY.out.2.resolve_left (by omega)
      have hck := (hbw.cell (p := ⟨b', off' + k, none⟩) hbb).trans (hcc k hlt)
      have hb0 : b' < wr.heap.size := by omega
      have hol := on_length_le (en.take k) 0
      have htl : (en.take k).length ≤ 1000 := by simp; omega
      have hts := on_take_succ en k (by rw [HY.out.1]; exact hlt)
      clear hcc
      by_cases ht : en.getD k false = true
      · rw [ht] at hck hts
        simp only [if_true] at hts
        have HTS := Lib.hid hts
        clear hts ht
        go_wp2_with (at_builtin; refine wpList_append_own _ rfl _ _ 22 rfl w.heap.size 3 i0 (.int .i64 0) 1 8 Tryd.underlying22 hi0 hz0 hz1 hz2 rfl (by decide) _ (on 0 (en.take k)).length _ rfl (hown.alloc _) ⟨wr.heap.size, 0, none⟩ 1 1 [.int .i64 k] rfl rfl ?c1 ?c2 ?c3 ?c4 ?c5 ?_)
        case c1 =>
          intro j u hj
          match j, hj with
          | 0, hj => simp at hj; subst hj; simp [Addr.add]
        case c2 => intro u hu; simp at hu; subst hu; rfl
        case c3 => unfold maxLen; omega
        case c4 => omega
        case c5 => simp; omega
        intro v' w4 hown4 hgr4 _
        have hvb : ∀ j, u5.ownBlock = some j → w.heap.size ≤ j ∧ j < wr.heap.size := hown.lt
        have hb4 : Below w.heap.size w w4 := (hbw.alloc (by omega) _).grown hgr4 (by simp; omega) (fun j hj => by have := hvb j hj; omega)
        clear hgr4 hvb
        go_wp2_with fail
        go_roundw
        case rel => exact ⟨k + 1, by omega, by go_num, by rw [HTS.out]; simpa using hown4, hb4⟩
        case measure => simp [intOf]; omega
      · have ht : en.getD k false = false := by simpa using ht
        rw [ht] at hck hts
        simp at hts
        have HTS := Lib.hid hts
        clear hts ht
        go_wp2_with fail
        go_roundw
        case rel => exact ⟨k + 1, by omega, by go_num, by rw [HTS.out]; exact hown, hbw⟩
        case measure => simp [intOf]; omega
    · obtain rfl : k = lb := by omega
      have hte : en.take k = en := List.take_of_length_le (by rw [HY.out.1]; exact Nat.le_refl _)
      rw [hte] at hown
      obtain ⟨a5, c5, hv5, hr5⟩ := RowF.of_owns (f := fun x : Nat => Value.int .i64 x) (d := 0) (xs := on 0 en) hown
      subst hv5
      clear hown hte
      by_cases hon : on 0 en = []
      · have hcnt : (((on 0 en).length : Int) == 0) = true := by rw [hon]; rfl
        have HON := Lib.hid hon
        clear hon hr5
        go_wp2_with fail
        refine (awake_any _ (HT.out.below hbw HT.out.lt)).mono ?_
        rintro e w' ⟨rfl, hb⟩
        go_wp2_with fail
        go_ret
        exact ⟨rfl, hbw.trans (hb.mono (by omega))⟩
      · have hpos : 1 ≤ (on 0 en).length := by cases h : on 0 en with
          | nil => exact absurd h hon
          | cons _ _ => simp
        have hcnt : (((on 0 en).length : Int) == 0) = false := by simp; omega
        obtain ⟨m, v1, v2, hm, hmod, hv1, hv2, hn1, hn2, hn3, hn4⟩ := places_vals en hon n
        have H1 := Lib.hid hn1
        have H2 := Lib.hid hn2
        have H3 := Lib.hid hn3
        have H4 := Lib.hid hn4
        have HV := Lib.hid (And.intro hmod (And.intro hv1 hv2))
        clear hon hmod hv1 hv2 hn1 hn2 hn3 hn4
        have one : ∀ (W : World) (x : Int), Row W.heap.size (W.heap.size + 1) (W.alloc (.cells #[.int .i64 x] 3)) (some ⟨W.heap.size, 0, none⟩) 1 [x] := by
          intro W x
          refine ⟨rfl, .inr ⟨W.heap.size, 0, rfl, Nat.le_refl _, by omega, fun i hi => ?_⟩⟩
          obtain rfl : i = 0 := by omega
          simp
        have ONE := Lib.hid one
        clear one
        go_wp2_with fail
        have k0 := (Below.refl wr.heap.size wr).alloc (Nat.le_refl _) (.cells #[.int .i64 n] 3)
        refine (Start_any _ _ _ [n] _ (ONE.out wr n) (by simp) (by omega)).mono ?_
        rintro e w1 ⟨a1, c1, rfl, hr1, hb1⟩
        have s1 := hb1.size
        rw [World.size_alloc] at s1
        have k1 := k0.trans (hb1.mono (by simp))
        clear k0
        go_wp2_with fail
        refine (Next_any _ _ _ _ _ _ [n] en _ _ _ hr1 (Nat.le_refl _) (by omega) (HY.out.below (hbw.trans (k1.mono (by omega))) (Nat.le_refl _)) (by omega) (by omega) (HT.out.below (hbw.trans (k1.mono (by omega))) HT.out.lt)).mono ?_
        rw [H1.out.1, H1.out.2.1, H1.out.2.2]
        rintro e w2 ⟨a2, c2, rfl, hr2, hb2⟩
        have s2 := hb2.size
        have k2 := (k1.trans (hb2.mono (by omega)))
        have hr2' := hr2.alloc (Nat.le_refl _) (.cells #[.slice a2 1 c2, .int .i64 1, .int .i64 (v1 : Nat)] 24)
        have b2 := Box.new w2 24 [.slice a2 1 c2, .int .i64 1, .int .i64 (v1 : Nat)]
        have k2' := k2.alloc (by omega) (.cells #[.slice a2 1 c2, .int .i64 1, .int .i64 (v1 : Nat)] 24)
        clear k1 hr1 hb1 hr2 hb2
        go_wp2_with fail
        have one2 := ONE.out (w2.alloc (.cells #[.slice a2 1 c2, .int .i64 1, .int .i64 (v1 : Nat)] 24)) (n + ((on 0 en).length : Int))
        rw [World.size_alloc] at one2
        refine (Start_any _ _ _ [n + ((on 0 en).length : Int)] _ one2 (by simp) (by omega)).mono ?_
        rintro e w3 ⟨a3, c3, rfl, hr3, hb3⟩
        have s3 := hb3.size
        rw [World.size_alloc, World.size_alloc] at s3
        have k3 := (k2'.alloc (by simp; omega) (.cells #[.int .i64 (n + ((on 0 en).length : Int))] 3)).trans (hb3.mono (by simp; omega))
        have hr23 := (hr2'.alloc (by simp) (.cells #[.int .i64 (n + ((on 0 en).length : Int))] 3)).below hb3 (by simp; omega)
        have b23 := (b2.alloc (.cells #[.int .i64 (n + ((on 0 en).length : Int))] 3)).below hb3
        clear one2 k2' hr2' b2
        go_wp2_with fail
        refine (Next_any _ _ _ _ _ _ [n + ((on 0 en).length : Int)] en _ _ _ hr3 (Nat.le_refl _) (by omega) (HY.out.below (hbw.trans (k3.mono (by omega))) (Nat.le_refl _)) (by omega) (by omega) (HT.out.below (hbw.trans (k3.mono (by omega))) HT.out.lt)).mono ?_
        rw [H2.out.1, H2.out.2.1, H2.out.2.2]
        rintro e w4 ⟨a4, c4, rfl, hr4, hb4⟩
        have s4 := hb4.size
        have k4 := (k3.trans (hb4.mono (by omega)))
        have hr24 := (hr23.below hb4 (by omega)).alloc (by omega) (.cells #[.slice a4 1 c4, .int .i64 1, .int .i64 (v1 : Nat)] 24)
        have b24 := (b23.below hb4).alloc (.cells #[.slice a4 1 c4, .int .i64 1, .int .i64 (v1 : Nat)] 24)
        have k4' := k4.alloc (by omega) (.cells #[.slice a4 1 c4, .int .i64 1, .int .i64 (v1 : Nat)] 24)
        clear k3 hr3 hb3 hr4 hb4 hr23 b23
        go_wp2_with fail
        have one4 := ONE.out (w4.alloc (.cells #[.slice a4 1 c4, .int .i64 1, .int .i64 (v1 : Nat)] 24)) (n + 1)
        rw [World.size_alloc] at one4
        refine (Start_any _ _ _ [n + 1] _ one4 (by simp) (by omega)).mono ?_
        rintro e w5 ⟨a6, c6, rfl, hr5', hb5⟩
        have s5 := hb5.size
        rw [World.size_alloc, World.size_alloc] at s5
        have k5 := (k4'.alloc (by simp; omega) (.cells #[.int .i64 (n + 1)] 3)).trans (hb5.mono (by simp; omega))
        have hr25 := (hr24.alloc (by simp; omega) (.cells #[.int .i64 (n + 1)] 3)).below hb5 (by simp; omega)
        have b25 := (b24.alloc (.cells #[.int .i64 (n + 1)] 3)).below hb5
        clear one4 k4' hr24 b24
        go_wp2_with fail
        refine (Next_any _ _ _ _ _ _ [n + 1] en _ _ _ hr5' (Nat.le_refl _) (by omega) (HY.out.below (hbw.trans (k5.mono (by omega))) (Nat.le_refl _)) (by omega) (by omega) (HT.out.below (hbw.trans (k5.mono (by omega))) HT.out.lt)).mono ?_
        rw [H3.out.1, H3.out.2.1, H3.out.2.2]
        rintro e w6 ⟨a7, c7, rfl, hr6, hb6⟩
        have s6 := hb6.size
        have k6 := (k5.trans (hb6.mono (by omega)))
        have hr26 := (hr25.below hb6 (by omega)).alloc (by omega) (.cells #[.slice a7 1 c7, .int .i64 1, .int .i64 (v2 : Nat)] 24)
        have b26 := (b25.below hb6).alloc (.cells #[.slice a7 1 c7, .int .i64 1, .int .i64 (v2 : Nat)] 24)
        have k6' := k6.alloc (by omega) (.cells #[.slice a7 1 c7, .int .i64 1, .int .i64 (v2 : Nat)] 24)
        obtain ⟨_, _, _, _, _, _⟩ := (b25.below hb6).three
        have s26 : w2.heap.size < w6.heap.size := by omega
        clear k5 hr5' hb5 hr6 hb6 hr25 b25
        -- the place of n in the list, and of the one behind it
        have ht0 := Int.lt_tmod_of_pos n (by omega : (0 : Int) < ((on 0 en).length : Int))
        have ht1 := Int.tmod_lt_of_pos n (by omega : (0 : Int) < ((on 0 en).length : Int))
        have hidx : (n.tmod ((on 0 en).length : Int) + ((on 0 en).length : Int)) % ((on 0 en).length : Int) = ((m : Nat) : Int) := by
          rw [Int.add_emod_right, ← tmod_emod]; exact HV.out.1
        obtain ⟨m2, hm2⟩ : ∃ m2, m2 = (m + 1) % (on 0 en).length := ⟨_, rfl⟩
        have hidx2 : ((m : Int) + 1) % ((on 0 en).length : Int) = (m2 : Int) := by rw [hm2]; simp
        have hm2l : m2 < (on 0 en).length := by rw [hm2]; exact Nat.mod_lt _ (by omega)
        have HMV : (on 0 en).getD m2 0 = v2 := by rw [hm2]; exact HV.out.2.2
        have HM2 := Lib.hid HMV
        clear hm2 HMV
        go_wp2_with fail
        refine (Next_any _ _ _ _ _ _ [n] en _ _ _ hr26 (by simp; omega) (by omega) (HY.out.below (hbw.trans (k6'.mono (by omega))) (Nat.le_refl _)) (by simp; omega) (by omega) (HT.out.below (hbw.trans (k6'.mono (by omega))) HT.out.lt)).mono ?_
        rw [H4.out]
        rintro e w7 ⟨a8, c8, rfl, hr7, hb7⟩
        have s7 := hb7.size
        rw [World.size_alloc] at s7
        have k7 := (k6'.trans (hb7.mono (by simp; omega)))
        have HMV := HM2.out
        clear k6' hr26 b26 hb7 hr7 H1 H2 H3 H4 ONE HM2
        obtain ⟨b9, off9, rfl, _, hbb9, hcc9⟩ := hr5.2.resolve_left (by omega)
        have hc1 := (k7.cell (p := ⟨b9, off9 + m, none⟩) hbb9).trans (hcc9 m hm)
        have hc2 := (k7.cell (p := ⟨b9, off9 + m2, none⟩) hbb9).trans (hcc9 m2 hm2l)
        rw [HV.out.2.1] at hc1
        rw [HMV] at hc2
        have hb9 : b9 < w7.heap.size := by omega
        have T1 : ∀ W, Sem.run Tryd.prog (Instr.indexAt 22 (.slice (some ⟨b9, off9, none⟩) (on 0 en).length c5) (.int .i64 (m:Int))) W = .ok (.pointer (some ⟨b9, off9 + m, none⟩)) W := fun W => by go_simp
        have T2 : ∀ W, Sem.run Tryd.prog (Instr.indexAt 22 (.slice (some ⟨b9, off9, none⟩) (on 0 en).length c5) (.int .i64 (m2:Int))) W = .ok (.pointer (some ⟨b9, off9 + m2, none⟩)) W := fun W => by go_simp
        clear hcc9 HMV hr5
        go_wp2_with fail
        refine (awake_any _ (HT.out.below ((hbw.trans (k7.mono (by omega))).alloc (by omega) _) HT.out.lt)).mono ?_
        rintro e w8 ⟨rfl, hb8⟩
        go_wp2_with fail
        go_ret
        exact ⟨rfl, ((hbw.trans (k7.mono (by omega))).alloc (by omega) _).trans (hb8.mono (by simp; omega))⟩

end Go.Proofs.YteedkkimcfddfaaDoor
