/- The walk of the law DrawApart: it returns true and changes nothing that was there. -/
import Derived.Test.YtnipmnfpccpaoaaLawb
import Derived.Deep.RegionWith
namespace Go.Proofs.Ytnipmnfpccpaoaa
open Go.RowKit

theorem hid {p : Prop} (h : p) : Hid p := h
theorem manyI_apart (xs ys : List Int) (p : Int) (n m : Nat) (h0 : p = 0) (hx : xs.length = n) (hy : ys.length = n) (hm : n + m ≤ 2147483648) : (manyI xs p (n + m)).drop n = (manyI ys p (n + m)).drop n := by
  subst h0
  have h : ∀ zs : List Int, zs.length = n → ∀ k, k ≤ m → ∀ zs' : List Int, zs'.length = n → manyI zs (atK 0 n) k = manyI zs' (atK 0 n) k := by
    intro zs hz k
    induction k with
    | zero => intros; rfl
    | succ k ih =>
      intro hk zs' hz'
      have e : atK (atK 0 n) k = ((n + k : Nat) : Int) := by rw [atK_add, atK_zero _ (by omega)]
      rw [manyI, manyI, ih (by omega) zs' hz', e]
      congr 2
      simp only [nextN]
      rw [if_neg (by omega), if_neg (by omega)]
      simp only [drawI, Int.toNat_natCast]
      rw [if_neg (by omega), if_neg (by omega)]
  rw [← manyI_add, ← manyI_add, List.drop_left' (manyI_length _ _ _), List.drop_left' (manyI_length _ _ _)]
  exact h xs hx m (Nat.le_refl _) ys hy

theorem Row.drop {lo hi : Nat} {w : World} {b off len k : Nat} {xs : List Int} (h : Row lo hi w (some ⟨b, off, none⟩) len xs) (hk : k ≤ len) (a' : Option Addr) (ha : k < len → a' = some ⟨b, off + k, none⟩) : Row lo hi w a' (len - k) (xs.drop k) := by
  obtain ⟨h1, h2⟩ := h
  refine ⟨by simp [h1], ?_⟩
  by_cases hlt : k < len
  · rcases h2 with h0 | ⟨b', o', e, hl, hh, hc⟩
    · omega
    · cases e
      refine .inr ⟨b, off + k, ha hlt, hl, hh, fun i hi => ?_⟩
      rw [Nat.add_assoc, hc (k + i) (by omega)]
      simp [List.getD]
  · exact .inl (by omega)

theorem run_from {P : Program} {t : TypeId} (ht : P.underlying t = some (.slice (P.elem t))) (hs : (P.info? (P.elem t)).map (fun i => i.size) = some 1) (b off len cap l : Nat) (hl : l ≤ len) (hc : len ≤ cap) :
    ∃ a', (l < len → a' = some ⟨b, off + l, none⟩) ∧ ∀ w, (Instr.slice t (.slice (some ⟨b, off, none⟩) len cap) (some (.int .i64 (l : Int))) none none).run P w = .ok (.slice a' (len - l) (cap - l)) w := by
  refine ⟨if cap = l then some ⟨b, off, none⟩ else some ⟨b, off + l, none⟩, fun h => by rw [if_neg (by omega)], fun w => ?_⟩
  rw [run_slice_l w t _ len cap ht .i64 l (by omega) (by omega)]
  obtain ⟨i, hi, he⟩ := Option.map_eq_some_iff.1 hs
  simp [sizeOf, typeInfo, hi, he, sliced, Result.andThen]
  split <;> simp_all [Addr.add]

theorem run_from0 {P : Program} {t : TypeId} (ht : P.underlying t = some (.slice (P.elem t))) (hs : (P.info? (P.elem t)).map (fun i => i.size) = some 1) (a : Option Addr) (cap : Nat) :
    ∃ a', ∀ w, (Instr.slice t (.slice a 0 cap) (some (.int .i64 0)) none none).run P w = .ok (.slice a' 0 cap) w := by
  refine ⟨if cap = 0 then a else a.map (·.add 0), fun w => ?_⟩
  rw [run_slice_l w t _ 0 cap ht .i64 0 (by omega) (by omega)]
  obtain ⟨i, hi, he⟩ := Option.map_eq_some_iff.1 hs
  simp [sizeOf, typeInfo, hi, sliced, Result.andThen]

set_option maxHeartbeats 1000000 in
theorem apart_any (a b : Option Addr) (la ca lb cb : Nat) (xs ys : List Int) (m : Nat) (w : World) (hx : Row 0 w.heap.size w a la xs) (hy : Row 0 w.heap.size w b lb ys) (hm : m ≤ 255) :
    Calls Try.prog 5 #[.slice a la ca, .slice b lb cb, .int .u8 m] w fun e w' => e = .returned (.bool true) ∧ Below w.heap.size w w' := by
  by_cases h : 50 < la
  · go_enter Try.func5, Try.ntmps5
    go_wp2_with (go_at_call 7; refine (awake_any _).mono ?_; rintro e w' ⟨rfl, hb⟩)
    go_ret
    exact ⟨rfl, hb⟩
  · by_cases h' : la = lb
    · subst h'
      go_enter Try.func5, Try.ntmps5
      go_wp2_with fail
      refine (many_any _ _ _ xs _ _ (la + m) (by omega) _ hx (Nat.le_refl _) (by omega) (by omega)).mono ?_
      rintro e w1 ⟨a1, c1, a2, c2, rfl, hn1, hcc1, hr1, hd1, hb1⟩
      have s1 := hb1.size
      have hy1 : Row 0 w.heap.size w1 b la ys := hy.below hb1 (Nat.le_refl _)
      go_wp2_with fail
      refine (many_any _ _ _ ys _ _ (la + m) (by omega) _ (hy1.alloc s1 _) (by simp; omega) (by omega) (by omega)).mono ?_
      rintro e w2 ⟨a3, c3, a4, c4, rfl, hn2, hcc2, hr2, hd2, hb2⟩
      have s2 := hb2.size
      rw [World.size_alloc] at s2
      have hy2 := hy1
      have e1 : (manyI xs 0 (la + m)).drop la = (manyI ys 0 (la + m)).drop la := manyI_apart xs ys 0 la m rfl hx.1 hy.1 (by omega)
      have e1 := hid e1
      have hr1' : Row w.heap.size w1.heap.size w2 a1 (la + m) (manyI xs 0 (la + m)) := (hr1.alloc (Nat.le_refl _) _).below hb2 (by simp)
      clear hx hy hy1 hy2 hd1 hr1 hd2 hn1 hn2
      by_cases hz : la + m = 0
      · obtain ⟨x1, hrun1⟩ := run_from0 (P := Try.prog) (t := 22) Try.underlying22 (by kernel_rfl) a1 c1
        obtain ⟨x2, hrun2⟩ := run_from0 (P := Try.prog) (t := 22) Try.underlying22 (by kernel_rfl) a3 c3
        have hla : la = 0 := by omega
        have hm0 : m = 0 := by omega
        subst hla hm0
        have rr : ∀ (w' : World) (x : Option Addr), Row 0 0 w' x 0 [] := fun _ _ => ⟨rfl, .inl rfl⟩
        have rr := hid rr
        go_wp2_with fail
        go_region_with (first
          | (go_at_call 15; refine (ints_true _ _ _ _ _ _ _ _ _ (rr.out _ _) (rr.out _ _) (by omega) rfl).mono ?_; rintro e w' ⟨rfl, q, rfl⟩)
          | (go_at_call 7; refine (awake_any _).mono ?_; rintro e w' ⟨rfl, hb⟩))
        go_wp2
        go_ret
        refine ⟨rfl, ?_⟩
        have k2 : Below w.heap.size w w2 := (hb1.alloc s1 _).trans (hb2.mono (B' := w.heap.size) (by simp; omega))
        have k3 := below_drewN (k2.alloc (by omega) (.cells #[.slice a4 0 c4, .int .i64 (atK 0 0)] 24)) (1 + q)
        exact k3.trans (hb.mono (B' := w.heap.size) (by show _ ≤ (World.alloc _ _).heap.size; simp; omega))
      · obtain ⟨b1, o1, rfl⟩ : ∃ b1 o1, a1 = some ⟨b1, o1, none⟩ := by
          rcases hr1'.2 with h0 | ⟨b1, o1, h1, _⟩
          · exact absurd h0 hz
          · exact ⟨b1, o1, h1⟩
        obtain ⟨b2, o2, rfl⟩ : ∃ b1 o1, a3 = some ⟨b1, o1, none⟩ := by
          rcases hr2.2 with h0 | ⟨b1, o1, h1, _⟩
          · exact absurd h0 hz
          · exact ⟨b1, o1, h1⟩
        obtain ⟨x1, hx1, hrun1⟩ := run_from (P := Try.prog) (t := 22) Try.underlying22 (by kernel_rfl) b1 o1 (la + m) c1 la (by omega) hcc1
        obtain ⟨x2, hx2, hrun2⟩ := run_from (P := Try.prog) (t := 22) Try.underlying22 (by kernel_rfl) b2 o2 (la + m) c3 la (by omega) hcc2
        have rr1 := ((hr1'.drop (k := la) (by omega) _ hx1).alloc (by omega) (.cells #[.slice a4 la c4, .int .i64 (atK 0 (la + m))] 24)).drew
        have rr2 := ((hr2.drop (k := la) (by omega) _ hx2).alloc (Nat.le_refl _) (.cells #[.slice a4 la c4, .int .i64 (atK 0 (la + m))] 24)).drew
        rw [Nat.add_sub_cancel_left] at rr1 rr2
        have hm1 : Hid _ := hx1
        have hm2 : Hid _ := hx2
        clear hx1 hx2
        go_wp2_with fail
        go_region_with (first
          | (go_at_call 15; refine (ints_true _ _ _ _ _ _ _ _ _ rr1 rr2 (by omega) e1.out).mono ?_; rintro e w' ⟨rfl, q, rfl⟩)
          | (go_at_call 7; refine (awake_any _).mono ?_; rintro e w' ⟨rfl, hb⟩))
        go_wp2
        go_ret
        refine ⟨rfl, ?_⟩
        have k2 : Below w.heap.size w w2 := (hb1.alloc s1 _).trans (hb2.mono (B' := w.heap.size) (by simp; omega))
        have k3 := below_drewN (k2.alloc (by omega) (.cells #[.slice a4 la c4, .int .i64 (atK 0 (la + m))] 24)) (1 + q)
        exact k3.trans (hb.mono (B' := w.heap.size) (by show _ ≤ (World.alloc _ _).heap.size; simp; omega))
    · have h2 : ((la : Int) != (lb : Int)) = true := by simp; omega
      go_enter Try.func5, Try.ntmps5
      go_wp2_with (go_at_call 7; refine (awake_any _).mono ?_; rintro e w' ⟨rfl, hb⟩)
      go_ret
      exact ⟨rfl, hb⟩

end Go.Proofs.Ytnipmnfpccpaoaa
