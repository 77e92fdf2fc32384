/- Contracts of package pick's setOf, of Clone, Start and of the statements' own Ints, same. -/
import Derived.Test.YthhcchdjeeigpaaDoorInts
import Derived.Test.YthhcchdjeeigpaaDoorSet
namespace Go.Proofs.YthhcchdjeeigpaaDoor
open Go.RowKit

theorem Tryd.info64 : (Tryd.prog.info? 81).map (fun i => (i.zero, i.size, i.bytes)) = some (some (.int .u64 0), 1, 8) := by kernel_rfl

theorem or_key (x r : Nat) (hx : x < 18446744073709551616) (hr : r < 64) : bits .or .u64 (x : Int) (IntKind.u64.wrap (2 ^ r)) = ((x ||| 2 ^ r : Nat) : Int) := by
  have h2 : 2 ^ r < 18446744073709551616 := Nat.pow_lt_pow_right (by decide) hr
  have e : IntKind.u64.wrap (2 ^ r) = ((2 ^ r : Nat) : Int) := by
    rw [← wrap_u64_nat (2 ^ r) h2]; simp
  rw [e, bits_or_u64_nat _ _ hx h2]

theorem setof_any (a : Option Addr) (la ca : Nat) (en : List Bool) (w : World) {lo hi : Nat} (hx : RowB lo hi w a la en) (hhi : hi ≤ w.heap.size) (hm : la ≤ 1000) :
    Calls Tryd.prog 74 #[.slice a la ca] w fun e w' => ∃ a' n c', e = .returned (.slice a' n c') ∧ RowU w.heap.size w'.heap.size w' a' n (words en) ∧ Below w.heap.size w w' := by
  obtain ⟨i0, hi0, hz0, hz1, hz2⟩ := info_parts Tryd.info64
  obtain ⟨hl, hx⟩ := hx
  have hN : ((la : Int) + 63) / 64 = (((la + 63) / 64 : Nat) : Int) := by omega
  obtain ⟨n, hne⟩ : ∃ n, n = (la + 63) / 64 := ⟨_, rfl⟩
  rw [← hne] at hN
  have hn16 : n ≤ 16 := by omega
  have HN := Lib.hid hne
  have HL := Lib.hid hl
  have HX := Lib.hid hx
  clear hne hl hx
  go_enter Tryd.func74, Tryd.ntmps74
  go_wp2_with (at_make; refine wpList_make_full _ rfl _ _ 153 rfl w.heap.size 81 i0 (.int .u64 0) 1 Tryd.underlying153 hi0 hz0 hz1 _ _ _ _ n rfl rfl rfl rfl ?m1 ?m2 ?m3 ?_)
  case m1 => rw [hz2]; omega
  case m2 => unfold maxLen; omega
  case m3 => simp
  intro w1 hown hgr
  rw [toList_madeCells_one] at hown
  have hb1 : Below w.heap.size w w1 := (Below.refl _ _).grown hgr (Nat.le_refl _) (by simp)
  have hs1 : w.heap.size < w1.heap.size := (hown.lt w.heap.size rfl).2
  clear hgr
  go_wp2
  go_loopw [13] (fun i wr => ∃ k : Nat, k ≤ la ∧ i = .int .i64 k ∧ wr.ownsRow w.heap.size 81 1 (.slice (some ⟨w.heap.size, 0, none⟩) n n) n ((wordsTo n en k).map (fun x : Nat => Value.int .u64 x)) ∧ Below w.heap.size w wr) (fun i _ => la - (intOf i).toNat)
  case atStart => exact ⟨0, Nat.zero_le _, rfl, by rw [wordsTo_zero]; simpa using hown, hb1⟩
  case round =>
    clear hown hb1 hs1
    obtain ⟨k, hk, rfl, hown, hb⟩ := hrel
    have hsz : w.heap.size < wr.heap.size := (hown.lt w.heap.size rfl).2
    by_cases hlt : k < la
    · obtain ⟨b, off, rfl, _, hbb, hc⟩ := HX.out.resolve_left (by omega)
      have hck := (hb.cell (p := ⟨b, off + k, none⟩) (by show b < _; omega)).trans (hc k hlt)
      have hb0 : b < wr.heap.size := by omega
      clear hc
      by_cases ht : en.getD k false = true
      · rw [ht] at hck
        obtain ⟨q, hq⟩ : ∃ q, q = k / 64 := ⟨_, rfl⟩
        obtain ⟨r, hr⟩ : ∃ r, r = k % 64 := ⟨_, rfl⟩
        have hqn : q < n := by have := HN.out; omega
        have hr64 : r < 64 := by omega
        have hst := wordsTo_true n en k (by rw [HL.out]; exact hlt) ht
        rw [← hq, ← hr] at hst
        have hx0 := word_lt (en.take k) q
        have hgt := wordsTo_get n en k q hqn
        have hcl : wr.cell? ⟨w.heap.size, q, none⟩ = some (.int .u64 (word (en.take k) q : Nat)) := by
          refine (hown.cellAt q (by omega)).trans ?_
          rw [List.getElem?_map, List.getElem?_eq_getElem (by rw [wordsTo_length]; exact hqn)]
          rw [List.getD_eq_getElem?_getD, List.getElem?_eq_getElem (by rw [wordsTo_length]; exact hqn)] at hgt
          simp at hgt; simp [hgt]
        have hfl := hown.frozenAt q
        have hor := or_key (word (en.take k) q) r hx0 hr64
        have hnew := (hown.stored q (.int .u64 ((word (en.take k) q ||| 2 ^ r : Nat) : Int))).1
        have hset : ((wordsTo n en k).map (fun x : Nat => Value.int .u64 x)).set q (.int .u64 ((word (en.take k) q ||| 2 ^ r : Nat) : Int)) = (wordsTo n en (k + 1)).map (fun x : Nat => Value.int .u64 x) := by
          rw [← hst, List.map_set]
        rw [hset] at hnew
        have HNEW := Lib.hid hnew
        have hk1 : (k : Int) / 64 = (q : Int) := by omega
        have hk2 : bits BinOp.and IntKind.i64 (k : Int) 63 = (r : Int) := by rw [mask6_i64]; omega
        have hk3 : 0 ≤ (r : Int) := by omega
        generalize word (en.take k) q = x at *
        generalize hy : x ||| 2 ^ r = y at *
        have HB := Lib.hid hb
        clear hy hnew hset hgt hst hq hr ht hown hb
        go_wp2_with fail
        go_region
        go_wp2_with fail
        go_roundw
        case rel => exact ⟨k + 1, by omega, by go_num, HNEW.out, (HB.out.setCell (Nat.le_refl _) _).drew⟩
        case measure => simp [intOf]; omega
      · have ht : en.getD k false = false := by simpa using ht
        rw [ht] at hck
        have hst := wordsTo_false n en k (by rw [HL.out]; exact hlt) ht
        have HS := Lib.hid hst
        clear hst ht
        go_wp2_with fail
        go_roundw
        case rel => exact ⟨k + 1, by omega, by go_num, by rw [HS.out]; exact hown, hb⟩
        case measure => simp [intOf]; omega
    · obtain rfl : k = la := by omega
      go_wp2_with fail
      go_ret
      have e : wordsTo n en k = words en := by rw [HN.out, ← HL.out]; exact wordsTo_all en
      rw [e] at hown
      have hln : (words en).length = n := by rw [words_length, HL.out, HN.out]
      obtain ⟨a1, c1, h1, h2⟩ := RowF.of_owns (f := fun x : Nat => Value.int .u64 x) (d := 0) (xs := words en) (by rw [hln]; exact hown)
      rw [hln] at h1 h2
      exact ⟨_, _, _, by rw [← h1]; rfl, h2, hb⟩

theorem Start_any (a : Option Addr) (la ca : Nat) (xs : List Int) (w : World) {lo hi : Nat} (hx : Row lo hi w a la xs) (hhi : hi ≤ w.heap.size) (hm : la ≤ 1000000) :
    Calls Tryd.prog 56 #[.slice a la ca] w fun e w' => ∃ a' c', e = .returned (.agg #[.slice a' la c', .int .i64 0, .int .i64 (-1)]) ∧ Row w.heap.size w'.heap.size w' a' la xs ∧ Below w.heap.size w w' := by
  have hg0 : ∀ o, Below w.heap.size w (w.alloc o) := fun o => by go_grown
  have b1 := Box.new w 94 [.slice none 0 0, .int .i64 0, .int .i64 0]
  go_enter Tryd.func56, Tryd.ntmps56
  go_wp2_with fail
  refine (clone_any _ _ _ xs _ (hx.below (hg0 _) hhi) (by simp; omega) hm).mono ?_
  rintro e w1 ⟨a', c', rfl, hr, hb⟩
  have B1 := b1.below hb
  have s1 := hb.size
  rw [World.size_alloc] at s1
  have hb' := (hg0 (.cells #[.slice none 0 0, .int .i64 0, .int .i64 0] 94)).trans (hb.mono (by simp))
  obtain ⟨_, _, _, _, _, _⟩ := B1.three
  go_wp2
  refine bodyPost_ret (v := .agg #[.slice a' la c', .int .i64 0, .int .i64 (-1)]) (by simp only [results, Tryd.results56]; go_simp) rfl ⟨_, _, rfl, ?_, ?_⟩
  · exact (((hr.set (.inl (by simp)) _).set (.inl (by simp)) _).set (.inl (by simp)) _).mono (by simp) (by simp)
  · exact ((hb'.setCell (by simp) _).setCell (by simp) _).setCell (by simp) _

theorem rstart_any (a : Option Addr) (la ca : Nat) (w : World) :
    Calls Tryd.prog 40 #[.slice a la ca] w fun e w' => e = .returned (.agg #[.slice a la ca, .int .i64 0, .int .i64 (-1)]) ∧ Below w.heap.size w w' := by
  go_enter Tryd.func40, Tryd.ntmps40
  go_wp2
  refine bodyPost_ret (v := .agg #[.slice a la ca, .int .i64 0, .int .i64 (-1)]) (by simp only [results, Tryd.results40]; go_simp) rfl ⟨rfl, ?_⟩
  go_grown

end Go.Proofs.YthhcchdjeeigpaaDoor
