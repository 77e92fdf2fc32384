/- Contracts of package pick's sets: count, nth, from, behind; of modulo. Contracts of package pick's setOf, of Clone, Start and of the statements' own Ints, same. Contracts of package play's sets of workers, as bits. -/
import Derived.Test.YtpfcpeljfgmjgaaDoorZpl
import Derived.Test.YtpfcpeljfgmjgaaDoorZpa
import Derived.Test.YtpfcpeljfgmjgaaDoorZpk
import Derived.Laws.BitsAllLaws
namespace Go.Proofs.YtpfcpeljfgmjgaaDoor
open Go.RowKit

/-- A set's slice holds the words of these bools. -/
def Holds (w : World) (a : Option Addr) (n : Nat) (en : List Bool) : Prop := ∃ lo hi, RowU lo hi w a n (words en)

theorem Holds.len {w : World} {a : Option Addr} {n : Nat} {en : List Bool} (h : Holds w a n en) : n = (en.length + 63) / 64 := by
  obtain ⟨_, _, h, _⟩ := h; rw [words_length] at h; exact h.symm

theorem Holds.cells {w : World} {a : Option Addr} {n : Nat} {en : List Bool} (h : Holds w a n en) (hn : n ≠ 0) :
    ∃ b off, a = some ⟨b, off, none⟩ ∧ b < b + 1 ∧ Hid (∀ i, i < n → w.cell? ⟨b, off + i, none⟩ = some (.int .u64 (wd (chunk en i) : Nat))) := by
  have hl := h.len
  obtain ⟨lo, hi, h1, h2 | ⟨b, off, h3, _, _, h4⟩⟩ := h
  · exact absurd h2 hn
  · exact ⟨b, off, h3, Nat.lt_succ_self _, fun i hi => by rw [h4 i hi, words_get en i (by omega)]; rfl⟩

theorem Holds.zero {w : World} {a : Option Addr} {en : List Bool} (h : Holds w a 0 en) : en = [] := by
  have := h.len; exact List.length_eq_zero_iff.1 (by omega)

theorem on_take_all (en : List Bool) (j : Nat) (h : en.length ≤ 64 * j) : on 0 (en.take (64 * j)) = on 0 en := by rw [List.take_of_length_le h]

theorem count_step (en : List Bool) (k : Nat) (h : 64 * k ≤ en.length) : ((on 0 (en.take (64 * k))).length : Int) + (on 0 (chunk en k)).length = (on 0 (en.take (64 * (k + 1)))).length := by
  rw [on_take_chunk en k h, List.length_append, on_shift (chunk en k) (64 * k)]; simp

theorem count_any (a : Option Addr) (n c : Nat) (en : List Bool) (w : World) (h : Holds w a n en) (hen : en.length ≤ 1000) :
    Calls Tryd.prog 98 #[.slice a n c] w fun e w' => e = .returned (.int .i64 (on 0 en).length) ∧ w = w' := by
  have hl := h.len
  by_cases hn : n = 0
  · subst hn
    obtain rfl := h.zero
    clear h hl
    go_enter Tryd.func98, Tryd.ntmps98
    go_wp2
    go_rounds 1
    go_ret
    exact ⟨rfl, rfl⟩
  · obtain ⟨b, off, rfl, _, HC⟩ := h.cells hn
    clear h
    have hn16 : n ≤ 16 := by omega
    have HL : Hid (n = (en.length + 63) / 64) := hl
    clear hl
    go_enter Tryd.func98, Tryd.ntmps98
    go_wp2
    go_loop [3, 8] (fun s i => ∃ k : Nat, k ≤ n ∧ i = .int .i64 k ∧ s = .int .i64 (on 0 (en.take (64 * k))).length) (fun _ i => n - (intOf i).toNat)
    case atStart => exact ⟨0, Nat.zero_le _, rfl, rfl⟩
    case round =>
      obtain ⟨k, hk, rfl, rfl⟩ := hrel
      by_cases hlt : k < n
      · have hc := HC.out k hlt
        have hcl := chunk_length en k
        have hb1 := on_length_le (en.take (64 * k)) 0
        have hb2 := on_length_le (chunk en k) 0
        have hb3 : (en.take (64 * k)).length ≤ 1000 := by simp; omega
        go_wp2_with (go_at_call 117; refine (ones_any _ _ hcl).mono ?_; rintro e w1 ⟨rfl, rfl⟩)
        go_round
        case rel => exact ⟨k + 1, by omega, by go_num, by rw [← count_step en k (by have := HL.out; omega)]⟩
        case measure => simp [intOf]; omega
      · obtain rfl : k = n := by omega
        go_wp2
        go_ret
        exact ⟨by rw [on_take_all en k (by have := HL.out; omega)]; rfl, rfl⟩

theorem tmod_emod (x c : Int) : x % c = x.tmod c % c := by
  conv => lhs; rw [← Int.tmod_add_mul_tdiv x c]
  exact Int.add_mul_emod_self_left _ _ _

theorem modulo_any (x c : Int) (w : World) (h0 : 0 < c) (h1 : c ≤ 1000) :
    Calls Tryd.prog 100 #[.int .i64 x, .int .i64 c] w fun e w' => e = .returned (.int .i64 (x % c)) ∧ w = w' := by
  have hne : (c == 0) = false := by simp; omega
  by_cases hs : x.tmod c < 0
  · have hb : -1000 < x.tmod c := by have := Int.lt_tmod_of_pos x h0; omega
    have hm : x % c = x.tmod c + c := by
      have := Int.lt_tmod_of_pos x h0
      rw [tmod_emod, ← Int.add_emod_right, Int.emod_eq_of_lt (by omega) (by omega)]
    rw [hm]; clear hm
    go_enter Tryd.func100, Tryd.ntmps100
    go_wp2
    go_ret
    exact ⟨rfl, rfl⟩
  · have hm : x % c = x.tmod c := by
      have := Int.tmod_lt_of_pos x h0
      rw [tmod_emod, Int.emod_eq_of_lt (by omega) (by omega)]
    rw [hm]; clear hm
    go_enter Tryd.func100, Tryd.ntmps100
    go_wp2
    go_ret
    exact ⟨rfl, rfl⟩

theorem clr_key (l : List Bool) (hl : l.length ≤ 64) (hne : wd l ≠ 0) : bits .and .u64 (wd l : Int) ((wd l : Int) - 1) = (wd (clr l) : Nat) := by
  have hlt := wd_lt64 l hl
  rw [show (wd l : Int) - 1 = ((wd l - 1 : Nat) : Int) from by omega, bits_and_u64_nat _ _ hlt (by omega), wd_clr]

theorem nth_any (a : Option Addr) (n c : Nat) (en : List Bool) (k : Nat) (w : World) (h : Holds w a n en) (hen : en.length ≤ 1000) (hT : Tab w) (hk : k < (on 0 en).length) :
    Calls Tryd.prog 99 #[.slice a n c, .int .i64 k] w fun e w' => e = .returned (.int .i64 ((on 0 en).getD k 0 : Nat)) ∧ w = w' := by
  have hl := h.len
  have hlen := on_length_le en 0
  have hn : n ≠ 0 := by omega
  obtain ⟨b, off, rfl, _, HC⟩ := h.cells hn
  clear h
  have hn16 : n ≤ 16 := by omega
  have HL : Hid (n = (en.length + 63) / 64) := hl
  have HT := Lib.hid hT
  clear hl hT
  go_enter Tryd.func99, Tryd.ntmps99
  go_wp2
  go_loop [1, 10] (fun r i => ∃ j m : Nat, j ≤ n ∧ i = .int .i64 j ∧ r = .int .i64 m ∧ Hid ((on 0 (en.take (64 * j))).length + m = k)) (fun _ i => n - (intOf i).toNat)
  case atStart => exact ⟨0, k, Nat.zero_le _, rfl, rfl, by simp [Hid, on]⟩
  case round =>
    obtain ⟨j, m, hj, rfl, rfl, hm⟩ := hrel
    by_cases hlt : j < n
    · have hc := HC.out j hlt
      have hcl := chunk_length en j
      have hb2 := on_length_le (chunk en j) 0
      have hmk : m ≤ 1000 := by have := hm.out; omega
      have hjl : 64 * j ≤ en.length := by have := HL.out; omega
      by_cases hge : (on 0 (chunk en j)).length ≤ m
      · go_wp2_with (go_at_call 117; refine (ones_any _ _ hcl).mono ?_; rintro e w1 ⟨rfl, rfl⟩)
        go_round
        case rel => exact ⟨j + 1, m - (on 0 (chunk en j)).length, by omega, by go_num, by rw [Int.ofNat_sub hge], by
          have := hm.out
          show _ = k
          rw [on_take_chunk en j hjl, List.length_append, on_shift (chunk en j) (64 * j), List.length_map]; omega⟩
        case measure => simp [intOf]; omega
      · go_wp2_with (go_at_call 117; refine (ones_any _ _ hcl).mono ?_; rintro e w1 ⟨rfl, rfl⟩)
        go_loop [6, 24] (fun v i => ∃ q : Nat, q ≤ m ∧ i = .int .i64 q ∧ v = .int .u64 (wd (clrs q (chunk en j)) : Nat)) (fun _ i => m - (intOf i).toNat)
        case atStart => exact ⟨0, Nat.zero_le _, rfl, rfl⟩
        case round =>
          obtain ⟨q, hq, rfl, rfl⟩ := hrel
          have hql := clrs_length q (chunk en j)
          have hne : ∃ x r, on 0 (clrs q (chunk en j)) = x :: r := by
            rw [on_clrs]
            exact ⟨_, _, List.drop_eq_getElem_cons (by omega)⟩
          obtain ⟨x, r, hxr⟩ := hne
          have hxb := on_range _ 0 x (by rw [hxr]; exact List.mem_cons_self)
          have hx64 : x < 64 := by omega
          have hw0 : 1 ≤ wd (clrs q (chunk en j)) := by
            have : wd (clrs q (chunk en j)) ≠ 0 := by rw [Ne, wd_zero_iff _ 0, hxr]; simp
            omega
          have hw1 := wd_lt64 (clrs q (chunk en j)) (by omega)
          have hck := clr_key (clrs q (chunk en j)) (by omega) (by omega)
          have HXR := Lib.hid hxr
          clear hxr hxb hql
          by_cases hlq : q < m
          · have e : wd (clr (clrs q (chunk en j))) = wd (clrs (q + 1) (chunk en j)) := rfl
            rw [e] at hck
            clear e
            go_wp2
            go_round
            case rel => exact ⟨q + 1, by omega, by go_num, rfl⟩
            case measure => simp [intOf]; omega
          · obtain rfl : q = m := by omega
            clear hck
            go_wp2_with (go_at_call 118; refine (tz_any _ x r _ (by rw [clrs_length]; exact hcl) HXR.out HT.out).mono ?_; rintro e w1 ⟨rfl, rfl⟩)
            go_ret
            obtain ⟨x', r', h1, h2⟩ := on_nth en k j hjl (by have := hm.out; omega) (by
              have := hm.out
              rw [on_take_chunk en j hjl, List.length_append, on_shift (chunk en j) (64 * j), List.length_map]; omega)
            have hq0 : k - (on 0 (en.take (64 * j))).length = q := by have := hm.out; omega
            rw [hq0, HXR.out] at h1
            have hxx : x = x' := (List.cons.inj h1).1
            refine ⟨?_, rfl⟩
            show Ending.returned (.int .i64 ((j : Int) * 64 + (x : Int))) = _
            rw [← h2, hxx]
            congr 2
            omega
    · exfalso
      obtain rfl : j = n := by omega
      have := hm.out
      rw [on_take_all en j (by have := HL.out; omega)] at this
      omega

theorem mask6_i64 (n : Int) : bits .and .i64 n 63 = n % 64 := by
  have hm : (BitVec.ofInt 64 63).toNat = 2 ^ 6 - 1 := by decide
  have key : (BitVec.ofInt 64 n &&& BitVec.ofInt 64 63).toNat = (n % ((2 ^ 64 : Nat) : Int)).toNat % 2 ^ 6 := by
    rw [BitVec.toNat_and, BitVec.toNat_ofInt, hm, Nat.and_two_pow_sub_one_eq_mod]
  show IntKind.i64.wrap ((BitVec.ofInt 64 n &&& BitVec.ofInt 64 63).toNat : Nat) = n % 64
  rw [key, IntKind.wrap_i64]
  omega

theorem cut_key (r : Nat) (l : List Bool) (hl : l.length ≤ 64) : IntKind.u64.wrap ((wd l : Int) / 2 ^ r * 2 ^ r) = ((wd (cut r l) : Nat) : Int) := by
  have hlt := wd_lt64 (cut r l) (by rw [cut_length]; exact hl)
  have e : (wd l : Int) / 2 ^ r * 2 ^ r = ((wd (cut r l) : Nat) : Int) := by rw [wd_cut]; simp
  rw [e]; exact wrap_u64_nat _ hlt

theorem from_any (a : Option Addr) (n c : Nat) (en : List Bool) (S : Int) (s : Nat) (hS : S = (s : Int)) (w : World) (h : Holds w a n en) (hen : en.length ≤ 1000) (hT : Tab w) (_hs : s ≤ 100000) :
    Calls Tryd.prog 119 #[.slice a n c, .int .i64 S] w fun e w' => e = .returned (.int .i64 (from' en s)) ∧ w = w' := by
  subst hS
  have hl := h.len
  have HC : n ≠ 0 → ∃ b off, a = some ⟨b, off, none⟩ ∧ b < b + 1 ∧ Hid (∀ i, i < n → w.cell? ⟨b, off + i, none⟩ = some (.int .u64 (wd (chunk en i) : Nat))) := h.cells
  have HC := Lib.hid HC
  clear h
  have hn16 : n ≤ 16 := by omega
  have HL : Hid (n = (en.length + 63) / 64) := hl
  have HT := Lib.hid hT
  have hk : bits BinOp.and IntKind.i64 (s : Int) 63 = ((s % 64 : Nat) : Int) := by rw [mask6_i64]; omega
  obtain ⟨r, hr⟩ : ∃ r, r = s % 64 := ⟨_, rfl⟩
  rw [← hr] at hk
  have hr64 : r < 64 := by omega
  have hp : (s : Int) / 64 = ((s / 64 : Nat) : Int) := by omega
  have hpast := past_start en s
  obtain ⟨p, hpe⟩ : ∃ p, p = s / 64 := ⟨_, rfl⟩
  rw [← hpe] at hp hpast
  have HR := Lib.hid (And.intro hr hpe)
  clear hl hT hr hpe
  go_enter Tryd.func119, Tryd.ntmps119
  go_wp2
  go_loop [5] (fun i => ∃ j : Nat, i = .int .i64 j ∧ p ≤ j ∧ Hid ((j ≤ n ∨ j = p) ∧ Past en s j)) (fun i => n - (intOf i).toNat)
  case atStart => exact ⟨p, rfl, Nat.le_refl _, .inr rfl, hpast⟩
  case round =>
    clear hpast
    obtain ⟨j, rfl, hpj, hj⟩ := hrel
    by_cases hlt : j < n
    · obtain ⟨b, off, rfl, _, hcs⟩ := HC.out (by omega)
      have hc := hcs.out j hlt
      have hcl := chunk_length en j
      have hwl := wd_lt64 _ hcl
      have hjl : 64 * j ≤ en.length := by have := HL.out; omega
      by_cases hfirst : j = p
      · subst hfirst
        have hcut := cut_key r (chunk en j) hcl
        have hsl := cut_length r (chunk en j)
        have hseen : seen en s j = cut r (chunk en j) := by unfold seen; rw [if_pos HR.out.2, HR.out.1]
        have hcll : (cut r (chunk en j)).length ≤ 64 := by omega
        have hwl2 := wd_lt64 _ hcll
        clear hsl
        by_cases hz : wd (cut r (chunk en j)) = 0
        · have hz1 : ((wd (cut r (chunk en j)) : Int) != 0) = false := by rw [hz]; rfl
          have hon := (wd_zero_iff (cut r (chunk en j)) 0).1 hz
          rw [← hseen] at hon
          have hnx := past_next en s j hjl (by have := HR.out; omega) hj.out.2 hon
          have HN := Lib.hid hnx
          clear hnx hon hz hseen
          go_wp2_with fail
          go_round
          case rel => exact ⟨j + 1, by go_num, by omega, .inl (by omega), HN.out⟩
          case measure => simp [intOf]; omega
        · have hz1 : ((wd (cut r (chunk en j)) : Int) != 0) = true := by rw [bne_iff_ne]; omega
          cases hon : on 0 (cut r (chunk en j)) with
          | nil => exact absurd ((wd_zero_iff (cut r (chunk en j)) 0).2 hon) hz
          | cons x t =>
            have hx64 : x < 64 := by have := on_range (cut r (chunk en j)) 0 x (by rw [hon]; exact List.mem_cons_self); omega
            have hit := from_hit en s j x t hjl (by have := HR.out; omega) hj.out.2 (by rw [hseen]; exact hon)
            have HI := Lib.hid hit
            have HO := Lib.hid hon
            clear hit hon hseen
            go_wp2_with (go_at_call 118; refine (tz_any _ x t _ hcll HO.out HT.out).mono ?_; rintro e w1 ⟨rfl, rfl⟩)
            go_ret
            refine ⟨?_, rfl⟩
            show Ending.returned (.int .i64 ((j : Int) * 64 + (x : Int))) = _
            rw [HI.out]
            congr 2
            omega
      · have hf : ((j : Int) == (p : Int)) = false := by simp; omega
        have hseen : seen en s j = chunk en j := by unfold seen; rw [if_neg (by have := HR.out; omega)]
        by_cases hz : wd (chunk en j) = 0
        · have hz1 : ((wd (chunk en j) : Int) != 0) = false := by rw [hz]; rfl
          have hon := (wd_zero_iff (chunk en j) 0).1 hz
          rw [← hseen] at hon
          have hnx := past_next en s j hjl (by have := HR.out; omega) hj.out.2 hon
          have HN := Lib.hid hnx
          clear hnx hon hz hseen
          go_wp2_with fail
          go_round
          case rel => exact ⟨j + 1, by go_num, by omega, .inl (by omega), HN.out⟩
          case measure => simp [intOf]; omega
        · have hz1 : ((wd (chunk en j) : Int) != 0) = true := by rw [bne_iff_ne]; omega
          cases hon : on 0 (chunk en j) with
          | nil => exact absurd ((wd_zero_iff (chunk en j) 0).2 hon) hz
          | cons x t =>
            have hx64 : x < 64 := by have := on_range (chunk en j) 0 x (by rw [hon]; exact List.mem_cons_self); omega
            have hit := from_hit en s j x t hjl (by have := HR.out; omega) hj.out.2 (by rw [hseen]; exact hon)
            have HI := Lib.hid hit
            have HO := Lib.hid hon
            clear hit hon hseen
            go_wp2_with (go_at_call 118; refine (tz_any _ x t _ hcl HO.out HT.out).mono ?_; rintro e w1 ⟨rfl, rfl⟩)
            go_ret
            refine ⟨?_, rfl⟩
            show Ending.returned (.int .i64 ((j : Int) * 64 + (x : Int))) = _
            rw [HI.out]
            congr 2
            omega
    · go_wp2
      go_ret
      refine ⟨?_, rfl⟩
      show Ending.returned (.int .i64 (-1)) = _
      rw [from_miss en s j (by have := HL.out; omega) hj.out.2]

theorem from_range (en : List Bool) (s : Nat) : from' en s = -1 ∨ (0 ≤ from' en s ∧ from' en s < en.length) := by
  unfold from'
  split
  · rename_i x hx
    have := on_range _ _ _ (List.mem_of_find?_eq_some hx)
    omega
  · exact .inl rfl


end Go.Proofs.YtpfcpeljfgmjgaaDoor

namespace Go.Proofs.YtpfcpeljfgmjgaaDoor
open Go.RowKit

theorem Tryd.info64 : (Tryd.prog.info? 74).map (fun i => (i.zero, i.size, i.bytes)) = some (some (.int .u64 0), 1, 8) := by kernel_rfl

theorem or_key (x r : Nat) (hx : x < 18446744073709551616) (hr : r < 64) : bits .or .u64 (x : Int) (IntKind.u64.wrap (2 ^ r)) = ((x ||| 2 ^ r : Nat) : Int) := by
  have h2 : 2 ^ r < 18446744073709551616 := Nat.pow_lt_pow_right (by decide) hr
  have e : IntKind.u64.wrap (2 ^ r) = ((2 ^ r : Nat) : Int) := by
    rw [← wrap_u64_nat (2 ^ r) h2]; simp
  rw [e, bits_or_u64_nat _ _ hx h2]

theorem setof_any (a : Option Addr) (la ca : Nat) (en : List Bool) (w : World) {lo hi : Nat} (hx : RowB lo hi w a la en) (hhi : hi ≤ w.heap.size) (hm : la ≤ 1000) :
    Calls Tryd.prog 97 #[.slice a la ca] w fun e w' => ∃ a' n c', e = .returned (.slice a' n c') ∧ RowU w.heap.size w'.heap.size w' a' n (words en) ∧ Below w.heap.size w w' := by
  obtain ⟨i0, hi0, hz0, hz1, hz2⟩ := info_parts Tryd.info64
  obtain ⟨hl, hx⟩ := hx
  have hN : ((la : Int) + 63) / 64 = (((la + 63) / 64 : Nat) : Int) := by omega
  obtain ⟨n, hne⟩ : ∃ n, n = (la + 63) / 64 := ⟨_, rfl⟩
  rw [← hne] at hN
  have hn16 : n ≤ 16 := by omega
  have HN := Lib.hid hne
  have HL := Lib.hid hl
  have HX := Lib.hid hx
  clear hne hl hx
  go_enter Tryd.func97, Tryd.ntmps97
  go_wp2_with (at_make; refine wpList_make_full _ rfl _ _ 167 rfl w.heap.size 74 i0 (.int .u64 0) 1 Tryd.underlying167 hi0 hz0 hz1 _ _ _ _ n rfl rfl rfl rfl ?m1 ?m2 ?m3 ?_)
  case m1 => rw [hz2]; omega
  case m2 => unfold maxLen; omega
  case m3 => simp
  intro w1 hown hgr
  rw [toList_madeCells_one] at hown
  have hb1 : Below w.heap.size w w1 := (Below.refl _ _).grown hgr (Nat.le_refl _) (by simp)
  have hs1 : w.heap.size < w1.heap.size := (hown.lt w.heap.size rfl).2
  clear hgr
  go_wp2
  go_loopw [13] (fun i wr => ∃ k : Nat, k ≤ la ∧ i = .int .i64 k ∧ wr.ownsRow w.heap.size 74 1 (.slice (some ⟨w.heap.size, 0, none⟩) n n) n ((wordsTo n en k).map (fun x : Nat => Value.int .u64 x)) ∧ Below w.heap.size w wr) (fun i _ => la - (intOf i).toNat)
  case atStart => exact ⟨0, Nat.zero_le _, rfl, by rw [wordsTo_zero]; simpa using hown, hb1⟩
  case round =>
    clear hown hb1 hs1
    obtain ⟨k, hk, rfl, hown, hb⟩ := hrel
    have hsz : w.heap.size < wr.heap.size := (hown.lt w.heap.size rfl).2
    by_cases hlt : k < la
    · obtain ⟨b, off, rfl, _, hbb, hc⟩ := HX.out.resolve_left (by omega)
      have hck := (hb.cell (p := ⟨b, off + k, none⟩) (by show b < _; omega)).trans (hc k hlt)
      have hb0 : b < wr.heap.size := by omega
      clear hc
      by_cases ht : en.getD k false = true
      · rw [ht] at hck
        obtain ⟨q, hq⟩ : ∃ q, q = k / 64 := ⟨_, rfl⟩
        obtain ⟨r, hr⟩ : ∃ r, r = k % 64 := ⟨_, rfl⟩
        have hqn : q < n := by have := HN.out; omega
        have hr64 : r < 64 := by omega
        have hst := wordsTo_true n en k (by rw [HL.out]; exact hlt) ht
        rw [← hq, ← hr] at hst
        have hx0 := word_lt (en.take k) q
        have hgt := wordsTo_get n en k q hqn
        have hcl : wr.cell? ⟨w.heap.size, q, none⟩ = some (.int .u64 (word (en.take k) q : Nat)) := by
          refine (hown.cellAt q (by omega)).trans ?_
          rw [List.getElem?_map, List.getElem?_eq_getElem (by rw [wordsTo_length]; exact hqn)]
          rw [List.getD_eq_getElem?_getD, List.getElem?_eq_getElem (by rw [wordsTo_length]; exact hqn)] at hgt
          simp at hgt; simp [hgt]
        have hfl := hown.frozenAt q
        have hor := or_key (word (en.take k) q) r hx0 hr64
        have hnew := (hown.stored q (.int .u64 ((word (en.take k) q ||| 2 ^ r : Nat) : Int))).1
        have hset : ((wordsTo n en k).map (fun x : Nat => Value.int .u64 x)).set q (.int .u64 ((word (en.take k) q ||| 2 ^ r : Nat) : Int)) = (wordsTo n en (k + 1)).map (fun x : Nat => Value.int .u64 x) := by
          rw [← hst, List.map_set]
        rw [hset] at hnew
        have HNEW := Lib.hid hnew
        have hk1 : (k : Int) / 64 = (q : Int) := by omega
        have hk2 : bits BinOp.and IntKind.i64 (k : Int) 63 = (r : Int) := by rw [mask6_i64]; omega
        have hk3 : 0 ≤ (r : Int) := by omega
        generalize word (en.take k) q = x at *
        generalize hy : x ||| 2 ^ r = y at *
        have HB := Lib.hid hb
        clear hy hnew hset hgt hst hq hr ht hown hb
        go_wp2_with fail
        go_region
        go_wp2_with fail
        go_roundw
        case rel => exact ⟨k + 1, by omega, by go_num, HNEW.out, (HB.out.setCell (Nat.le_refl _) _).drew⟩
        case measure => simp [intOf]; omega
      · have ht : en.getD k false = false := by simpa using ht
        rw [ht] at hck
        have hst := wordsTo_false n en k (by rw [HL.out]; exact hlt) ht
        have HS := Lib.hid hst
        clear hst ht
        go_wp2_with fail
        go_roundw
        case rel => exact ⟨k + 1, by omega, by go_num, by rw [HS.out]; exact hown, hb⟩
        case measure => simp [intOf]; omega
    · obtain rfl : k = la := by omega
      go_wp2_with fail
      go_ret
      have e : wordsTo n en k = words en := by rw [HN.out, ← HL.out]; exact wordsTo_all en
      rw [e] at hown
      have hln : (words en).length = n := by rw [words_length, HL.out, HN.out]
      obtain ⟨a1, c1, h1, h2⟩ := RowF.of_owns (f := fun x : Nat => Value.int .u64 x) (d := 0) (xs := words en) (by rw [hln]; exact hown)
      rw [hln] at h1 h2
      exact ⟨_, _, _, by rw [← h1]; rfl, h2, hb⟩

theorem Start_any (a : Option Addr) (la ca : Nat) (xs : List Int) (w : World) {lo hi : Nat} (hx : Row lo hi w a la xs) (hhi : hi ≤ w.heap.size) (hm : la ≤ 1000000) :
    Calls Tryd.prog 69 #[.slice a la ca] w fun e w' => ∃ a' c', e = .returned (.agg #[.slice a' la c', .int .i64 0, .int .i64 (-1)]) ∧ Row w.heap.size w'.heap.size w' a' la xs ∧ Below w.heap.size w w' := by
  have hg0 : ∀ o, Below w.heap.size w (w.alloc o) := fun o => by go_grown
  have b1 := Box.new w 88 [.slice none 0 0, .int .i64 0, .int .i64 0]
  go_enter Tryd.func69, Tryd.ntmps69
  go_wp2_with fail
  refine (clone_any _ _ _ xs _ (hx.below (hg0 _) hhi) (by simp; omega) hm).mono ?_
  rintro e w1 ⟨a', c', rfl, hr, hb⟩
  have B1 := b1.below hb
  have s1 := hb.size
  rw [World.size_alloc] at s1
  have hb' := (hg0 (.cells #[.slice none 0 0, .int .i64 0, .int .i64 0] 88)).trans (hb.mono (by simp))
  obtain ⟨_, _, _, _, _, _⟩ := B1.three
  go_wp2
  refine bodyPost_ret (v := .agg #[.slice a' la c', .int .i64 0, .int .i64 (-1)]) (by simp only [results, Tryd.results69]; go_simp) rfl ⟨_, _, rfl, ?_, ?_⟩
  · exact (((hr.set (.inl (by simp)) _).set (.inl (by simp)) _).set (.inl (by simp)) _).mono (by simp) (by simp)
  · exact ((hb'.setCell (by simp) _).setCell (by simp) _).setCell (by simp) _

theorem rstart_any (a : Option Addr) (la ca : Nat) (w : World) :
    Calls Tryd.prog 44 #[.slice a la ca] w fun e w' => e = .returned (.agg #[.slice a la ca, .int .i64 0, .int .i64 (-1)]) ∧ Below w.heap.size w w' := by
  go_enter Tryd.func44, Tryd.ntmps44
  go_wp2
  refine bodyPost_ret (v := .agg #[.slice a la ca, .int .i64 0, .int .i64 (-1)]) (by simp only [results, Tryd.results44]; go_simp) rfl ⟨rfl, ?_⟩
  go_grown

end Go.Proofs.YtpfcpeljfgmjgaaDoor

namespace Go.Proofs.YtpfcpeljfgmjgaaDoor
open Go.RowKit
set_option linter.unusedVariables false
set_option linter.unusedSimpArgs false

theorem wd_bit : ∀ (l : List Bool) (i : Nat), (wd l).testBit i = l.getD i false
  | [], i => by simp [wd]
  | b :: r, 0 => by cases b <;> simp [wd, Nat.testBit_zero]
  | b :: r, i + 1 => by
    have e : wd (b :: r) / 2 = wd r := by cases b <;> simp [wd] <;> omega
    rw [Nat.testBit_succ, e, wd_bit r i]; simp
theorem getD_set (l : List Bool) (i j : Nat) (b : Bool) (h : i < l.length) : (l.set i b).getD j false = if i = j then b else l.getD j false := by
  by_cases e : i = j
  · subst e; simp [List.getD, h]
  · simp [List.getD, List.getElem?_set, e]
theorem wd_set_true (l : List Bool) (i : Nat) (h : i < l.length) : wd l ||| 2 ^ i = wd (l.set i true) := by
  apply Nat.eq_of_testBit_eq
  intro j
  rw [Nat.testBit_or, Nat.testBit_two_pow, wd_bit, wd_bit, getD_set _ _ _ _ h]
  by_cases e : i = j <;> simp [e]
theorem wd_set_false (l : List Bool) (i : Nat) (h : i < l.length) (h6 : l.length ≤ 64) : wd l &&& (18446744073709551615 - 2 ^ i) = wd (l.set i false) := by
  apply Nat.eq_of_testBit_eq
  intro j
  have h2 : 2 ^ i < 2 ^ 64 := Nat.pow_lt_pow_right (by decide) (by omega)
  have e : 18446744073709551615 - 2 ^ i = 2 ^ 64 - (2 ^ i + 1) := by have : (2 : Nat) ^ 64 = 18446744073709551616 := by decide
                                                                     omega
  rw [Nat.testBit_and, e, Nat.testBit_two_pow_sub_succ h2, Nat.testBit_two_pow, wd_bit, wd_bit, getD_set _ _ _ _ h]
  by_cases e : i = j
  · simp [e]
  · by_cases hj : j < 64
    · simp [e, hj]
    · have : l.getD j false = false := by simp [List.getD, List.getElem?_eq_none (show l.length ≤ j by omega)]
      rw [this]; simp [e]
theorem wd_or {α : Type} (l : List α) (f g : α → Bool) : wd (l.map f) ||| wd (l.map g) = wd (l.map fun k => f k || g k) := by
  apply Nat.eq_of_testBit_eq
  intro j
  rw [Nat.testBit_or, wd_bit, wd_bit, wd_bit]
  cases h : l[j]? <;> simp [List.getD, h]

theorem has_any (l : List Bool) (i : Nat) (w : World) (h : l.length ≤ 64) (hi : i < 64) :
    Calls Tryd.prog 71 #[.int .u64 (wd l : Nat), .int .i64 (i : Int)] w fun e w' => e = .returned (.bool (l.getD i false)) ∧ w = w' := by
  have h0 := wd_lt64 l h
  have hb := wd_bit l i
  generalize wd l = x at *
  have h1 : x / 2 ^ i < 18446744073709551616 := Nat.lt_of_le_of_lt (Nat.div_le_self _ _) h0
  have e1 : ((x : Int) / 2 ^ i) = ((x / 2 ^ i : Nat) : Int) := by push_cast; rfl
  have e2 := bits_and_u64_nat (x / 2 ^ i) 1 h1 (by omega)
  have e3 : (((x / 2 ^ i &&& 1 : Nat) : Int) == 1) = l.getD i false := by
    rw [← hb, Nat.testBit_eq_decide_div_mod_eq, Nat.and_one_is_mod]
    generalize x / 2 ^ i = y
    rcases Nat.mod_two_eq_zero_or_one y with h | h <;> simp [h]
  have e2' : bits .and .u64 ((x / 2 ^ i : Nat) : Int) 1 = ((x / 2 ^ i &&& 1 : Nat) : Int) := e2
  generalize x / 2 ^ i &&& 1 = z at *
  generalize x / 2 ^ i = y at *
  generalize l.getD i false = b at *
  clear hb e2 h1
  go_enter Tryd.func71, Tryd.ntmps71
  go_wp2_with fail
  refine bodyPost_ret (v := .bool b) (by simp only [results, Tryd.results71]; go_simp) rfl ⟨rfl, rfl⟩

theorem with_any (l : List Bool) (i : Nat) (w : World) (h : l.length ≤ 64) (hi : i < l.length) (v : Nat) (hv : wd (l.set i true) = v) :
    Calls Tryd.prog 68 #[.int .u64 (wd l : Nat), .int .i64 (i : Int)] w fun e w' => e = .returned (.int .u64 (v : Int)) ∧ w = w' := by
  have h0 := wd_lt64 l h
  have hb := wd_set_true l i hi
  rw [hv] at hb
  generalize wd l = x at *
  have e2 := or_key x i h0 (by omega)
  rw [hb] at e2
  go_enter Tryd.func68, Tryd.ntmps68
  go_wp2_with fail
  refine bodyPost_ret (v := .int .u64 (v : Int)) ?_ rfl ⟨rfl, rfl⟩
  simp only [results, Tryd.results68]
  first | go_simp | skip

theorem without_any (l : List Bool) (i : Nat) (w : World) (h : l.length ≤ 64) (hi : i < l.length) (v : Nat) (hv : wd (l.set i false) = v) :
    Calls Tryd.prog 102 #[.int .u64 (wd l : Nat), .int .i64 (i : Int)] w fun e w' => e = .returned (.int .u64 (v : Int)) ∧ w = w' := by
  have h0 := wd_lt64 l h
  have hb := wd_set_false l i hi h
  rw [hv] at hb
  generalize wd l = x at *
  have h2 : 2 ^ i < 18446744073709551616 := Nat.lt_of_lt_of_le (Nat.pow_lt_pow_right (m := i) (n := 64) (show 1 < 2 by decide) (by omega)) (by decide)
  have e : IntKind.u64.wrap (2 ^ i) = ((2 ^ i : Nat) : Int) := by
    rw [← wrap_u64_nat (2 ^ i) h2]; simp
  have e2 : bits .andNot .u64 (x : Int) (IntKind.u64.wrap (2 ^ i)) = (v : Int) := by
    rw [e, u64_andNot_nat _ _ h0 h2, hb]
  clear h2 e hb
  go_enter Tryd.func102, Tryd.ntmps102
  go_wp2_with fail
  refine bodyPost_ret (v := .int .u64 (v : Int)) ?_ rfl ⟨rfl, rfl⟩
  simp only [results, Tryd.results102]
  first | go_simp | skip

theorem second_any (a b : Int) (w : World) :
    Calls Tryd.prog 74 #[.int .i64 a, .int .i64 b] w fun e w' => e = .returned (.bool (decide (4 ≤ a ∧ a < 7 ∧ b = 7))) ∧ w = w' := by
  by_cases h1 : 4 ≤ a
  · by_cases h2 : a < 7
    · by_cases h3 : b = 7
      · subst h3
        go_enter Tryd.func74, Tryd.ntmps74
        go_wp2_with fail
        go_ret
        simp [h1, h2]
      · have h4 : (b == 7) = false := by simpa using h3
        go_enter Tryd.func74, Tryd.ntmps74
        go_wp2_with fail
        go_ret
        simp [h3]
    · go_enter Tryd.func74, Tryd.ntmps74
      go_wp2_with fail
      go_ret
      simp; omega
  · go_enter Tryd.func74, Tryd.ntmps74
    go_wp2_with fail
    go_ret
    simp; omega

end Go.Proofs.YtpfcpeljfgmjgaaDoor
