/- Contracts of package pick's sets: count, nth, from, behind; of modulo. -/
import Derived.Test.YthhcchdjeeigpaaDoorBits
namespace Go.Proofs.YthhcchdjeeigpaaDoor
open Go.RowKit

/-- A set's slice holds the words of these bools. -/
def Holds (w : World) (a : Option Addr) (n : Nat) (en : List Bool) : Prop := ∃ lo hi, RowU lo hi w a n (words en)

theorem Holds.len {w : World} {a : Option Addr} {n : Nat} {en : List Bool} (h : Holds w a n en) : n = (en.length + 63) / 64 := by
  obtain ⟨_, _, h, _⟩ := h; rw [words_length] at h; exact h.symm

theorem Holds.cells {w : World} {a : Option Addr} {n : Nat} {en : List Bool} (h : Holds w a n en) (hn : n ≠ 0) :
    ∃ b off, a = some ⟨b, off, none⟩ ∧ b < b + 1 ∧ Hid (∀ i, i < n → w.cell? ⟨b, off + i, none⟩ = some (.int .u64 (wd (chunk en i) : Nat))) := by
  have hl := h.len
  obtain ⟨lo, hi, h1, h2 | ⟨b, off, h3, _, _, h4⟩⟩ := h
  · exact absurd h2 hn
  · exact ⟨b, off, h3, Nat.lt_succ_self _, fun i hi => by rw [h4 i hi, words_get en i (by omega)]; rfl⟩

theorem Holds.zero {w : World} {a : Option Addr} {en : List Bool} (h : Holds w a 0 en) : en = [] := by
  have := h.len; exact List.length_eq_zero_iff.1 (by omega)

theorem on_take_all (en : List Bool) (j : Nat) (h : en.length ≤ 64 * j) : on 0 (en.take (64 * j)) = on 0 en := by rw [List.take_of_length_le h]

theorem count_step (en : List Bool) (k : Nat) (h : 64 * k ≤ en.length) : ((on 0 (en.take (64 * k))).length : Int) + (on 0 (chunk en k)).length = (on 0 (en.take (64 * (k + 1)))).length := by
  rw [on_take_chunk en k h, List.length_append, on_shift (chunk en k) (64 * k)]; simp

theorem count_any (a : Option Addr) (n c : Nat) (en : List Bool) (w : World) (h : Holds w a n en) (hen : en.length ≤ 1000) :
    Calls Tryd.prog 75 #[.slice a n c] w fun e w' => e = .returned (.int .i64 (on 0 en).length) ∧ w = w' := by
  have hl := h.len
  by_cases hn : n = 0
  · subst hn
    obtain rfl := h.zero
    clear h hl
    go_enter Tryd.func75, Tryd.ntmps75
    go_wp2
    go_rounds 1
    go_ret
    exact ⟨rfl, rfl⟩
  · obtain ⟨b, off, rfl, _, HC⟩ := h.cells hn
    clear h
    have hn16 : n ≤ 16 := by omega
    have HL : Hid (n = (en.length + 63) / 64) := hl
    clear hl
    go_enter Tryd.func75, Tryd.ntmps75
    go_wp2
    go_loop [3, 8] (fun s i => ∃ k : Nat, k ≤ n ∧ i = .int .i64 k ∧ s = .int .i64 (on 0 (en.take (64 * k))).length) (fun _ i => n - (intOf i).toNat)
    case atStart => exact ⟨0, Nat.zero_le _, rfl, rfl⟩
    case round =>
      obtain ⟨k, hk, rfl, rfl⟩ := hrel
      by_cases hlt : k < n
      · have hc := HC.out k hlt
        have hcl := chunk_length en k
        have hb1 := on_length_le (en.take (64 * k)) 0
        have hb2 := on_length_le (chunk en k) 0
        have hb3 : (en.take (64 * k)).length ≤ 1000 := by simp; omega
        go_wp2_with (go_at_call 88; refine (ones_any _ _ hcl).mono ?_; rintro e w1 ⟨rfl, rfl⟩)
        go_round
        case rel => exact ⟨k + 1, by omega, by go_num, by rw [← count_step en k (by have := HL.out; omega)]⟩
        case measure => simp [intOf]; omega
      · obtain rfl : k = n := by omega
        go_wp2
        go_ret
        exact ⟨by rw [on_take_all en k (by have := HL.out; omega)]; rfl, rfl⟩

theorem tmod_emod (x c : Int) : x % c = x.tmod c % c := by
  conv => lhs; rw [← Int.tmod_add_mul_tdiv x c]
  exact Int.add_mul_emod_self_left _ _ _

theorem modulo_any (x c : Int) (w : World) (h0 : 0 < c) (h1 : c ≤ 1000) :
    Calls Tryd.prog 77 #[.int .i64 x, .int .i64 c] w fun e w' => e = .returned (.int .i64 (x % c)) ∧ w = w' := by
  have hne : (c == 0) = false := by simp; omega
  by_cases hs : x.tmod c < 0
  · have hb : -1000 < x.tmod c := by have := Int.lt_tmod_of_pos x h0; omega
    have hm : x % c = x.tmod c + c := by
      have := Int.lt_tmod_of_pos x h0
      rw [tmod_emod, ← Int.add_emod_right, Int.emod_eq_of_lt (by omega) (by omega)]
    rw [hm]; clear hm
    go_enter Tryd.func77, Tryd.ntmps77
    go_wp2
    go_ret
    exact ⟨rfl, rfl⟩
  · have hm : x % c = x.tmod c := by
      have := Int.tmod_lt_of_pos x h0
      rw [tmod_emod, Int.emod_eq_of_lt (by omega) (by omega)]
    rw [hm]; clear hm
    go_enter Tryd.func77, Tryd.ntmps77
    go_wp2
    go_ret
    exact ⟨rfl, rfl⟩

theorem clr_key (l : List Bool) (hl : l.length ≤ 64) (hne : wd l ≠ 0) : bits .and .u64 (wd l : Int) ((wd l : Int) - 1) = (wd (clr l) : Nat) := by
  have hlt := wd_lt64 l hl
  rw [show (wd l : Int) - 1 = ((wd l - 1 : Nat) : Int) from by omega, bits_and_u64_nat _ _ hlt (by omega), wd_clr]

theorem nth_any (a : Option Addr) (n c : Nat) (en : List Bool) (k : Nat) (w : World) (h : Holds w a n en) (hen : en.length ≤ 1000) (hT : Tab w) (hk : k < (on 0 en).length) :
    Calls Tryd.prog 76 #[.slice a n c, .int .i64 k] w fun e w' => e = .returned (.int .i64 ((on 0 en).getD k 0 : Nat)) ∧ w = w' := by
  have hl := h.len
  have hlen := on_length_le en 0
  have hn : n ≠ 0 := by omega
  obtain ⟨b, off, rfl, _, HC⟩ := h.cells hn
  clear h
  have hn16 : n ≤ 16 := by omega
  have HL : Hid (n = (en.length + 63) / 64) := hl
  have HT := Lib.hid hT
  clear hl hT
  go_enter Tryd.func76, Tryd.ntmps76
  go_wp2
  go_loop [1, 10] (fun r i => ∃ j m : Nat, j ≤ n ∧ i = .int .i64 j ∧ r = .int .i64 m ∧ Hid ((on 0 (en.take (64 * j))).length + m = k)) (fun _ i => n - (intOf i).toNat)
  case atStart => exact ⟨0, k, Nat.zero_le _, rfl, rfl, by simp [Hid, on]⟩
  case round =>
    obtain ⟨j, m, hj, rfl, rfl, hm⟩ := hrel
    by_cases hlt : j < n
    · have hc := HC.out j hlt
      have hcl := chunk_length en j
      have hb2 := on_length_le (chunk en j) 0
      have hmk : m ≤ 1000 := by have := hm.out; omega
      have hjl : 64 * j ≤ en.length := by have := HL.out; omega
      by_cases hge : (on 0 (chunk en j)).length ≤ m
      · go_wp2_with (go_at_call 88; refine (ones_any _ _ hcl).mono ?_; rintro e w1 ⟨rfl, rfl⟩)
        go_round
        case rel => exact ⟨j + 1, m - (on 0 (chunk en j)).length, by omega, by go_num, by rw [Int.ofNat_sub hge], by
          have := hm.out
          show _ = k
          rw [on_take_chunk en j hjl, List.length_append, on_shift (chunk en j) (64 * j), List.length_map]; omega⟩
        case measure => simp [intOf]; omega
      · go_wp2_with (go_at_call 88; refine (ones_any _ _ hcl).mono ?_; rintro e w1 ⟨rfl, rfl⟩)
        go_loop [6, 24] (fun v i => ∃ q : Nat, q ≤ m ∧ i = .int .i64 q ∧ v = .int .u64 (wd (clrs q (chunk en j)) : Nat)) (fun _ i => m - (intOf i).toNat)
        case atStart => exact ⟨0, Nat.zero_le _, rfl, rfl⟩
        case round =>
          obtain ⟨q, hq, rfl, rfl⟩ := hrel
          have hql := clrs_length q (chunk en j)
          have hne : ∃ x r, on 0 (clrs q (chunk en j)) = x :: r := by
            rw [on_clrs]
            exact ⟨_, _, List.drop_eq_getElem_cons (by omega)⟩
          obtain ⟨x, r, hxr⟩ := hne
          have hxb := on_range _ 0 x (by rw [hxr]; exact List.mem_cons_self)
          have hx64 : x < 64 := by omega
          have hw0 : 1 ≤ wd (clrs q (chunk en j)) := by
            have : wd (clrs q (chunk en j)) ≠ 0 := by rw [Ne, wd_zero_iff _ 0, hxr]; simp
            omega
          have hw1 := wd_lt64 (clrs q (chunk en j)) (by omega)
          have hck := clr_key (clrs q (chunk en j)) (by omega) (by omega)
          have HXR := Lib.hid hxr
          clear hxr hxb hql
          by_cases hlq : q < m
          · have e : wd (clr (clrs q (chunk en j))) = wd (clrs (q + 1) (chunk en j)) := rfl
            rw [e] at hck
            clear e
            go_wp2
            go_round
            case rel => exact ⟨q + 1, by omega, by go_num, rfl⟩
            case measure => simp [intOf]; omega
          · obtain rfl : q = m := by omega
            clear hck
            go_wp2_with (go_at_call 89; refine (tz_any _ x r _ (by rw [clrs_length]; exact hcl) HXR.out HT.out).mono ?_; rintro e w1 ⟨rfl, rfl⟩)
            go_ret
            obtain ⟨x', r', h1, h2⟩ := on_nth en k j hjl (by have := hm.out; omega) (by
              have := hm.out
              rw [on_take_chunk en j hjl, List.length_append, on_shift (chunk en j) (64 * j), List.length_map]; omega)
            have hq0 : k - (on 0 (en.take (64 * j))).length = q := by have := hm.out; omega
            rw [hq0, HXR.out] at h1
            have hxx : x = x' := (List.cons.inj h1).1
            refine ⟨?_, rfl⟩
            show Ending.returned (.int .i64 ((j : Int) * 64 + (x : Int))) = _
            rw [← h2, hxx]
            congr 2
            omega
    · exfalso
      obtain rfl : j = n := by omega
      have := hm.out
      rw [on_take_all en j (by have := HL.out; omega)] at this
      omega

theorem mask6_i64 (n : Int) : bits .and .i64 n 63 = n % 64 := by
  have hm : (BitVec.ofInt 64 63).toNat = 2 ^ 6 - 1 := by decide
  have key : (BitVec.ofInt 64 n &&& BitVec.ofInt 64 63).toNat = (n % ((2 ^ 64 : Nat) : Int)).toNat % 2 ^ 6 := by
    rw [BitVec.toNat_and, BitVec.toNat_ofInt, hm, Nat.and_two_pow_sub_one_eq_mod]
  show IntKind.i64.wrap ((BitVec.ofInt 64 n &&& BitVec.ofInt 64 63).toNat : Nat) = n % 64
  rw [key, IntKind.wrap_i64]
  omega

theorem cut_key (r : Nat) (l : List Bool) (hl : l.length ≤ 64) : IntKind.u64.wrap ((wd l : Int) / 2 ^ r * 2 ^ r) = ((wd (cut r l) : Nat) : Int) := by
  have hlt := wd_lt64 (cut r l) (by rw [cut_length]; exact hl)
  have e : (wd l : Int) / 2 ^ r * 2 ^ r = ((wd (cut r l) : Nat) : Int) := by rw [wd_cut]; simp
  rw [e]; exact wrap_u64_nat _ hlt

theorem from_any (a : Option Addr) (n c : Nat) (en : List Bool) (S : Int) (s : Nat) (hS : S = (s : Int)) (w : World) (h : Holds w a n en) (hen : en.length ≤ 1000) (hT : Tab w) (_hs : s ≤ 100000) :
    Calls Tryd.prog 90 #[.slice a n c, .int .i64 S] w fun e w' => e = .returned (.int .i64 (from' en s)) ∧ w = w' := by
  subst hS
  have hl := h.len
  have HC : n ≠ 0 → ∃ b off, a = some ⟨b, off, none⟩ ∧ b < b + 1 ∧ Hid (∀ i, i < n → w.cell? ⟨b, off + i, none⟩ = some (.int .u64 (wd (chunk en i) : Nat))) := h.cells
  have HC := Lib.hid HC
  clear h
  have hn16 : n ≤ 16 := by omega
  have HL : Hid (n = (en.length + 63) / 64) := hl
  have HT := Lib.hid hT
  have hk : bits BinOp.and IntKind.i64 (s : Int) 63 = ((s % 64 : Nat) : Int) := by rw [mask6_i64]; omega
  obtain ⟨r, hr⟩ : ∃ r, r = s % 64 := ⟨_, rfl⟩
  rw [← hr] at hk
  have hr64 : r < 64 := by omega
  have hp : (s : Int) / 64 = ((s / 64 : Nat) : Int) := by omega
  have hpast := past_start en s
  obtain ⟨p, hpe⟩ : ∃ p, p = s / 64 := ⟨_, rfl⟩
  rw [← hpe] at hp hpast
  have HR := Lib.hid (And.intro hr hpe)
  clear hl hT hr hpe
  go_enter Tryd.func90, Tryd.ntmps90
  go_wp2
  go_loop [5] (fun i => ∃ j : Nat, i = .int .i64 j ∧ p ≤ j ∧ Hid ((j ≤ n ∨ j = p) ∧ Past en s j)) (fun i => n - (intOf i).toNat)
  case atStart => exact ⟨p, rfl, Nat.le_refl _, .inr rfl, hpast⟩
  case round =>
    clear hpast
    obtain ⟨j, rfl, hpj, hj⟩ := hrel
    by_cases hlt : j < n
    · obtain ⟨b, off, rfl, _, hcs⟩ := HC.out (by omega)
      have hc := hcs.out j hlt
      have hcl := chunk_length en j
      have hwl := wd_lt64 _ hcl
      have hjl : 64 * j ≤ en.length := by have := HL.out; omega
      by_cases hfirst : j = p
      · subst hfirst
        have hcut := cut_key r (chunk en j) hcl
        have hsl := cut_length r (chunk en j)
        have hseen : seen en s j = cut r (chunk en j) := by unfold seen; rw [if_pos HR.out.2, HR.out.1]
        have hcll : (cut r (chunk en j)).length ≤ 64 := by omega
        have hwl2 := wd_lt64 _ hcll
        clear hsl
        by_cases hz : wd (cut r (chunk en j)) = 0
        · have hz1 : ((wd (cut r (chunk en j)) : Int) != 0) = false := by rw [hz]; rfl
          have hon := (wd_zero_iff (cut r (chunk en j)) 0).1 hz
          rw [← hseen] at hon
          have hnx := past_next en s j hjl (by have := HR.out; omega) hj.out.2 hon
          have HN := Lib.hid hnx
          clear hnx hon hz hseen
          go_wp2_with fail
          go_round
          case rel => exact ⟨j + 1, by go_num, by omega, .inl (by omega), HN.out⟩
          case measure => simp [intOf]; omega
        · have hz1 : ((wd (cut r (chunk en j)) : Int) != 0) = true := by rw [bne_iff_ne]; omega
          cases hon : on 0 (cut r (chunk en j)) with
          | nil => exact absurd ((wd_zero_iff (cut r (chunk en j)) 0).2 hon) hz
          | cons x t =>
            have hx64 : x < 64 := by have := on_range (cut r (chunk en j)) 0 x (by rw [hon]; exact List.mem_cons_self); omega
            have hit := from_hit en s j x t hjl (by have := HR.out; omega) hj.out.2 (by rw [hseen]; exact hon)
            have HI := Lib.hid hit
            have HO := Lib.hid hon
            clear hit hon hseen
            go_wp2_with (go_at_call 89; refine (tz_any _ x t _ hcll HO.out HT.out).mono ?_; rintro e w1 ⟨rfl, rfl⟩)
            go_ret
            refine ⟨?_, rfl⟩
            show Ending.returned (.int .i64 ((j : Int) * 64 + (x : Int))) = _
            rw [HI.out]
            congr 2
            omega
      · have hf : ((j : Int) == (p : Int)) = false := by simp; omega
        have hseen : seen en s j = chunk en j := by unfold seen; rw [if_neg (by have := HR.out; omega)]
        by_cases hz : wd (chunk en j) = 0
        · have hz1 : ((wd (chunk en j) : Int) != 0) = false := by rw [hz]; rfl
          have hon := (wd_zero_iff (chunk en j) 0).1 hz
          rw [← hseen] at hon
          have hnx := past_next en s j hjl (by have := HR.out; omega) hj.out.2 hon
          have HN := Lib.hid hnx
          clear hnx hon hz hseen
          go_wp2_with fail
          go_round
          case rel => exact ⟨j + 1, by go_num, by omega, .inl (by omega), HN.out⟩
          case measure => simp [intOf]; omega
        · have hz1 : ((wd (chunk en j) : Int) != 0) = true := by rw [bne_iff_ne]; omega
          cases hon : on 0 (chunk en j) with
          | nil => exact absurd ((wd_zero_iff (chunk en j) 0).2 hon) hz
          | cons x t =>
            have hx64 : x < 64 := by have := on_range (chunk en j) 0 x (by rw [hon]; exact List.mem_cons_self); omega
            have hit := from_hit en s j x t hjl (by have := HR.out; omega) hj.out.2 (by rw [hseen]; exact hon)
            have HI := Lib.hid hit
            have HO := Lib.hid hon
            clear hit hon hseen
            go_wp2_with (go_at_call 89; refine (tz_any _ x t _ hcl HO.out HT.out).mono ?_; rintro e w1 ⟨rfl, rfl⟩)
            go_ret
            refine ⟨?_, rfl⟩
            show Ending.returned (.int .i64 ((j : Int) * 64 + (x : Int))) = _
            rw [HI.out]
            congr 2
            omega
    · go_wp2
      go_ret
      refine ⟨?_, rfl⟩
      show Ending.returned (.int .i64 (-1)) = _
      rw [from_miss en s j (by have := HL.out; omega) hj.out.2]

theorem from_range (en : List Bool) (s : Nat) : from' en s = -1 ∨ (0 ≤ from' en s ∧ from' en s < en.length) := by
  unfold from'
  split
  · rename_i x hx
    have := on_range _ _ _ (List.mem_of_find?_eq_some hx)
    omega
  · exact .inl rfl


end Go.Proofs.YthhcchdjeeigpaaDoor
