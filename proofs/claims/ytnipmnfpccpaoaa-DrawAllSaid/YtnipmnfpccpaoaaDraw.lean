/- Contracts of package draw: Mix, number, next, own, Next, and Many of none; of the statements' own Mix and Ints. -/
import Derived.Test.YtnipmnfpccpaoaaBase
namespace Go.Proofs.Ytnipmnfpccpaoaa
open Go.RowKit

theorem Try.info3 : (Try.prog.info? 3).map (fun i => (i.zero, i.size, i.bytes)) = some (some (.int .i64 0), 1, 8) := by kernel_rfl

theorem ints_any (a b : Option Addr) (la lb ca cb : Nat) (xs ys : List Int) (w : World) {l1 l2 h1 h2 : Nat} (hx : Row l1 h1 w a la xs) (hy : Row l2 h2 w b lb ys) (hm : la ≤ 9223372036854775807) :
    Calls Try.prog 15 #[.slice a la ca, .slice b lb cb] w fun e w' => e = .returned (.bool (decide (xs = ys))) ∧ ∃ n, w' = w.drewN n := by
  obtain ⟨hlx, hx⟩ := hx
  obtain ⟨hly, hy⟩ := hy
  by_cases hne : la = lb
  · obtain rfl := hne
    rcases hx with h0 | ⟨bx, ox, rfl, _, hbx, hcx⟩
    · subst h0
      have : xs = [] := List.length_eq_zero_iff.1 hlx
      have : ys = [] := List.length_eq_zero_iff.1 hly
      subst xs ys
      go_enter Try.func15, Try.ntmps15
      go_wp2
      go_rounds 1
      go_ret
      exact ⟨rfl, 0, rfl⟩
    · rcases hy with h0 | ⟨by', oy, rfl, _, hby, hcy⟩
      · subst h0
        have : xs = [] := List.length_eq_zero_iff.1 hlx
        have : ys = [] := List.length_eq_zero_iff.1 hly
        subst xs ys
        go_enter Try.func15, Try.ntmps15
        go_wp2
        go_rounds 1
        go_ret
        exact ⟨rfl, 0, rfl⟩
      · have HX : Hid (∀ i, i < la → w.cell? ⟨bx, ox + i, none⟩ = some (.int .i64 (xs.getD i 0))) := hcx
        have HY : Hid (∀ i, i < la → w.cell? ⟨by', oy + i, none⟩ = some (.int .i64 (ys.getD i 0))) := hcy
        have HL : Hid (xs.length = la ∧ ys.length = la) := ⟨hlx, hly⟩
        clear hcx hcy hlx hly
        go_enter Try.func15, Try.ntmps15
        go_wp2
        go_loopw [5] (fun i wr => ∃ k n : Nat, k ≤ la ∧ i = .int .i64 k ∧ wr = w.drewN n ∧ Hid (xs.take k = ys.take k)) (fun i _ => la - (intOf i).toNat)
        case atStart => exact ⟨0, 0, Nat.zero_le _, rfl, rfl, by simp [Hid]⟩
        case round =>
          obtain ⟨k, n, hk, rfl, rfl, hp⟩ := hrel
          by_cases hlt : k < la
          · have c1 := HX.out k hlt
            have c2 := HY.out k hlt
            obtain ⟨x, hxk⟩ : ∃ x, xs.getD k 0 = x := ⟨_, rfl⟩
            obtain ⟨y, hyk⟩ : ∃ y, ys.getD k 0 = y := ⟨_, rfl⟩
            rw [hxk] at c1
            rw [hyk] at c2
            have HXk : Hid (xs.getD k 0 = x) := hxk
            have HYk : Hid (ys.getD k 0 = y) := hyk
            clear hxk hyk
            by_cases he : x = y
            · subst he
              go_wp2
              go_quiet (fail)
              go_wp2
              go_roundw
              case rel => exact ⟨k + 1, _, by omega, by go_num, rfl, take_succ_eq (by rw [HL.out.1]; exact hlt) (by rw [HL.out.2]; exact hlt) hp.out (HXk.out.trans HYk.out.symm)⟩
              case measure => simp [intOf]; omega
            · go_wp2
              go_quiet (fail)
              go_wp2
              go_ret
              refine ⟨?_, _, World.drewN_drewN _ _ _⟩
              have : xs ≠ ys := by
                rintro rfl
                exact he (HXk.out.symm.trans HYk.out)
              simp [this]
          · go_wp2
            go_ret
            refine ⟨?_, _, rfl⟩
            obtain rfl : k = la := by omega
            have := hp.out
            rw [List.take_of_length_le (by have := HL.out.1; omega), List.take_of_length_le (by have := HL.out.2; omega)] at this
            simp [this]
  · have hn : xs ≠ ys := by rintro rfl; omega
    have hni : ((la : Int) == (lb : Int)) = false := by simp; omega
    clear hlx hly hx hy
    go_enter Try.func15, Try.ntmps15
    go_wp2
    go_ret
    exact ⟨by simp [hn], 0, rfl⟩

theorem clone_any (a : Option Addr) (la ca : Nat) (xs : List Int) (w : World) {lo hi : Nat} (hx : Row lo hi w a la xs) (hhi : hi ≤ w.heap.size) (hm : la ≤ 1000000) :
    Calls Try.prog 20 #[.slice a la ca] w fun e w' => ∃ a' c', e = .returned (.slice a' la c') ∧ Row w.heap.size w'.heap.size w' a' la xs ∧ Below w.heap.size w w' := by
  have hne := fun (w : World) (a : Option Addr) (n c : Nat) => Lib.run_eql_slice_nil (P := Try.prog) w 22 3 a n c 0 0 Try.underlying22
  cases a with
  | none =>
    have h0 : la = 0 := hx.nil_len
    subst h0
    go_enter Try.func20, Try.ntmps20
    go_wp2
    go_ret
    exact ⟨_, _, rfl, ⟨hx.1, .inl rfl⟩, Below.refl _ _⟩
  | some a =>
    obtain ⟨i0, hi0, hz0, hz1, hz2⟩ := info_parts Try.info3
    have hb0 : Below w.heap.size w (w.alloc (.cells #[] 3)) := (Below.refl _ _).alloc (Nat.le_refl _) _
    go_enter Try.func20, Try.ntmps20
    go_wp2_with (at_builtin; refine wpList_append_own _ rfl _ _ 22 rfl w.heap.size 3 i0 (.int .i64 0) 1 8 Try.underlying22 hi0 hz0 hz1 hz2 rfl (by decide) _ 0 [] rfl ?c0 a la ca (xs.map (Value.int .i64)) rfl ?c1 ?c2 ?c3 ?c4 ?c5 ?c6 ?_)
    case c0 => exact World.ownsRow_made w #[] 0 (Nat.le_refl _) (by decide) rfl
    case c1 => simp [hx.1]
    case c2 => exact (hx.alloc hhi _).news
    case c3 => exact ints_oneCell _ _
    case c4 => unfold maxLen; omega
    case c5 => omega
    case c6 => simp
    intro v' w1 hown hgr hnn
    have hb1 : Below w.heap.size w w1 := hb0.grown hgr (by simp) (by rintro k hk; cases hk; exact Nat.le_refl _)
    obtain ⟨a', c', rfl, hr⟩ := Row.of_owns (xs := xs) (by rw [hx.1]; exact hown)
    clear hown hgr hnn hb0
    go_wp2
    go_ret
    rw [hx.1] at hr ⊢
    exact ⟨_, _, rfl, hr, hb1⟩

def mixI (n : Int) : Int :=
  let x := (n % 4294967296 * 2654435769 + 12345) % 4294967296
  let y := bits .xor .u32 x (x / 65536) * 2246822519 % 4294967296
  bits .xor .u32 y (y / 8192) % 2147483648

theorem bits_u32_range (op : BinOp) (x y : Int) : 0 ≤ bits op .u32 x y ∧ bits op .u32 x y < 4294967296 := by
  unfold bits
  split <;> rw [IntKind.wrap_u32] <;> omega

theorem low31_eq (x : Int) : x * 2 % 4294967296 / 2 = x % 2147483648 := by omega

theorem mask31_u32 (x : Int) (h0 : 0 ≤ x) (h1 : x < 4294967296) : bits .and .u32 x 2147483647 = x % 2147483648 :=
  bits_mask .u32 32 (by decide) (fun n h0 h1 => by rw [IntKind.wrap_u32]; omega) 31 (by decide) x h0 h1

theorem mask31_i64 (n : Int) : bits .and .i64 n 2147483647 = n % 2147483648 := by
  have hm : (BitVec.ofInt 64 2147483647).toNat = 2 ^ 31 - 1 := by decide
  have key : (BitVec.ofInt 64 n &&& BitVec.ofInt 64 2147483647).toNat = (n % ((2 ^ 64 : Nat) : Int)).toNat % 2 ^ 31 := by
    rw [BitVec.toNat_and, BitVec.toNat_ofInt, hm, Nat.and_two_pow_sub_one_eq_mod]
  show IntKind.i64.wrap ((BitVec.ofInt 64 n &&& BitVec.ofInt 64 2147483647).toNat : Nat) = n % 2147483648
  rw [key, IntKind.wrap_i64]
  omega

theorem mixI_range (n : Int) : 0 ≤ mixI n ∧ mixI n ≤ 2147483647 := by
  unfold mixI; dsimp only; omega

theorem mix_any (n : Int) (w : World) : Calls Try.prog 12 #[.int .i64 n] w fun e w' => e = .returned (.int .i64 (mixI n)) ∧ w = w' := by
  go_enter Try.func12, Try.ntmps12
  go_wp2
  go_ret
  refine ⟨?_, rfl⟩
  simp [mixI, low31_eq]

theorem rmix_any (n : Int) (w : World) : Calls Try.prog 13 #[.int .i64 n] w fun e w' => e = .returned (.int .i64 (mixI n)) ∧ w = w' := by
  go_enter Try.func13, Try.ntmps13
  go_wp2
  go_ret
  refine ⟨?_, rfl⟩
  have hr := fun x y => bits_u32_range .xor x y
  simp only [mixI]
  congr 2
  simp only [Array.getD_eq_getD_getElem?, List.getElem?_toArray, List.getElem?_cons_succ, List.getElem?_cons_zero, Option.getD_some]
  rw [mask31_u32 _ (hr _ _).1 (hr _ _).2]
  exact congrArg _ (IntWalk.wrap64_in _ (by omega))

def drawI (xs : List Int) (k : Nat) : Int := if k < xs.length then xs.getD k 0 % 2147483648 else mixI k

theorem drawI_range (xs : List Int) (k : Nat) : 0 ≤ drawI xs k ∧ drawI xs k ≤ 2147483647 := by
  have := mixI_range k
  unfold drawI; split <;> omega

theorem number_any (a : Option Addr) (la ca : Nat) (xs : List Int) (k : Nat) (w : World) {lo hi : Nat} (hx : Row lo hi w a la xs) (hhi : hi ≤ w.heap.size) (hk : k ≤ 2147483648) (_hm : la ≤ 1000000) :
    Calls Try.prog 19 #[.agg #[.slice a la ca, .int .i64 k]] w fun e w' => e = .returned (.int .i64 (drawI xs k)) ∧ Below w.heap.size w w' := by
  obtain ⟨hl, hx⟩ := hx
  by_cases hlt : k < la
  · obtain ⟨b, off, rfl, _, hb, hc⟩ : ∃ b off, a = some ⟨b, off, none⟩ ∧ lo ≤ b ∧ b < hi ∧ ∀ i, i < la → w.cell? ⟨b, off + i, none⟩ = some (.int .i64 (xs.getD i 0)) := by
      rcases hx with h | h
      · omega
      · exact h
    have hd : drawI xs k = xs.getD k 0 % 2147483648 := by simp [drawI, hl, hlt]
    have hck := hc k hlt
    have hbb : b < w.heap.size := by omega
    obtain ⟨x, hxk⟩ : ∃ x, xs.getD k 0 = x := ⟨_, rfl⟩
    rw [hxk] at hck hd
    clear hc hx hxk
    go_enter Try.func19, Try.ntmps19
    go_wp2
    go_ret
    refine ⟨?_, by go_grown⟩
    rw [hd]
    simp
    omega
  · clear hx
    go_enter Try.func19, Try.ntmps19
    go_wp2_with (go_at_call 12; refine (mix_any _ _).mono ?_; rintro e w' ⟨rfl, rfl⟩)
    go_ret
    refine ⟨?_, by go_grown⟩
    simp [drawI, hl, hlt]

/-- Next's numbers: the one that is drawn, and where the draws stand behind it. -/
def nextN (xs : List Int) (p : Int) : Int := if p < 0 ∨ 2147483648 < p then 0 else drawI xs p.toNat
def nextAt (p : Int) : Int := if p < 0 ∨ 2147483648 < p then p else p + 1

theorem next_any (a : Option Addr) (la ca : Nat) (xs : List Int) (p : Int) (w : World) {lo hi : Nat} (hx : Row lo hi w a la xs) (hhi : hi ≤ w.heap.size) (hm : la ≤ 1000000) :
    Calls Try.prog 16 #[.agg #[.slice a la ca, .int .i64 p]] w fun e w' => e = .returned (.tuple #[.int .i64 (nextN xs p), .agg #[.slice a la ca, .int .i64 (nextAt p)]]) ∧ Below w.heap.size w w' := by
  by_cases h : p < 0
  · have e1 : nextN xs p = 0 := by simp [nextN, h]
    have e2 : nextAt p = p := by simp [nextAt, h]
    rw [e1, e2]
    go_enter Try.func16, Try.ntmps16
    go_wp2
    go_region
    all_goals (go_wp2; go_returns; exact ⟨rfl, by go_grown⟩)
  · by_cases h' : 2147483648 < p
    · have e1 : nextN xs p = 0 := by simp [nextN, h']
      have e2 : nextAt p = p := by simp [nextAt, h']
      rw [e1, e2]
      go_enter Try.func16, Try.ntmps16
      go_wp2
      go_region
      all_goals (go_wp2; go_returns; exact ⟨rfl, by go_grown⟩)
    · obtain ⟨k, rfl⟩ : ∃ k : Nat, p = k := ⟨p.toNat, by omega⟩
      have e1 : nextN xs k = drawI xs k := by simp [nextN]; omega
      have e2 : nextAt k = k + 1 := by simp [nextAt]; omega
      rw [e1, e2]
      have hg0 : ∀ o o', Below w.heap.size w ((w.alloc o).alloc o') := fun o o' => by go_grown
      have b1 := (Box.new w 24 [.slice a la ca, .int .i64 (k : Int)]).alloc (.cells #[.slice none 0 0, .int .i64 0] 24)
      have b2 := Box.new (w.alloc (.cells #[.slice a la ca, .int .i64 (k : Int)] 24)) 24 [.slice none 0 0, .int .i64 0]
      rw [World.size_alloc] at b2
      go_enter Try.func16, Try.ntmps16
      go_wp2_with (go_at_call 19; refine (number_any _ _ _ xs _ _ (hx.below (hg0 _ _) hhi) (by simp; omega) (by omega) hm).mono ?_; rintro e w' ⟨rfl, hb⟩; have B1 := b1.below hb; have B2 := b2.below hb; obtain ⟨_, _, _, _⟩ := B1.two; obtain ⟨_, _, _, _⟩ := B2.two)
      go_region
      all_goals go_wp2
      all_goals (refine bodyPost_ret (v := .tuple #[.int .i64 (drawI xs k), .agg #[.slice a la ca, .int .i64 (k + 1)]]) (by simp only [results, Try.results16]; go_simp) rfl ⟨rfl, ?_⟩)
      exact ((hg0 _ _).trans (hb.mono (by simp; omega))).setCell (by simp) _ |>.setCell (by simp) _ |>.setCell (by simp) _ |>.drew

theorem own_any (a : Option Addr) (la ca : Nat) (xs : List Int) (p : Int) (w : World) {lo hi : Nat} (hx : Row lo hi w a la xs) (hhi : hi ≤ w.heap.size) (hm : la ≤ 1000000) :
    Calls Try.prog 17 #[.agg #[.slice a la ca, .int .i64 p]] w fun e w' => ∃ a' c', e = .returned (.agg #[.slice a' la c', .int .i64 p]) ∧ Row w.heap.size w'.heap.size w' a' la xs ∧ Below w.heap.size w w' := by
  have hg0 : ∀ o o', Below w.heap.size w ((w.alloc o).alloc o') := fun o o' => by go_grown
  have b1 := (Box.new w 24 [.slice a la ca, .int .i64 p]).alloc (.cells #[.slice none 0 0, .int .i64 0] 24)
  have b2 := Box.new (w.alloc (.cells #[.slice a la ca, .int .i64 p] 24)) 24 [.slice none 0 0, .int .i64 0]
  rw [World.size_alloc] at b2
  go_enter Try.func17, Try.ntmps17
  go_wp2_with (go_at_call 20; refine (clone_any _ _ _ xs _ (hx.below (hg0 _ _) hhi) (by simp; omega) hm).mono ?_; rintro e w' ⟨a', c', rfl, hr, hb⟩; have B1 := b1.below hb; have B2 := b2.below hb; obtain ⟨_, _, _, _⟩ := B1.two; obtain ⟨_, _, _, _⟩ := B2.two)
  refine bodyPost_ret (v := .agg #[.slice a' la c', .int .i64 p]) (by simp only [results, Try.results17]; go_simp) rfl ⟨_, _, rfl, hr.set (.inl (by simp <;> omega)) _ |>.set (.inl (by simp <;> omega)) _ |>.set (.inl (by simp <;> omega)) _ |>.mono (by simp <;> omega) (by simp <;> omega), ?_⟩
  exact ((hg0 _ _).trans (hb.mono (by simp; omega))).setCell (by simp) _ |>.setCell (by simp) _ |>.setCell (by simp) _

theorem Next_any (a : Option Addr) (la ca : Nat) (xs : List Int) (p : Int) (w : World) {lo hi : Nat} (hx : Row lo hi w a la xs) (hhi : hi ≤ w.heap.size) (hm : la ≤ 1000000) :
    Calls Try.prog 8 #[.agg #[.slice a la ca, .int .i64 p]] w fun e w' => ∃ a' c', e = .returned (.tuple #[.int .i64 (nextN xs p), .agg #[.slice a' la c', .int .i64 (nextAt p)]]) ∧ Row w.heap.size w'.heap.size w' a' la xs ∧ Below w.heap.size w w' := by
  have hg0 : ∀ o o', Below w.heap.size w ((w.alloc o).alloc o') := fun o o' => by go_grown
  have b2 := Box.new (w.alloc (.cells #[.slice a la ca, .int .i64 p] 24)) 24 [.slice none 0 0, .int .i64 0]
  rw [World.size_alloc] at b2
  go_enter Try.func8, Try.ntmps8
  go_wp2_with (first
    | (go_at_call 17; refine (own_any _ _ _ xs _ _ (hx.below (hg0 _ _) hhi) (by simp; omega) hm).mono ?_; rintro e w1 ⟨a', c', rfl, hr, hb⟩; have B1 := b2.below hb; have hb' := (hg0 _ _).trans (hb.mono (by simp; omega)))
    | (go_at_call 16; refine (next_any _ _ _ xs _ _ hr (Nat.le_refl _) hm).mono ?_; rintro e w2 ⟨rfl, hb2⟩; have B2 := B1.below hb2; obtain ⟨_, _, _, _⟩ := B2.two; have hb3 := hb'.trans (hb2.mono hb'.size); have hr2 := hr.below hb2 (Nat.le_refl _); have hs2 := hb2.size))
  refine bodyPost_ret (v := .tuple #[.int .i64 (nextN xs p), .agg #[.slice a' la c', .int .i64 (nextAt p)]]) (by simp only [results, Try.results8]; go_simp) rfl ⟨_, _, rfl, ?_, ?_⟩
  · exact hr2.set (.inl (by simp <;> omega)) _ |>.set (.inl (by simp <;> omega)) _ |>.mono (by simp; omega) (by simp <;> omega)
  · exact (hb3.setCell (by simp) _).setCell (by simp) _


/-- Where the draws stand behind k Nexts, and what these drew. -/
def atK (p : Int) : Nat → Int
  | 0 => p
  | k + 1 => nextAt (atK p k)
def manyI (xs : List Int) (p : Int) : Nat → List Int
  | 0 => []
  | k + 1 => manyI xs p k ++ [nextN xs (atK p k)]
theorem manyI_length (xs : List Int) (p : Int) (k : Nat) : (manyI xs p k).length = k := by
  induction k with
  | zero => rfl
  | succ k ih => simp [manyI, ih]
/-- How many Many draws of n. -/
def cnt (n : Int) : Nat := if n < 0 ∨ 65536 < n then 0 else n.toNat

def filled (xs : List Int) (p : Int) (n k : Nat) : List Value := (manyI xs p k).map (Value.int .i64) ++ List.replicate (n - k) (.int .i64 0)

theorem filled_step (xs : List Int) (p : Int) (n k : Nat) (h : k < n) : (filled xs p n k).set k (.int .i64 (nextN xs (atK p k))) = filled xs p n (k + 1) := by
  have e : n - k = (n - (k + 1)) + 1 := by omega
  have hl : k = ((manyI xs p k).map (Value.int .i64)).length + 0 := by simp [manyI_length]
  rw [filled, filled, e, List.replicate_succ]
  conv => lhs; arg 2; rw [hl]
  rw [List.set_append_right _ _ (by omega)]
  simp [manyI]

theorem many_none (a : Option Addr) (la ca : Nat) (xs : List Int) (p : Int) (n : Int) (w : World) {lo hi : Nat} (hx : Row lo hi w a la xs) (hhi : hi ≤ w.heap.size) (hm : la ≤ 1000000) (hn : n ≤ 0 ∨ 65536 < n) :
    Calls Try.prog 10 #[.agg #[.slice a la ca, .int .i64 p], .int .i64 n] w fun e w' => ∃ a' c', e = .returned (.tuple #[.slice none 0 0, .agg #[.slice a' la c', .int .i64 p]]) ∧ Row w.heap.size w'.heap.size w' a' la xs ∧ Below w.heap.size w w' := by
  have hg0 : ∀ o o', Below w.heap.size w ((w.alloc o).alloc o') := fun o o' => by go_grown
  have b1 := (Box.new w 24 [.slice a la ca, .int .i64 p]).alloc (.cells #[.slice none 0 0, .int .i64 0] 24)
  have b2 := Box.new (w.alloc (.cells #[.slice a la ca, .int .i64 p] 24)) 24 [.slice none 0 0, .int .i64 0]
  rw [World.size_alloc] at b2
  by_cases h : n ≤ 0
  · go_enter Try.func10, Try.ntmps10
    go_wp2_with (go_at_call 17; refine (own_any _ _ _ xs _ _ (hx.below (hg0 _ _) hhi) (by simp; omega) hm).mono ?_; rintro e w1 ⟨a', c', rfl, hr, hb⟩; have B1 := b1.below hb; have B2 := b2.below hb; have hb' := (hg0 _ _).trans (hb.mono (by simp; omega)); obtain ⟨_, _, _, _⟩ := B1.two; obtain ⟨_, _, _, _⟩ := B2.two)
    go_region
    all_goals go_wp2
    all_goals (refine bodyPost_ret (v := .tuple #[.slice none 0 0, .agg #[.slice a' la c', .int .i64 p]]) (by simp only [results, Try.results10]; go_simp) rfl ⟨_, _, rfl, ?_, ?_⟩)
    · exact (hr.set (.inl (by simp <;> omega)) _ |>.set (.inl (by simp <;> omega)) _ |>.set (.inl (by simp <;> omega)) _ |>.set (.inl (by simp <;> omega)) _ |>.mono (by simp <;> omega) (by simp <;> omega)).drew
    · exact ((((hb'.setCell (by simp) _).setCell (by simp) _).setCell (by simp) _).setCell (by simp) _).drew
  · have h' : 65536 < n := by omega
    go_enter Try.func10, Try.ntmps10
    go_wp2_with (go_at_call 17; refine (own_any _ _ _ xs _ _ (hx.below (hg0 _ _) hhi) (by simp; omega) hm).mono ?_; rintro e w1 ⟨a', c', rfl, hr, hb⟩; have B1 := b1.below hb; have B2 := b2.below hb; have hb' := (hg0 _ _).trans (hb.mono (by simp; omega)); obtain ⟨_, _, _, _⟩ := B1.two; obtain ⟨_, _, _, _⟩ := B2.two)
    go_region
    all_goals go_wp2
    all_goals (refine bodyPost_ret (v := .tuple #[.slice none 0 0, .agg #[.slice a' la c', .int .i64 p]]) (by simp only [results, Try.results10]; go_simp) rfl ⟨_, _, rfl, ?_, ?_⟩)
    · exact (hr.set (.inl (by simp <;> omega)) _ |>.set (.inl (by simp <;> omega)) _ |>.set (.inl (by simp <;> omega)) _ |>.set (.inl (by simp <;> omega)) _ |>.mono (by simp <;> omega) (by simp <;> omega)).drew
    · exact ((((hb'.setCell (by simp) _).setCell (by simp) _).setCell (by simp) _).setCell (by simp) _).drew

end Go.Proofs.Ytnipmnfpccpaoaa
