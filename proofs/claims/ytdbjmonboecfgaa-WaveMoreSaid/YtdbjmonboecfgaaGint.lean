/- Memory of package scc: numbers, a map of edges, rows of rows that were handed in. -/
import Derived.Test.YtdbjmonboecfgaaBase
import Derived.Test.YtdbjmonboecfgaaGmb
import Derived.Test.YtdbjmonboecfgaaProg
import Derived.Maps.OwnSet
import Derived.WideKeyPair
import Derived.Deep.AppendLies
import Derived.Deep.RegionHeld3
import Derived.Lib.Hide
namespace Go.Proofs.Ytdbjmonboecfgaa
open Go.RowKit Go.Maps
open Go.WideMaps (ArrKey keyOf_pair)
set_option linter.unusedVariables false
set_option linter.unusedSimpArgs false

theorem ints_any (a b : Option Addr) (la lb ca cb : Nat) (xs ys : List Int) (w : World) {l1 l2 h1 h2 : Nat} (hx : Row l1 h1 w a la xs) (hy : Row l2 h2 w b lb ys) (hm : la ≤ 9223372036854775807) :
    Calls Try.prog 13 #[.slice a la ca, .slice b lb cb] w fun e w' => e = .returned (.bool (decide (xs = ys))) ∧ ∃ n, w' = w.drewN n := by
  obtain ⟨hlx, hx⟩ := hx
  obtain ⟨hly, hy⟩ := hy
  by_cases hne : la = lb
  · obtain rfl := hne
    rcases hx with h0 | ⟨bx, ox, rfl, _, hbx, hcx⟩
    · subst h0
      have : xs = [] := List.length_eq_zero_iff.1 hlx
      have : ys = [] := List.length_eq_zero_iff.1 hly
      subst xs ys
      go_enter Try.func13, Try.ntmps13
      go_wp2
      go_rounds 1
      go_ret
      exact ⟨rfl, 0, rfl⟩
    · rcases hy with h0 | ⟨by', oy, rfl, _, hby, hcy⟩
      · subst h0
        have : xs = [] := List.length_eq_zero_iff.1 hlx
        have : ys = [] := List.length_eq_zero_iff.1 hly
        subst xs ys
        go_enter Try.func13, Try.ntmps13
        go_wp2
        go_rounds 1
        go_ret
        exact ⟨rfl, 0, rfl⟩
      · have HX : Hid (∀ i, i < la → w.cell? ⟨bx, ox + i, none⟩ = some (.int .i64 (xs.getD i 0))) := hcx
        have HY : Hid (∀ i, i < la → w.cell? ⟨by', oy + i, none⟩ = some (.int .i64 (ys.getD i 0))) := hcy
        have HL : Hid (xs.length = la ∧ ys.length = la) := ⟨hlx, hly⟩
        clear hcx hcy hlx hly
        go_enter Try.func13, Try.ntmps13
        go_wp2
        go_loopw [5] (fun i wr => ∃ k n : Nat, k ≤ la ∧ i = .int .i64 k ∧ wr = w.drewN n ∧ Hid (xs.take k = ys.take k)) (fun i _ => la - (intOf i).toNat)
        case atStart => exact ⟨0, 0, Nat.zero_le _, rfl, rfl, by simp [Hid]⟩
        case round =>
          obtain ⟨k, n, hk, rfl, rfl, hp⟩ := hrel
          by_cases hlt : k < la
          · have c1 := HX.out k hlt
            have c2 := HY.out k hlt
            obtain ⟨x, hxk⟩ : ∃ x, xs.getD k 0 = x := ⟨_, rfl⟩
            obtain ⟨y, hyk⟩ : ∃ y, ys.getD k 0 = y := ⟨_, rfl⟩
            rw [hxk] at c1
            rw [hyk] at c2
            have HXk : Hid (xs.getD k 0 = x) := hxk
            have HYk : Hid (ys.getD k 0 = y) := hyk
            clear hxk hyk
            by_cases he : x = y
            · subst he
              go_wp2
              go_quiet (fail)
              go_wp2
              go_roundw
              case rel => exact ⟨k + 1, _, by omega, by go_num, rfl, take_succ_eq (by rw [HL.out.1]; exact hlt) (by rw [HL.out.2]; exact hlt) hp.out (HXk.out.trans HYk.out.symm)⟩
              case measure => simp [intOf]; omega
            · go_wp2
              go_quiet (fail)
              go_wp2
              go_ret
              refine ⟨?_, _, World.drewN_drewN _ _ _⟩
              have : xs ≠ ys := by
                rintro rfl
                exact he (HXk.out.symm.trans HYk.out)
              simp [this]
          · go_wp2
            go_ret
            refine ⟨?_, _, rfl⟩
            obtain rfl : k = la := by omega
            have := hp.out
            rw [List.take_of_length_le (by have := HL.out.1; omega), List.take_of_length_le (by have := HL.out.2; omega)] at this
            simp [this]
  · have hn : xs ≠ ys := by rintro rfl; omega
    have hni : ((la : Int) == (lb : Int)) = false := by simp; omega
    clear hlx hly hx hy
    go_enter Try.func13, Try.ntmps13
    go_wp2
    go_ret
    exact ⟨by simp [hn], 0, rfl⟩



theorem Try.info3 : (Try.prog.info? 3).map (fun i => (i.zero, i.size, i.bytes)) = some (some (.int .i64 0), 1, 8) := by kernel_rfl

/-- A slice of numbers that are not below 0. -/
abbrev RowN := RowF (fun n : Nat => Value.int .i64 (n : Int)) (0 : Nat)

section
variable {lo hi : Nat} {w w' : World} {a : Option Addr} {len : Nat} {p : List Nat}
theorem RowF.ints (h : RowN lo hi w a len p) : Row lo hi w a len (p.map fun n : Nat => (n : Int)) := by
  obtain ⟨h1, h2⟩ := h
  refine ⟨by simpa using h1, h2.imp id fun ⟨b, off, e, hb, hh, hc⟩ => ⟨b, off, e, hb, hh, fun i hi => ?_⟩⟩
  rw [hc i hi]
  simp [List.getD, show i < p.length by omega]
theorem RowF.nats {xs : List Int} (h : Row lo hi w a len xs) (hn : ∀ i, i < len → 0 ≤ xs.getD i 0) : RowN lo hi w a len (xs.map Int.toNat) := by
  obtain ⟨h1, h2⟩ := h
  refine ⟨by simpa using h1, h2.imp id fun ⟨b, off, e, hb, hh, hc⟩ => ⟨b, off, e, hb, hh, fun i hi => ?_⟩⟩
  rw [hc i hi]
  have := hn i hi
  simp [List.getD, show i < xs.length by omega] at this ⊢
  omega
theorem RowF.at_ (h : RowN lo hi w a len p) {i : Nat} (hi' : i < len) : ∃ b off, a = some ⟨b, off, none⟩ ∧ lo ≤ b ∧ b < hi ∧ ∀ i, i < len → w.cell? ⟨b, off + i, none⟩ = some (.int .i64 (el p i : Nat)) :=
  h.2.resolve_left (by omega)
theorem RowF.len_ (h : RowN lo hi w a len p) : p.length = len := h.1
end

def intsOf (p : List Nat) : List Value := p.map fun n : Nat => Value.int .i64 (n : Int)
theorem intsOf_length (p : List Nat) : (intsOf p).length = p.length := by simp [intsOf]
theorem intsOf_get {p : List Nat} {i : Nat} (h : i < p.length) : (intsOf p)[i]? = some (.int .i64 (el p i : Nat)) := by
  unfold intsOf el; simp [h]
theorem intsOf_set (p : List Nat) (i v : Nat) : (intsOf p).set i (.int .i64 (v : Int)) = intsOf (p.set i v) := by
  unfold intsOf; rw [List.map_set]
/-- Block g holds these numbers from its first cell on, none of them frozen. -/
def Own (w : World) (g : Nat) (p : List Nat) : Prop := g < w.heap.size ∧ ∀ i, i < p.length → w.cell? ⟨g, i, none⟩ = some (.int .i64 (el p i : Nat)) ∧ w.frozen? ⟨g, i, none⟩ = false
section
variable {w w' : World} {g : Nat} {p : List Nat}
theorem Own.agree (h : Own w g p) (hb : w'.heap[g]? = w.heap[g]?) (hs : w.heap.size ≤ w'.heap.size) : Own w' g p :=
  ⟨Nat.lt_of_lt_of_le h.1 hs, fun i hi => ⟨(World.cell?_of_block hb).trans (h.2 i hi).1, (World.frozen?_of_block hb).trans (h.2 i hi).2⟩⟩
theorem Own.alloc (h : Own w g p) (o : Obj) : Own (w.alloc o) g p := h.agree (Below.heap_alloc w o g h.1) (by simp)
theorem Own.setOther (h : Own w g p) {a : Addr} (ha : g ≠ a.block) (u : Value) : Own (w.setCell a u) g p := h.agree (Below.heap_setCell w a u g ha) (by simp)
theorem Own.below (h : Own w g p) {B : Nat} (hb : Below B w w') (hg : g < B) : Own w' g p := h.agree (hb.block g hg) hb.size
theorem Own.drewN (h : Own w g p) (n : Nat) : Own (w.drewN n) g p := h
theorem Own.put (h : Own w g p) {i v : Nat} (hi : i < p.length) : Own (w.setCell ⟨g, i, none⟩ (.int .i64 (v : Int))) g (p.set i v) := by
  refine ⟨by simpa using h.1, fun j hj => ?_⟩
  rw [List.length_set] at hj
  obtain ⟨h1, h2⟩ := h.2 j hj
  obtain ⟨h3, h4⟩ := h.2 i hi
  refine ⟨?_, by simpa using h2⟩
  by_cases e : i = j
  · subst e
    rw [el_set_self hi]
    exact World.cell?_setCell_same w _ _ h1
  · rw [el_set_other e]
    exact (World.cell?_setCell_other w _ _ _ (fun h => e (by cases h; rfl))).trans h1
theorem Own.row (h : Own w g p) {lo hi n : Nat} (hl : p.length = n) (h1 : lo ≤ g) (h2 : g < hi) : RowN lo hi w (some ⟨g, 0, none⟩) n p :=
  ⟨hl, .inr ⟨g, 0, rfl, h1, h2, fun i hi => by rw [Nat.zero_add]; exact (h.2 i (by omega)).1⟩⟩
end

theorem own_of_owns {w : World} {base e n : Nat} {v : Value} {p : List Nat} (h : w.ownsRow base e 1 v n (intsOf p)) (hl : p.length = n) (hn : 0 < n) : ∃ g c, v = .slice (some ⟨g, 0, none⟩) n c ∧ base ≤ g ∧ Own w g p := by
  obtain ⟨g, c, rfl, h1, h2⟩ := h.form hn
  refine ⟨g, c, rfl, h1, h2, fun i hi => ⟨?_, h.frozenAt i⟩⟩
  rw [h.cellAt i (by omega), intsOf_get hi]

theorem owns_box {w : World} {base e g n : Nat} {xs : List Value} (h : w.ownsRow base e 1 (.slice (some ⟨g, 0, none⟩) n n) n xs) : Box w g e xs := by
  rcases h.2 with ⟨e1, _⟩ | ⟨g', cap, cur, e1, _, hg, _, _, hsz, ht⟩
  · cases e1
  · cases e1
    unfold Box
    rw [hg]
    have : cur.toList = xs := by rw [← ht, List.take_of_length_le (by simp; omega)]
    rw [← this]

theorem Try.arr : ArrKey Try.prog 53 3 2 := ⟨Try.underlying53, by kernel_rfl, by kernel_rfl, by kernel_rfl⟩
theorem Try.typesPos : ∃ m, Try.prog.types.size = m + 1 := ⟨Try.prog.types.size - 1, by have : 0 < Try.prog.types.size := of_decide_eq_true (by kernel_rfl); omega⟩
theorem Try.pairLaw : Go.WideMaps.KeyLaw Try.prog 53 := Try.arr.law
theorem Try.pairKeyed : Keyed Try.prog 53 := Keyed.of_law Try.pairLaw

def fits (x : Int) : Prop := -9223372036854775808 ≤ x ∧ x ≤ 9223372036854775807
theorem fits_wf {x : Int} (h : fits x) : (Lit.int .i64 x).wf = true := WalkArith.wf_i64 (by unfold fits at h; omega)
def pairV (x y : Int) : Value := .agg #[.int .i64 x, .int .i64 y]
theorem pair_key {x y : Int} (hx : fits x) (hy : fits y) : ∃ kl, keyOf Try.prog 53 (.agg #[.int .i64 x, .int .i64 y]) = some kl ∧ WideAt.IsKeyLit kl :=
  ⟨_, keyOf_pair Try.arr Try.underlying3 Try.typesPos (fits_wf hx) (fits_wf hy), trivial⟩

theorem ownsRow_lo {w : World} {base n size : Nat} {e : TypeId} {v : Value} {xs : List Value} (h : w.ownsRow base e size v n xs) : ∀ q, v.ownBlock = some q → base ≤ q ∧ q < w.heap.size := by
  intro q hq
  obtain ⟨_, ⟨rfl, _⟩ | ⟨g, cap, cur, rfl, hb, hg, _⟩⟩ := h
  · cases hq
  · have : g = q := by simpa [Value.ownBlock] using hq
    subst this
    exact ⟨hb, (Array.getElem?_eq_some_iff.1 hg).1⟩

theorem own_shape {w : World} {base n size : Nat} {e : TypeId} {v : Value} {xs : List Value} (h : w.ownsRow base e size v n xs) : ∃ a c, v = .slice a n c := by
  obtain ⟨_, ⟨rfl, h0⟩ | ⟨g, cap, cur, rfl, _⟩⟩ := h
  · exact ⟨none, 0, by rw [h0]⟩
  · exact ⟨_, _, rfl⟩
theorem news_of {w : World} {t : TypeId} {cs : List Value} {H : Nat} (hH : w.heap.size = H) : ∀ j u, cs[j]? = some u → (w.alloc (.cells cs.toArray t)).cell? ((⟨H, 0, none⟩ : Addr).add j) = some u := fun j u hu => by
  rw [Addr.add_lit, Nat.zero_add, ← hH, (Box.new w t cs).cell j]; exact hu
theorem own_agree {w w' : World} {base n size : Nat} {e : TypeId} {v : Value} {xs : List Value} (h : w.ownsRow base e size v n xs) (hb : ∀ q, v.ownBlock = some q → w'.heap[q]? = w.heap[q]?) : w'.ownsRow base e size v n xs := by
  obtain ⟨h1, h2 | ⟨q, cap, cur, rfl, hb', hq, r⟩⟩ := h
  · exact ⟨h1, .inl h2⟩
  · exact ⟨h1, .inr ⟨q, cap, cur, rfl, hb', (hb q rfl).trans hq, r⟩⟩
theorem news_at {w : World} {t : TypeId} {cs : List Value} {H : Nat} (hH : w.heap.size = H) : ∀ j u, cs[j]? = some u → (w.alloc (.cells cs.toArray t)).cell? ((⟨H, 0, none⟩ : Addr).add j) = some u := news_of hH


end Go.Proofs.Ytdbjmonboecfgaa
