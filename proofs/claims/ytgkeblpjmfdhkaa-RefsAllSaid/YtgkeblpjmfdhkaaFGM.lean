/- Package refs: places: where the Binds are that have those names, rising. Package refs: Graph. -/
import Derived.Test.YtgkeblpjmfdhkaaFMM
import Derived.Test.YtgkeblpjmfdhkaaSrtM
import Derived.Test.YtgkeblpjmfdhkaaYtxtM
import Derived.Sort.OwnSortedInts
import Derived.Test.YtgkeblpjmfdhkaaFAM
import Derived.Test.YtgkeblpjmfdhkaaZFM
import Derived.Test.YtgkeblpjmfdhkaaYSM
namespace Go.Proofs.Ytgkeblpjmfdhkaa
open Go.RowKit Go.Maps
set_option linter.unusedVariables false
set_option linter.unusedSimpArgs false

theorem Try.gIntInfo : (Try.prog.info? 3).map (fun i => (i.zero, i.size, i.bytes)) = some (some (.int .i64 0), 1, 8) := by kernel_rfl
def natI (n : Nat) : Value := .int .i64 (n : Int)
def sortI (l : List Nat) : List Int := (l.map fun n : Nat => (n : Int)).mergeSort fun x y => decide (x ≤ y)
def intsC (l : List Int) : List Cl := l.map iC
theorem intsC_ins (S : Nat → Prop) (w : World) : ∀ l : List Int, InS S w (intsC l) (l.map fun n => Value.int .i64 n)
  | [] => InS.nil
  | s :: r => InS.cons (.v _) (intsC_ins S w r)
theorem intsC_len (l : List Int) : (intsC l).length = l.length * 1 := by simp [intsC]
theorem sortI_len (l : List Nat) : (sortI l).length = l.length := by simp [sortI]
theorem own_sort {w : World} {base n : Nat} {v : Value} {l : List Nat} (h : w.ownsRow base 3 1 v n (l.map natI)) (hn : l.length = n) (hl : n ≤ 1000000) (hbs : base ≤ w.heap.size) :
    Calls Try.prog 125 #[v] w fun e w' => e = .returned (.tuple #[]) ∧ w'.ownsRow base 3 1 v n ((sortI l).map (Value.int .i64)) ∧ Below base w w' := by
  have h0 := h
  obtain ⟨hx, ⟨rfl, h1⟩ | ⟨g, cap, cur, rfl, hb, hg, hcap, hcm, hsz, ht⟩⟩ := h
  · have hln : l = [] := List.eq_nil_of_length_eq_zero (by omega)
    subst hln
    subst h1
    refine (sort_none none 0 w).mono ?_
    rintro e w' ⟨rfl, rfl⟩
    exact ⟨rfl, by simpa [sortI] using h0, Below.refl _ _⟩
  · have hs : (l.map natI) = (l.map fun n : Nat => (n : Int)).map (Value.int .i64) := by rw [List.map_map]; rfl
    have hlz : (l.map fun n : Nat => (n : Int)).length = n := by simp [hn]
    have hgl : g < w.heap.size := (Array.getElem?_eq_some_iff.1 hg).1
    have hH : Go.Sort.Holds (Value.int .i64) w g 0 (l.map fun n : Nat => (n : Int)).toArray := holds_of_blockI hg (by rw [hlz, ← hs]; simpa using ht)
    have hcall := sort_int g 0 cap (l.map fun n : Nat => (n : Int)) w hH hgl (by rw [hlz]; omega)
    rw [hlz] at hcall
    refine hcall.mono ?_
    rintro e w' ⟨rfl, m, os, rfl⟩
    have hown := ownsRow_sortedI (w := w) (n := m) (base := base) (os := os) (ss := l.map fun n : Nat => (n : Int)) (ts := sortI l) (by rw [sortI_len]; simp) hb hg (by rw [hlz]; exact hcap) hcm hsz
    rw [hlz] at hown
    exact ⟨rfl, hown, (Below.refl base w).grown (grownBy_sortedI _) hbs (fun q hq => by obtain rfl := Option.some.inj hq; exact hb)⟩

set_option maxRecDepth 100000 in
set_option maxHeartbeats 4000000 in
theorem f_places {S : Nat → Prop} (w : World) (b n : Nat) (G : By → Option Nat) (hm0 : PM w b n G) (hG : ∀ s i, G s = some i → i ≤ 1000000) (names : List By) (a : Option Addr) (m c : Nat) (hmn : names.length = m) (hl : m ≤ 1000000) (hlen : ∀ s ∈ names, s.length ≤ 1000000)
    (hN0 : InC S w (.s names.length 1 (strsC names)) (.slice a m c)) :
    Calls Try.prog 76 #[.map (some b), .slice a m c] w fun e w' => ∃ a' c', e = .returned (.slice a' (sortI (names.filterMap G)).length c') ∧ InC (New w) w' (.s (sortI (names.filterMap G)).length 1 (intsC (sortI (names.filterMap G)))) (.slice a' (sortI (names.filterMap G)).length c') ∧ Below w.heap.size w w' := by
  obtain ⟨i0, hi0, hz0, hz1, hz2⟩ := info_parts Try.gIntInfo
  obtain ⟨R, hR⟩ : ∃ R, names.filterMap G = R := ⟨_, rfl⟩
  rw [hR]
  have HM0 := Lib.hid hm0
  have HN := Lib.hid hN0
  have HMN := Lib.hid hmn
  have HLEN := Lib.hid hlen
  have HG := Lib.hid hG
  have HR := Lib.hid hR
  clear hm0 hN0 hmn hlen hG hR
  go_enter Try.func76, Try.ntmps76
  go_wp2_with fail
  go_loopw [5, 12] (fun vl iv wr => ∃ (k j : Nat), k ≤ m ∧ iv = .int .i64 (k : Int) ∧ j ≤ k ∧ Hid (((names.take k).filterMap G).length = j) ∧ Hid (wr.ownsRow w.heap.size 3 1 vl j (((names.take k).filterMap G).map natI)) ∧ Hid (Below w.heap.size w wr)) (fun _ iv _ => m - (intOf iv).toNat)
  case atStart => exact ⟨0, 0, Nat.zero_le _, rfl, Nat.le_refl _, rfl, World.ownsRow_nil _ _ _ _, Below.refl _ _⟩
  case round =>
    obtain ⟨k, j, hk, rfl, hj, HJ, HW, HB⟩ := hrel
    by_cases hlt : k < m
    · obtain ⟨s, hs⟩ : ∃ s, names[k]? = some s := ⟨_, List.getElem?_eq_getElem (by rw [HMN.out]; exact hlt)⟩
      have hsl := HLEN.out s (List.mem_of_getElem? hs)
      obtain ⟨g, off, rfl, hg, hcx0⟩ := HN.out.text hs
      have hcx := (HB.out.cell (p := ⟨g, off + k, none⟩) hg).trans hcx0
      have hgw : g < wr.heap.size := by have := HB.out.size; omega
      have hmw := HM0.out.below HB.out
      have hlook := hmw.look s hsl
      have htk : (names.take (k + 1)).filterMap G = (names.take k).filterMap G ++ (match G s with | none => [] | some i => [i]) := by
        rw [take_snoc' hs, List.filterMap_append]
        congr 1
        cases hg2 : G s <;> simp [hg2]
      obtain ⟨zs, hzs⟩ : ∃ zs, strB s = zs := ⟨_, rfl⟩
      have hkv : rkV (atK s) = .agg #[.int .i64 3, .string zs] := by rw [← hzs]; rfl
      rw [hkv] at hlook
      rw [hzs] at hcx
      have HTK := Lib.hid htk
      have hGs := HG.out s
      clear hs hsl hcx0 hmw hzs hkv htk hg
      cases hgs : G s with
      | none =>
        rw [hgs] at hlook HTK
        have HJ2 : Hid (((names.take (k + 1)).filterMap G).length = j) := by show _ = _; rw [HTK.out]; simpa using HJ.out
        have HW2 : Hid ((names.take (k + 1)).filterMap G = (names.take k).filterMap G) := by show _ = _; rw [HTK.out]; simp
        simp only [Option.getD_none, Option.isSome_none] at hlook
        clear hgs hGs HTK
        go_wp2_with fail
        go_roundw
        case rel => exact ⟨k + 1, j, by omega, by go_num, by omega, HJ2, by rw [HW2.out]; exact HW, HB⟩
        case measure => simp [intOf]; omega
      | some i =>
        rw [hgs] at hlook HTK
        have hil := hGs i hgs
        have HJ2 : Hid (((names.take (k + 1)).filterMap G).length = j + 1) := by show _ = _; rw [HTK.out, List.length_append, HJ.out]; rfl
        have HW2 : Hid (((names.take (k + 1)).filterMap G).map natI = ((names.take k).filterMap G).map natI ++ [.int .i64 (i : Int)]) := by show _ = _; rw [HTK.out]; simp [natI]
        simp only [Option.getD_some, Option.isSome_some] at hlook
        obtain ⟨va, vc, rfl⟩ := own_shape HW.out
        have HLO := Lib.hid (ownsRow_lo HW.out)
        have hs8 := HB.out.size
        clear hgs hGs HTK
        go_wp2_with (first
          | (at_builtin; refine wpList_append_lies _ rfl _ _ 78 rfl w.heap.size 3 i0 (.int .i64 0) 1 8 Try.underlying78 hi0 hz0 hz1 hz2 rfl (by decide) _ j (((names.take k).filterMap G).map natI) rfl (HW.out.alloc _) ⟨wr.heap.size, 0, none⟩ 1 1 [.int .i64 (i : Int)] rfl rfl (news_at (cs := [.int .i64 (i : Int)]) rfl) (by simp [Value.oneCell']) (by decide) ?c3 ?c4 ?c5 _ rfl ?_))
        case c3 => unfold maxLen; omega
        case c4 => omega
        case c5 => simp; omega
        intro g9 cap9 w9 hown9 hgrow hat hlt9
        have HB9 : Hid (Below w.heap.size w w9) := (HB.out.alloc (by omega) _).grown hgrow (by simp; omega) fun q hq => (HLO.out q hq).1
        have HW9 : Hid (w9.ownsRow w.heap.size 3 1 (.slice (some ⟨g9, 0, none⟩) (j + 1) cap9) (j + 1) (((names.take (k + 1)).filterMap G).map natI)) := by
          show World.ownsRow _ _ _ _ _ _ _
          rw [HW2.out]; exact hown9
        clear hown9 hgrow hat hlt9 HW HB
        go_wp2_with fail
        go_roundw
        case rel => exact ⟨k + 1, j + 1, by omega, by go_num, by omega, HJ2, HW9, HB9⟩
        case measure => simp [intOf]; omega
    · have hkm : k = m := by omega
      have hfull : names.take k = names := List.take_of_length_le (by rw [HMN.out, hkm]; exact Nat.le_refl _)
      rw [hfull, HR.out] at HJ HW
      obtain ⟨va, vc, rfl⟩ := own_shape HW.out
      have HS := Lib.hid (own_sort HW.out HJ.out (by omega) HB.out.size)
      have hlen2 : (sortI R).length = j := by rw [sortI_len]; exact HJ.out
      have HL2 := Lib.hid hlen2
      have hge : ¬ ((k : Int) < (m : Int)) := by omega
      clear hfull hkm hlt hlen2
      go_wp2_with (go_at_call 125; (with_reducible refine (HS.out).mono ?_); rintro e w9 ⟨rfl, hown, hb9⟩; have HOW := Lib.hid hown; have HB9 := Lib.hid (HB.out.trans hb9); clear hown hb9)
      go_ret
      rw [HL2.out]
      refine ⟨va, vc, rfl, ?_, HB9.out⟩
      have := InC.of_owns HOW.out (intsC_ins (New w) _ (sortI R)) (fun q hq => by have := ownsRow_lo HOW.out q hq; exact this.1) (by rw [intsC_len, HL2.out])
      exact this

end Go.Proofs.Ytgkeblpjmfdhkaa

namespace Go.Proofs.Ytgkeblpjmfdhkaa
open Go.RowKit Go.Maps
set_option linter.unusedVariables false
set_option linter.unusedSimpArgs false

mutual
theorem Ex.occ_fit : ∀ (x : Ex) (bd : List By), x.fit → ∀ s ∈ x.occ bd, s.length ≤ 1000000
  | .mk k p n0 n kids alts, bd, hf, s, hs => by
    simp only [Ex.fit] at hf
    simp only [Ex.occ, List.mem_append] at hs
    rcases hs with h | h | h
    · split at h
      · rw [List.mem_singleton.1 h]; exact hf.1
      · simp at h
    · exact Ex.occs_fit kids bd k n0 0 hf.2.2.1 s h
    · exact Al.occs_fit alts bd hf.2.2.2 s h
theorem Ex.occs_fit : ∀ (l : List Ex) (bd : List By) (k : Int) (n0 : By) (i : Nat), Ex.fits l → ∀ s ∈ Ex.occs bd k n0 i l, s.length ≤ 1000000
  | [], bd, k, n0, i, hf, s, hs => by simp [Ex.occs] at hs
  | x :: r, bd, k, n0, i, hf, s, hs => by
    simp only [Ex.fits] at hf
    simp only [Ex.occs, List.mem_append] at hs
    rcases hs with h | h
    · exact Ex.occ_fit x _ hf.1 s h
    · exact Ex.occs_fit r bd k n0 (i + 1) hf.2 s h
theorem Al.occs_fit : ∀ (l : List Al) (bd : List By), Al.fits l → ∀ s ∈ Al.occs bd l, s.length ≤ 1000000
  | [], bd, hf, s, hs => by simp [Al.occs] at hs
  | .mk p n0 names b :: r, bd, hf, s, hs => by
    simp only [Al.fits, Al.fit] at hf
    simp only [Al.occs, List.mem_append] at hs
    rcases hs with h | h
    · exact Ex.occ_fit b _ hf.1.2.2.2 s h
    · exact Al.occs_fit r bd hf.2 s h
end
/-- A Bind of a list in memory. -/
theorem InC.bind8 {S : Nat → Prop} {w : World} {l : List Bd} {a : Option Addr} {m c : Nat} (h : InC S w (.s l.length 8 (l.flatMap bdC)) (.slice a m c)) {i : Nat} {x : Bd} (hx : l[i]? = some x) :
    ∃ (g off : Nat) (r : BRow), a = some ⟨g, off, none⟩ ∧ g < w.heap.size ∧ r.s = x.s ∧ RowAt w g (off + i * 8) r ∧ IsV S w (exC x.body) (.agg #[.int .i64 r.k, .int .i64 r.q, .string r.z, .int .i64 r.n, .slice r.a1 r.m1 r.d1, .slice r.a2 r.m2 r.d2]) := by
  obtain ⟨g, off, us, rfl, hg, hxv, hc⟩ := h.elem bdC_len hx
  obtain ⟨k, p, n, s, a1, a2, m1, m2, c1, c2, hz9, hb⟩ := hxv.bd
  obtain rfl := agg_inj hz9
  refine ⟨g, off, ⟨x.s, x.p, k, p, strB s, n, a1, m1, c1, a2, m2, c2⟩, rfl, hg, rfl, ⟨?_, ?_, ?_, ?_, ?_, ?_, ?_, ?_⟩, hb⟩
  · exact hc 0 _ rfl
  · have := hc 1 _ rfl; rwa [← Nat.add_assoc] at this
  · have := hc 2 _ rfl; rwa [← Nat.add_assoc] at this
  · have := hc 3 _ rfl; rwa [← Nat.add_assoc] at this
  · have := hc 4 _ rfl; rwa [← Nat.add_assoc] at this
  · have := hc 5 _ rfl; rwa [← Nat.add_assoc] at this
  · have := hc 6 _ rfl; rwa [← Nat.add_assoc] at this
  · have := hc 7 _ rfl; rwa [← Nat.add_assoc] at this
/-- All Binds of a list in memory. -/
theorem InC.binds8 {S : Nat → Prop} {w : World} {l : List Bd} {a : Option Addr} {m c : Nat} (h : InC S w (.s l.length 8 (l.flatMap bdC)) (.slice a m c)) :
    ∃ zs : List BRow, zs.length = l.length ∧ zs.map BRow.s = l.map Bd.s ∧ (zs.length = 0 ∨ ∃ b off, a = some ⟨b, off, none⟩ ∧ b < w.heap.size ∧ ∀ j, j < zs.length → RowAt w b (off + j * 8) (zs.getD j bR0)) := by
  by_cases h0 : l.length = 0
  · have : l = [] := List.eq_nil_of_length_eq_zero h0
    subst this
    exact ⟨[], rfl, rfl, .inl rfl⟩
  · obtain ⟨x0, hx0⟩ : ∃ x, l[0]? = some x := ⟨_, List.getElem?_eq_getElem (by omega)⟩
    obtain ⟨b, off, _, rfl, hb, _, _, _⟩ := h.bind8 hx0
    have hall : ∀ i : Fin l.length, ∃ r : BRow, r.s = (l[i.val]).s ∧ RowAt w b (off + i.val * 8) r := fun i => by
      obtain ⟨g, o, r, e, _, h1, h2, _⟩ := h.bind8 (i := i.val) (x := l[i.val]) (List.getElem?_eq_getElem i.isLt)
      cases e
      exact ⟨r, h1, h2⟩
    refine ⟨List.ofFn fun i => Classical.choose (hall i), by simp, ?_, .inr ⟨b, off, rfl, hb, fun j hj => ?_⟩⟩
    · apply List.ext_getElem
      · simp
      · intro i h1 h2
        simp at h1 h2
        simp only [List.getElem_map, List.getElem_ofFn]
        exact (Classical.choose_spec (hall ⟨i, h2⟩)).1
    · have hj2 : j < l.length := by simpa using hj
      have e : (List.ofFn fun i => Classical.choose (hall i)).getD j bR0 = Classical.choose (hall ⟨j, hj2⟩) := by
        simp [List.getD, List.getElem?_ofFn, hj2]
      rw [e]
      exact (Classical.choose_spec (hall ⟨j, hj2⟩)).2
theorem f_declared {S : Nat → Prop} (w : World) (l : List Bd) (a : Option Addr) (m c : Nat) (hm : l.length = m) (hl : m ≤ 1000000) (hlen : ∀ b ∈ l, b.s.length ≤ 1000000) (h : InC S w (.s l.length 8 (l.flatMap bdC)) (.slice a m c)) :
    Calls Try.prog 75 #[.slice a m c] w fun e w' => ∃ b, e = .returned (.map (some b)) ∧ w.heap.size ≤ b ∧ PM w' b m (firstF (l.map Bd.s)) ∧ Below w.heap.size w w' := by
  obtain ⟨zs, h1, h2, h3⟩ := h.binds8
  have hz : zs.length = m := by omega
  have hs : ∀ j, (zs.getD j bR0).s.length ≤ 1000000 := fun j => by
    by_cases hj : j < zs.length
    · have e : (zs.map BRow.s)[j]? = (l.map Bd.s)[j]? := by rw [h2]
      rw [List.getElem?_map, List.getElem?_map, List.getElem?_eq_getElem hj, List.getElem?_eq_getElem (by omega)] at e
      have e2 : zs[j].s = (l[j]'(by omega)).s := Option.some.inj e
      have e3 : zs.getD j bR0 = zs[j] := by simp [List.getD, List.getElem?_eq_getElem hj]
      rw [e3, e2]
      exact hlen _ (List.getElem_mem _)
    · have : zs.getD j bR0 = bR0 := by simp [List.getD, List.getElem?_eq_none (by omega : zs.length ≤ j)]
      rw [this]; simp [bR0]
  have := callsIn_wide.1 (declared_in Fence.wide 3 trivial trivial trivial rfl (Nat.le_refl _) w zs a c (by omega) hs h3)
  rw [hz, h2] at this
  exact this

/-- What refers to what. -/
def graphL (l : List Bd) : List (List Int) := l.map fun b => sortI ((freeL b.body).filterMap (firstF (l.map Bd.s)))
def rowCl (r : List Int) : Cl := .s r.length 1 (intsC r)
theorem firstF_lt {l : List By} {s : By} {i : Nat} (h : firstF l s = some i) : i < l.length := (List.findIdx?_eq_some_iff_getElem.1 h).1
theorem Try.gRowInfo : (Try.prog.info? 78).map (fun i => (i.zero, i.size, i.bytes)) = some (some (.slice none 0 0), 1, 24) := by kernel_rfl
/-- A row of rows that is being filled. -/
structure GS (w wr : World) (g n k : Nat) (rows : List (List Int)) (vs : List Value) : Prop where
  box : Box wr g 78 vs
  len : vs.length = n
  ins : ∀ (i : Nat) (r : List Int) (v : Value), i < k → rows[i]? = some r → vs[i]? = some v → InC (fun q => New w q ∧ q ≠ g) wr (rowCl r) v
theorem GS.put {w wr wx : World} {g n k : Nat} {rows : List (List Int)} {vs : List Value} {r : List Int} {v : Value} (h : GS w wr g n k rows vs) (hb : Below wr.heap.size wr wx) (hr : rows[k]? = some r) (hv : InC (fun q => New w q ∧ q ≠ g) wx (rowCl r) v) (hk : k < n) : GS w (wx.setCell ⟨g, k, none⟩ v) g n (k + 1) rows (vs.set k v) := by
  refine ⟨(h.box.below hb).set k v, by rw [List.length_set]; exact h.len, fun i r' v' hi h1 h2 => ?_⟩
  have hset : ∀ {c : Cl} {u : Value}, InC (fun q => New w q ∧ q ≠ g) wx c u → InC (fun q => New w q ∧ q ≠ g) (wx.setCell ⟨g, k, none⟩ v) c u := fun hc => hc.set (fun _ q => q.2 rfl) v
  by_cases e : i = k
  · subst e
    rw [hr] at h1
    obtain rfl := Option.some.inj h1
    rw [List.getElem?_set_self (by rw [h.len]; exact hk)] at h2
    obtain rfl := Option.some.inj h2
    exact hset hv
  · rw [List.getElem?_set_ne (fun q => e q.symm)] at h2
    exact hset ((h.ins i r' v' (by omega) h1 h2).under hb)
theorem GS.done {w wr : World} {g n : Nat} {rows : List (List Int)} {vs : List Value} (h : GS w wr g n n rows vs) (hr : rows.length = n) (hg : w.heap.size ≤ g) (hn : n ≤ maxLen) : InC (New w) wr (.s rows.length 1 (rows.map rowCl)) (.slice (some ⟨g, 0, none⟩) n n) := by
  by_cases h0 : n = 0
  · have : rows = [] := List.eq_nil_of_length_eq_zero (by omega)
    subst this
    subst h0
    exact .e _ _ _
  · rw [hr]
    refine .s _ _ _ g 0 n vs hg h.box.lt (by simp [hr]) (by simp [h.len, hr]) h0 (Nat.le_refl _) hn (fun i u hu => ?_) (fun i c u h1 h2 => ?_)
    · rw [Nat.zero_add, h.box.cell]; exact hu
    · rw [List.getElem?_map] at h1
      cases hx : rows[i]? with
      | none => rw [hx] at h1; cases h1
      | some r =>
        rw [hx] at h1
        obtain rfl := Option.some.inj h1
        have hi : i < n := by have := (List.getElem?_eq_some_iff.1 hx).1; omega
        exact (h.ins i r u hi hx h2).mono fun _ _ q => q.1

set_option maxRecDepth 100000 in
set_option maxHeartbeats 8000000 in
theorem f_Graph {S : Nat → Prop} (w : World) (l : List Bd) (a : Option Addr) (m c : Nat) (hm : l.length = m) (hl : m ≤ 100000) (hfit : ∀ b ∈ l, b.s.length ≤ 1000000 ∧ b.body.fit ∧ 3 * b.body.nn + 4 ≤ 2000000) (h0 : InC S w (.s l.length 8 (l.flatMap bdC)) (.slice a m c)) :
    Calls Try.prog 37 #[.slice a m c] w fun e w' => ∃ a' c', e = .returned (.slice a' m c') ∧ InC (New w) w' (.s (graphL l).length 1 ((graphL l).map rowCl)) (.slice a' m c') ∧ Below w.heap.size w w' := by
  obtain ⟨i0, hi, hz0, hz1, hz2⟩ := info_parts Try.gRowInfo
  obtain ⟨M, hM⟩ : ∃ M, M = madeCells (Value.slice none 0 0).cells (((m : Nat) : Int).toNat * i0.size) := ⟨_, rfl⟩
  have hMs : M.size = m := by rw [hM, size_madeCells, hz1]; simp
  have hmk : ∀ W : World, (Instr.makeSlice 73 (.int .i64 (m : Int)) (.int .i64 (m : Int))).run Try.prog W = .ok (.slice (some ⟨W.heap.size, 0, none⟩) m m) (W.alloc (.cells M 78)) := fun W => by
    have h := run_make (P := Try.prog) W 73 78 i0 (.slice none 0 0) Try.underlying73 hi hz0 .i64 .i64 (m : Int) (m : Int) (by omega) (by omega) (by rw [hz2]; omega) (by omega)
    rw [← hM] at h
    simpa using h
  have hv : InC (fun q => q < w.heap.size) w (.s l.length 8 (l.flatMap bdC)) (.slice a m c) := h0.mono fun q h1 _ => h1
  obtain ⟨G, hG⟩ : ∃ G, firstF (l.map Bd.s) = G := ⟨_, rfl⟩
  have hGl : ∀ s i, G s = some i → i ≤ 1000000 := fun s i h => by rw [← hG] at h; have := firstF_lt h; simp at this; omega
  have HD := Lib.hid (f_declared w l a m c hm (by omega) (fun b hb => (hfit b hb).1) h0)
  rw [hG] at HD
  have HV := Lib.hid hv
  have HM := Lib.hid hm
  have HFIT := Lib.hid hfit
  have HG := Lib.hid hG
  have HGL := Lib.hid hGl
  have HMS := Lib.hid hMs
  obtain ⟨RS, hRS⟩ : ∃ RS, graphL l = RS := ⟨_, rfl⟩
  rw [hRS]
  have HRS := Lib.hid hRS
  have HRL : Hid (RS.length = m) := by show _ = _; rw [← hRS]; simp [graphL, hm]
  clear hv h0 hm hfit hG hGl hM hMs hRS hz0 hz1 hz2 hi
  go_enter Try.func37, Try.ntmps37
  go_wp2_with (go_at_call 75; (with_reducible refine (HD.out).mono ?_); rintro e w1 ⟨bm, rfl, hbm, hpm, hb1⟩; have HPM := Lib.hid hpm; have HB1 := Lib.hid hb1; have hbl := hpm.lt; clear hpm hb1 HD)
  obtain ⟨w2, hw2⟩ : ∃ w2, w1.alloc (.cells M 78) = w2 := ⟨_, rfl⟩
  have HB2 : Hid (Below w.heap.size w w2) := by show Below _ _ _; rw [← hw2]; exact HB1.out.alloc HB1.out.size _
  have HP2 : Hid (PM w2 bm m G) := by show PM _ _ _ _; rw [← hw2]; exact HPM.out.below ((Below.refl _ _).alloc (Nat.le_refl _) _)
  have HX2 : Hid (GS w w2 w1.heap.size m 0 RS M.toList) := by
    refine ⟨by rw [← hw2]; exact Box.new w1 78 M.toList, by simp [HMS.out], fun i r v hi _ _ => by omega⟩
  have hz2 : w2.heap.size = w1.heap.size + 1 := by rw [← hw2]; simp
  try rw [hw2]
  have hs1 := HB1.out.size
  obtain ⟨g, hg⟩ : ∃ g, w1.heap.size = g := ⟨_, rfl⟩
  rw [hg] at HX2 hz2 hs1 hbl
  try rw [hg]
  clear hw2 HPM HB1
  have HO2 : Hid (Out (fun q => q = g) w2 w2) := Out.refl _ _
  go_loopw [14] (fun iv wr => ∃ (k : Nat) (vs : List Value), k ≤ m ∧ iv = .int .i64 (k : Int) ∧ Hid (GS w wr g m k RS vs) ∧ Hid (Out (fun q => q = g) w2 wr)) (fun iv _ => m - (intOf iv).toNat)
  case atStart => exact ⟨0, _, Nat.zero_le _, rfl, HX2, HO2⟩
  case round =>
    clear HX2 HO2
    obtain ⟨k, vs, hk, rfl, HX, HO⟩ := hrel
    have HBW : Hid (Below w.heap.size w wr) := HB2.out.trans (HO.out.below HB2.out.size (fun q hq e => by omega))
    by_cases hlt : k < m
    · obtain ⟨x, hx⟩ : ∃ x, l[k]? = some x := ⟨_, List.getElem?_eq_getElem (by rw [HM.out]; exact hlt)⟩
      have hxm := List.mem_of_getElem? hx
      obtain ⟨hf1, hf2, hf3⟩ := HFIT.out x hxm
      obtain ⟨gx, ox, r, rfl, hgx, hrs, hrow, hbody⟩ := (HV.out.under HBW.out).bind8 hx
      obtain ⟨ro, hro⟩ : ∃ ro, RS[k]? = some ro := ⟨_, List.getElem?_eq_getElem (by rw [HRL.out]; exact hlt)⟩
      have hroe : ro = sortI ((freeL x.body).filterMap G) := by
        have h1 := hro
        rw [← HRS.out] at h1
        unfold graphL at h1
        rw [List.getElem?_map, hx, HG.out] at h1
        exact (Option.some.inj h1).symm
      obtain ⟨xs, xp, xk, xq, xz, xn, xa1, xm1, xd1, xa2, xm2, xd2⟩ := r
      obtain ⟨c0, c1, c2, c3, c4, c5, c6, c7⟩ := hrow
      dsimp only [BRow.c1, BRow.c2, BRow.c3, BRow.c4, BRow.c5, BRow.c6, BRow.c7] at c0 c1 c2 c3 c4 c5 c6 c7 hbody
      have T1 : ∀ W, Sem.run Try.prog (Instr.indexAt 26 (.slice (some ⟨gx, ox, none⟩) m c) (.int .i64 (k : Int))) W = .ok (.pointer (some ⟨gx, ox + k * 8, none⟩)) W := fun W => by go_simp
      obtain ⟨zz, hzz⟩ : ∃ zz, strB xs = zz := ⟨_, rfl⟩
      rw [hzz] at c0
      have hba : Below wr.heap.size wr (wr.alloc (.cells #[.string zz, .int .i64 xp, .int .i64 xk, .int .i64 xq, .string xz, .int .i64 xn, .slice xa1 xm1 xd1, .slice xa2 xm2 xd2] 45)) := (Below.refl _ wr).alloc (Nat.le_refl _) _
      have HBA := Lib.hid hba
      obtain ⟨FL, hFL⟩ : ∃ FL, freeL x.body = FL := ⟨_, rfl⟩
      have hFLl : FL.length ≤ 1000000 := by
        rw [← hFL]; refine Nat.le_trans (addAll_len _ _) ?_
        have := Ex.occ_len x.body []; simp; omega
      have hFLs : ∀ s ∈ FL, s.length ≤ 1000000 := fun s hs => by
        rw [← hFL] at hs
        rcases (addAll_mem _ _).1 hs with h | h
        · simp at h
        · exact Ex.occ_fit x.body [] hf2 s h
      have HF := Lib.hid (f_Free x.body _ _ hf2 (hbody.under hba) (by omega))
      rw [hFL] at HF hroe
      have HPL : Hid (∀ (w' : World) (a' : Option Addr) (c' : Nat) (S' : Nat → Prop), Below wr.heap.size wr w' → InC S' w' (.s FL.length 1 (strsC FL)) (.slice a' FL.length c') → Calls Try.prog 76 #[.map (some bm), .slice a' FL.length c'] w' fun e w'' => ∃ a2 c2, e = .returned (.slice a2 ro.length c2) ∧ InC (New w') w'' (rowCl ro) (.slice a2 ro.length c2) ∧ Below w'.heap.size w' w'') := fun w' a' c' S' hw hc => by
        have hpw : PM w' bm m G := (HP2.out.agree (HO.out.block bm HP2.out.lt (fun e => by omega))).below hw
        have := f_places w' bm m G hpw HGL.out FL a' FL.length c' rfl hFLl hFLs hc
        rw [hroe]
        exact this
      have hcg : ∀ (w' : World), Below wr.heap.size wr w' → w'.cell? ⟨g, k, none⟩ = vs[k]? ∧ w'.frozen? ⟨g, k, none⟩ = false := fun w' hw => ⟨(HX.out.box.below hw).cell k, (HX.out.box.below hw).frozen k⟩
      obtain ⟨v0, hv0⟩ : ∃ v0, vs[k]? = some v0 := ⟨_, List.getElem?_eq_getElem (by rw [HX.out.len]; exact hlt)⟩
      rw [hv0] at hcg
      have HCG := Lib.hid hcg
      have HRO := Lib.hid hro
      have hgw : g < wr.heap.size := HX.out.box.lt
      have T2 : ∀ W, Sem.run Try.prog (Instr.indexAt 73 (.slice (some ⟨g, 0, none⟩) m m) (.int .i64 (k : Int))) W = .ok (.pointer (some ⟨g, k, none⟩)) W := fun W => by go_simp
      obtain ⟨nf, hnf⟩ : ∃ nf, FL.length = nf := ⟨_, rfl⟩
      rw [hnf] at HF HPL
      obtain ⟨nr, hnr⟩ : ∃ nr, ro.length = nr := ⟨_, rfl⟩
      rw [hnr] at HPL
      clear hx hxm hf1 hf2 hf3 hrs hbody hro hroe hzz hba hFL hFLl hFLs hcg hv0 hnf hnr
      go_wp2_with (first
        | (go_at_call 34; (with_reducible refine (HF.out).mono ?_); go_loud (rintro e w3 ⟨a3, c3', rfl, h3, hn3, hb3⟩; have HI3 := Lib.hid h3; have HB3 := Lib.hid (HBA.out.trans (hb3.mono HBA.out.size)); clear h3 hn3 hb3 HF))
        | (go_at_call 76; (with_reducible refine (HPL.out _ _ _ _ HB3.out HI3.out).mono ?_); go_loud (rintro e w4 ⟨a4, c4', rfl, h4, hb4⟩; have HI4 := Lib.hid h4; have HB4 := Lib.hid (HB3.out.trans (hb4.mono HB3.out.size)); obtain ⟨z1, z2⟩ := HCG.out _ HB4.out; have z3 := HB4.out.size; have hgw4 : g < w4.heap.size := (by omega); clear h4 hb4)))
      have hn3 : w3.heap.size ≥ wr.heap.size := HB3.out.size
      have HX9 := Lib.hid (HX.out.put HB4.out HRO.out (HI4.out.mono fun q _ hq => by unfold New at *; exact ⟨by have := HBW.out.size; omega, by omega⟩) hlt)
      have HO9 : Hid (Out (fun q => q = g) w2 (w4.setCell ⟨g, k, none⟩ (.slice a4 nr c4'))) := (HO.out.next HB4.out).setCell (p := ⟨g, k, none⟩) (.inl rfl) _
      go_roundw
      case rel => exact ⟨k + 1, _, by omega, by go_num, HX9, HO9⟩
      case measure => simp [intOf]; omega
    · have hkm : k = m := by omega
      have HE : Hid (InC (New w) wr (.s RS.length 1 (RS.map rowCl)) (.slice (some ⟨g, 0, none⟩) m m)) := by
        have h1 := HX.out
        rw [hkm] at h1
        exact h1.done HRL.out (by omega) (by unfold maxLen; omega)
      have hge : ¬ ((k : Int) < (m : Int)) := by omega
      clear hkm
      go_wp2_with fail
      go_ret
      exact ⟨_, _, rfl, HE.out, HBW.out⟩

end Go.Proofs.Ytgkeblpjmfdhkaa
