/- Package refs: the finder: use, boundIn. Package refs: the finder's boundIn, within. Package refs: the finder's expr, of any expression; Free. Package refs: Free. -/
import Derived.Test.YtgkeblpjmfdhkaaSFM
import Derived.Test.YtgkeblpjmfdhkaaYtxtM
import Derived.Test.YtgkeblpjmfdhkaaZCM
import Derived.Test.YtgkeblpjmfdhkaaZAM
import Derived.Deep.RegionLaw
import Derived.Test.YtgkeblpjmfdhkaaZEM
import Derived.Deep.RegionHeldLaw
import Derived.Deep.CutRange
import Derived.Deep.DeepCutAuto
namespace Go.Proofs.Ytgkeblpjmfdhkaa
open Go.RowKit Go.Maps
set_option linter.unusedVariables false
set_option linter.unusedSimpArgs false

def strV (s : By) : Value := .string (strB s)
theorem Out.intoF {S S' : Nat → Prop} {w w' w'' : World} (h : Out S w w') (k : Out S' w' w'') (hs : ∀ q, q < w.heap.size → S' q → S q) : Out S w w'' := ⟨k.os.trans h.os, k.tape.trans h.tape, k.output.trans h.output, Nat.le_trans h.size k.size, fun i hi hn => (k.block i (Nat.lt_of_lt_of_le hi h.size) (fun q => hn (hs i hi q))).trans (h.block i hi hn)⟩
/-- What changes where a finder goes on: its block, its map's, its row's. -/
def FM (bf b : Nat) (v : Value) (w : World) (v' : Value) (w' : World) : Prop := Out (fun q => q = bf ∨ q = b ∨ v.ownBlock = some q) w w' ∧ ∀ q, v'.ownBlock = some q → v.ownBlock = some q ∨ w.heap.size ≤ q
theorem FM.refl (bf b : Nat) (v : Value) (w : World) : FM bf b v w v w := ⟨Out.refl _ _, fun q h => .inl h⟩
theorem FM.size {bf b : Nat} {v v' : Value} {w w' : World} (h : FM bf b v w v' w') : w.heap.size ≤ w'.heap.size := h.1.size
theorem FM.trans {bf b : Nat} {v v' v2 : Value} {w w' w2 : World} (h : FM bf b v w v' w') (k : FM bf b v' w' v2 w2) : FM bf b v w v2 w2 := by
  refine ⟨h.1.intoF k.1 fun q hq hs => ?_, fun q hq => ?_⟩
  · rcases hs with h1 | h1 | h1
    · exact .inl h1
    · exact .inr (.inl h1)
    · rcases h.2 q h1 with h2 | h2
      · exact .inr (.inr h2)
      · omega
  · rcases k.2 q hq with h1 | h1
    · exact h.2 q h1
    · exact .inr (Nat.le_trans h.size h1)
theorem FM.of_below {bf b : Nat} {v : Value} {w w' : World} (hb : Below w.heap.size w w') : FM bf b v w v w' := ⟨Out.of_below hb, fun q h => .inl h⟩
theorem FM.next {bf b : Nat} {v v' : Value} {w w' w2 : World} (h : FM bf b v w v' w') (hb : Below w'.heap.size w' w2) : FM bf b v w v' w2 := h.trans (FM.of_below hb)
/-- A finder: bf its block, b its map's, what is bound, what is free; all that it writes lies from lo on. -/
structure FS (lo base : Nat) (w : World) (bf b n : Nat) (bd out : List By) (v : Value) : Prop where
  box : Box w bf 137 [.map (some b), v]
  map : QM w b n (fnL bd out)
  row : w.ownsRow base 9 1 v out.length (out.map strV)
  lf : lo ≤ bf
  lb : lo ≤ b
  ne : bf ≠ b
  f : bf < base
  b : b < base
  le : base ≤ w.heap.size
theorem FS.below {lo base bf b n : Nat} {w w' : World} {bd out : List By} {v : Value} (h : FS lo base w bf b n bd out v) (hb : Below w.heap.size w w') : FS lo base w' bf b n bd out v :=
  ⟨h.box.below hb, h.map.below hb, ownsRow_below h.row hb, h.lf, h.lb, h.ne, h.f, h.b, Nat.le_trans h.le hb.size⟩
theorem FS.drew {lo base bf b n : Nat} {w : World} {bd out : List By} {v : Value} (h : FS lo base w bf b n bd out v) : FS lo base w.drew bf b n bd out v :=
  h.below (Below.refl _ w).drew
theorem FS.perm {lo base bf b n : Nat} {w : World} {bd bd' out : List By} {v : Value} (h : FS lo base w bf b n bd out v) (hp : bd.Perm bd') : FS lo base w bf b n bd' out v :=
  ⟨h.box, h.map.perm (fun s => (fnL_perm hp s).symm), h.row, h.lf, h.lb, h.ne, h.f, h.b, h.le⟩
/-- The map alone is turned. -/
theorem FS.grown {lo base bf b n n' : Nat} {w w' : World} {bd bd' out : List By} {v : Value} (h : FS lo base w bf b n bd out v) (hg : w.grownBy w' (some b)) (hm : QM w' b n' (fnL bd' out)) (hz : w'.heap.size = w.heap.size) : FS lo base w' bf b n' bd' out v :=
  ⟨Box.grown h.box hg (fun q => h.ne (Option.some.inj q)), hm, own_agree h.row (fun q hq => by have := ownsRow_lo h.row q hq; exact hg.block q this.2 (fun e => by have := Option.some.inj e; have := h.b; omega)), h.lf, h.lb, h.ne, h.f, h.b, by rw [hz]; exact h.le⟩
theorem FS.own {lo base bf b n : Nat} {w : World} {bd out : List By} {v : Value} (h : FS lo base w bf b n bd out v) : ∀ q, v.ownBlock = some q → base ≤ q ∧ q < w.heap.size := ownsRow_lo h.row
/-- A name more is listed. -/
theorem FS.put {lo base bf b n n2 m vc g cap : Nat} {w w3 w5 w9 : World} {bd out : List By} {v : Value} {va : Option Addr} {s : By} {o : Obj} (h : FS lo base w bf b n bd out v) (hm : out.length = m) (hm3 : QM w3 b n2 (fnL bd (out ++ [s]))) (hx : Box w3.drew bf 137 [.map (some b), .slice va m vc])
    (hr : w3.drew.ownsRow base 9 1 (.slice va m vc) m (out.map strV)) (hb5 : Below w3.drew.heap.size w3.drew w5) (hg : (w5.alloc o).grownBy w9 (Value.slice va m vc).ownBlock) (h1 : some bf ≠ (Value.slice va m vc).ownBlock) (h2 : some b ≠ (Value.slice va m vc).ownBlock) (hz : base ≤ w3.heap.size)
    (h9 : w9.ownsRow base 9 1 (.slice (some ⟨g, 0, none⟩) (m + 1) cap) (m + 1) ((out ++ [s]).map strV)) :
    FS lo base (w9.setCell ⟨bf, 1, none⟩ (.slice (some ⟨g, 0, none⟩) (m + 1) cap)) bf b n2 bd (out ++ [s]) (.slice (some ⟨g, 0, none⟩) (m + 1) cap) := by
  have hbm := hm3.lt
  have hb9 : w9.heap[b]? = w3.heap[b]? := by
    have e5 : w5.heap[b]? = w3.heap[b]? := hb5.block b hbm
    have s5 : w3.heap.size ≤ w5.heap.size := hb5.size
    rw [hg.block b (by simp; omega) h2, Below.heap_alloc _ _ _ (by omega), e5]
  have s9 : w3.heap.size ≤ w9.heap.size := by
    have s5 : w3.heap.size ≤ w5.heap.size := hb5.size
    have := hg.size
    rw [World.size_alloc] at this; omega
  refine ⟨?_, ?_, ?_, h.lf, h.lb, h.ne, h.f, h.b, by simp; omega⟩
  · exact (Box.grown ((hx.below hb5).alloc o) hg h1).set 1 (.slice (some ⟨g, 0, none⟩) (m + 1) cap)
  · exact hm3.agree ((Below.heap_setCell _ _ _ _ (fun e => h.ne e.symm)).trans hb9)
  · have : (out ++ [s]).length = m + 1 := by simp [hm]
    rw [this]
    exact own_agree h9 fun q hq => Below.heap_setCell _ _ _ _ (fun e => by have := ownsRow_lo h9 q hq; have := h.f; have e' : q = bf := e; omega)
theorem FS.putB {bf b m vc g cap : Nat} {w w3 w5 w9 : World} {u : Value} {va : Option Addr} {o : Obj} (h3 : FM bf b (.slice va m vc) w (.slice va m vc) w3) (hb5 : Below w3.drew.heap.size w3.drew w5) (hg : (w5.alloc o).grownBy w9 (Value.slice va m vc).ownBlock)
    (hat : (Value.slice va m vc).ownBlock = some g ∨ g = (w5.alloc o).heap.size) : FM bf b (.slice va m vc) w (.slice (some ⟨g, 0, none⟩) (m + 1) cap) (w9.setCell ⟨bf, 1, none⟩ u) := by
  have h5 := (h3.next ((Below.refl _ w3).drew.trans hb5)).1
  refine ⟨((h5.alloc o).grown hg fun q hq => .inl (.inr (.inr hq))).setCell (p := ⟨bf, 1, none⟩) (.inl (.inl rfl)) u, fun q hq => ?_⟩
  have e : g = q := Option.some.inj hq
  subst e
  rcases hat with h1 | h1
  · exact .inl h1
  · right; have := h5.size; rw [h1]; simp; omega
set_option maxRecDepth 100000 in
set_option maxHeartbeats 8000000 in
theorem f_use {lo base bf b n : Nat} {w : World} {bd out : List By} {v : Value} (s : By) (h : FS lo base w bf b n bd out v) (hs : s.length ≤ 1000000) (hn : n ≤ 8000000) (hl : bd.length + out.length ≤ 8000000) {z : ByteArray} (hz : strB s = z) :
    Calls Try.prog 121 #[.pointer (some ⟨bf, 0, none⟩), .string z] w fun e w' => ∃ v' n', e = .returned (.tuple #[]) ∧ n' ≤ n + 1 ∧ FS lo base w' bf b n' bd (addAll out (if s ∉ bd then [s] else [])) v' ∧ FM bf b v w v' w' := by
  obtain ⟨i0, hi0, hz0, hz1, hz2⟩ := info_parts Try.zstrInfo
  obtain ⟨O, hO⟩ : ∃ O, addAll out (if s ∉ bd then [s] else []) = O := ⟨_, rfl⟩
  rw [hO]
  have hlk1 := h.map.look (bdK s) (bdK_fit hs)
  have hlk2 := h.map.look (frK s) (frK_fit hs)
  rw [fnL_bc] at hlk1
  rw [fnL_fc] at hlk2
  obtain ⟨c1, hc1⟩ : ∃ c1, bd.count s = c1 := ⟨_, rfl⟩
  obtain ⟨c2, hc2⟩ : ∃ c2, out.count s = c2 := ⟨_, rfl⟩
  rw [hc1] at hlk1
  rw [hc2] at hlk2
  have hk1 : rkV (bdK s) = .agg #[.int .i64 1, .string z] := by rw [← hz]; rfl
  have hk2 : rkV (frK s) = .agg #[.int .i64 2, .string z] := by rw [← hz]; rfl
  rw [hk1] at hlk1
  rw [hk2] at hlk2
  have hbx := h.box.two
  obtain ⟨q0, q1, p0, p1⟩ := hbx
  have hbl := h.box.lt
  have hsz : z.size ≤ 1000000 := by rw [← hz, strB_size]; exact hs
  by_cases e1 : s ∈ bd
  · have hp : 0 < c1 := by rw [← hc1]; exact List.count_pos_iff.2 e1
    have H := Lib.hid h
    have hE : Hid (O = out) := by show _ = _; rw [← hO]; rw [if_neg (by simpa using e1)]; rfl
    have t1 : decide ((0 : Int) < (c1 : Int)) = true := decide_eq_true (by omega)
    clear hO h hc1 hc2 e1 hk1 hk2 hs hn hl hz
    go_enter Try.func121, Try.ntmps121
    go_wp2_with fail
    refine bodyPost_ret (v := .tuple #[]) (by simp only [results, Try.results121]; go_simp <;> rfl) rfl ?_
    rw [hE.out]
    exact ⟨_, _, rfl, Nat.le_succ _, H.out, FM.refl _ _ _ _⟩
  · by_cases e2 : s ∈ out
    · have hp : 0 < c2 := by rw [← hc2]; exact List.count_pos_iff.2 e2
      have hp1 : c1 = 0 := by rw [← hc1]; exact List.count_eq_zero.2 e1
      subst hp1
      have H := Lib.hid h
      have hE : Hid (O = out) := by show _ = _; rw [← hO]; rw [if_pos e1, addAll_one, if_pos e2]
      have t1 : decide ((0 : Int) < (c2 : Int)) = true := decide_eq_true (by omega)
      clear hO h hc1 hc2 e1 e2 hk1 hk2 hs hn hl hz
      go_enter Try.func121, Try.ntmps121
      go_wp2_with fail
      refine bodyPost_ret (v := .tuple #[]) (by simp only [results, Try.results121]; go_simp <;> rfl) rfl ?_
      rw [hE.out]
      exact ⟨_, _, rfl, Nat.le_succ _, H.out, FM.refl _ _ _ _⟩
    · have hp1 : c1 = 0 := by rw [← hc1]; exact List.count_eq_zero.2 e1
      have hp2 : c2 = 0 := by rw [← hc2]; exact List.count_eq_zero.2 e2
      have hoc : (out ++ [s]).count s = 1 := by rw [List.count_append, hc2, hp2]; simp
      subst hp1
      subst hp2
      obtain ⟨W, hW⟩ : ∃ W, w.drew = W := ⟨_, rfl⟩
      have h9 : FS lo base W bf b n bd out v := hW ▸ h.drew
      have hWB : FM bf b v w v W := hW ▸ FM.of_below (Below.refl _ w).drew
      have hlk0 := h9.map.look (frK s) (frK_fit hs)
      obtain ⟨v0, st, w1, hrun, hm1, hg1, hz1', hst⟩ := h9.map.entry (by omega) (frK s) (frK_fit hs)
      obtain ⟨w3, hrun3, hm3, hg3, hz3⟩ := hst (fnL bd (out ++ [s])) 1 (fun t ht => by
        unfold fnL
        rw [List.map_append, List.count_append, List.count_append, List.count_append]
        have : ([s].map frK).count t = 0 := List.count_eq_zero.2 (by simpa using ht)
        omega) (by rw [fnL_fc, hoc]; omega) (by rw [fnL_fc, hoc]; rfl)
      have hlk3 := hm1.look (frK s) (frK_fit hs)
      rw [fnL_fc, hc2] at hlk3 hlk0
      rw [hk2] at hrun hlk3 hlk0
      have hF1 : FS lo base w1 bf b (n + 1) bd out v := h9.grown hg1 hm1 hz1'
      have hB3 : FM bf b v w v w3 := ⟨(hWB.1.grown hg1 fun q hq => .inl (.inr (.inl (Option.some.inj hq).symm))).grown hg3 fun q hq => .inl (.inr (.inl (Option.some.inj hq).symm)), fun q hq => .inl hq⟩
      obtain ⟨_, _, _, _⟩ := hF1.box.two
      obtain ⟨_, _, _, _⟩ := h9.box.two
      have hbx3 : Box w3.drew bf 137 [.map (some b), v] := (Box.grown hF1.box hg3 (fun q => h.ne (Option.some.inj q))).drew
      have hrow3 : w3.drew.ownsRow base 9 1 v out.length (out.map strV) := (own_agree hF1.row (fun q hq => by have := ownsRow_lo hF1.row q hq; exact hg3.block q this.2 (fun e => by have := Option.some.inj e; have := h.b; omega))).drew
      have hz3 : base ≤ w3.heap.size := by have := h9.le; omega
      have hE : Hid (O = out ++ [s]) := by show _ = _; rw [← hO]; rw [if_pos e1, addAll_one, if_neg e2]
      have HR3 := Lib.hid hrow3
      have HM3 := Lib.hid hm3
      have HB3 := Lib.hid hB3
      have HX3 := Lib.hid hbx3
      have H := Lib.hid h
      have HZ : Hid (strV s = .string z) := by show _ = _; rw [← hz]; rfl
      have HS := Lib.hid (fun (w' : World) => s_clone z w' hsz)
      have hll : out.length ≤ 8000000 := by omega
      unfold goInt at hrun hrun3
      obtain ⟨SI, hSI⟩ : ∃ SI : Int, (st : Int) = SI := ⟨_, rfl⟩
      rw [hSI] at hrun hrun3
      obtain ⟨m, hm⟩ : ∃ m, out.length = m := ⟨_, rfl⟩
      rw [hm] at HR3 hll
      obtain ⟨va, vc, rfl⟩ := own_shape HR3.out
      have HLO := Lib.hid (ownsRow_lo HR3.out)
      have HM := Lib.hid hm
      have HNEWS : Hid (∀ (W : World) (q : Nat) (u : Value), [Value.string z][q]? = some u → (W.alloc (.cells #[.string z] 9)).cell? (Addr.add ⟨W.heap.size, 0, none⟩ q) = some u) := fun W q u hq => by
        match q, hq with
        | 0, hq => simp at hq; subst hq; simp [Addr.add]
      have HONE : Hid (∀ u ∈ [Value.string z], u.oneCell' = true) := by
        intro u hu; simp at hu; rcases hu with rfl; rfl
      have Q1 : Hid (m + 1 ≤ maxLen) := by show _ ≤ _; unfold maxLen; omega
      have Q2 : Hid ((m + 1) * 16 ≤ 140737488355328) := by show _ ≤ _; omega
      have Q3 : Hid (∀ W : World, w3.heap.size ≤ W.heap.size → base ≤ (W.alloc (.cells #[.string z] 9)).heap.size) := fun W hW => by simp; omega
      obtain ⟨_, _, _, _⟩ := hbx3.two
      have hbl3 := hbx3.lt
      have hbl1 := hF1.box.lt
      have hbl9 := h9.box.lt
      have hfb := h.f
      have HNE : Hid (some bf ≠ (Value.slice va m vc).ownBlock) := fun q => by have := (HLO.out bf q.symm).1; omega
      have HNB : Hid (some b ≠ (Value.slice va m vc).ownBlock) := fun q => by have := (HLO.out b q.symm).1; have := h.b; omega
      subst hW
      clear hO h h9 hWB hc1 hc2 e1 e2 hk1 hk2 hs hn hl hz hm1 hg1 hz1' hst hg3 hm3 hF1 hB3 hbx3 hrow3 hoc hSI hm
      go_enter Try.func121, Try.ntmps121
      go_wp2_with fail
      go_region
      all_goals go_wp2_with fail
      all_goals go_region_law (first
        | (go_simp; go_at_call 81; (with_reducible refine (HS.out _).mono ?_); rintro e w5 ⟨rfl, hb5⟩; have bx5 := HX3.out.below hb5; obtain ⟨_, _, _, _⟩ := bx5.two; have bl5 := bx5.lt; clear bx5)
        | (refine step_append_lies _ rfl _ _ _ rfl base 9 i0 (.string ⟨#[]⟩) 1 16 Try.underlying53 hi0 hz0 hz1 hz2 rfl (by decide) _ m (out.map strV) rfl ((ownsRow_below HR3.out hb5).alloc _) ⟨w5.heap.size, 0, none⟩ 1 1 [.string z] rfl rfl (HNEWS.out _) HONE.out (by decide) Q1.out Q2.out (Q3.out _ hb5.size) _ rfl ?_; intro g cap w9 hown9 hgrow hat hlt9; have bx9 := Box.grown ((HX3.out.below hb5).alloc (.cells #[.string z] 9)) hgrow HNE.out; obtain ⟨_, _, _, _⟩ := bx9.two; have bl9 := bx9.lt))
      all_goals go_wp2_with fail
      all_goals refine bodyPost_end (results_none rfl _ _ _) rfl ?_
      all_goals exact ⟨_, _, rfl, Nat.le_refl _, by rw [hE.out]; exact FS.put H.out HM.out HM3.out HX3.out HR3.out hb5 hgrow HNE.out HNB.out (by have := hz3; exact this) (by rw [← HZ.out] at hown9; simpa using hown9), FS.putB HB3.out hb5 hgrow hat⟩

end Go.Proofs.Ytgkeblpjmfdhkaa

namespace Go.Proofs.Ytgkeblpjmfdhkaa
open Go.RowKit Go.Maps
set_option linter.unusedVariables false
set_option linter.unusedSimpArgs false

set_option maxRecDepth 100000 in
set_option maxHeartbeats 4000000 in
theorem r_boundIn {S : Nat → Prop} (k p n : Int) (s : By) (kids : List Ex) (alts : List Al) (v : Value) (w : World) (i : Nat) (hv : IsV S w (exC (.mk k p s n kids alts)) v) {L : List By} (hL : bindsIn k s i = L) :
    Calls Try.prog 123 #[v, .int .i64 (i : Int)] w fun e w' => ∃ a c, e = .returned (.slice a L.length c) ∧ InC (New w) w' (.s L.length 1 (strsC L)) (.slice a L.length c) ∧ Below w.heap.size w w' := by
  obtain ⟨a, c, a', c', rfl, _, _⟩ := hv.ex
  obtain ⟨z, hz⟩ : ∃ z, strB s = z := ⟨_, rfl⟩
  obtain ⟨m1, hm1⟩ : ∃ m, kids.length = m := ⟨_, rfl⟩
  obtain ⟨m2, hm2⟩ : ∃ m, alts.length = m := ⟨_, rfl⟩
  rw [hm1, hm2, hz]
  have hb0 : Below w.heap.size w (w.alloc (.cells #[.int .i64 k, .int .i64 p, .string z, .int .i64 n, .slice a m1 c, .slice a' m2 c'] 43)) := (Below.refl _ w).alloc (Nat.le_refl _) _
  have HB0 := Lib.hid hb0
  have HZ := Lib.hid hz
  clear hv hz hm1 hm2
  by_cases hc : (k = 6 ∧ i = 0) ∨ (k = 7 ∧ i = 1)
  · have hL1 : L = [s] := by rw [← hL]; unfold bindsIn; rw [if_pos hc]
    subst hL1
    have HF : Hid (Below w.heap.size w ((w.alloc (.cells #[.int .i64 k, .int .i64 p, .string z, .int .i64 n, .slice a m1 c, .slice a' m2 c'] 43)).alloc (.cells #[.string z] 9)) ∧ InC (New w) ((w.alloc (.cells #[.int .i64 k, .int .i64 p, .string z, .int .i64 n, .slice a m1 c, .slice a' m2 c'] 43)).alloc (.cells #[.string z] 9)) (.s ([s] : List By).length 1 (strsC [s])) (.slice (some ⟨w.heap.size + 1, 0, none⟩) 1 1)) := by
      refine ⟨HB0.out.alloc HB0.out.size _, ?_⟩
      have h1 : InS (New w) (w.alloc (.cells #[.int .i64 k, .int .i64 p, .string z, .int .i64 n, .slice a m1 c, .slice a' m2 c'] 43)) (strsC [s]) [.string z] := by
        rw [← HZ.out]; exact InS.cons (.v _) InS.nil
      have h2 := InC.of_new (n := 1) (k := 1) (t := 9) h1 (by unfold New; simp) rfl (by decide)
      rw [World.size_alloc] at h2
      exact h2
    clear hL
    rcases hc with ⟨rfl, rfl⟩ | ⟨rfl, rfl⟩
    · go_enter Try.func123, Try.ntmps123
      go_wp2_with fail
      go_ret
      exact ⟨_, _, rfl, HF.out.2, HF.out.1⟩
    · go_enter Try.func123, Try.ntmps123
      go_wp2_with fail
      go_ret
      exact ⟨_, _, rfl, HF.out.2, HF.out.1⟩
  · have hL1 : L = [] := by rw [← hL]; unfold bindsIn; rw [if_neg hc]
    subst hL1
    clear hL
    obtain ⟨ii, hii⟩ : ∃ ii : Int, (i : Int) = ii := ⟨_, rfl⟩
    have e6 : (k == 6) = true → (ii == 0) = false := fun h => beq_false_of_ne (fun q => hc (.inl ⟨by simpa using h, by omega⟩))
    have e7 : (k == 7) = true → (ii == 1) = false := fun h => beq_false_of_ne (fun q => hc (.inr ⟨by simpa using h, by omega⟩))
    rw [hii]
    clear hc hii
    by_cases h6 : k = 6
    · subst h6
      have e0 : (ii == 0) = false := e6 rfl
      clear e6 e7
      go_enter Try.func123, Try.ntmps123
      go_wp2_with fail
      go_ret
      exact ⟨_, _, rfl, .e _ _ _, HB0.out⟩
    · have e0 : (k == 6) = false := beq_false_of_ne h6
      by_cases h7 : k = 7
      · subst h7
        have e1 : (ii == 1) = false := e7 rfl
        clear e6 e7 e0
        go_enter Try.func123, Try.ntmps123
        go_wp2_with fail
        go_ret
        exact ⟨_, _, rfl, .e _ _ _, HB0.out⟩
      · have e1 : (k == 7) = false := beq_false_of_ne h7
        clear e6 e7
        go_enter Try.func123, Try.ntmps123
        go_wp2_with fail
        go_ret
        exact ⟨_, _, rfl, .e _ _ _, HB0.out⟩

/-- Blocks that a finder never changes. -/
def Av (bf b : Nat) (v : Value) (S : Nat → Prop) (w : World) : Prop := ∀ q, q < w.heap.size → S q → q ≠ bf ∧ q ≠ b ∧ v.ownBlock ≠ some q
theorem Av.not {bf b : Nat} {v v' : Value} {S : Nat → Prop} {w w' : World} (h : Av bf b v S w) (k : FM bf b v w v' w') : ∀ q, q < w.heap.size → S q → ¬ (q = bf ∨ q = b ∨ v.ownBlock = some q) := fun q hq hs => by
  have := h q hq hs
  rintro (h1 | h1 | h1)
  · exact this.1 h1
  · exact this.2.1 h1
  · exact this.2.2 h1
theorem Av.ic {bf b : Nat} {v v' : Value} {S : Nat → Prop} {w w' : World} (h : Av bf b v S w) (k : FM bf b v w v' w') {c : Cl} {u : Value} (hc : InC S w c u) : InC S w' c u := hc.out k.1 (h.not k)
theorem Av.iv {bf b : Nat} {v v' : Value} {S : Nat → Prop} {w w' : World} (h : Av bf b v S w) (k : FM bf b v w v' w') {c : List Cl} {u : Value} (hc : IsV S w c u) : IsV S w' c u := hc.out k.1 (h.not k)
theorem Av.go {bf b : Nat} {v v' : Value} {S : Nat → Prop} {w w' : World} (h : Av bf b v (fun q => S q ∧ q < w.heap.size) w) (k : FM bf b v w v' w') : Av bf b v' (fun q => S q ∧ q < w.heap.size) w' := fun q _ hs => by
  have h1 := h q hs.2 hs
  refine ⟨h1.1, h1.2.1, fun e => ?_⟩
  rcases k.2 q e with h2 | h2
  · exact h1.2.2 h2
  · omega
theorem Av.cut {bf b : Nat} {v : Value} {S : Nat → Prop} {w : World} (h : Av bf b v S w) : Av bf b v (fun q => S q ∧ q < w.heap.size) w := fun q hq hs => h q hq hs.1
theorem FM.box {bf b g : Nat} {v v' : Value} {w w' : World} {t : TypeId} {cs : List Value} (h : FM bf b v w v' w') (hb : Box w g t cs) (h1 : g ≠ bf) (h2 : g ≠ b) (h3 : v.ownBlock ≠ some g) : Box w' g t cs := h.1.box hb (by rintro (q | q | q); exact h1 q; exact h2 q; exact h3 q)

/-- One count of the map is turned: all that the walk asks. -/
theorem FS.turn {lo base bf b n : Nat} {w : World} {bd out : List By} {v : Value} (h : FS lo base w bf b n bd out v) (hn : n ≤ 9000000) {s : By} (hs : s.length ≤ 1000000) (bd' : List By) (ho : ∀ t, t ≠ s → bd'.count t = bd.count t) (hl : bd'.length ≤ 90000000) {z : ByteArray} (hz : strB s = z) {x y : Int} (hx : ((bd.count s : Nat) : Int) = x) (hy : ((bd'.count s : Nat) : Int) = y) :
    ∃ (v0 : Value) (SI : Int) (w1 w3 : World),
      Sem.run Try.prog (Instr.lookup 135 (.map (some b)) (.agg #[.int .i64 1, .string z]) false) w.drew = .ok (.int .i64 x) w.drew ∧
      Sem.run Try.prog (Instr.mapEntry 135 (.map (some b)) (.agg #[.int .i64 1, .string z])) w.drew = .ok (.tuple #[v0, .int .i64 SI]) w1 ∧
      Sem.run Try.prog (Instr.lookup 135 (.map (some b)) (.agg #[.int .i64 1, .string z]) false) w1 = .ok (.int .i64 x) w1 ∧
      Sem.run Try.prog (Instr.entryStore 135 (.map (some b)) (.int .i64 SI) (.int .i64 y)) w1 = .ok () w3 ∧
      w.drew.cell? ⟨bf, 0, none⟩ = some (.map (some b)) ∧ w1.cell? ⟨bf, 0, none⟩ = some (.map (some b)) ∧ bf < w.drew.heap.size ∧ bf < w1.heap.size ∧
      FS lo base w3 bf b (n + 1) bd' out v ∧ FM bf b v w v w3 := by
  have hk1 : rkV (bdK s) = .agg #[.int .i64 1, .string z] := by rw [← hz]; rfl
  have h9 := h.drew
  have hlk0 := h9.map.look (bdK s) (bdK_fit hs)
  obtain ⟨v0, st, w1, hrun, hm1, hg1, hz1', hst⟩ := h9.map.entry (by omega) (bdK s) (bdK_fit hs)
  obtain ⟨w3, hrun3, hm3, hg3, hz3⟩ := hst (fnL bd' out) y (fun t ht => by
    unfold fnL
    rw [List.count_append, List.count_append]
    refine congrArg (· + (out.map frK).count t) ?_
    obtain ⟨tk, ts⟩ := t
    by_cases hk : tk = 1
    · subst hk
      have e1 := fnL_bc bd' [] ts
      have e2 := fnL_bc bd [] ts
      unfold fnL at e1 e2
      simp only [List.map_nil, List.append_nil] at e1 e2
      show (bd'.map bdK).count (bdK ts) = (bd.map bdK).count (bdK ts)
      rw [e1, e2]
      exact ho ts (fun q => ht (by rw [q]; rfl))
    · have h0 : ∀ l : List By, (l.map bdK).count ⟨tk, ts⟩ = 0 := fun l => List.count_eq_zero.2 (by simp [bdK]; omega)
      rw [h0, h0]) (by rw [fnL_bc]; exact Nat.le_trans List.count_le_length (by omega)) (by rw [fnL_bc]; exact hy)
  have hlk3 := hm1.look (bdK s) (bdK_fit hs)
  rw [fnL_bc, hx] at hlk3 hlk0
  rw [hk1] at hrun hlk3 hlk0
  have hF1 : FS lo base w1 bf b (n + 1) bd out v := h9.grown hg1 hm1 hz1'
  have hF3 : FS lo base w3 bf b (n + 1) bd' out v := hF1.grown hg3 hm3 hz3
  refine ⟨v0, (st : Int), w1, w3, hlk0, hrun, hlk3, hrun3, h9.box.two.1, hF1.box.two.1, h9.box.lt, hF1.box.lt, hF3, ?_, fun q hq => .inl hq⟩
  exact (((Out.refl _ w).drew.grown hg1 fun q hq => .inl (.inr (.inl (Option.some.inj hq).symm))).grown hg3 fun q hq => .inl (.inr (.inl (Option.some.inj hq).symm)))

/-- What expr does with an expression, whatever is bound. -/
def FX (x : Ex) : Prop := ∀ (lo base bf b n : Nat) (bd out : List By) (v : Value) (S : Nat → Prop) (u : Value) (w : World), x.fit → FS lo base w bf b n bd out v → IsV S w (exC x) u → Av bf b v S w → n + (3 * x.nn + 1) ≤ 8000000 → bd.length + out.length + 3 * x.nn + 3 ≤ 8000000 →
  Calls Try.prog 72 #[.pointer (some ⟨bf, 0, none⟩), u] w fun e w' => ∃ v' n', e = .returned (.tuple #[]) ∧ n' ≤ n + (3 * x.nn + 1) ∧ FS lo base w' bf b n' bd (addAll out (x.occ bd)) v' ∧ FM bf b v w v' w'

set_option maxRecDepth 100000 in
set_option maxHeartbeats 8000000 in
theorem f_within (x : Ex) (hX : FX x) (lo base bf b n : Nat) (bd out L : List By) (v : Value) (S S' : Nat → Prop) (u : Value) (a : Option Addr) (m c : Nat) (w : World) (hf : x.fit) (hL : ∀ s ∈ L, s.length ≤ 1000000) (hm : L.length = m) (hs0 : FS lo base w bf b n bd out v) (hN0 : InC S' w (.s L.length 1 (strsC L)) (.slice a m c)) (hv0 : IsV S w (exC x) u)
    (hq0 : Av bf b v S w) (hq0' : Av bf b v S' w) (h1 : n + (2 * L.length + 3 * x.nn + 1) ≤ 8000000) (h2 : L.length + bd.length + out.length + 3 * x.nn + 3 ≤ 8000000) :
    Calls Try.prog 122 #[.pointer (some ⟨bf, 0, none⟩), .slice a m c, u] w fun e w' => ∃ v' n', e = .returned (.tuple #[]) ∧ n' ≤ n + (2 * L.length + 3 * x.nn + 1) ∧ FS lo base w' bf b n' bd (addAll out (x.occ (L ++ bd))) v' ∧ FM bf b v w v' w' := by
  have hR2 : x.occ (L.reverse ++ bd) = x.occ (L ++ bd) := Ex.occ_eq x (fun s => by simp [List.mem_append])
  obtain ⟨O, hO⟩ : ∃ O, addAll out (x.occ (L ++ bd)) = O := ⟨_, rfl⟩
  rw [hO]
  have hv : IsV (fun q => S q ∧ q < w.heap.size) w (exC x) u := hv0.mono fun q h1 h2 => ⟨h2, h1⟩
  have hN : InC (fun q => S' q ∧ q < w.heap.size) w (.s L.length 1 (strsC L)) (.slice a m c) := hN0.mono fun q h1 h2 => ⟨h2, h1⟩
  have hA := hq0.cut
  have hA' := hq0'.cut
  obtain ⟨k1, k2, k3, k4, k5, k6, k7, k8, k9, k10, hk, _⟩ := hv.exs
  subst hk
  obtain ⟨z, hz⟩ : ∃ z, strB k4 = z := ⟨_, rfl⟩
  rw [hz] at hv ⊢
  have hb0 : Below w.heap.size w (w.alloc (.cells #[.int .i64 k1, .int .i64 k2, .string z, .int .i64 k3, .slice k5 k7 k9, .slice k6 k8 k10] 43)) := (Below.refl _ w).alloc (Nat.le_refl _) _
  have HB0 := Lib.hid (Box.new w 43 [.int .i64 k1, .int .i64 k2, .string z, .int .i64 k3, .slice k5 k7 k9, .slice k6 k8 k10])
  have HM0 := Lib.hid (FM.of_below (bf := bf) (b := b) (v := v) hb0)
  have HS0 : Hid (FS lo base (w.alloc (.cells #[.int .i64 k1, .int .i64 k2, .string z, .int .i64 k3, .slice k5 k7 k9, .slice k6 k8 k10] 43)) bf b (n + 0) ((L.take 0).reverse ++ bd) out v) := hs0.below hb0
  have hgf : w.heap.size ≠ bf := by have := hs0.box.lt; omega
  have hgb : w.heap.size ≠ b := by have := hs0.map.lt; omega
  have hgo : v.ownBlock ≠ some w.heap.size := fun q => by have := hs0.own _ q; omega
  have hbl := hs0.box.lt
  have HGO := Lib.hid hgo
  have HV := Lib.hid hv
  have HN := Lib.hid hN
  have HAV := Lib.hid hA
  have HAN := Lib.hid hA'
  have HM := Lib.hid hm
  have HL := Lib.hid hL
  have HX := Lib.hid hX
  have HF := Lib.hid hf
  have HR2 := Lib.hid hR2
  have HOE := Lib.hid hO
  rw [hm] at h1 h2
  have HBM := Lib.hid h2
  rw [hm]
  clear hs0 hN0 hv0 hq0 hq0' hv hN hm hL hX hf hR2 hz h2 hA hA' hb0 hO hgo
  go_enter Try.func122, Try.ntmps122
  go_wp2_with fail
  obtain ⟨W0, hW0⟩ : ∃ W0, w.alloc (.cells #[.int .i64 k1, .int .i64 k2, .string z, .int .i64 k3, .slice k5 k7 k9, .slice k6 k8 k10] 43) = W0 := ⟨_, rfl⟩
  rw [show (w.alloc (.cells ([.int .i64 k1, .int .i64 k2, .string z, .int .i64 k3, .slice k5 k7 k9, .slice k6 k8 k10] : List Value).toArray 43)) = W0 from hW0] at HB0
  rw [hW0] at HM0 HS0
  try rw [hW0]
  have HW0 : Hid (W0.heap.size = w.heap.size + 1) := by show _ = _; rw [← hW0]; simp
  clear hW0
  have HG0 := Lib.hid (FM.refl bf b v W0)
  go_loopw [12] (fun iv wr => ∃ k : Nat, k ≤ m ∧ iv = .int .i64 (k : Int) ∧ Hid (FS lo base wr bf b (n + k) ((L.take k).reverse ++ bd) out v) ∧ Hid (FM bf b v W0 v wr)) (fun iv _ => m - (intOf iv).toNat)
  case atStart => exact ⟨0, Nat.zero_le _, rfl, HS0, HG0⟩
  case round =>
    clear HS0 HG0
    obtain ⟨k, hk, rfl, HS, HG⟩ := hrel
    by_cases hlt : k < m
    · obtain ⟨s, hs⟩ : ∃ s, L[k]? = some s := ⟨_, List.getElem?_eq_getElem (by rw [HM.out]; exact hlt)⟩
      have hsl := HL.out s (List.mem_of_getElem? hs)
      obtain ⟨g, off, rfl, hg, hcx⟩ := (HAN.out.ic (HM0.out.trans HG.out) HN.out).text hs
      have htk : (L.take (k + 1)).reverse ++ bd = s :: ((L.take k).reverse ++ bd) := by rw [List.take_add_one, hs]; simp
      obtain ⟨zs, hzs⟩ : ∃ zs, strB s = zs := ⟨_, rfl⟩
      rw [hzs] at hcx
      obtain ⟨cc, hcc⟩ : ∃ cc, ((L.take k).reverse ++ bd).count s = cc := ⟨_, rfl⟩
      have hccl : cc ≤ 8000000 := by
        rw [← hcc]; refine Nat.le_trans List.count_le_length ?_
        simp [List.length_take]; have := HBM.out; omega
      obtain ⟨v0, SI, w1, w3, e1, e2, e3, e4, e5, e6, e7, e8, hs3, hm3⟩ := HS.out.turn (by omega) hsl (s :: ((L.take k).reverse ++ bd)) (fun t ht => List.count_cons_of_ne (Ne.symm ht)) (by simp [List.length_take]; have := HBM.out; omega) hzs (x := (cc : Int)) (y := (cc : Int) + 1) (by rw [hcc]) (by rw [List.count_cons_self, hcc]; rfl)
      rw [← htk] at hs3
      have HS3 := Lib.hid hs3
      have HM3 := Lib.hid (HG.out.trans hm3)
      clear hs3 hm3 hs hsl hzs htk hcc HS HG
      go_wp2_with fail
      go_region
      all_goals go_wp2_with fail
      all_goals go_roundw
      case rel => exact ⟨k + 1, by omega, by go_num, HS3, HM3⟩
      case measure => simp [intOf]; omega
    · have hkm : k = m := by omega
      subst hkm
      have hS1 : FS lo base wr bf b (n + k) (L.reverse ++ bd) out v := by
        have := HS.out
        rwa [List.take_of_length_le (by rw [HM.out]; exact Nat.le_refl _)] at this
      have hG9 := HM0.out.trans HG.out
      have hXX := HX.out lo base bf b (n + k) (L.reverse ++ bd) out v (fun q => S q ∧ q < w.heap.size) _ wr HF.out hS1 (HAV.out.iv hG9 HV.out) (HAV.out.go hG9) (by omega) (by rw [List.length_append, List.length_reverse, HM.out]; have := HBM.out; omega)
      rw [HR2.out, HOE.out] at hXX
      have HXX := Lib.hid hXX
      have hbx := HG.out.box HB0.out hgf hgb HGO.out
      obtain ⟨_, _, _, _, _, _⟩ := six_cells hbx
      have hbxl := hbx.lt
      clear hXX hS1 HX HV HS hlt hbx hG9
      go_wp2_with (go_at_call 72; refine (HXX.out).mono ?_; rintro e w1 ⟨v1, n1, rfl, hn1, hs1, hm1⟩; have HS1 := Lib.hid hs1; have HM1 := Lib.hid (HG.out.trans hm1); clear hs1 hm1 HG)
      have HS2 : Hid (FS lo base w1 bf b (n1 + 0) (L.drop 0 ++ bd) O v1) := HS1.out.perm (by rw [List.drop_zero]; exact (List.reverse_perm L).append_right bd)
      clear HS1
      go_loopw [32] (fun iv wr => ∃ j : Nat, j ≤ k ∧ iv = .int .i64 (j : Int) ∧ Hid (FS lo base wr bf b (n1 + j) (L.drop j ++ bd) O v1) ∧ Hid (FM bf b v W0 v1 wr)) (fun iv _ => k - (intOf iv).toNat)
      case atStart => exact ⟨0, Nat.zero_le _, rfl, HS2, HM1⟩
      case round =>
        rename World => wr
        clear HS2 HM1
        obtain ⟨j, hj, rfl, HS, HG⟩ := hrel
        by_cases hlt : j < k
        · obtain ⟨s, hs⟩ : ∃ s, L[j]? = some s := ⟨_, List.getElem?_eq_getElem (by rw [HM.out]; exact hlt)⟩
          have hsl := HL.out s (List.mem_of_getElem? hs)
          obtain ⟨g, off, rfl, hg, hcx⟩ := (HAN.out.ic (HM0.out.trans HG.out) HN.out).text hs
          have hdr : L.drop j ++ bd = s :: (L.drop (j + 1) ++ bd) := by rw [drop_cons hs]; rfl
          rw [hdr] at HS
          obtain ⟨zs, hzs⟩ : ∃ zs, strB s = zs := ⟨_, rfl⟩
          rw [hzs] at hcx
          obtain ⟨cc, hcc⟩ : ∃ cc, (L.drop (j + 1) ++ bd).count s = cc := ⟨_, rfl⟩
          have hccl : cc ≤ 8000000 := by
            rw [← hcc]; refine Nat.le_trans List.count_le_length ?_
            simp [List.length_drop]; have := HBM.out; have := HM.out; omega
          have hsub : (cc : Int) + 1 - 1 = cc := by omega
          obtain ⟨v0, SI, w1', w3, e1, e2, e3, e4, e5, e6, e7, e8, hs3, hm3⟩ := HS.out.turn (by omega) hsl (L.drop (j + 1) ++ bd) (fun t ht => (List.count_cons_of_ne (Ne.symm ht)).symm) (by simp [List.length_drop]; have := HBM.out; have := HM.out; omega) hzs (x := (cc : Int) + 1) (y := (cc : Int)) (by rw [List.count_cons_self, hcc]; rfl) (by rw [hcc])
          have HS3 := Lib.hid hs3
          have HM3 := Lib.hid (HG.out.trans hm3)
          clear hs3 hm3 hs hsl hzs hdr hcc HS HG
          go_wp2_with fail
          go_region
          all_goals go_wp2_with fail
          all_goals go_roundw
          case rel => exact ⟨j + 1, by omega, by go_num, HS3, HM3⟩
          case measure => simp [intOf]; omega
        · have hjk : j = k := by omega
          have HSE : Hid (FS lo base wr bf b (n1 + k) bd O v1) := by
            have := HS.out
            rw [hjk, List.drop_of_length_le (by rw [HM.out]; exact Nat.le_refl _)] at this
            exact this
          clear hjk HS
          go_wp2_with fail
          refine bodyPost_end (results_none rfl _ _ _) rfl ?_
          exact ⟨v1, n1 + k, rfl, by omega, HSE.out, HM0.out.trans HG.out⟩

end Go.Proofs.Ytgkeblpjmfdhkaa

namespace Go.Proofs.Ytgkeblpjmfdhkaa
open Go.RowKit Go.Maps
set_option linter.unusedVariables false
set_option linter.unusedSimpArgs false

theorem out_le (out : List By) (l : List By) : (addAll out l).length ≤ out.length + l.length := addAll_len l out
theorem al4F {S : Nat → Prop} {w : World} {v : Value} {p : Int} {s : By} {names : List By} {b : Ex} (h : IsV S w (alC (.mk p s names b)) v) : ∃ (k q n : Int) (s2 : By) (a1 a a' : Option Addr) (c1 m m' cp cp' : Nat), v = .agg #[.int .i64 p, .string (strB s), .slice a1 names.length c1, .int .i64 k, .int .i64 q, .string (strB s2), .int .i64 n, .slice a m cp, .slice a' m' cp'] ∧ InC S w (.s names.length 1 (strsC names)) (.slice a1 names.length c1) ∧ IsV S w (exC b) (.agg #[.int .i64 k, .int .i64 q, .string (strB s2), .int .i64 n, .slice a m cp, .slice a' m' cp']) := by
  obtain ⟨us, rfl, h⟩ := h
  unfold alC at h
  obtain ⟨u0, r0, rfl, l0⟩ := three_cons (n := (exC b).length + 2) (by simpa using h.1)
  obtain ⟨u1, r1, rfl, l1⟩ := three_cons (n := (exC b).length + 1) l0
  obtain ⟨u2, r2, rfl, l2⟩ := three_cons (n := (exC b).length) l1
  obtain rfl := h.head.val
  obtain rfl := h.tail.head.val
  obtain ⟨a1, c1, rfl, _, _⟩ := h.tail.tail.head.slice
  have h2 : IsV S w (exC b) (.agg r2.toArray) := ⟨r2, rfl, h.tail.tail.tail⟩
  obtain ⟨k, q, n, s2, a2, a3, m2, m3, c2, c3, hv, _⟩ := h2.exs
  obtain rfl := agg_inj hv
  exact ⟨k, q, n, s2, a1, a2, a3, c1, m2, m3, c2, c3, rfl, h.tail.tail.head, h2⟩
theorem bindsIn_len (k : Int) (s : By) (i : Nat) : (bindsIn k s i).length ≤ 1 := by unfold bindsIn; split <;> simp

set_option maxRecDepth 100000 in
set_option maxHeartbeats 16000000 in
theorem fx_step (k p : Int) (s : By) (n : Int) (kids : List Ex) (alts : List Al) (hX : ∀ x ∈ kids, FX x) (hAX : ∀ p s names x, Al.mk p s names x ∈ alts → FX x) : FX (.mk k p s n kids alts) := by
  intro lo base bf b nn0 bd out v S u w hf hs0 hv0 hq0 h1 h2
  obtain ⟨O, hO⟩ : ∃ O, addAll out ((Ex.mk k p s n kids alts).occ bd) = O := ⟨_, rfl⟩
  have hv : IsV (fun q => S q ∧ q < w.heap.size) w (exC (.mk k p s n kids alts)) u := hv0.mono fun q h1 h2 => ⟨h2, h1⟩
  have hA := hq0.cut
  obtain ⟨a, c, a', c', rfl, hk, hk'⟩ := hv.ex
  have hLm := hk.max_len
  have hLm' := hk'.max_len
  obtain ⟨m, hm⟩ : ∃ m, kids.length = m := ⟨_, rfl⟩
  obtain ⟨m', hm'⟩ : ∃ m', alts.length = m' := ⟨_, rfl⟩
  obtain ⟨z, hz⟩ : ∃ z, strB s = z := ⟨_, rfl⟩
  rw [hO]
  simp only [Ex.fit] at hf
  obtain ⟨hf1, _, hf2, hf3⟩ := hf
  simp only [Ex.nn] at h1 h2 ⊢
  obtain ⟨O1, hO1⟩ : ∃ O1, addAll out (if k = 1 ∧ s ∉ bd then [s] else []) = O1 := ⟨_, rfl⟩
  have hO2 : addAll (addAll O1 (Ex.occs bd k s 0 kids)) (Al.occs bd alts) = O := by
    rw [← hO, ← hO1]; simp only [Ex.occ]; rw [addAll_app, addAll_app]
  have hO1l : O1.length ≤ out.length + 1 := by
    rw [← hO1]; refine Nat.le_trans (out_le _ _) ?_; split <;> simp
  obtain ⟨TN, hTN⟩ : ∃ TN, nn0 + (3 * (Ex.nns kids + Al.nns alts) + 1) = TN := ⟨_, rfl⟩
  rw [hTN] at h1 ⊢
  obtain ⟨TO, hTO⟩ : ∃ TO, out.length + 1 + Ex.nns kids + Al.nns alts = TO := ⟨_, rfl⟩
  have hb0 : Below w.heap.size w (w.alloc (.cells #[.int .i64 k, .int .i64 p, .string z, .int .i64 n, .slice a m c, .slice a' m' c'] 43)) := (Below.refl _ w).alloc (Nat.le_refl _) _
  have hs00 := hs0.below hb0
  have HUSE : Hid (k = 1 → Calls Try.prog 121 #[.pointer (some ⟨bf, 0, none⟩), .string z] (w.alloc (.cells #[.int .i64 k, .int .i64 p, .string z, .int .i64 n, .slice a m c, .slice a' m' c'] 43)) fun e w' => ∃ v' n', e = .returned (.tuple #[]) ∧ n' ≤ nn0 + 1 ∧ FS lo base w' bf b n' bd O1 v' ∧ FM bf b v (w.alloc (.cells #[.int .i64 k, .int .i64 p, .string z, .int .i64 n, .slice a m c, .slice a' m' c'] 43)) v' w') := fun hk1 => by
    have := f_use s hs00 hf1 (by omega) (by omega) hz
    have hO1' : addAll out (if s ∉ bd then [s] else []) = O1 := by rw [← hO1]; simp [hk1]
    rw [hO1'] at this
    exact this
  have HNO : Hid (k ≠ 1 → O1 = out) := fun hk1 => by rw [← hO1]; simp [hk1]; rfl
  have HBI := Lib.hid (fun (w' : World) (i : Nat) (v' : Value) (ho : FM bf b v w v' w') => r_boundIn k p n s kids alts _ w' i (hA.iv ho hv) rfl)
  rw [hm, hm', hz] at HBI
  rw [hm, hm', hz]
  have HB0 := Lib.hid (Box.new w 43 [.int .i64 k, .int .i64 p, .string z, .int .i64 n, .slice a m c, .slice a' m' c'])
  have HM0 := Lib.hid (FM.of_below (bf := bf) (b := b) (v := v) hb0)
  have HS0 := Lib.hid hs00
  have hgf : w.heap.size ≠ bf := by have := hs0.box.lt; omega
  have hgb : w.heap.size ≠ b := by have := hs0.map.lt; omega
  have HGO : Hid (v.ownBlock ≠ some w.heap.size) := fun q => by have := hs0.own _ q; omega
  rw [exsC_eq] at hk
  rw [alsC_eq] at hk'
  have HK := Lib.hid hk
  rw [hm] at hLm
  rw [hm'] at hLm'
  have HM := Lib.hid hm
  have HM' := Lib.hid hm'
  have HX := Lib.hid hX
  have HAX := Lib.hid hAX
  have HF2 := Lib.hid ((Ex.fits_iff kids).1 hf2)
  have HF3 := Lib.hid ((Al.fits_iff alts).1 hf3)
  have HFS := Lib.hid hf1
  have HO2 := Lib.hid hO2
  have HTN := Lib.hid hTN
  have HBD := Lib.hid h2
  have HTO := Lib.hid hTO
  have HAV := Lib.hid hA
  have HO1L := Lib.hid hO1l
  have HK2 : Hid (InC (fun q => S q ∧ q < w.heap.size) w (.s alts.length 9 (alts.flatMap alC)) (.slice a' m' c')) := by show InC _ _ _ _; rw [← hm']; exact hk'
  clear hv hv0 hq0 hs0 hk hk' hX hAX hf2 hf3 hf1 hO2 hTN h2 hO hm hm' hz hb0 hA hs00 hO1 hTO hO1l
  go_enter Try.func72, Try.ntmps72
  go_upto_if 10 with fail
  obtain ⟨W0, hW0⟩ : ∃ W0, w.alloc (.cells #[.int .i64 k, .int .i64 p, .string z, .int .i64 n, .slice a m c, .slice a' m' c'] 43) = W0 := ⟨_, rfl⟩
  rw [show (w.alloc (.cells ([.int .i64 k, .int .i64 p, .string z, .int .i64 n, .slice a m c, .slice a' m' c'] : List Value).toArray 43)) = W0 from hW0] at HB0
  rw [hW0] at HM0 HS0 HUSE
  try rw [hW0]
  have HW0 : Hid (W0.heap.size = w.heap.size + 1) := by show _ = _; rw [← hW0]; simp
  clear hW0
  go_cut [] (fun wx => ∃ v1 n1, n1 ≤ nn0 + 1 ∧ FS lo base wx bf b n1 bd O1 v1 ∧ FM bf b v W0 v1 wx)
  case first =>
    by_cases hk1 : k = 1
    · have e1 : (k == 1) = true := by rw [hk1]; rfl
      have HU := Lib.hid (HUSE.out hk1)
      obtain ⟨_, _, _, _, _, _⟩ := six_cells HB0.out
      have hbl := HB0.out.lt
      clear hk1
      go_wp2_with (go_at_call 121; refine (HU.out).mono ?_; rintro e w1 ⟨v1, n1, rfl, hn1, hs1, hm1⟩)
      go_meet
      exact ⟨v1, n1, hn1, hs1, hm1⟩
    · have e1 : (k == 1) = false := beq_false_of_ne hk1
      have HE := Lib.hid (HNO.out hk1)
      clear hk1
      go_wp2_with fail
      go_meet
      exact ⟨v, nn0, by omega, by rw [HE.out]; exact HS0.out, FM.refl _ _ _ _⟩
  case rest =>
    obtain ⟨v1, n1, hn1, hs1, hm1⟩ := hcut
    have hbx := hm1.box HB0.out hgf hgb HGO.out
    obtain ⟨_, _, _, _, _, _⟩ := six_cells hbx
    have hbl := hbx.lt
    have HS1 := Lib.hid hs1
    have HM1 := Lib.hid hm1
    have HOc : Hid (addAll (addAll O1 (Ex.occs bd k s (0 + 0) (kids.drop 0))) (Al.occs bd alts) = O) := by show _ = _; simpa using HO2.out
    have HT1 : Hid (n1 + 3 * (Ex.nns (kids.drop 0) + Al.nns alts) ≤ TN) := by show _ ≤ _; have := HTN.out; simp; omega
    have HL1 : Hid (O1.length + Ex.nns (kids.drop 0) + Al.nns alts ≤ TO) := by show _ ≤ _; have := HTO.out; have := HO1L.out; simp; omega
    clear hs1 hm1 hbx HO2 HUSE HNO HS0 hn1
    go_wp2_with fail
    go_loopw [18] (fun iv wr => ∃ (i nk : Nat) (oi : List By) (vi : Value), i ≤ m ∧ iv = .int .i64 (i : Int) ∧ Hid (addAll (addAll oi (Ex.occs bd k s (0 + i) (kids.drop i))) (Al.occs bd alts) = O) ∧ Hid (nk + 3 * (Ex.nns (kids.drop i) + Al.nns alts) ≤ TN) ∧ Hid (oi.length + Ex.nns (kids.drop i) + Al.nns alts ≤ TO) ∧ Hid (FS lo base wr bf b nk bd oi vi) ∧ Hid (FM bf b v W0 vi wr)) (fun iv _ => m - (intOf iv).toNat)
    case atStart => exact ⟨0, n1, O1, v1, Nat.zero_le _, rfl, HOc, HT1, HL1, HS1, HM1⟩
    case round =>
      clear HOc HT1 HL1 HS1 HM1
      obtain ⟨i, nk, oi, vi, hi, rfl, HR, HT, HL, HS, HG⟩ := hrel
      obtain ⟨wo, rfl⟩ : ∃ wo, wo = wr := ⟨wr, rfl⟩
      have hbx := HG.out.box HB0.out hgf hgb HGO.out
      have hyl := hbx.lt
      obtain ⟨_, _, _, _, _, _⟩ := six_cells hbx
      have hGw := HM0.out.trans HG.out
      by_cases hlt : i < m
      · obtain ⟨x, hx⟩ : ∃ x, kids[i]? = some x := ⟨_, List.getElem?_eq_getElem (by rw [HM.out]; exact hlt)⟩
        have hxm := List.mem_of_getElem? hx
        have hnd := Ex.nns_drop hx
        have hnx := Ex.nns_mem hxm
        have hfx := HF2.out x hxm
        have hWX := HX.out x hxm
        have hnext := Ex.occs_next (bd := bd) (k := k) (s := s) (j := 0) hx
        have hKw := HAV.out.ic hGw HK.out
        obtain ⟨g, off, us, rfl, hg, hxv, hc⟩ := hKw.elem exC_len hx
        obtain ⟨z0, z1, z2, z3, z4, z5, z6, z7, z8, z9, hz9, _⟩ := hxv.exs
        obtain rfl := agg_inj hz9
        obtain ⟨zt, hzt⟩ : ∃ zt, strB z3 = zt := ⟨_, rfl⟩
        have q0 := hc 0 _ rfl
        have q1 := hc 1 _ rfl
        have q2 := hc 2 _ rfl
        have q3 := hc 3 _ rfl
        have q4 := hc 4 _ rfl
        have q5 := hc 5 _ rfl
        rw [← Nat.add_assoc] at q0 q1 q2 q3 q4 q5
        rw [Nat.add_zero] at q0
        have T1 : ∀ W, Sem.run Try.prog (Instr.indexAt 40 (.slice (some ⟨g, off, none⟩) m c) (.int .i64 (i : Int))) W = .ok (.pointer (some ⟨g, off + i * 6, none⟩)) W := fun W => by go_simp
        obtain ⟨B, hB⟩ : ∃ B, bindsIn k s i = B := ⟨_, rfl⟩
        have hBl : B.length ≤ 1 := by rw [← hB]; exact bindsIn_len _ _ _
        have hBf : ∀ t ∈ B, t.length ≤ 1000000 := by
          rw [← hB]; unfold bindsIn; intro t ht
          split at ht
          · obtain rfl := List.mem_singleton.1 ht; exact HFS.out
          · simp at ht
        obtain ⟨y1, hy1⟩ : ∃ y1, addAll oi (x.occ (B ++ bd)) = y1 := ⟨_, rfl⟩
        have hyl1 : y1.length ≤ oi.length + (x.nn + 1) := by rw [← hy1]; exact Nat.le_trans (out_le _ _) (by have := Ex.occ_len x (B ++ bd); omega)
        rw [Nat.zero_add, hB] at hnext
        have HRN : Hid (addAll (addAll y1 (Ex.occs bd k s (0 + (i + 1)) (kids.drop (i + 1)))) (Al.occs bd alts) = O) := by
          show _ = _
          have hR9 := HR.out
          rw [Nat.zero_add, hnext, addAll_app, hy1] at hR9
          exact hR9
        have HBIx := Lib.hid (fun (w' : World) (hw : Below wo.heap.size wo w') => HBI.out w' i vi (hGw.next hw))
        rw [hB] at HBIx
        have hbnd := HBD.out
        have hTt := HT.out
        have hLl := HL.out
        have hto := HTO.out
        have hx3 : IsV (fun q => S q ∧ q < w.heap.size) wo (exC x) _ := hxv
        have hAw := HAV.out.go hGw
        have HW : Hid (∀ (w' : World) (aL : Option Addr) (cL : Nat), Below wo.heap.size wo w' → InC (New wo) w' (.s B.length 1 (strsC B)) (.slice aL B.length cL) → Calls Try.prog 122 #[.pointer (some ⟨bf, 0, none⟩), .slice aL B.length cL, .agg #[.int .i64 z0, .int .i64 z1, .string zt, .int .i64 z2, .slice z4 z6 z8, .slice z5 z7 z9]] w' fun e w'' => ∃ v' n', e = .returned (.tuple #[]) ∧ n' ≤ nk + 3 * (1 + x.nn) ∧ FS lo base w'' bf b n' bd y1 v' ∧ FM bf b vi w' v' w'') := fun w' aL cL hw hL => by
          have hmw := FM.of_below (bf := bf) (b := b) (v := vi) hw
          have hlf := HS.out.box.lt
          have hlb := HS.out.map.lt
          have := f_within x hWX lo base bf b nk bd oi B vi (fun q => S q ∧ q < w.heap.size) (New wo) _ aL B.length cL w' hfx hBf rfl (HS.out.below hw) hL (by have := hxv.under hw; rwa [hzt] at this) (fun q h1 h2 => hAw q (by have := hGw.size; omega) h2) (fun q _ h => ⟨by unfold New at h; omega, by unfold New at h; omega, fun e => by have := HS.out.own q e; unfold New at h; omega⟩) (by omega) (by omega)
          rw [hy1] at this
          refine this.mono ?_
          rintro e w2 ⟨v', n', he, hn', hs', ho'⟩
          exact ⟨v', n', he, by omega, hs', ho'⟩
        have HND := Lib.hid hnd
        have HYL := Lib.hid hyl1
        rw [hzt] at q2
        obtain ⟨lB, hlB⟩ : ∃ lB, B.length = lB := ⟨_, rfl⟩
        rw [hlB] at HBIx HW
        have HBa : Hid (Below wo.heap.size wo (wo.alloc (.cells #[.int .i64 z0, .int .i64 z1, .string zt, .int .i64 z2, .slice z4 z6 z8, .slice z5 z7 z9] 43))) := (Below.refl _ wo).alloc (Nat.le_refl _) _
        have HBX := Lib.hid (Box.new wo 43 [.int .i64 z0, .int .i64 z1, .string zt, .int .i64 z2, .slice z4 z6 z8, .slice z5 z7 z9])
        have HY2 := Lib.hid (hbx.alloc (.cells #[.int .i64 z0, .int .i64 z1, .string zt, .int .i64 z2, .slice z4 z6 z8, .slice z5 z7 z9] 43))
        clear hc hxv hx hxm hnd hnx hfx hWX hnext hKw hzt hB hBl hBf hy1 hlB hx3 hAw hbnd hTt hLl hto hyl1 hbx hGw
        go_wp2_with fail
        go_region_with (first
          | (go_at_call 123; (with_reducible refine (HBIx.out _ HBa.out.drew).mono ?_); rintro e w5 ⟨aL, cL, rfl, hL5, hb5⟩; have HB5 := Lib.hid (HBa.out.drew.trans (hb5.mono HBa.out.drew.size)); have HL5 := Lib.hid (hL5.mono (S' := New wo) (fun q _ h => by have := HBa.out.size; unfold New at *; simp at h; omega)); have hy := HY2.out.drew.below hb5; obtain ⟨_, _, _, _, _, _⟩ := six_cells hy; have hl5 := hy.lt; have hz := HBX.out.drew.below hb5; obtain ⟨_, _, _, _, _, _⟩ := six_cells hz; have hlz := hz.lt; clear hb5 hL5 hy hz)
          | (go_at_call 122; (with_reducible refine (HW.out _ _ _ HB5.out HL5.out).mono ?_); rintro e w6 ⟨v6, n6, rfl, hn6, hs6, ho6⟩; have HN6 := Lib.hid hn6; have HS6 := Lib.hid hs6; have HO6 : Hid (FM bf b vi wo v6 w6) := (FM.of_below HB5.out).trans ho6; clear hn6 hs6 ho6))
        all_goals (
          have HG6 := Lib.hid (HG.out.trans HO6.out)
          have HT2 : Hid (n6 + 3 * (Ex.nns (kids.drop (i + 1)) + Al.nns alts) ≤ TN) := by show _ ≤ _; have := HN6.out; have := HT.out; have := HND.out; omega
          have HL2 : Hid (y1.length + Ex.nns (kids.drop (i + 1)) + Al.nns alts ≤ TO) := by show _ ≤ _; have := HYL.out; have := HL.out; have := HND.out; omega
          go_wp2_with fail
          go_roundw
          case rel => exact ⟨i + 1, n6, y1, v6, by omega, by go_num, HRN, HT2, HL2, HS6, HG6⟩
          case measure => (simp [intOf]; omega))
      · have him : i = m := by omega
        have HRA : Hid (addAll oi (Al.occs bd (alts.drop 0)) = O) := by
          show _ = _
          have := HR.out
          rw [him, List.drop_of_length_le (by rw [HM.out]; exact Nat.le_refl _)] at this
          simpa [Ex.occs, addAll_nil] using this
        have HTA : Hid (nk + 3 * Al.nns (alts.drop 0) ≤ TN) := by show _ ≤ _; have := HT.out; simp; omega
        have HLA : Hid (oi.length + Al.nns (alts.drop 0) ≤ TO) := by show _ ≤ _; have := HL.out; simp; omega
        clear HR HT HL HK HX HF2 hbx hGw him
        go_wp2_with fail
        go_loopw [33] (fun iv wr => ∃ (i nk : Nat) (oi : List By) (vi : Value), i ≤ m' ∧ iv = .int .i64 (i : Int) ∧ Hid (addAll oi (Al.occs bd (alts.drop i)) = O) ∧ Hid (nk + 3 * Al.nns (alts.drop i) ≤ TN) ∧ Hid (oi.length + Al.nns (alts.drop i) ≤ TO) ∧ Hid (FS lo base wr bf b nk bd oi vi) ∧ Hid (FM bf b v W0 vi wr)) (fun iv _ => m' - (intOf iv).toNat)
        case atStart => exact ⟨0, nk, oi, vi, Nat.zero_le _, rfl, HRA, HTA, HLA, HS, HG⟩
        case round =>
          rename World => wr
          clear HRA HTA HLA HS HG
          obtain ⟨j, nk, oi, vi, hj, rfl, HR, HT, HL, HS, HG⟩ := hrel
          obtain ⟨wo, rfl⟩ : ∃ wo, wo = wr := ⟨wr, rfl⟩
          have hGw := HM0.out.trans HG.out
          by_cases hlt : j < m'
          · obtain ⟨x, hx⟩ : ∃ x, alts[j]? = some x := ⟨_, List.getElem?_eq_getElem (by rw [HM'.out]; exact hlt)⟩
            have hxm := List.mem_of_getElem? hx
            have hnx := Al.nns_mem hxm
            have hnd := Al.nns_drop hx
            have hfx := HF3.out x hxm
            have hNw := HAV.out.ic hGw HK2.out
            obtain ⟨g, off, us, rfl, hg, hxv, hc⟩ := hNw.elem alC_len hx
            obtain ⟨p1, s1, names, y⟩ := x
            simp only [Al.nn] at hnx hnd
            simp only [Al.fit] at hfx
            obtain ⟨hf1, hf2, hf3, hf4⟩ := hfx
            have hWX := HAX.out p1 s1 names y hxm
            have hnext := Al.occs_next (bd := bd) hx
            obtain ⟨z0, z1, z2, z3, a1, a2, a3, c1, m2, m3, c2, c3, hz9, hnv, hyv⟩ := al4F hxv
            obtain rfl := agg_inj hz9
            have hcc : ∀ (j' : Nat) (u : Value), ([.int .i64 p1, .string (strB s1), .slice a1 names.length c1, .int .i64 z0, .int .i64 z1, .string (strB z3), .int .i64 z2, .slice a2 m2 c2, .slice a3 m3 c3] : List Value)[j']? = some u → wo.cell? ⟨g, off + (j * 9 + j'), none⟩ = some u := fun j u hu => hc j u hu
            have q0 := hcc 0 _ rfl
            have q1 := hcc 1 _ rfl
            have q2 := hcc 2 _ rfl
            have q3 := hcc 3 _ rfl
            have q4 := hcc 4 _ rfl
            have q5 := hcc 5 _ rfl
            have q6 := hcc 6 _ rfl
            have q7 := hcc 7 _ rfl
            have q8 := hcc 8 _ rfl
            rw [← Nat.add_assoc] at q0 q1 q2 q3 q4 q5 q6 q7 q8
            rw [Nat.add_zero] at q0
            have T1 : ∀ W, Sem.run Try.prog (Instr.indexAt 41 (.slice (some ⟨g, off, none⟩) m' c') (.int .i64 (j : Int))) W = .ok (.pointer (some ⟨g, off + j * 9, none⟩)) W := fun W => by go_simp
            obtain ⟨nl, hnl⟩ : ∃ nl, names.length = nl := ⟨_, rfl⟩
            obtain ⟨zs, hzs⟩ : ∃ zs, strB s1 = zs := ⟨_, rfl⟩
            obtain ⟨zt, hzt⟩ : ∃ zt, strB z3 = zt := ⟨_, rfl⟩
            obtain ⟨y1, hy1⟩ : ∃ y1, addAll oi (y.occ (names ++ bd)) = y1 := ⟨_, rfl⟩
            have hyl1 : y1.length ≤ oi.length + (y.nn + 1) := by rw [← hy1]; exact Nat.le_trans (out_le _ _) (by have := Ex.occ_len y (names ++ bd); omega)
            have HRN : Hid (addAll y1 (Al.occs bd (alts.drop (j + 1))) = O) := by
              show _ = _
              rw [← HR.out, hnext, addAll_app, hy1]
            have hbnd := HBD.out
            have hTt := HT.out
            have hLl := HL.out
            have hto := HTO.out
            have hAw := HAV.out.go hGw
            have HW : Hid (∀ (w' : World), Below wo.heap.size wo w' → Calls Try.prog 122 #[.pointer (some ⟨bf, 0, none⟩), .slice a1 nl c1, .agg #[.int .i64 z0, .int .i64 z1, .string zt, .int .i64 z2, .slice a2 m2 c2, .slice a3 m3 c3]] w' fun e w'' => ∃ v' n', e = .returned (.tuple #[]) ∧ n' ≤ nk + 3 * (1 + nl + y.nn) ∧ FS lo base w'' bf b n' bd y1 v' ∧ FM bf b vi w' v' w'') := fun w' hw => by
              have := f_within y hWX lo base bf b nk bd oi names vi (fun q => S q ∧ q < w.heap.size) (fun q => S q ∧ q < w.heap.size) _ a1 nl c1 w' hf4 hf3 hnl (HS.out.below hw) (by have := hnv.under hw; rwa [hnl] at this ⊢) (by have := hyv.under hw; rwa [hzt] at this) (fun q h1 h2 => hAw q (by have := hGw.size; omega) h2) (fun q h1 h2 => hAw q (by have := hGw.size; omega) h2) (by omega) (by omega)
              rw [hy1] at this
              refine this.mono ?_
              rintro e w2 ⟨v', n', he, hn', hs', ho'⟩
              exact ⟨v', n', he, by omega, hs', ho'⟩
            have HND := Lib.hid hnd
            have HYL := Lib.hid hyl1
            rw [hnl] at q2
            rw [hzs] at q1
            rw [hzt] at q5
            have HNL := Lib.hid hnl
            have HBX := Lib.hid (Box.new wo 161 [.int .i64 p1, .string zs, .slice a1 nl c1, .int .i64 z0, .int .i64 z1, .string zt, .int .i64 z2, .slice a2 m2 c2, .slice a3 m3 c3])
            have HBa : Hid (Below wo.heap.size wo (wo.alloc (.cells #[.int .i64 p1, .string zs, .slice a1 nl c1, .int .i64 z0, .int .i64 z1, .string zt, .int .i64 z2, .slice a2 m2 c2, .slice a3 m3 c3] 161))) := (Below.refl _ wo).alloc (Nat.le_refl _) _
            clear hcc hc hxv hx hxm hnx hnd hnext hWX hnv hyv hf1 hf2 hf3 hf4 hzs hzt hy1 hNw hnl hbnd hTt hLl hto hAw hyl1 hGw
            go_wp2_with (go_at_call 122; (with_reducible refine (HW.out _ HBa.out).mono ?_); rintro e w6 ⟨v6, n6, rfl, hn6, hs6, ho6⟩; have HN6 := Lib.hid hn6; have HS6 := Lib.hid hs6; have HO6 : Hid (FM bf b vi wo v6 w6) := (FM.of_below HBa.out).trans ho6; clear hn6 hs6 ho6)
            have HG6 := Lib.hid (HG.out.trans HO6.out)
            have HT2 : Hid (n6 + 3 * Al.nns (alts.drop (j + 1)) ≤ TN) := by show _ ≤ _; have := HN6.out; have := HT.out; have := HND.out; have := HNL.out; omega
            have HL2 : Hid (y1.length + Al.nns (alts.drop (j + 1)) ≤ TO) := by show _ ≤ _; have := HYL.out; have := HL.out; have := HND.out; omega
            go_roundw
            case rel => exact ⟨j + 1, n6, y1, v6, by omega, by go_num, HRN, HT2, HL2, HS6, HG6⟩
            case measure => simp [intOf]; omega
          · have hjm : j = m' := by omega
            have HE : Hid (oi = O) := by
              show _ = _
              have := HR.out
              rw [hjm, List.drop_of_length_le (by rw [HM'.out]; exact Nat.le_refl _)] at this
              simpa [Al.occs, addAll_nil] using this
            have hnT : nk ≤ TN := by have := HT.out; omega
            go_wp2_with fail
            refine bodyPost_end (results_none rfl _ _ _) rfl ?_
            exact ⟨vi, nk, rfl, hnT, by rw [← HE.out]; exact HS.out, hGw⟩
theorem fx_all : ∀ (d : Nat) (x : Ex), x.deep ≤ d → FX x
  | 0, .mk k p s n kids alts, h => by simp only [Ex.deep] at h; omega
  | d + 1, .mk k p s n kids alts, h => fx_step k p s n kids alts (fun x hx => fx_all d x (by have := Ex.deeps_mem hx; simp only [Ex.deep] at h; omega)) (fun p s names x hx => fx_all d x (by have h3 := Al.deeps_mem hx; simp only [Ex.deep] at h; simp only [Al.deep] at h3; omega))
theorem fx_any (x : Ex) : FX x := fx_all x.deep x (Nat.le_refl _)

end Go.Proofs.Ytgkeblpjmfdhkaa

namespace Go.Proofs.Ytgkeblpjmfdhkaa
open Go.RowKit Go.Maps
set_option linter.unusedVariables false
set_option linter.unusedSimpArgs false

theorem FM.below {lo bf b : Nat} {v v' : Value} {w w' : World} (h : FM bf b v w v' w') (hl : lo ≤ w.heap.size) (h1 : lo ≤ bf) (h2 : lo ≤ b) (h3 : ∀ q, v.ownBlock = some q → lo ≤ q) : Below lo w w' :=
  h.1.below hl fun q hq => by
    rintro (e | e | e)
    · omega
    · omega
    · have := h3 q e; omega
theorem FS.start (w : World) (o : Obj) : FS w.heap.size (w.heap.size + 3) (((w.alloc o).alloc (.map #[] 0)).alloc (.cells #[.map (some (w.heap.size + 1)), .slice none 0 0] 137)) (w.heap.size + 2) (w.heap.size + 1) 0 [] [] (.slice none 0 0) := by
  refine ⟨?_, ?_, World.ownsRow_nil _ _ _ _, by omega, by omega, by omega, by omega, by omega, by simp⟩
  · have := Box.new ((w.alloc o).alloc (.map #[] 0)) 137 [.map (some (w.heap.size + 1)), .slice none 0 0]
    simpa using this
  · have := QM.made (w.alloc o)
    rw [World.size_alloc] at this
    exact this.below ((Below.refl _ _).alloc (Nat.le_refl _) _)

set_option maxRecDepth 100000 in
set_option maxHeartbeats 4000000 in
theorem f_Free {S : Nat → Prop} (x : Ex) (w : World) (u : Value) (hf : x.fit) (hu : IsV S w (exC x) u) (hnn : 3 * x.nn + 4 ≤ 8000000) :
    Calls Try.prog 34 #[u] w fun e w' => ∃ a c, e = .returned (.slice a (freeL x).length c) ∧ InC (New w) w' (.s (freeL x).length 1 (strsC (freeL x))) (.slice a (freeL x).length c) ∧ (a = none → (freeL x).length = 0 ∧ c = 0) ∧ Below w.heap.size w w' := by
  have hmm := @run_makeMap Try.prog
  have hv : IsV (fun q => q < w.heap.size) w (exC x) u := hu.mono fun q h1 _ => h1
  obtain ⟨k1, k2, k3, k4, k5, k6, k7, k8, k9, k10, hk, _⟩ := hv.exs
  subst hk
  obtain ⟨z, hz⟩ : ∃ z, strB k4 = z := ⟨_, rfl⟩
  rw [hz] at hv ⊢
  have hs := FS.start w (.cells #[.int .i64 k1, .int .i64 k2, .string z, .int .i64 k3, .slice k5 k7 k9, .slice k6 k8 k10] 43)
  have hb3 : Below w.heap.size w (((w.alloc (.cells #[.int .i64 k1, .int .i64 k2, .string z, .int .i64 k3, .slice k5 k7 k9, .slice k6 k8 k10] 43)).alloc (.map #[] 0)).alloc (.cells #[.map (some (w.heap.size + 1)), .slice none 0 0] 137)) := (((Below.refl _ w).alloc (Nat.le_refl _) _).alloc (by simp) _).alloc (by simp; omega) _
  have hc := fx_any x w.heap.size (w.heap.size + 3) (w.heap.size + 2) (w.heap.size + 1) 0 [] [] (.slice none 0 0) (fun q => q < w.heap.size) _ _ hf hs (hv.under hb3) (fun q _ h => ⟨by omega, by omega, by simp [Value.ownBlock]⟩) (by omega) (by simp; omega)
  obtain ⟨F, hF⟩ : ∃ F, freeL x = F := ⟨_, rfl⟩
  have hF2 : addAll [] (x.occ []) = F := hF
  rw [hF2] at hc
  rw [hF]
  have HC := Lib.hid hc
  have HB3 := Lib.hid hb3
  clear hc hb3 hs hv hu hF hF2 hz
  go_enter Try.func34, Try.ntmps34
  go_wp2_with (go_at_call 72; refine (HC.out).mono ?_; rintro e w1 ⟨v1, n1, rfl, hn1, hs1, hm1⟩; have hbx := hs1.box; obtain ⟨_, _, _, _⟩ := hbx.two; have hbl := hbx.lt; have HS1 := Lib.hid hs1; have HM1 := Lib.hid hm1; clear hs1 hm1 hbx)
  have HB1 : Hid (Below w.heap.size w w1) := HB3.out.trans (HM1.out.below HB3.out.size (by omega) (by omega) (fun q h => by simp [Value.ownBlock] at h))
  obtain ⟨va, vc, rfl⟩ := own_shape HS1.out.row
  go_ret
  refine ⟨va, vc, rfl, ?_, own_nil HS1.out.row, HB1.out⟩
  exact InC.of_owns HS1.out.row (strsC_ins _ _ F) (fun q hq => by have := HS1.out.own q hq; unfold New; omega) (strsC_len F)

end Go.Proofs.Ytgkeblpjmfdhkaa
