/- Package parse's typeDeep, isTooDeep, Deep. slices.IndexFunc, slices.ContainsFunc at types and isTooDeep; slices.Min. Package parse's tooDeep. A drawn region by an invariant over the operations that are done. Package parse's begins: a map literal whose operations come up in any order, by an invariant. -/
import Derived.Test.YtccilgemfkdmkaaZB
import Derived.Test.YtccilgemfkdmkaaZA
import Derived.Test.YtccilgemfkdmkaaZD
import Derived.Test.YtccilgemfkdmkaaZG
import Derived.OrdersHeld
import Derived.StillTail
namespace Go.Proofs.Ytccilgemfkdmkaa
open Go.RowKit Go.Maps
set_option linter.unusedVariables false
set_option linter.unusedSimpArgs false

theorem flatC_at {α : Type} {k : Nat} {f : α → List Cl} (hk : ∀ x, (f x).length = k) : ∀ (l : List α) (i : Nat) (x : α), l[i]? = some x → ∀ j, j < k → (l.flatMap f)[i * k + j]? = (f x)[j]?
  | q :: r, 0, x, hx, j, hj => by
    simp at hx; subst hx
    rw [List.flatMap_cons, List.getElem?_append_left (by rw [hk]; omega)]; simp
  | q :: r, i + 1, x, hx, j, hj => by
    have ih := flatC_at hk r i x (by simpa using hx) j hj
    rw [List.flatMap_cons, List.getElem?_append_right (by rw [hk, Nat.add_mul]; omega), hk, ← ih]
    congr 1
    rw [Nat.add_mul]; omega
/-- The i-th thing behind a slice, cell by cell. -/
theorem InC.elem {α : Type} {S : Nat → Prop} {w : World} {k m cp : Nat} {f : α → List Cl} (hk : ∀ x, (f x).length = k) {l : List α} {a : Option Addr} (h : InC S w (.s l.length k (l.flatMap f)) (.slice a m cp)) {i : Nat} {x : α} (hx : l[i]? = some x) :
    ∃ (b off : Nat) (us : List Value), a = some ⟨b, off, none⟩ ∧ b < w.heap.size ∧ IsV S w (f x) (.agg us.toArray) ∧ ∀ (j : Nat) (u : Value), us[j]? = some u → w.cell? ⟨b, off + (i * k + j), none⟩ = some u := by
  have hi : i < l.length := (List.getElem?_eq_some_iff.1 hx).1
  obtain ⟨_, h2 | ⟨b, off, us, h2, h3, h4, h5, h6⟩⟩ := h.at_
  · omega
  · have hul : us.length = l.length * k := by rw [h5.1, flatC_len hk]
    have hik : i * k + k ≤ l.length * k := by have := Nat.mul_le_mul_right k (show i + 1 ≤ l.length from hi); rw [Nat.add_mul] at this; omega
    have hg : ∀ j, j < k → ((us.drop (i * k)).take k)[j]? = us[i * k + j]? := fun j hj => by
      rw [List.getElem?_take, if_pos hj, List.getElem?_drop]
    have hl2 : ((us.drop (i * k)).take k).length = k := by rw [List.length_take, List.length_drop]; omega
    refine ⟨b, off, (us.drop (i * k)).take k, h2, h4, ⟨_, rfl, ?_, fun j c u h7 h8 => ?_⟩, fun j u hu => ?_⟩
    · rw [hk, hl2]
    · have hj : j < k := by have := (List.getElem?_eq_some_iff.1 h7).1; rwa [hk] at this
      rw [hg j hj] at h8
      exact h5.2 (i * k + j) c u (by rw [flatC_at hk l i x hx j hj]; exact h7) h8
    · have hj : j < k := by have := (List.getElem?_eq_some_iff.1 hu).1; omega
      rw [hg j hj] at hu
      exact h6 _ _ hu
theorem Ty.deeps_snoc : ∀ (l : List Ty) (x : Ty), Ty.deeps (l ++ [x]) = max (Ty.deeps l) x.deep
  | [], x => by simp [Ty.deeps]
  | y :: r, x => by simp [Ty.deeps, Ty.deeps_snoc r x, Nat.max_assoc]
theorem Ty.deeps_mem : ∀ {l : List Ty} {x : Ty}, x ∈ l → x.deep ≤ Ty.deeps l
  | y :: r, x, h => by
    simp only [Ty.deeps]
    rcases List.mem_cons.1 h with rfl | h
    · omega
    · have := Ty.deeps_mem h; omega
theorem Ex.deeps_snoc : ∀ (l : List Ex) (x : Ex), Ex.deeps (l ++ [x]) = max (Ex.deeps l) x.deep
  | [], x => by simp [Ex.deeps]
  | y :: r, x => by simp [Ex.deeps, Ex.deeps_snoc r x, Nat.max_assoc]
theorem Ex.deeps_mem : ∀ {l : List Ex} {x : Ex}, x ∈ l → x.deep ≤ Ex.deeps l
  | y :: r, x, h => by
    simp only [Ex.deeps]
    rcases List.mem_cons.1 h with rfl | h
    · omega
    · have := Ex.deeps_mem h; omega
theorem Al.deeps_snoc : ∀ (l : List Al) (x : Al), Al.deeps (l ++ [x]) = max (Al.deeps l) x.deep
  | [], x => by simp [Al.deeps]
  | y :: r, x => by simp [Al.deeps, Al.deeps_snoc r x, Nat.max_assoc]
theorem Al.deeps_mem : ∀ {l : List Al} {x : Al}, x ∈ l → x.deep ≤ Al.deeps l
  | y :: r, x, h => by
    simp only [Al.deeps]
    rcases List.mem_cons.1 h with rfl | h
    · omega
    · have := Al.deeps_mem h; omega
theorem take_snoc' {α : Type} {l : List α} {i : Nat} {x : α} (h : l[i]? = some x) : l.take (i + 1) = l.take i ++ [x] := by
  rw [List.take_add_one, h]; rfl
theorem max_if (a b : Nat) : (if (a : Int) < (b : Int) then (b : Int) else (a : Int)) = ((max a b : Nat) : Int) := by split <;> omega
theorem max_if' (a b : Nat) : (if a < b then (b : Int) else (a : Int)) = ((max a b : Nat) : Int) := by split <;> omega

set_option maxRecDepth 100000 in
set_option maxHeartbeats 4000000 in
theorem z_typeDeep : ∀ (d : Nat) (x : Ty) (S : Nat → Prop) (v : Value) (w : World), x.deep ≤ d → d ≤ 1000000 → IsV S w (tyC x) v →
    Calls Try.prog 107 #[v] w fun e w' => e = .returned (.int .i64 (x.deep : Int)) ∧ Below w.heap.size w w' := by
  intro d
  induction d with
  | zero =>
    intro x S v w h _ _
    cases x; simp [Ty.deep] at h
  | succ d ih =>
    rintro ⟨k, n, s, kids⟩ S v w hd hm hv
    obtain ⟨a, cp, rfl, hk⟩ := hv.ty
    have hdk : Ty.deeps kids ≤ d := by simp only [Ty.deep] at hd; omega
    have hde : (Ty.mk k n s kids).deep = Ty.deeps kids + 1 := by simp only [Ty.deep]; omega
    rw [hde]
    obtain ⟨L, hL⟩ : ∃ L, kids.length = L := ⟨_, rfl⟩
    have HL := Lib.hid hL
    rw [tysC_eq] at hk
    have hLm := hk.max_len
    rw [hL] at hLm
    have HK := Lib.hid hk
    have HDK := Lib.hid hdk
    have HIH := Lib.hid ih
    rw [hL]
    have bx := Lib.hid (Box.new w 63 [.int .i64 k, .int .i64 n, .string (strB s), .slice a L cp])
    clear hd hv hk hL ih hdk hde
    go_enter Try.func107, Try.ntmps107
    go_wp2_with fail
    go_loopw [3, 9] (fun mv iv wr => ∃ i : Nat, i ≤ L ∧ iv = .int .i64 (i : Int) ∧ mv = .int .i64 ((Ty.deeps (kids.take i) : Nat) : Int) ∧ Hid (Below w.heap.size w wr)) (fun _ iv _ => L - (intOf iv).toNat)
    case atStart => exact ⟨0, Nat.zero_le _, rfl, rfl, (Below.refl _ _).alloc (Nat.le_refl _) _⟩
    case round =>
      obtain ⟨i, hi, rfl, rfl, HB⟩ := hrel
      by_cases hlt : i < L
      · obtain ⟨x, hx⟩ : ∃ x, kids[i]? = some x := ⟨_, List.getElem?_eq_getElem (by rw [HL.out]; exact hlt)⟩
        obtain ⟨b, off, us, rfl, hb, hxv, hc⟩ := HK.out.elem tyC_len hx
        obtain ⟨z0, z1, z2, z3, z4, z5, hz9⟩ := hxv.tys
        obtain rfl := agg_inj hz9
        have hbw : b < wr.heap.size := by have := HB.out.size; omega
        have hcc : ∀ (j : Nat) (u : Value), ([.int .i64 z0, .int .i64 z1, .string (strB z2), .slice z3 z4 z5] : List Value)[j]? = some u → wr.cell? ⟨b, off + (i * 4 + j), none⟩ = some u := fun j u hu => (HB.out.cell (p := ⟨b, off + (i * 4 + j), none⟩) hb).trans (hc j u hu)
        have q0 := hcc 0 _ rfl
        have q1 := hcc 1 _ rfl
        have q2 := hcc 2 _ rfl
        have q3 := hcc 3 _ rfl
        rw [← Nat.add_assoc] at q0 q1 q2 q3
        rw [Nat.add_zero] at q0
        have hxm := Ty.deeps_mem (List.mem_of_getElem? hx)
        have HX := Lib.hid (HIH.out x S _ (wr.alloc (.cells #[.int .i64 z0, .int .i64 z1, .string (strB z2), .slice z3 z4 z5] 63)) (Nat.le_trans hxm HDK.out) (by omega) ((hxv.under HB.out).under ((Below.refl _ wr).alloc (Nat.le_refl _) _)))
        have HTK := Lib.hid (take_snoc' hx)
        have HSN := Lib.hid (Ty.deeps_snoc (kids.take i) x)
        have hm1 : x.deep ≤ 1000000 := by have := HDK.out; omega
        clear hx hxv hc hcc hxm
        obtain ⟨M, hM⟩ : ∃ M, Ty.deeps (kids.take i) = M := ⟨_, rfl⟩
        rw [hM] at HSN ⊢
        clear hM
        obtain ⟨X, hX⟩ : ∃ X, x.deep = X := ⟨_, rfl⟩
        rw [hX] at HSN HX hm1
        clear hX
        go_wp2_with (go_at_call 107; refine HX.out.mono ?_; rintro e w1 ⟨rfl, hb1⟩; have HB1 := Lib.hid hb1; clear hb1)
        go_roundw
        case rel => exact ⟨i + 1, by omega, by go_num, by rw [HTK.out, HSN.out, ← max_if'], HB.out.trans ((Below.alloc (Below.refl _ wr) (Nat.le_refl _) _).trans (HB1.out.mono (by simp)) |>.mono HB.out.size)⟩
        case measure => simp [intOf]; omega
      · have hiL : i = L := by omega
        subst hiL
        have HTA : Hid (kids.take i = kids) := by show _ = _; rw [List.take_of_length_le (by rw [HL.out]; exact Nat.le_refl _)]
        rw [HTA.out]
        have hdd := HDK.out
        obtain ⟨M, hM⟩ : ∃ M, Ty.deeps kids = M := ⟨_, rfl⟩
        rw [hM] at hdd
        have HMM := Lib.hid hM
        rw [hM]
        clear hM
        go_wp2_with fail
        go_ret
        exact ⟨by rw [HMM.out]; go_num, HB.out⟩

set_option maxHeartbeats 1000000 in
theorem z_isTooDeep (x : Ty) (S : Nat → Prop) (v : Value) (w : World) (hd : x.deep ≤ 1000000) (hv : IsV S w (tyC x) v) :
    Calls Try.prog 62 #[v] w fun e w' => e = .returned (.bool (decide (60 < x.deep))) ∧ Below w.heap.size w w' := by
  obtain ⟨z0, z1, z2, z3, z4, z5, rfl⟩ := hv.tys
  have HX := Lib.hid (z_typeDeep x.deep x S _ (w.alloc (.cells #[.int .i64 z0, .int .i64 z1, .string (strB z2), .slice z3 z4 z5] 63)) (Nat.le_refl _) hd (hv.under ((Below.refl _ w).alloc (Nat.le_refl _) _)))
  obtain ⟨X, hX⟩ : ∃ X, x.deep = X := ⟨_, rfl⟩
  rw [hX] at HX ⊢
  have hdX : decide ((60 : Int) < (X : Int)) = decide (60 < X) := by rw [Bool.eq_iff_iff]; simp; omega
  have HDX := Lib.hid hdX
  clear hv hX hd hdX
  go_enter Try.func62, Try.ntmps62
  go_wp2_with (go_at_call 107; refine HX.out.mono ?_; rintro e w1 ⟨rfl, hb1⟩; have HB1 := Lib.hid hb1; clear hb1)
  go_ret
  exact ⟨congrArg (fun b => Ending.returned (.bool b)) HDX.out, (Below.alloc (Below.refl _ w) (Nat.le_refl _) _).trans (HB1.out.mono (by simp))⟩

theorem IsV.al2 {S : Nat → Prop} {w : World} {v : Value} {x : Al} (h : IsV S w (alC x) v) : ∃ (p : Int) (s : By) (a1 : Option Addr) (m1 c1 : Nat) (k q n : Int) (s2 : By) (a2 a3 : Option Addr) (m2 m3 c2 c3 : Nat) (b : Ex), v = .agg #[.int .i64 p, .string (strB s), .slice a1 m1 c1, .int .i64 k, .int .i64 q, .string (strB s2), .int .i64 n, .slice a2 m2 c2, .slice a3 m3 c3] ∧ x.deep = b.deep ∧ IsV S w (exC b) (.agg #[.int .i64 k, .int .i64 q, .string (strB s2), .int .i64 n, .slice a2 m2 c2, .slice a3 m3 c3]) := by
  cases x with
  | mk p s names b =>
    obtain ⟨us, rfl, h⟩ := h
    unfold alC at h
    obtain ⟨u0, r0, rfl, l0⟩ := three_cons (n := exC b |>.length.succ.succ) (by simpa using h.1)
    obtain ⟨u1, r1, rfl, l1⟩ := three_cons (n := (exC b).length + 1) l0
    obtain ⟨u2, r2, rfl, l2⟩ := three_cons (n := (exC b).length) l1
    obtain rfl := h.head.val
    obtain rfl := h.tail.head.val
    obtain ⟨a, cp, rfl, _, _⟩ := h.tail.tail.head.slice
    have h2 : IsV S w (exC b) (.agg r2.toArray) := ⟨r2, rfl, h.tail.tail.tail⟩
    obtain ⟨k, q, n, s2, a2, a3, m2, m3, c2, c3, hv, _⟩ := h2.exs
    obtain rfl := agg_inj hv
    exact ⟨p, s, a, _, cp, k, q, n, s2, a2, a3, m2, m3, c2, c3, b, rfl, by simp only [Al.deep], h2⟩
theorem ten_cells9 {w : World} {b : Nat} {t : TypeId} {c0 c1 c2 c3 c4 c5 c6 c7 c8 : Value} (h : Box w b t [c0, c1, c2, c3, c4, c5, c6, c7, c8]) : w.cell? ⟨b, 3, none⟩ = some c3 ∧ w.cell? ⟨b, 4, none⟩ = some c4 ∧ w.cell? ⟨b, 5, none⟩ = some c5 ∧ w.cell? ⟨b, 6, none⟩ = some c6 ∧ w.cell? ⟨b, 7, none⟩ = some c7 ∧ w.cell? ⟨b, 8, none⟩ = some c8 := ⟨h.cell 3, h.cell 4, h.cell 5, h.cell 6, h.cell 7, h.cell 8⟩

set_option maxRecDepth 100000 in
set_option maxHeartbeats 4000000 in
theorem z_Deep : ∀ (d : Nat) (x : Ex) (S : Nat → Prop) (v : Value) (w : World), x.deep ≤ d → d ≤ 1000000 → IsV S w (exC x) v →
    Calls Try.prog 63 #[v] w fun e w' => e = .returned (.int .i64 (x.deep : Int)) ∧ Below w.heap.size w w' := by
  intro d
  induction d with
  | zero =>
    intro x S v w h _ _
    cases x; simp [Ex.deep] at h
  | succ d ih =>
    rintro ⟨k, p, s, n, kids, alts⟩ S v w hd hm hv
    obtain ⟨a, cp, a', cp', rfl, hk, hk'⟩ := hv.ex
    have hdk : Ex.deeps kids ≤ d := by simp only [Ex.deep] at hd; omega
    have hda : Al.deeps alts ≤ d := by simp only [Ex.deep] at hd; omega
    have hde : (Ex.mk k p s n kids alts).deep = max (Ex.deeps kids) (Al.deeps alts) + 1 := by simp only [Ex.deep]; omega
    rw [hde]
    obtain ⟨L, hL⟩ : ∃ L, kids.length = L := ⟨_, rfl⟩
    obtain ⟨L', hL'⟩ : ∃ L', alts.length = L' := ⟨_, rfl⟩
    have HL := Lib.hid hL
    have HL' := Lib.hid hL'
    rw [exsC_eq] at hk
    rw [alsC_eq] at hk'
    have hLm := hk.max_len
    have hLm' := hk'.max_len
    rw [hL] at hLm
    rw [hL'] at hLm'
    have HK := Lib.hid hk
    have HK' := Lib.hid hk'
    have HDK := Lib.hid hdk
    have HDA := Lib.hid hda
    have HIH := Lib.hid ih
    rw [hL, hL']
    have bx := Lib.hid (Box.new w 43 [.int .i64 k, .int .i64 p, .string (strB s), .int .i64 n, .slice a L cp, .slice a' L' cp'])
    have hw1 : w.heap.size < (w.alloc (.cells #[.int .i64 k, .int .i64 p, .string (strB s), .int .i64 n, .slice a L cp, .slice a' L' cp'] 43)).heap.size := by simp
    clear hd hv hk hk' hL hL' ih hdk hda hde
    go_enter Try.func63, Try.ntmps63
    go_wp2_with fail
    obtain ⟨w0, hw0⟩ : ∃ w0, w.alloc (.cells #[.int .i64 k, .int .i64 p, .string (strB s), .int .i64 n, .slice a L cp, .slice a' L' cp'] 43) = w0 := ⟨_, rfl⟩
    have HB0 : Hid (Below w.heap.size w w0) := by show Below _ _ _; rw [← hw0]; exact (Below.refl _ _).alloc (Nat.le_refl _) _
    rw [hw0] at bx hw1 ⊢
    clear hw0
    go_loopw [3, 11] (fun mv iv wr => ∃ i : Nat, i ≤ L ∧ iv = .int .i64 (i : Int) ∧ mv = .int .i64 ((Ex.deeps (kids.take i) : Nat) : Int) ∧ Hid (Below w0.heap.size w0 wr)) (fun _ iv _ => L - (intOf iv).toNat)
    case atStart => exact ⟨0, Nat.zero_le _, rfl, rfl, Below.refl _ _⟩
    case round =>
      obtain ⟨i, hi, rfl, rfl, HB⟩ := hrel
      by_cases hlt : i < L
      · obtain ⟨x, hx⟩ : ∃ x, kids[i]? = some x := ⟨_, List.getElem?_eq_getElem (by rw [HL.out]; exact hlt)⟩
        obtain ⟨b, off, us, rfl, hb, hxv, hc⟩ := HK.out.elem exC_len hx
        obtain ⟨z0, z1, z2, z3, z4, z5, z6, z7, z8, z9, hz9, _⟩ := hxv.exs
        obtain rfl := agg_inj hz9
        have hbw0 : b < w0.heap.size := by omega
        have HBw : Below w.heap.size w wr := HB0.out.trans (HB.out.mono (Nat.le_of_lt hw1))
        have hbw : b < wr.heap.size := by have := HB.out.size; omega
        have hcc : ∀ (j : Nat) (u : Value), ([.int .i64 z0, .int .i64 z1, .string (strB z3), .int .i64 z2, .slice z4 z6 z8, .slice z5 z7 z9] : List Value)[j]? = some u → wr.cell? ⟨b, off + (i * 6 + j), none⟩ = some u := fun j u hu => (HBw.cell (p := ⟨b, off + (i * 6 + j), none⟩) hb).trans (hc j u hu)
        have q0 := hcc 0 _ rfl
        have q1 := hcc 1 _ rfl
        have q2 := hcc 2 _ rfl
        have q3 := hcc 3 _ rfl
        have q4 := hcc 4 _ rfl
        have q5 := hcc 5 _ rfl
        rw [← Nat.add_assoc] at q0 q1 q2 q3 q4 q5
        rw [Nat.add_zero] at q0
        have hxm := Ex.deeps_mem (List.mem_of_getElem? hx)
        have HX := Lib.hid (HIH.out x S _ (wr.alloc (.cells #[.int .i64 z0, .int .i64 z1, .string (strB z3), .int .i64 z2, .slice z4 z6 z8, .slice z5 z7 z9] 43)) (Nat.le_trans hxm HDK.out) (by omega) ((hxv.under HBw).under ((Below.refl _ wr).alloc (Nat.le_refl _) _)))
        have HTK := Lib.hid (take_snoc' hx)
        have HSN := Lib.hid (Ex.deeps_snoc (kids.take i) x)
        have hm1 : x.deep ≤ 1000000 := by have := HDK.out; omega
        clear hx hxv hc hcc hxm HBw
        obtain ⟨M, hM⟩ : ∃ M, Ex.deeps (kids.take i) = M := ⟨_, rfl⟩
        rw [hM] at HSN ⊢
        clear hM
        obtain ⟨X, hX⟩ : ∃ X, x.deep = X := ⟨_, rfl⟩
        rw [hX] at HSN HX hm1
        clear hX
        go_wp2_with (go_at_call 63; refine HX.out.mono ?_; rintro e w1 ⟨rfl, hb1⟩; have HB1 := Lib.hid hb1; clear hb1)
        go_roundw
        case rel => exact ⟨i + 1, by omega, by go_num, by rw [HTK.out, HSN.out, ← max_if'], HB.out.trans ((Below.alloc (Below.refl _ wr) (Nat.le_refl _) _).trans (HB1.out.mono (by simp)) |>.mono HB.out.size)⟩
        case measure => simp [intOf]; omega
      · have hiL : i = L := by omega
        subst hiL
        have HTA : Hid (kids.take i = kids) := by show _ = _; rw [List.take_of_length_le (by rw [HL.out]; exact Nat.le_refl _)]
        rw [HTA.out]
        have hdd := HDK.out
        obtain ⟨M, hM⟩ : ∃ M, Ex.deeps kids = M := ⟨_, rfl⟩
        rw [hM] at hdd
        have HMM := Lib.hid hM
        rw [hM]
        clear hM
        obtain ⟨wo, rfl⟩ : ∃ wo, wo = wr := ⟨wr, rfl⟩
        have bx2 := bx.out.below HB.out
        obtain ⟨_, _, _, _, _, _⟩ := six_cells bx2
        have hwr := bx2.lt
        have HBo : Hid (Below w.heap.size w wo) := HB0.out.trans (HB.out.mono (Nat.le_of_lt hw1))
        clear bx2
        go_wp2_with fail
        go_loopw [3, 23] (fun mv iv wx => ∃ i : Nat, i ≤ L' ∧ iv = .int .i64 (i : Int) ∧ mv = .int .i64 ((max M (Al.deeps (alts.take i)) : Nat) : Int) ∧ Hid (Below w.heap.size w wx)) (fun _ iv _ => L' - (intOf iv).toNat)
        case atStart => exact ⟨0, Nat.zero_le _, rfl, by simp [Al.deeps], HBo⟩
        case round =>
          obtain ⟨j, hj, rfl, rfl, HBx⟩ := hrel
          by_cases hlt : j < L'
          · obtain ⟨x, hx⟩ : ∃ x, alts[j]? = some x := ⟨_, List.getElem?_eq_getElem (by rw [HL'.out]; exact hlt)⟩
            obtain ⟨b, off, us, rfl, hb, hxv, hc⟩ := HK'.out.elem alC_len hx
            obtain ⟨z0, z1, z2, z3, z4, z5, z6, z7, z8, y0, y1, y2, y3, y4, y5, bd, hz9, hbd, hbv⟩ := hxv.al2
            obtain rfl := agg_inj hz9
            have hbw : b < wr.heap.size := by have := HBx.out.size; omega
            have hcc : ∀ (m : Nat) (u : Value), ([.int .i64 z0, .string (strB z1), .slice z2 z3 z4, .int .i64 z5, .int .i64 z6, .string (strB z8), .int .i64 z7, .slice y0 y2 y4, .slice y1 y3 y5] : List Value)[m]? = some u → wr.cell? ⟨b, off + (j * 9 + m), none⟩ = some u := fun m u hu => (HBx.out.cell (p := ⟨b, off + (j * 9 + m), none⟩) hb).trans (hc m u hu)
            have q0 := hcc 0 _ rfl
            have q1 := hcc 1 _ rfl
            have q2 := hcc 2 _ rfl
            have q3 := hcc 3 _ rfl
            have q4 := hcc 4 _ rfl
            have q5 := hcc 5 _ rfl
            have q6 := hcc 6 _ rfl
            have q7 := hcc 7 _ rfl
            have q8 := hcc 8 _ rfl
            rw [← Nat.add_assoc] at q0 q1 q2 q3 q4 q5 q6 q7 q8
            rw [Nat.add_zero] at q0
            have hxm := Al.deeps_mem (List.mem_of_getElem? hx)
            rw [hbd] at hxm
            have HX := Lib.hid (HIH.out bd S _ (wr.alloc (.cells #[.int .i64 z0, .string (strB z1), .slice z2 z3 z4, .int .i64 z5, .int .i64 z6, .string (strB z8), .int .i64 z7, .slice y0 y2 y4, .slice y1 y3 y5] 129)) (Nat.le_trans hxm HDA.out) (by omega) ((hbv.under HBx.out).under ((Below.refl _ wr).alloc (Nat.le_refl _) _)))
            have HTK := Lib.hid (take_snoc' hx)
            have HSN : Hid (Al.deeps (alts.take j ++ [x]) = max (Al.deeps (alts.take j)) bd.deep) := by show _ = _; rw [Al.deeps_snoc, hbd]
            have hm1 : bd.deep ≤ 1000000 := by have := HDA.out; omega
            clear hx hxv hc hcc hxm hbv hbd
            obtain ⟨M2, hM2⟩ : ∃ M2, max M (Al.deeps (alts.take j)) = M2 := ⟨_, rfl⟩
            have HM2 := Lib.hid hM2
            rw [hM2]
            clear hM2
            obtain ⟨X, hX⟩ : ∃ X, bd.deep = X := ⟨_, rfl⟩
            rw [hX] at HSN HX hm1
            clear hX
            go_wp2_with (go_at_call 63; refine HX.out.mono ?_; rintro e w1 ⟨rfl, hb1⟩; have HB1 := Lib.hid hb1; clear hb1)
            go_roundw
            case rel => exact ⟨j + 1, by omega, by go_num, by rw [HTK.out, HSN.out, max_if', ← HM2.out, Nat.max_assoc], HBx.out.trans ((Below.alloc (Below.refl _ wr) (Nat.le_refl _) _).trans (HB1.out.mono (by simp)) |>.mono HBx.out.size)⟩
            case measure => simp [intOf]; omega
          · have hjL : j = L' := by omega
            subst hjL
            have HTA2 : Hid (alts.take j = alts) := by show _ = _; rw [List.take_of_length_le (by rw [HL'.out]; exact Nat.le_refl _)]
            rw [HTA2.out]
            have hda2 := HDA.out
            obtain ⟨Q, hQ⟩ : ∃ Q, max M (Al.deeps alts) = Q := ⟨_, rfl⟩
            have hQl : Q ≤ 1000000 := by omega
            have HQ := Lib.hid hQ
            rw [hQ]
            clear hQ
            go_wp2_with fail
            go_ret
            exact ⟨by rw [HMM.out, HQ.out]; go_num, HBx.out⟩

end Go.Proofs.Ytccilgemfkdmkaa

namespace Go.Proofs.Ytccilgemfkdmkaa
open Go.RowKit Go.Maps
set_option linter.unusedVariables false
set_option linter.unusedSimpArgs false

def tooB (t : Ty) : Bool := decide (60 < t.deep)
set_option maxRecDepth 100000 in
set_option maxHeartbeats 4000000 in
theorem z_index (args : List Ty) (S : Nat → Prop) (a : Option Addr) (m cp : Nat) (w : World) (hm : args.length = m) (hd : ∀ x ∈ args, x.deep ≤ 1000000) (hk : InC S w (.s args.length 4 (tysC args)) (.slice a m cp)) :
    Calls Try.prog 106 #[.slice a m cp, .func (.func 62) #[] #[]] w fun e w' => ∃ r : Int, e = .returned (.int .i64 r) ∧ -1 ≤ r ∧ r ≤ 9223372036854775807 ∧ decide (0 ≤ r) = args.any tooB ∧ Below w.heap.size w w' := by
  have hLm := hk.max_len
  rw [hm] at hLm
  rw [tysC_eq] at hk
  have HK := Lib.hid hk
  have HM := Lib.hid hm
  have HD := Lib.hid hd
  clear hk hm hd
  go_enter Try.func106, Try.ntmps106
  go_wp2_with fail
  go_loopw [8] (fun iv wr => ∃ i : Nat, i ≤ m ∧ iv = .int .i64 (i : Int) ∧ Hid ((args.take i).any tooB = false) ∧ Hid (Below w.heap.size w wr)) (fun iv _ => m - (intOf iv).toNat)
  case atStart => exact ⟨0, Nat.zero_le _, rfl, by simp [Hid], Below.refl _ _⟩
  case round =>
    obtain ⟨i, hi, rfl, HN, HB⟩ := hrel
    by_cases hlt : i < m
    · obtain ⟨x, hx⟩ : ∃ x, args[i]? = some x := ⟨_, List.getElem?_eq_getElem (by rw [HM.out]; exact hlt)⟩
      obtain ⟨b, off, us, rfl, hb, hxv, hc⟩ := HK.out.elem tyC_len hx
      obtain ⟨z0, z1, z2, z3, z4, z5, hz9⟩ := hxv.tys
      obtain rfl := agg_inj hz9
      have hbw : b < wr.heap.size := by have := HB.out.size; omega
      have hcc : ∀ (j : Nat) (u : Value), ([.int .i64 z0, .int .i64 z1, .string (strB z2), .slice z3 z4 z5] : List Value)[j]? = some u → wr.cell? ⟨b, off + (i * 4 + j), none⟩ = some u := fun j u hu => (HB.out.cell (p := ⟨b, off + (i * 4 + j), none⟩) hb).trans (hc j u hu)
      have q0 := hcc 0 _ rfl
      have q1 := hcc 1 _ rfl
      have q2 := hcc 2 _ rfl
      have q3 := hcc 3 _ rfl
      rw [← Nat.add_assoc] at q0 q1 q2 q3
      rw [Nat.add_zero] at q0
      have hxm := List.mem_of_getElem? hx
      have HX := Lib.hid (z_isTooDeep x S _ wr (HD.out x hxm) (hxv.under HB.out))
      have hw9 : wrap64 ((i : Int)) = (i : Int) := by unfold wrap64; omega
      cases ht : decide (60 < x.deep) with
      | true =>
        have HR : Hid (args.any tooB = true) := List.any_eq_true.2 ⟨x, hxm, ht⟩
        rw [ht] at HX
        clear hx hxv hc hcc hxm ht hw9
        go_wp2_with (go_at_call 62; refine HX.out.mono ?_; rintro e w1 ⟨rfl, hb1⟩; have HB1 := Lib.hid hb1; clear hb1)
        go_ret
        exact ⟨(i : Int), rfl, by omega, by omega, by rw [HR.out]; exact decide_eq_true (by omega), HB.out.trans (HB1.out.mono HB.out.size)⟩
      | false =>
        rw [ht] at HX
        have HTK := Lib.hid (take_snoc' hx)
        have HT2 : Hid (tooB x = false) := ht
        clear hx hxv hc hcc hxm ht hw9
        go_wp2_with (go_at_call 62; refine HX.out.mono ?_; rintro e w1 ⟨rfl, hb1⟩; have HB1 := Lib.hid hb1; clear hb1)
        go_roundw
        case rel => exact ⟨i + 1, by omega, by go_num, by show _ = _; rw [HTK.out]; simp [HN.out, HT2.out], HB.out.trans (HB1.out.mono HB.out.size)⟩
        case measure => simp [intOf]; omega
    · have him : i = m := by omega
      subst him
      go_wp2_with fail
      go_ret
      refine ⟨-1, rfl, by omega, by omega, ?_, HB.out⟩
      have := HN.out
      rw [List.take_of_length_le (by rw [HM.out]; exact Nat.le_refl _)] at this
      rw [this]; rfl

set_option maxHeartbeats 1000000 in
theorem z_contains (args : List Ty) (S : Nat → Prop) (a : Option Addr) (m cp : Nat) (w : World) (hm : args.length = m) (hd : ∀ x ∈ args, x.deep ≤ 1000000) (hk : InC S w (.s args.length 4 (tysC args)) (.slice a m cp)) :
    Calls Try.prog 61 #[.slice a m cp, .func (.func 62) #[] #[]] w fun e w' => e = .returned (.bool (args.any tooB)) ∧ Below w.heap.size w w' := by
  have HX := Lib.hid (z_index args S a m cp w hm hd hk)
  clear hm hd hk
  go_enter Try.func61, Try.ntmps61
  go_wp2_with (go_at_call 106; refine HX.out.mono ?_; rintro e w1 ⟨r, rfl, hr1, hr2, hr3, hb1⟩; have HB1 := Lib.hid hb1; have HR3 := Lib.hid hr3; clear hb1 hr3)
  go_ret
  exact ⟨congrArg (fun b => Ending.returned (.bool b)) HR3.out, HB1.out⟩

theorem minL_snoc (l : List Int) (x : Int) (h : l ≠ []) : minL (l ++ [x]) = min (minL l) x := by
  cases l with
  | nil => exact absurd rfl h
  | cons y r => simp [minL]
set_option maxRecDepth 100000 in
set_option maxHeartbeats 4000000 in
theorem z_min (l : List Int) (lo hi : Nat) (a : Option Addr) (m cp : Nat) (w : World) (hr : Row lo hi w a m l) (hh : hi ≤ w.heap.size) (h0 : 0 < m) (hm : m ≤ 1000000) :
    Calls Try.prog 28 #[.slice a m cp] w fun e w' => e = .returned (.int .i64 (minL l)) ∧ w' = w := by
  obtain ⟨h1, h2 | ⟨b, off, rfl, hlb, hbh, hc⟩⟩ := hr
  · omega
  · have hb : b < w.heap.size := by omega
    have HC := Lib.hid hc
    have HL := Lib.hid h1
    have q0 := hc 0 h0
    rw [Nat.add_zero] at q0
    have hd0 : decide ((m : Int) < 1) = false := decide_eq_false (by omega)
    have hd0' : decide (m < 1) = false := decide_eq_false (by omega)
    clear hc h1
    go_enter Try.func28, Try.ntmps28
    go_wp2_with fail
    go_loopw [3, 4] (fun mv iv wr => ∃ i : Nat, 1 ≤ i ∧ i ≤ m ∧ iv = .int .i64 (i : Int) ∧ mv = .int .i64 (minL (l.take i)) ∧ wr = w) (fun _ iv _ => m - (intOf iv).toNat)
    case atStart =>
      refine ⟨1, Nat.le_refl _, h0, rfl, ?_, rfl⟩
      have hl := HL.out
      cases l with
      | nil => simp at hl; omega
      | cons x r => simp [minL]
    case round =>
      obtain ⟨i, hi1, hi, rfl, rfl, rfl⟩ := hrel
      by_cases hlt : i < m
      · have qi := HC.out i hlt
        obtain ⟨x, hx⟩ : ∃ x, l[i]? = some x := ⟨_, List.getElem?_eq_getElem (by rw [HL.out]; exact hlt)⟩
        rw [show l.getD i 0 = x by simp [List.getD, hx]] at qi
        have hne : l.take i ≠ [] := by
          intro e
          have := congrArg List.length e
          rw [List.length_take, HL.out] at this
          simp at this; omega
        have HTK : Hid (minL (l.take (i + 1)) = min (minL (l.take i)) x) := by show _ = _; rw [take_snoc' hx, minL_snoc _ _ hne]
        clear hx hne
        obtain ⟨M, hM⟩ : ∃ M, minL (l.take i) = M := ⟨_, rfl⟩
        rw [hM] at HTK ⊢
        clear hM
        go_wp2_with fail
        go_roundw
        case rel => exact ⟨i + 1, by omega, by omega, by go_num, by rw [HTK.out]; congr 1; split <;> omega, trivial⟩
        case measure => simp [intOf]; omega
      · have him : i = m := by omega
        subst him
        rw [List.take_of_length_le (by rw [HL.out]; exact Nat.le_refl _)]
        go_wp2_with fail
        go_ret
        exact ⟨rfl, rfl⟩

end Go.Proofs.Ytccilgemfkdmkaa

namespace Go.Proofs.Ytccilgemfkdmkaa
open Go.RowKit Go.Maps
set_option linter.unusedVariables false
set_option linter.unusedSimpArgs false

theorem Try.zintInfo : (Try.prog.info? 3).map (fun i => (i.zero, i.size, i.bytes)) = some (some (.int .i64 0), 1, 8) := by kernel_rfl
def dCons (d : Dt) : List Int := (d.cons.filter Cn.tooDeep).map Cn.p
def bTop (l : List Bd) : List Int := (l.filter fun b => decide (60 < b.body.deep)).map Bd.p
theorem tooDeepL_eq (p : Pg) : tooDeepL p = p.datas.flatMap dCons ++ bTop p.binds := rfl
theorem flat_snoc {α β : Type} (f : α → List β) (l : List α) (x : α) : (l ++ [x]).flatMap f = l.flatMap f ++ f x := by simp
def cCons (l : List Cn) : List Int := (l.filter Cn.tooDeep).map Cn.p
theorem cCons_snoc (l : List Cn) (c : Cn) : cCons (l ++ [c]) = cCons l ++ (if c.tooDeep = true then [c.p] else []) := by
  unfold cCons
  rw [List.filter_append]
  by_cases h : c.tooDeep = true <;> simp [h]
theorem bTop_snoc (l : List Bd) (b : Bd) : bTop (l ++ [b]) = bTop l ++ (if 60 < b.body.deep then [b.p] else []) := by
  unfold bTop
  rw [List.filter_append]
  by_cases h : 60 < b.body.deep <;> simp [h]
theorem IsV.dt2 {S : Nat → Prop} {w : World} {v : Value} {d : Dt} (h : IsV S w (dtC d) v) : ∃ (a a' : Option Addr) (cp cp' : Nat), v = .agg #[.string (strB d.s), .int .i64 d.p, .slice a d.vars.length cp, .slice a' d.cons.length cp'] ∧ InC S w (.s d.cons.length 3 (d.cons.flatMap cnC)) (.slice a' d.cons.length cp') := by
  obtain ⟨us, rfl, h⟩ := h
  unfold dtC at h
  obtain ⟨u0, r0, rfl, l0⟩ := three_cons (n := 3) h.1
  obtain ⟨u1, r1, rfl, l1⟩ := three_cons (n := 2) l0
  obtain ⟨u2, r2, rfl, l2⟩ := three_cons (n := 1) l1
  obtain ⟨u3, r3, rfl, l3⟩ := three_cons (n := 0) l2
  obtain rfl := List.eq_nil_of_length_eq_zero l3
  obtain rfl := h.head.val
  obtain rfl := h.tail.head.val
  obtain ⟨a, cp, rfl, _, _⟩ := h.tail.tail.head.slice
  obtain ⟨a', cp', rfl, _, _⟩ := h.tail.tail.tail.head.slice
  exact ⟨a, a', cp, cp', rfl, h.tail.tail.tail.head⟩
theorem eight_cells9 {w : World} {b : Nat} {t : TypeId} {c0 c1 c2 c3 c4 c5 c6 c7 : Value} (h : Box w b t [c0, c1, c2, c3, c4, c5, c6, c7]) : w.cell? ⟨b, 0, none⟩ = some c0 ∧ w.cell? ⟨b, 1, none⟩ = some c1 ∧ w.cell? ⟨b, 2, none⟩ = some c2 ∧ w.cell? ⟨b, 3, none⟩ = some c3 ∧ w.cell? ⟨b, 4, none⟩ = some c4 ∧ w.cell? ⟨b, 5, none⟩ = some c5 ∧ w.cell? ⟨b, 6, none⟩ = some c6 ∧ w.cell? ⟨b, 7, none⟩ = some c7 := ⟨h.cell 0, h.cell 1, h.cell 2, h.cell 3, h.cell 4, h.cell 5, h.cell 6, h.cell 7⟩
/-- The inner loop's body, once: a Con. -/
def LR (w : World) (wr : World) (v : Value) (l : List Int) : Prop := wr.ownsRow w.heap.size 3 1 v l.length (l.map (Value.int .i64)) ∧ Below w.heap.size w wr
theorem LR.under {w wr w' : World} {v : Value} {l : List Int} (h : LR w wr v l) (hb : Below wr.heap.size wr w') : LR w w' v l := ⟨ownsRow_below h.1 hb, h.2.trans (hb.mono h.2.size)⟩
theorem LR.push {w wr w9 : World} {v : Value} {l : List Int} {x : Int} {o : Obj} {g cap : Nat} (h : LR w wr v l) (hown : w9.ownsRow w.heap.size 3 1 (.slice (some ⟨g, 0, none⟩) (l.length + 1) cap) (l.length + 1) (l.map (Value.int .i64) ++ [.int .i64 x])) (hg : (wr.alloc o).grownBy w9 v.ownBlock) : LR w w9 (.slice (some ⟨g, 0, none⟩) (l.length + 1) cap) (l ++ [x]) :=
  ⟨by simpa using hown, ((h.2.alloc h.2.size o).grown hg (by have := h.2.size; simp; omega) fun q hq => (ownsRow_lo h.1 q hq).1)⟩

set_option maxRecDepth 100000 in
set_option maxHeartbeats 4000000 in
theorem z_tooDeep (p : Pg) (S : Nat → Prop) (v : Value) (w : World) (hv : IsV S w (pgC p) v) (hT : ∀ d ∈ p.datas, ∀ c ∈ d.cons, ∀ t ∈ c.args, t.deep ≤ 1000000) (hB : ∀ b ∈ p.binds, b.body.deep ≤ 1000000) (hn : (p.datas.flatMap Dt.cons).length + p.binds.length ≤ 200000) :
    Calls Try.prog 27 #[v] w fun e w' => ∃ u w0, e = .returned u ∧ w.heap.size ≤ w0.heap.size ∧ Below w.heap.size w w0 ∧ LR w0 w' u (tooDeepL p) := by
  obtain ⟨i0, hi0, hz0, hz1, hz2⟩ := info_parts Try.zintInfo
  obtain ⟨us, rfl, hu⟩ := hv
  unfold pgC at hu
  obtain ⟨u0, r0, rfl, l0⟩ := three_cons (n := 1) hu.1
  obtain ⟨u1, r1, rfl, l1⟩ := three_cons (n := 0) l0
  obtain rfl := List.eq_nil_of_length_eq_zero l1
  have hk := hu.head
  have hk' := hu.tail.head
  obtain ⟨a, cp, rfl, _, _⟩ := hk.slice
  obtain ⟨a', cp', rfl, _, _⟩ := hk'.slice
  have hLm := hk.max_len
  have hLm' := hk'.max_len
  obtain ⟨L, hL⟩ : ∃ L, p.datas.length = L := ⟨_, rfl⟩
  obtain ⟨L', hL'⟩ : ∃ L', p.binds.length = L' := ⟨_, rfl⟩
  have HK := Lib.hid hk
  have HK' := Lib.hid hk'
  have HL := Lib.hid hL
  have HL' := Lib.hid hL'
  have HT := Lib.hid hT
  have HBB := Lib.hid hB
  have HN := Lib.hid hn
  rw [hL] at hLm ⊢
  rw [hL'] at hLm' ⊢
  have hw1 : w.heap.size < (w.alloc (.cells #[.slice a L cp, .slice a' L' cp'] 28)).heap.size := by simp
  have bx := Lib.hid (Box.new w 28 [.slice a L cp, .slice a' L' cp'])
  have HB0 : Hid (Below w.heap.size w (w.alloc (.cells #[.slice a L cp, .slice a' L' cp'] 28))) := (Below.refl _ w).alloc (Nat.le_refl _) _
  clear hu hk hk' hL hL' hT hB hn l0 l1
  go_enter Try.func27, Try.ntmps27
  go_wp2_with fail
  obtain ⟨w0, hw0⟩ : ∃ w0, w.alloc (.cells #[.slice a L cp, .slice a' L' cp'] 28) = w0 := ⟨_, rfl⟩
  rw [hw0] at bx hw1 HB0 ⊢
  clear hw0
  go_loopg [3, 13] (L) (fun gn lv iv wr => ∃ i : Nat, gn + i ≤ L ∧ L ≤ gn + i ∧ iv = .int .i64 (i : Int) ∧ Hid (LR w0 wr lv ((p.datas.take i).flatMap dCons)) ∧ Hid (Below w0.heap.size w0 wr) ∧ Hid (((p.datas.take i).flatMap dCons).length ≤ ((p.datas.take i).flatMap Dt.cons).length))
  case atStart => exact ⟨0, by omega, by omega, rfl, Lib.hid ⟨by simpa using World.ownsRow_nil _ _ _ _, Below.refl _ _⟩, Below.refl _ _, by simp [Hid]⟩
  case round =>
    obtain ⟨i, hi1, hi2, rfl, HR, HW, HC⟩ := hrel
    by_cases hlt : i < L
    · obtain ⟨x, hx⟩ : ∃ x, p.datas[i]? = some x := ⟨_, List.getElem?_eq_getElem (by rw [HL.out]; exact hlt)⟩
      obtain ⟨b, off, us, rfl, hb, hxv, hc⟩ := HK.out.elem dtC_len hx
      obtain ⟨da, da', dc, dc', hz9, hcons⟩ := hxv.dt2
      obtain rfl := agg_inj hz9
      obtain ⟨wo, rfl⟩ : ∃ wo, wo = wr := ⟨wr, rfl⟩
      obtain ⟨va, vc, hv3⟩ := own_shape HR.out.1
      obtain ⟨l0, hl0⟩ : ∃ l0, (p.datas.take i).flatMap dCons = l0 := ⟨_, rfl⟩
      obtain ⟨k0, hk0⟩ : ∃ k0, ((p.datas.take i).flatMap Dt.cons).length = k0 := ⟨_, rfl⟩
      have htk := take_snoc' hx
      have hdl : l0 ++ dCons x = (p.datas.take (i + 1)).flatMap dCons := by rw [htk, flat_snoc, hl0]
      have hkl : k0 + x.cons.length = ((p.datas.take (i + 1)).flatMap Dt.cons).length := by rw [htk, flat_snoc, List.length_append, hk0]
      have hkt : k0 + x.cons.length ≤ 200000 := by
        rw [hkl]
        refine Nat.le_trans ?_ (Nat.le_trans (Nat.le_add_right _ _) HN.out)
        have e : (p.datas.flatMap Dt.cons) = (p.datas.take (i + 1)).flatMap Dt.cons ++ (p.datas.drop (i + 1)).flatMap Dt.cons := by rw [← List.flatMap_append, List.take_append_drop]
        rw [e, List.length_append]; omega
      rw [hl0] at HR HC hv3
      rw [hk0] at HC
      have HDL := Lib.hid hdl
      have HKL := Lib.hid hkl
      obtain ⟨K, hK⟩ : ∃ K, x.cons.length = K := ⟨_, rfl⟩
      have HKK := Lib.hid hK
      have hKm := hcons.max_len
      rw [hK] at hKm hkt hc hxv HKL
      have HCO := Lib.hid hcons
      have HTX := Lib.hid (HT.out x (List.mem_of_getElem? hx))
      have HV := Lib.hid (HB0.out.trans (HR.out.2.mono (Nat.le_of_lt hw1)))
      have hbw : b < wo.heap.size := by have := HR.out.2.size; omega
      have hcc : ∀ (j : Nat) (u : Value), ([.string (strB x.s), .int .i64 x.p, .slice da x.vars.length dc, .slice da' K dc'] : List Value)[j]? = some u → wo.cell? ⟨b, off + (i * 4 + j), none⟩ = some u := fun j u hu => (HV.out.cell (p := ⟨b, off + (i * 4 + j), none⟩) hb).trans (hc j u hu)
      have q0 := hcc 0 _ rfl
      have q1 := hcc 1 _ rfl
      have q2 := hcc 2 _ rfl
      have q3 := hcc 3 _ rfl
      rw [← Nat.add_assoc] at q0 q1 q2 q3
      rw [Nat.add_zero] at q0
      have hll : l0.length ≤ k0 := HC.out
      clear hl0 hk0 htk hdl hkl hK hcons hx hxv hc hcc HC HV
      obtain ⟨N0, hN0⟩ : ∃ N0, l0.length = N0 := ⟨_, rfl⟩
      rw [hN0] at hv3 hll
      have HN0 := Lib.hid hN0
      clear hN0
      subst hv3
      go_wp2_with fail
      go_loopg [3, 20] (K) (fun gm lv jv wx => ∃ j : Nat, gm + j ≤ K ∧ K ≤ gm + j ∧ jv = .int .i64 (j : Int) ∧ Hid (LR w0 wx lv (l0 ++ cCons (x.cons.take j))) ∧ Hid (Below w0.heap.size w0 wx) ∧ Hid ((l0 ++ cCons (x.cons.take j)).length ≤ k0 + j))
      case atStart => exact ⟨0, by omega, by omega, rfl, Lib.hid (by have := HR.out.under ((Below.refl _ wo).alloc (Nat.le_refl _) (.cells #[.string (strB x.s), .int .i64 x.p, .slice da x.vars.length dc, .slice da' K dc'] 56)); simpa [cCons, HN0.out] using this), HW.out.alloc HW.out.size _, by show _ ≤ _; simp [cCons, HN0.out]; omega⟩
      case round =>
        clear q0 q1 q2 q3
        obtain ⟨j, hj1, hj2, rfl, HR2, HW2, HC2⟩ := hrel
        by_cases hlt2 : j < K
        · obtain ⟨c, hcx⟩ : ∃ c, x.cons[j]? = some c := ⟨_, List.getElem?_eq_getElem (by rw [HKK.out]; exact hlt2)⟩
          obtain ⟨b2, off2, us2, rfl, hb2, hcv, hc2⟩ := HCO.out.elem cnC_len hcx
          obtain ⟨ea, ec, hz8, hargs⟩ := hcv.cn
          obtain rfl := agg_inj hz8
          obtain ⟨va2, vc2, hv4⟩ := own_shape HR2.out.1
          obtain ⟨l1, hl1⟩ : ∃ l1, l0 ++ cCons (x.cons.take j) = l1 := ⟨_, rfl⟩
          have htk := take_snoc' hcx
          have hcs := cCons_snoc (x.cons.take j) c
          have hnx : l0 ++ cCons (x.cons.take (j + 1)) = l1 ++ (if c.tooDeep = true then [c.p] else []) := by rw [htk, hcs, ← hl1, List.append_assoc]
          rw [hl1] at HR2 HC2 hv4
          have HNX := Lib.hid hnx
          obtain ⟨N1, hN1⟩ : ∃ N1, l1.length = N1 := ⟨_, rfl⟩
          have HN1 := Lib.hid hN1
          have hN1k : N1 ≤ k0 + j := by rw [← hN1]; exact HC2.out
          obtain ⟨G, hG⟩ : ∃ G, c.args.length = G := ⟨_, rfl⟩
          rw [hG] at hc2 hcv
          have hV2 := HB0.out.trans (HR2.out.2.mono (Nat.le_of_lt hw1))
          have hb2w : b2 < wr.heap.size := by have := HR2.out.2.size; omega
          have hcc2 : ∀ (m : Nat) (u : Value), ([.string (strB c.s), .int .i64 c.p, .slice ea G ec] : List Value)[m]? = some u → wr.cell? ⟨b2, off2 + (j * 3 + m), none⟩ = some u := fun m u hu => (hV2.cell (p := ⟨b2, off2 + (j * 3 + m), none⟩) hb2).trans (hc2 m u hu)
          have q0 := hcc2 0 _ rfl
          have q1 := hcc2 1 _ rfl
          have q2 := hcc2 2 _ rfl
          rw [← Nat.add_assoc] at q0 q1 q2
          rw [Nat.add_zero] at q0
          have hBw2 : Below w.heap.size w (wr.alloc (.cells #[.string (strB c.s), .int .i64 c.p, .slice ea G ec] 59)) := hV2.alloc hV2.size _
          have HX := Lib.hid (z_contains c.args S ea G ec (wr.alloc (.cells #[.string (strB c.s), .int .i64 c.p, .slice ea G ec] 59)) hG (HTX.out c (List.mem_of_getElem? hcx)) (by have := hargs.under hBw2; rwa [hG] at this ⊢))
          have HBX := Lib.hid (Box.new wr 59 [.string (strB c.s), .int .i64 c.p, .slice ea G ec])
          have HR3 := Lib.hid (HR2.out.under ((Below.refl _ wr).alloc (Nat.le_refl _) (.cells #[.string (strB c.s), .int .i64 c.p, .slice ea G ec] 59)))
          have HW3 := Lib.hid (HW2.out.alloc HW2.out.size (.cells #[.string (strB c.s), .int .i64 c.p, .slice ea G ec] 59))
          rw [show l1.length = N1 from hN1] at hv4
          clear hl1 htk hcs hnx hN1 hG hcc2 hc2 hcv hargs hcx HR2 HW2 HC2 hBw2 hV2
          subst hv4
          cases ht : c.args.any tooB with
          | false =>
            have HTD : Hid (c.tooDeep = false) := ht
            rw [ht] at HX
            clear ht
            go_wp2_with (go_at_call 61; refine HX.out.mono ?_; rintro e w1 ⟨rfl, hb1⟩; have HB1 := Lib.hid hb1; clear hb1)
            go_roundg (K - (j + 1))
            case measure => omega
            case rel => exact ⟨j + 1, by omega, by omega, by go_num, by rw [HNX.out, HTD.out]; exact Lib.hid (by simpa using HR3.out.under HB1.out), HW3.out.trans (HB1.out.mono HW3.out.size), by show _ ≤ _; rw [HNX.out, HTD.out]; simp [HN1.out]; omega⟩
          | true =>
            have HTD : Hid (c.tooDeep = true) := ht
            rw [ht] at HX
            clear ht
            go_wp2_with (first
              | (go_at_call 61; refine HX.out.mono ?_; rintro e w1 ⟨rfl, hb1⟩; have HB1 := Lib.hid hb1; have hbx := HBX.out.below hb1; have hwl := hbx.lt; obtain ⟨_, _, _, _, _, _⟩ := hbx.three; have HR4 := Lib.hid (HR3.out.under hb1); have HW4 := Lib.hid (HW3.out.trans (hb1.mono HW3.out.size)); have hw9 := HR4.out.2.size; clear hb1 hbx)
              | (at_builtin; refine wpList_append_lies _ rfl _ _ 67 rfl w0.heap.size 3 i0 (.int .i64 0) 1 8 Try.underlying67 hi0 hz0 hz1 hz2 rfl (by decide) (.slice va2 N1 vc2) N1 (l1.map (Value.int .i64)) rfl (by have := HR4.out.1.alloc (.cells #[.int .i64 c.p] 3); rwa [HN1.out] at this) ⟨w1.heap.size, 0, none⟩ 1 1 [.int .i64 c.p] rfl rfl (news_at (cs := [.int .i64 c.p]) rfl) (by simp [Value.oneCell']) (by decide) ?c3 ?c4 ?c5 _ rfl ?_))
            case c3 => unfold maxLen; omega
            case c4 => omega
            case c5 => simp; omega
            intro g cap w9 hown9 hgrow hat hlt9
            have HR9 := Lib.hid (HR4.out.push (x := c.p) (g := g) (cap := cap) (by rw [HN1.out]; exact hown9) hgrow)
            have HLO := ownsRow_lo HR4.out.1
            have HW9 : Hid (Below w0.heap.size w0 w9) := (HW4.out.alloc HW4.out.size _).grown hgrow (by have := HW4.out.size; simp; omega) fun q hq => (HLO q hq).1
            clear hgrow hat hlt9 hown9
            go_wp2_with fail
            go_roundg (K - (j + 1))
            case measure => omega
            case rel => exact ⟨j + 1, by omega, by omega, by go_num, by rw [HNX.out, HTD.out]; exact Lib.hid (by have := HR9.out; rw [HN1.out] at this; simpa using this), HW9, by show _ ≤ _; rw [HNX.out, HTD.out]; simp [HN1.out]; omega⟩
        · obtain rfl : j = K := by omega
          have hcc9 : cCons (x.cons.take j) = dCons x := by rw [List.take_of_length_le (by rw [HKK.out]; exact Nat.le_refl _)]; rfl
          rw [hcc9, HDL.out] at HR2 HC2
          rw [HKL.out] at HC2
          clear hcc9
          go_wp2
          go_roundg (L - (i + 1))
          case measure => omega
          case rel => exact ⟨i + 1, by omega, by omega, by go_num, HR2, HW2, HC2⟩
    · obtain rfl : i = L := by omega
      have hT9 : p.datas.take i = p.datas := List.take_of_length_le (by rw [HL.out]; exact Nat.le_refl _)
      rw [hT9] at HR HC
      clear hT9
      obtain ⟨ld, hld⟩ : ∃ ld, p.datas.flatMap dCons = ld := ⟨_, rfl⟩
      rw [hld] at HR HC
      have HLD := Lib.hid hld
      clear hld
      obtain ⟨D, hD⟩ : ∃ D, (p.datas.flatMap Dt.cons).length = D := ⟨_, rfl⟩
      rw [hD] at HC HN
      have hND : D + L' ≤ 200000 := by have := HN.out; rwa [HL'.out] at this
      clear hD
      have hbx := bx.out.below HW.out
      have hwl := hbx.lt
      obtain ⟨_, _, _, _⟩ := hbx.two
      obtain ⟨wo, rfl⟩ : ∃ wo, wo = wr := ⟨wr, rfl⟩
      obtain ⟨va, vc, hv3⟩ := own_shape HR.out.1
      obtain ⟨N0, hN0⟩ : ∃ N0, ld.length = N0 := ⟨_, rfl⟩
      have hll : N0 ≤ D := by rw [← hN0]; exact HC.out
      rw [hN0] at hv3
      have HN0 := Lib.hid hN0
      subst hv3
      clear hbx hN0 HC HW
      go_wp2_with fail
      go_loopg [3, 37] (L') (fun gm lv jv wx => ∃ j : Nat, gm + j ≤ L' ∧ L' ≤ gm + j ∧ jv = .int .i64 (j : Int) ∧ Hid (LR w0 wx lv (ld ++ bTop (p.binds.take j))) ∧ Hid ((ld ++ bTop (p.binds.take j)).length ≤ D + j))
      case atStart => exact ⟨0, by omega, by omega, rfl, Lib.hid (by have := HR.out; simpa [bTop, HN0.out] using this), by show _ ≤ _; simp [bTop, HN0.out]; omega⟩
      case round =>
        obtain ⟨j, hj1, hj2, rfl, HR2, HC2⟩ := hrel
        by_cases hlt2 : j < L'
        · obtain ⟨c, hcx⟩ : ∃ c, p.binds[j]? = some c := ⟨_, List.getElem?_eq_getElem (by rw [HL'.out]; exact hlt2)⟩
          obtain ⟨b2, off2, us2, rfl, hb2, hcv, hc2⟩ := HK'.out.elem bdC_len hcx
          obtain ⟨k, q, n, sb, ea, ea', m, m', ec, ec', hz8, hbody⟩ := hcv.bd
          obtain rfl := agg_inj hz8
          obtain ⟨va2, vc2, hv4⟩ := own_shape HR2.out.1
          obtain ⟨l1, hl1⟩ : ∃ l1, ld ++ bTop (p.binds.take j) = l1 := ⟨_, rfl⟩
          have htk := take_snoc' hcx
          have hcs := bTop_snoc (p.binds.take j) c
          have hnx : ld ++ bTop (p.binds.take (j + 1)) = l1 ++ (if 60 < c.body.deep then [c.p] else []) := by rw [htk, hcs, ← hl1, List.append_assoc]
          rw [hl1] at HR2 HC2 hv4
          obtain ⟨N1, hN1⟩ : ∃ N1, l1.length = N1 := ⟨_, rfl⟩
          have HN1 := Lib.hid hN1
          have hN1k : N1 ≤ D + j := by rw [← hN1]; exact HC2.out
          have hV2 := HB0.out.trans (HR2.out.2.mono (Nat.le_of_lt hw1))
          have hb2w : b2 < wr.heap.size := by have := HR2.out.2.size; omega
          have hcc2 : ∀ (x : Nat) (u : Value), ([.string (strB c.s), .int .i64 c.p, .int .i64 k, .int .i64 q, .string (strB sb), .int .i64 n, .slice ea m ec, .slice ea' m' ec'] : List Value)[x]? = some u → wr.cell? ⟨b2, off2 + (j * 8 + x), none⟩ = some u := fun x u hu => (hV2.cell (p := ⟨b2, off2 + (j * 8 + x), none⟩) hb2).trans (hc2 x u hu)
          have q0 := hcc2 0 _ rfl
          have q1 := hcc2 1 _ rfl
          have q2 := hcc2 2 _ rfl
          have q3 := hcc2 3 _ rfl
          have q4 := hcc2 4 _ rfl
          have q5 := hcc2 5 _ rfl
          have q6 := hcc2 6 _ rfl
          have q7 := hcc2 7 _ rfl
          rw [← Nat.add_assoc] at q0 q1 q2 q3 q4 q5 q6 q7
          rw [Nat.add_zero] at q0
          have hBw2 : Below w.heap.size w (wr.alloc (.cells #[.string (strB c.s), .int .i64 c.p, .int .i64 k, .int .i64 q, .string (strB sb), .int .i64 n, .slice ea m ec, .slice ea' m' ec'] 45)) := hV2.alloc hV2.size _
          have HX := Lib.hid (z_Deep c.body.deep c.body S _ (wr.alloc (.cells #[.string (strB c.s), .int .i64 c.p, .int .i64 k, .int .i64 q, .string (strB sb), .int .i64 n, .slice ea m ec, .slice ea' m' ec'] 45)) (Nat.le_refl _) (HBB.out c (List.mem_of_getElem? hcx)) (hbody.under hBw2))
          obtain ⟨X, hX⟩ : ∃ X, c.body.deep = X := ⟨_, rfl⟩
          rw [hX] at HX hnx
          have HNX := Lib.hid hnx
          have HBX := Lib.hid (Box.new wr 45 [.string (strB c.s), .int .i64 c.p, .int .i64 k, .int .i64 q, .string (strB sb), .int .i64 n, .slice ea m ec, .slice ea' m' ec'])
          have HR3 := Lib.hid (HR2.out.under ((Below.refl _ wr).alloc (Nat.le_refl _) (.cells #[.string (strB c.s), .int .i64 c.p, .int .i64 k, .int .i64 q, .string (strB sb), .int .i64 n, .slice ea m ec, .slice ea' m' ec'] 45)))
          rw [show l1.length = N1 from hN1] at hv4
          clear hl1 htk hcs hnx hN1 hX hcc2 hc2 hcv hbody hcx HR2 HC2 hBw2 hV2
          subst hv4
          by_cases h60 : 60 < X
          · have h61 : (60 : Int) < (X : Int) := by omega
            go_wp2_with (first
              | (go_at_call 63; refine HX.out.mono ?_; rintro e w1 ⟨rfl, hb1⟩; have HB1 := Lib.hid hb1; have hbx := HBX.out.below hb1; have hwl2 := hbx.lt; obtain ⟨_, _, _, _, _, _, _, _⟩ := eight_cells9 hbx; have HR4 := Lib.hid (HR3.out.under hb1); have hw9 := HR4.out.2.size; clear hb1 hbx)
              | (at_builtin; refine wpList_append_lies _ rfl _ _ 67 rfl w0.heap.size 3 i0 (.int .i64 0) 1 8 Try.underlying67 hi0 hz0 hz1 hz2 rfl (by decide) (.slice va2 N1 vc2) N1 (l1.map (Value.int .i64)) rfl (by have := HR4.out.1.alloc (.cells #[.int .i64 c.p] 3); rwa [HN1.out] at this) ⟨w1.heap.size, 0, none⟩ 1 1 [.int .i64 c.p] rfl rfl (news_at (cs := [.int .i64 c.p]) rfl) (by simp [Value.oneCell']) (by decide) ?c3 ?c4 ?c5 _ rfl ?_))
            case c3 => unfold maxLen; omega
            case c4 => omega
            case c5 => simp; omega
            intro g cap w9 hown9 hgrow hat hlt9
            have HR9 := Lib.hid (HR4.out.push (x := c.p) (g := g) (cap := cap) (by rw [HN1.out]; exact hown9) hgrow)
            clear hgrow hat hlt9 hown9
            go_wp2_with fail
            go_roundg (L' - (j + 1))
            case measure => omega
            case rel => exact ⟨j + 1, by omega, by omega, by go_num, by rw [HNX.out, if_pos h60]; exact Lib.hid (by have := HR9.out; rw [HN1.out] at this; simpa using this), by show _ ≤ _; rw [HNX.out, if_pos h60]; simp [HN1.out]; omega⟩
          · have h61 : ¬ (60 : Int) < (X : Int) := by omega
            go_wp2_with (go_at_call 63; refine HX.out.mono ?_; rintro e w1 ⟨rfl, hb1⟩; have HB1 := Lib.hid hb1; clear hb1)
            go_roundg (L' - (j + 1))
            case measure => omega
            case rel => exact ⟨j + 1, by omega, by omega, by go_num, by rw [HNX.out, if_neg h60]; exact Lib.hid (by simpa using HR3.out.under HB1.out), by show _ ≤ _; rw [HNX.out, if_neg h60]; simp [HN1.out]; omega⟩
        · obtain rfl : j = L' := by omega
          have hT8 : p.binds.take j = p.binds := List.take_of_length_le (by rw [HL'.out]; exact Nat.le_refl _)
          rw [hT8] at HR2 HC2
          go_wp2
          go_ret
          exact ⟨_, w0, rfl, Nat.le_of_lt hw1, HB0.out, by rw [tooDeepL_eq, HLD.out]; exact HR2.out⟩

end Go.Proofs.Ytccilgemfkdmkaa

namespace Go.Proofs.Ytccilgemfkdmkaa
open Go
set_option linter.unusedVariables false
set_option linter.unusedSimpArgs false

/-- How many operations have not come up. -/
def lacks (listed : Array Bool) : Nat := listed.toList.count false

theorem lacks_set {listed : Array Bool} {i : Nat} (h : listed.getD i true = false) : lacks (listed.setIfInBounds i true) + 1 = lacks listed := by
  have hi : i < listed.size := by
    rcases Nat.lt_or_ge i listed.size with h' | h'
    · exact h'
    · simp [Array.getElem?_eq_none h'] at h
  have hv : listed[i] = false := by simpa [hi] using h
  unfold lacks
  have h0 : listed.toList[i]'(by simpa using hi) = false := by simpa using hv
  have hpos : 0 < listed.toList.count false := List.count_pos_iff.2 (h0 ▸ List.getElem_mem _)
  rw [Array.toList_setIfInBounds, List.count_set (by simpa using hi), h0]
  generalize listed.toList.count false = n at hpos ⊢
  have e1 : (false == false) = true := rfl
  have e2 : (true == false) = false := rfl
  rw [e1, e2, if_pos rfl, if_neg (by simp)]
  omega

section
variable {P : Program} {ops : Array Oper} {Q : Exit → Act → World → Prop} {md : Region.Mode}

/-- An invariant that each operation that may come up keeps, whatever came up before it. -/
theorem wpAny_inv (I : Array Bool → Act → World → Prop)
    (hend : ∀ listed a w, I listed a w → Region.ready md ops listed = [] → Q .normal a w)
    (hstep : ∀ listed a w, I listed a w → ∀ i ∈ Region.ready md ops listed, wpOp P ops Q i (I (listed.setIfInBounds i true)) a w) :
    ∀ (fuel : Nat) (listed : Array Bool) (a : Act) (w : World), lacks listed ≤ fuel → I listed a w → wpAny P md ops Q fuel listed a w := by
  intro fuel
  induction fuel with
  | zero =>
    intro listed a w hl h
    have hr : Region.ready md ops listed = [] := by
      refine List.eq_nil_iff_forall_not_mem.2 fun i hi => ?_
      have h1 := lacks_set (mem_ready.1 hi).1
      omega
    exact ⟨hr, hend _ _ _ h hr⟩
  | succ fuel ih =>
    intro listed a w hl h
    refine ⟨hend _ _ _ h, fun i hi => wpOp_mono (fun a' w' h' => ih _ a' w' ?_ h') (hstep _ _ _ h i hi)⟩
    have h1 := lacks_set (mem_ready.1 hi).1
    omega

/-- A drawn region, by such an invariant. -/
theorem wp_region_inv {id : Nat} {a : Act} {w : World} (hm : P.follows .mixedOrders = true) (I : Array Bool → Act → World → Prop)
    (h0 : I (Array.replicate ops.size false) a { w with drawn := w.drawn + 1 })
    (hstep : ∀ listed a w, I listed a w → ∀ i ∈ Region.ready .any ops listed, wpOp P ops Q i (I (listed.setIfInBounds i true)) a w)
    (hend : ∀ listed a w, I listed a w → Region.ready .any ops listed = [] → Q .normal a w) :
    (Code.region id ops true).wp P Q a w :=
  wp_region_any hm (wpAny_inv I hend hstep _ _ _ _ (by simp [lacks]) h0)
end

end Go.Proofs.Ytccilgemfkdmkaa

namespace Go.Proofs.Ytccilgemfkdmkaa
open Go.RowKit Go.Maps
set_option linter.unusedVariables false
set_option linter.unusedSimpArgs false

section
variable {P : Program} {w : World} {ops : Array Oper} {o : Oper} {a : Act} {K : Act → World → Prop} {Q : Exit → Act → World → Prop} {i : Nat}
theorem wpOp_of (hi : ops[i]? = some o) (hg : o.guard = none) (h : Oper.wp P o a w K Q) : wpOp P ops Q i K a w := by
  unfold wpOp
  simp only [hi]
  rw [if_pos (by simp [Region.wanted, hg])]
  exact .inl h
theorem wp_insert_own (m x v : Operand) (t : TypeId) (hop : o.op = Op.insert t m x v)
    (k e : TypeId) (KK : Keyed P k) (ht : P.underlying t = some (.map k e)) (R : Value → Option (DataW Unit × List MemPlace)) (b n : Nat) (D : DataW Unit)
    (hm : a.eval m = .map (some b)) (hown : w.ownsMap P k R b n D) (hn : n < maxLen) (key val : Value) (kl : Lit) (hx : a.eval x = key) (hv : a.eval v = val) (hkey : keyOf P k key = some kl)
    (d : DataW Unit) (ps : List MemPlace) (hval : R val = some (d, ps))
    (h : ∀ w', w'.ownsMap P k R b (n + 1) (D.put kl d) → w.grownBy w' (some b) → w'.heap.size = w.heap.size → K (a.put o.dst undef) w') : Oper.wp P o a w K Q := by
  obtain ⟨w', hrun, r1, r2⟩ := hown.store KK ht hn hkey hval
  unfold Oper.wp
  simp [execOp, hop, hm, hx, hv, hrun, Result.andThen]
  refine h w' r1 r2.grown ?_
  obtain ⟨_, _, _, _, _, rfl⟩ := r2
  simp [ChangeMaps.setBlock]
theorem wp_call_const (f : FuncId) (fn : Func) (hf : P.funcs[f]? = some fn) (hnm : fn.name ≠ "runtime.NumGoroutine") (hbd : fn.body ≠ none) (c : Value) (ts : Array TypeId) (hop : o.op = Op.call { callee := .value (.func f), args := #[.const c], argTypes := ts }) (v : Value) (B : World → Prop)
    (hc : Calls P f #[c] w fun e w' => e = .returned v ∧ B w') (h : ∀ w', B w' → K (a.put o.dst v) w') : Oper.wp P o a w K Q := by
  unfold Oper.wp
  have e : (execOp a.eval o).run P w = .ok (.enter f #[c]) w := by
    have e1 : a.eval (.func f) = .func (.func f) #[] #[] := rfl
    have e2 : a.eval (.const c) = c := rfl
    simp [execOp, hop, Result.andThen, resolve, invoke, Deferred.ofValue, callFunc, program, e1, e2, show Sem.run P (Sem.program Sem.pure) w = .ok P w from rfl, hf, hnm, hbd]
  rw [e]
  exact Calls.mono hc (by rintro e w1 ⟨rfl, hb⟩; exact h _ hb)
theorem wp_makeMap (t : TypeId) (hop : o.op = Op.makeMap t none) (h : K (a.put o.dst (.map (some w.heap.size))) (w.alloc (.map #[] 0))) : Oper.wp P o a w K Q := by
  unfold Oper.wp
  simp [execOp, hop, Result.andThen, run_makeMap]
  exact h
theorem wp_move (x : Operand) (hop : o.op = Op.move x ∨ o.op = Op.assign x) (h : K (a.put o.dst (a.eval x)) w) : Oper.wp P o a w K Q := by
  unfold Oper.wp
  rcases hop with hop | hop <;> simp [execOp, hop, Result.andThen] <;> exact h
end

def bK (n : Nat) : Srt := [sName, sCon, sInt, sW tTrue, sW tFalse, sS tBack, sW tLet, sS tLpar, sW tIf, sW tCase].getD n sName
def bV (n : Nat) : Nat := [1, 2, 3, 4, 4, 6, 7, 8, 9, 10].getD n 0
theorem bK_inj : ∀ m < 10, ∀ n < 10, bK m = bK n → m = n := by decide
theorem bK_beg : ∀ n < 10, beg (bK n) = bV n := by decide
theorem bK_fit : ∀ n < 10, (bK n).fit := by unfold Srt.fit; decide
theorem beg_none {s : Srt} (h : ∀ n < 10, s ≠ bK n) : beg s = 0 := by
  have h0 : s ≠ sName := h 0 (by decide)
  have h1 : s ≠ sCon := h 1 (by decide)
  have h2 : s ≠ sInt := h 2 (by decide)
  have h3 : s ≠ sW tTrue := h 3 (by decide)
  have h4 : s ≠ sW tFalse := h 4 (by decide)
  have h5 : s ≠ sS tBack := h 5 (by decide)
  have h6 : s ≠ sW tLet := h 6 (by decide)
  have h7 : s ≠ sS tLpar := h 7 (by decide)
  have h8 : s ≠ sW tIf := h 8 (by decide)
  have h9 : s ≠ sW tCase := h 9 (by decide)
  unfold beg
  rw [if_neg h0, if_neg h1, if_neg h2, if_neg h3, if_neg h4, if_neg h5, if_neg h6, if_neg h7, if_neg h8, if_neg h9]

structure BegI (w0 : World) (listed : Array Bool) (a : Act) (w : World) : Prop where
  defers : a.defers = []
  size : a.tmps.size = 13
  lsize : listed.size = 23
  below : Below w0.heap.size w0 w
  called : ∀ n < 10, listed.getD (2 * n + 1) false = true → a.tmps[n + 2]? = some (srtV (bK n))
  made : ∀ n < 10, listed.getD (2 * n + 2) false = true → listed.getD 0 false = true
  map : listed.getD 0 false = true → ∃ (M m : Nat) (D : DataW Unit), a.tmps[1]? = some (.map (some M)) ∧ w0.heap.size ≤ M ∧ m + lacks listed ≤ 23 ∧ w.ownsMap Try.prog 117 (plainElem Try.prog 3) M m D ∧ IsMap D ∧
    (∀ n < 10, ∀ kl, listed.getD (2 * n + 2) false = true → keyOf Try.prog 117 (srtV (bK n)) = some kl → D.atKey kl (.lit (.int .i64 0)) = .lit (.int .i64 (bV n : Nat))) ∧
    ∀ s kl, s.fit → (∀ n < 10, s = bK n → listed.getD (2 * n + 2) false = false) → keyOf Try.prog 117 (srtV s) = some kl → D.atKey kl (.lit (.int .i64 0)) = .lit (.int .i64 0)
  moved : listed.getD 21 false = true → listed.getD 0 false = true ∧ a.tmps[12]? = a.tmps[1]?
  told : listed.getD 22 false = true → listed.getD 0 false = true ∧ a.tmps[0]? = a.tmps[1]?

theorem lacks_le (listed : Array Bool) : lacks listed ≤ listed.size := by
  unfold lacks
  have := List.count_le_length (a := false) (l := listed.toList)
  simpa using this
theorem put_same {a : Act} {d : Nat} {v : Value} (h : d < a.tmps.size) : (a.put (some d) v).tmps[d]? = some v := by
  simp [Act.put, h]
theorem put_other {a : Act} {d k : Nat} {v : Value} (h : d ≠ k) : (a.put (some d) v).tmps[k]? = a.tmps[k]? := by
  simp [Act.put, Array.getElem?_setIfInBounds_ne h]
theorem put_size {a : Act} {d : Option Nat} {v : Value} : (a.put d v).tmps.size = a.tmps.size := by
  cases d <;> simp [Act.put]
theorem put_defers {a : Act} {d : Option Nat} {v : Value} : (a.put d v).defers = a.defers := by
  cases d <;> rfl
theorem set_same {l : Array Bool} {i : Nat} (h : i < l.size) (d : Bool) : (l.setIfInBounds i true).getD i d = true := by
  simp [h]
theorem eval_of {a : Act} {t : Nat} {v : Value} (h : a.tmps[t]? = some v) : a.eval (.tmp t) = v := by
  simp [Act.eval, h]
theorem all_listed {md : Region.Mode} {ops : Array Oper} {listed : Array Bool} (hwf : ((List.range ops.size).all fun i => ((ops[i]?).map (·.after.all fun e => decide (e.on < i))).getD true) = true) (hs : listed.size = ops.size) (hr : Region.ready md ops listed = []) : ∀ i, i < ops.size → listed.getD i false = true := by
  intro i
  induction i using Nat.strongRecOn with
  | _ i ih =>
    intro hi
    cases hc : listed.getD i false with
    | true => rfl
    | false =>
      exfalso
      have : i ∈ Region.ready md ops listed := mem_ready.2 ⟨getD_in (by omega) hc, ops[i], Array.getElem?_eq_getElem hi, fun e he _ => by
        have h1 := List.all_eq_true.1 hwf i (List.mem_range.2 hi)
        rw [Array.getElem?_eq_getElem hi] at h1
        simp only [Option.map_some, Option.getD_some] at h1
        have h2 := Array.all_eq_true'.1 h1 e he
        have h3 := of_decide_eq_true h2
        exact ih e.on h3 (by omega)⟩
      rw [hr] at this
      cases this

theorem BegI.call {w0 : World} {listed : Array Bool} {a : Act} {w w' : World} (h : BegI w0 listed a w) {n : Nat} (hn : n < 10) (hun : listed.getD (2 * n + 1) true = false) (hb : Below w.heap.size w w') : BegI w0 (listed.setIfInBounds (2 * n + 1) true) (a.put (some (n + 2)) (srtV (bK n))) w' where
  defers := put_defers.trans h.defers
  size := put_size.trans h.size
  lsize := by simp [h.lsize]
  below := h.below.trans (hb.mono h.below.size)
  called := fun m hm hl => by
    by_cases e : m = n
    · subst e; exact put_same (by rw [h.size]; omega)
    · rw [put_other (by omega)]; exact h.called m hm (by rwa [getD_set_ne _ (by omega)] at hl)
  made := fun m hm hl => by
    rw [getD_set_ne _ (by omega)] at hl ⊢; exact h.made m hm hl
  map := fun hl => by
    rw [getD_set_ne _ (by omega)] at hl
    obtain ⟨M, m, D, h1, h2, h3, h4, h5, h6, h7⟩ := h.map hl
    have hlk := lacks_set hun
    exact ⟨M, m, D, by rw [put_other (by omega)]; exact h1, h2, by omega, ownsMap_agree h4 (hb.block _ (ownsMap_lt h4)), h5, fun k hk kl hl2 => h6 k hk kl (by rwa [getD_set_ne _ (by omega)] at hl2), fun s kl hs hf => h7 s kl hs fun k hk e => by have := hf k hk e; rwa [getD_set_ne _ (by omega)] at this⟩
  moved := fun hl => by
    rw [getD_set_ne _ (by omega)] at hl ⊢
    rw [put_other (by omega), put_other (by omega)]; exact h.moved hl
  told := fun hl => by
    rw [getD_set_ne _ (by omega)] at hl ⊢
    rw [put_other (by omega), put_other (by omega)]; exact h.told hl

theorem BegI.make {w0 : World} {listed : Array Bool} {a : Act} {w : World} (h : BegI w0 listed a w) (hun : listed.getD 0 true = false) : BegI w0 (listed.setIfInBounds 0 true) (a.put (some 1) (.map (some w.heap.size))) (w.alloc (.map #[] 0)) := by
  have hf := getD_both hun
  exact {
  defers := put_defers.trans h.defers
  size := put_size.trans h.size
  lsize := by simp [h.lsize]
  below := h.below.alloc h.below.size _
  called := fun m hm hl => by
    rw [put_other (by omega)]; exact h.called m hm (by rwa [getD_set_ne _ (by omega)] at hl)
  made := fun m hm hl => set_same (by rw [h.lsize]; omega) _
  map := fun _ => by
    have h1 := lacks_le (listed.setIfInBounds 0 true)
    have h2 : (listed.setIfInBounds 0 true).size = 23 := by simp [h.lsize]
    refine ⟨w.heap.size, 0, .map [], put_same (by rw [h.size]; omega), h.below.size, by omega, World.ownsMap_made _ _ _ _, ⟨_, rfl⟩, fun k hk kl hl => ?_, fun s kl _ _ _ => rfl⟩
    rw [getD_set_ne _ (by omega)] at hl
    have := h.made k hk hl
    rw [hf] at this; cases this
  moved := fun hl => by
    rw [getD_set_ne _ (by omega)] at hl
    have := (h.moved hl).1
    rw [hf] at this; cases this
  told := fun hl => by
    rw [getD_set_ne _ (by omega)] at hl
    have := (h.told hl).1
    rw [hf] at this; cases this }

set_option maxRecDepth 100000 in
theorem BegI.insert {w0 : World} {listed : Array Bool} {a : Act} {w w' : World} {M m : Nat} {D : DataW Unit} {kl : Lit} (h : BegI w0 listed a w) {n : Nat} (hn : n < 10) (hun : listed.getD (2 * n + 2) true = false) (h0 : listed.getD 0 false = true)
    (h1 : a.tmps[1]? = some (.map (some M))) (h2 : w0.heap.size ≤ M) (h3 : m + lacks listed ≤ 23) (h5 : IsMap D)
    (h6 : ∀ n < 10, ∀ kl, listed.getD (2 * n + 2) false = true → keyOf Try.prog 117 (srtV (bK n)) = some kl → D.atKey kl (.lit (.int .i64 0)) = .lit (.int .i64 (bV n : Nat)))
    (h7 : ∀ s kl, s.fit → (∀ n < 10, s = bK n → listed.getD (2 * n + 2) false = false) → keyOf Try.prog 117 (srtV s) = some kl → D.atKey kl (.lit (.int .i64 0)) = .lit (.int .i64 0))
    (hkl : keyOf Try.prog 117 (srtV (bK n)) = some kl) (ho : w'.ownsMap Try.prog 117 (plainElem Try.prog 3) M (m + 1) (D.put kl (.lit (.int .i64 (bV n : Nat))))) (hg : w.grownBy w' (some M)) : BegI w0 (listed.setIfInBounds (2 * n + 2) true) (a.put none undef) w' where
  defers := put_defers.trans h.defers
  size := put_size.trans h.size
  lsize := by simp [h.lsize]
  below := h.below.grown hg h.below.size (fun q e => by cases e; exact h2)
  called := fun k hk hl => h.called k hk (by rwa [getD_set_ne _ (by omega)] at hl)
  made := fun k hk hl => by rw [getD_set_ne _ (by omega)]; exact h0
  map := fun _ => by
    have hlk := lacks_set hun
    refine ⟨M, m + 1, _, h1, h2, by omega, ho, h5.put _ _, fun k hk kl' hl hk' => ?_, fun s kl' hs hf hk' => ?_⟩
    · by_cases e : k = n
      · subst e
        rw [hkl] at hk'
        obtain rfl := Option.some.inj hk'
        exact atKey_put_same h5 (Try.sortKeyed.key hkl) _ _
      · have hne : kl' ≠ kl := fun q => by
          subst q
          exact e (bK_inj k hk n hn (srtV_inj (Try.sortKeyed.inj hk' hkl)))
        rw [atKey_put_other hne]
        have hl2 : listed.getD (2 * k + 2) false = true := by
          rw [getD_set_ne _ (by omega)] at hl
          exact hl
        exact h6 k hk kl' hl2 hk'
    · have hsn : s ≠ bK n := fun e => by
        have := hf n hn e
        rw [set_same (by rw [h.lsize]; omega)] at this
        cases this
      have hne : kl' ≠ kl := fun q => by
        subst q
        exact hsn (srtV_inj (Try.sortKeyed.inj hk' hkl))
      rw [atKey_put_other hne]
      refine h7 s kl' hs (fun k hk e => ?_) hk'
      have := hf k hk e
      by_cases e2 : k = n
      · subst e2; exact absurd e hsn
      · rwa [getD_set_ne _ (by omega)] at this
  moved := fun hl => by
    rw [getD_set_ne _ (by omega)] at hl ⊢
    exact h.moved hl
  told := fun hl => by
    rw [getD_set_ne _ (by omega)] at hl ⊢
    exact h.told hl
theorem BegI.move {w0 : World} {listed : Array Bool} {a : Act} {w : World} {v : Value} (h : BegI w0 listed a w) (hun : listed.getD 21 true = false) (h0 : listed.getD 0 false = true) (hv : a.tmps[1]? = some v) : BegI w0 (listed.setIfInBounds 21 true) (a.put (some 12) v) w where
  defers := put_defers.trans h.defers
  size := put_size.trans h.size
  lsize := by simp [h.lsize]
  below := h.below
  called := fun m hm hl => by
    rw [put_other (by omega)]; exact h.called m hm (by rwa [getD_set_ne _ (by omega)] at hl)
  made := fun m hm hl => by
    rw [getD_set_ne _ (by omega)] at hl ⊢; exact h.made m hm hl
  map := fun hl => by
    rw [getD_set_ne _ (by omega)] at hl
    obtain ⟨M, m, D, h1, h2, h3, h4, h5, h6, h7⟩ := h.map hl
    have hlk := lacks_set hun
    exact ⟨M, m, D, by rw [put_other (by omega)]; exact h1, h2, by omega, h4, h5, fun k hk kl hl2 => h6 k hk kl (by rwa [getD_set_ne _ (by omega)] at hl2), fun s kl hs hf => h7 s kl hs fun k hk e => by have := hf k hk e; rwa [getD_set_ne _ (by omega)] at this⟩
  moved := fun _ => by
    rw [getD_set_ne _ (by omega), put_same (by rw [h.size]; omega), put_other (by omega), hv]; exact ⟨h0, rfl⟩
  told := fun hl => by
    rw [getD_set_ne _ (by omega)] at hl ⊢
    rw [put_other (by omega), put_other (by omega)]; exact h.told hl
theorem BegI.tell {w0 : World} {listed : Array Bool} {a : Act} {w : World} {v : Value} (h : BegI w0 listed a w) (hun : listed.getD 22 true = false) (h0 : listed.getD 0 false = true) (hv : a.tmps[1]? = some v) : BegI w0 (listed.setIfInBounds 22 true) (a.put (some 0) v) w where
  defers := put_defers.trans h.defers
  size := put_size.trans h.size
  lsize := by simp [h.lsize]
  below := h.below
  called := fun m hm hl => by
    rw [put_other (by omega)]; exact h.called m hm (by rwa [getD_set_ne _ (by omega)] at hl)
  made := fun m hm hl => by
    rw [getD_set_ne _ (by omega)] at hl ⊢; exact h.made m hm hl
  map := fun hl => by
    rw [getD_set_ne _ (by omega)] at hl
    obtain ⟨M, m, D, h1, h2, h3, h4, h5, h6, h7⟩ := h.map hl
    have hlk := lacks_set hun
    exact ⟨M, m, D, by rw [put_other (by omega)]; exact h1, h2, by omega, h4, h5, fun k hk kl hl2 => h6 k hk kl (by rwa [getD_set_ne _ (by omega)] at hl2), fun s kl hs hf => h7 s kl hs fun k hk e => by have := hf k hk e; rwa [getD_set_ne _ (by omega)] at this⟩
  moved := fun hl => by
    rw [getD_set_ne _ (by omega)] at hl ⊢
    rw [put_other (by omega), put_other (by omega)]; exact h.moved hl
  told := fun _ => by
    rw [getD_set_ne _ (by omega), put_same (by rw [h.size]; omega), put_other (by omega), hv]; exact ⟨h0, rfl⟩

set_option maxRecDepth 100000 in
set_option maxHeartbeats 4000000 in
theorem z_begins (w : World) : Calls Try.prog 25 #[] w fun e w' => ∃ M m D, e = .returned (.map (some M)) ∧ w.heap.size ≤ M ∧ w'.ownsMap Try.prog 117 (plainElem Try.prog 3) M m D ∧ BInv D ∧ Below w.heap.size w w' := by
  go_enter Try.func25, Try.ntmps25
  go_wp2_with fail
  rename_i K9 hK9
  refine wp_region_inv (by rfl) (BegI w) ?_ ?_ ?_
  · exact ⟨rfl, rfl, by simp, (Below.refl _ w).drew, fun n hn h => absurd h (by rw [getD_replicate_false]; simp), fun n hn h => absurd h (by rw [getD_replicate_false]; simp), fun h => absurd h (by rw [getD_replicate_false]; simp), fun h => absurd h (by rw [getD_replicate_false]; simp), fun h => absurd h (by rw [getD_replicate_false]; simp)⟩
  · intro listed a w1 h i hi
    have hlk := lacks_set (mem_ready.1 hi).1
    obtain ⟨hun, o, ho, hall⟩ := mem_ready.1 hi
    obtain ⟨hlt, rfl⟩ := Array.getElem?_eq_some_iff.1 ho
    have hlt : i < 23 := hlt
    have hq : (i = 0 ∨ i = 21 ∨ i = 22 ∨ (∃ n, n < 10 ∧ i = 2 * n + 1) ∨ ∃ n, n < 10 ∧ i = 2 * n + 2) := by
      by_cases h1 : i = 0
      · exact .inl h1
      by_cases h2 : i = 21
      · exact .inr (.inl h2)
      by_cases h3 : i = 22
      · exact .inr (.inr (.inl h3))
      by_cases h4 : i % 2 = 1
      · exact .inr (.inr (.inr (.inl ⟨i / 2, by omega, by omega⟩)))
      · exact .inr (.inr (.inr (.inr ⟨i / 2 - 1, by omega, by omega⟩)))
    rcases hq with rfl | rfl | rfl | ⟨n, hn, rfl⟩ | ⟨n, hn, rfl⟩
    · exact wpOp_of ho rfl (wp_makeMap _ rfl (h.make hun))
    · have h0 := hall ⟨0, .data⟩ (by simp) rfl
      obtain ⟨M, m, D, h1, _⟩ := h.map h0
      exact wpOp_of ho rfl (wp_move _ (.inl rfl) (by rw [eval_of h1]; exact h.move hun h0 h1))
    · have h21 := hall ⟨21, .data⟩ (by simp) rfl
      obtain ⟨h0, hm⟩ := h.moved h21
      obtain ⟨M, m, D, h1, _⟩ := h.map h0
      exact wpOp_of ho rfl (wp_move _ (.inr rfl) (by rw [eval_of (hm.trans h1)]; exact h.tell hun h0 h1))
    · have hq : n = 0 ∨ n = 1 ∨ n = 2 ∨ n = 3 ∨ n = 4 ∨ n = 5 ∨ n = 6 ∨ n = 7 ∨ n = 8 ∨ n = 9 := by omega
      rcases hq with rfl | rfl | rfl | rfl | rfl | rfl | rfl | rfl | rfl | rfl
      · exact wpOp_of ho rfl (wp_call_const _ _ Try.func54 (by decide) (by intro hh; cases hh) _ _ rfl (srtV (bK 0)) _ (z_some _ w1) (fun w' hb => h.call (n := 0) hn hun hb))
      · exact wpOp_of ho rfl (wp_call_const _ _ Try.func54 (by decide) (by intro hh; cases hh) _ _ rfl (srtV (bK 1)) _ (z_some _ w1) (fun w' hb => h.call (n := 1) hn hun hb))
      · exact wpOp_of ho rfl (wp_call_const _ _ Try.func54 (by decide) (by intro hh; cases hh) _ _ rfl (srtV (bK 2)) _ (z_some _ w1) (fun w' hb => h.call (n := 2) hn hun hb))
      · exact wpOp_of ho rfl (wp_call_const _ _ Try.func55 (by decide) (by intro hh; cases hh) _ _ rfl (srtV (bK 3)) _ (z_word _ w1) (fun w' hb => h.call (n := 3) hn hun hb))
      · exact wpOp_of ho rfl (wp_call_const _ _ Try.func55 (by decide) (by intro hh; cases hh) _ _ rfl (srtV (bK 4)) _ (z_word _ w1) (fun w' hb => h.call (n := 4) hn hun hb))
      · exact wpOp_of ho rfl (wp_call_const _ _ Try.func56 (by decide) (by intro hh; cases hh) _ _ rfl (srtV (bK 5)) _ (z_sign _ w1) (fun w' hb => h.call (n := 5) hn hun hb))
      · exact wpOp_of ho rfl (wp_call_const _ _ Try.func55 (by decide) (by intro hh; cases hh) _ _ rfl (srtV (bK 6)) _ (z_word _ w1) (fun w' hb => h.call (n := 6) hn hun hb))
      · exact wpOp_of ho rfl (wp_call_const _ _ Try.func56 (by decide) (by intro hh; cases hh) _ _ rfl (srtV (bK 7)) _ (z_sign _ w1) (fun w' hb => h.call (n := 7) hn hun hb))
      · exact wpOp_of ho rfl (wp_call_const _ _ Try.func55 (by decide) (by intro hh; cases hh) _ _ rfl (srtV (bK 8)) _ (z_word _ w1) (fun w' hb => h.call (n := 8) hn hun hb))
      · exact wpOp_of ho rfl (wp_call_const _ _ Try.func55 (by decide) (by intro hh; cases hh) _ _ rfl (srtV (bK 9)) _ (z_word _ w1) (fun w' hb => h.call (n := 9) hn hun hb))
    · have hq : n = 0 ∨ n = 1 ∨ n = 2 ∨ n = 3 ∨ n = 4 ∨ n = 5 ∨ n = 6 ∨ n = 7 ∨ n = 8 ∨ n = 9 := by omega
      rcases hq with rfl | rfl | rfl | rfl | rfl | rfl | rfl | rfl | rfl | rfl
      · have h0 := hall ⟨0, .data⟩ (by simp) rfl
        have hc := h.called 0 (by decide) (hall ⟨1, .data⟩ (by simp) rfl)
        obtain ⟨M, m, D, h1, h2, h3, h4, h5, h6, h7⟩ := h.map h0
        obtain ⟨kl, hkl⟩ := srt_key (bK_fit 0 (by decide))
        exact wpOp_of ho rfl (wp_insert_own _ _ _ _ rfl 117 3 Try.sortKeyed rfl _ M m D (eval_of h1) h4 (by unfold maxLen; omega) _ _ kl (eval_of hc) rfl hkl _ _ (plainElem_int Try.underlying3 (WalkArith.wf_i64 (by decide))) (fun w' ho' hg hsz => h.insert (n := 0) hn hun h0 h1 h2 h3 h5 h6 h7 hkl ho' hg))
      · have h0 := hall ⟨0, .data⟩ (by simp) rfl
        have hc := h.called 1 (by decide) (hall ⟨3, .data⟩ (by simp) rfl)
        obtain ⟨M, m, D, h1, h2, h3, h4, h5, h6, h7⟩ := h.map h0
        obtain ⟨kl, hkl⟩ := srt_key (bK_fit 1 (by decide))
        exact wpOp_of ho rfl (wp_insert_own _ _ _ _ rfl 117 3 Try.sortKeyed rfl _ M m D (eval_of h1) h4 (by unfold maxLen; omega) _ _ kl (eval_of hc) rfl hkl _ _ (plainElem_int Try.underlying3 (WalkArith.wf_i64 (by decide))) (fun w' ho' hg hsz => h.insert (n := 1) hn hun h0 h1 h2 h3 h5 h6 h7 hkl ho' hg))
      · have h0 := hall ⟨0, .data⟩ (by simp) rfl
        have hc := h.called 2 (by decide) (hall ⟨5, .data⟩ (by simp) rfl)
        obtain ⟨M, m, D, h1, h2, h3, h4, h5, h6, h7⟩ := h.map h0
        obtain ⟨kl, hkl⟩ := srt_key (bK_fit 2 (by decide))
        exact wpOp_of ho rfl (wp_insert_own _ _ _ _ rfl 117 3 Try.sortKeyed rfl _ M m D (eval_of h1) h4 (by unfold maxLen; omega) _ _ kl (eval_of hc) rfl hkl _ _ (plainElem_int Try.underlying3 (WalkArith.wf_i64 (by decide))) (fun w' ho' hg hsz => h.insert (n := 2) hn hun h0 h1 h2 h3 h5 h6 h7 hkl ho' hg))
      · have h0 := hall ⟨0, .data⟩ (by simp) rfl
        have hc := h.called 3 (by decide) (hall ⟨7, .data⟩ (by simp) rfl)
        obtain ⟨M, m, D, h1, h2, h3, h4, h5, h6, h7⟩ := h.map h0
        obtain ⟨kl, hkl⟩ := srt_key (bK_fit 3 (by decide))
        exact wpOp_of ho rfl (wp_insert_own _ _ _ _ rfl 117 3 Try.sortKeyed rfl _ M m D (eval_of h1) h4 (by unfold maxLen; omega) _ _ kl (eval_of hc) rfl hkl _ _ (plainElem_int Try.underlying3 (WalkArith.wf_i64 (by decide))) (fun w' ho' hg hsz => h.insert (n := 3) hn hun h0 h1 h2 h3 h5 h6 h7 hkl ho' hg))
      · have h0 := hall ⟨0, .data⟩ (by simp) rfl
        have hc := h.called 4 (by decide) (hall ⟨9, .data⟩ (by simp) rfl)
        obtain ⟨M, m, D, h1, h2, h3, h4, h5, h6, h7⟩ := h.map h0
        obtain ⟨kl, hkl⟩ := srt_key (bK_fit 4 (by decide))
        exact wpOp_of ho rfl (wp_insert_own _ _ _ _ rfl 117 3 Try.sortKeyed rfl _ M m D (eval_of h1) h4 (by unfold maxLen; omega) _ _ kl (eval_of hc) rfl hkl _ _ (plainElem_int Try.underlying3 (WalkArith.wf_i64 (by decide))) (fun w' ho' hg hsz => h.insert (n := 4) hn hun h0 h1 h2 h3 h5 h6 h7 hkl ho' hg))
      · have h0 := hall ⟨0, .data⟩ (by simp) rfl
        have hc := h.called 5 (by decide) (hall ⟨11, .data⟩ (by simp) rfl)
        obtain ⟨M, m, D, h1, h2, h3, h4, h5, h6, h7⟩ := h.map h0
        obtain ⟨kl, hkl⟩ := srt_key (bK_fit 5 (by decide))
        exact wpOp_of ho rfl (wp_insert_own _ _ _ _ rfl 117 3 Try.sortKeyed rfl _ M m D (eval_of h1) h4 (by unfold maxLen; omega) _ _ kl (eval_of hc) rfl hkl _ _ (plainElem_int Try.underlying3 (WalkArith.wf_i64 (by decide))) (fun w' ho' hg hsz => h.insert (n := 5) hn hun h0 h1 h2 h3 h5 h6 h7 hkl ho' hg))
      · have h0 := hall ⟨0, .data⟩ (by simp) rfl
        have hc := h.called 6 (by decide) (hall ⟨13, .data⟩ (by simp) rfl)
        obtain ⟨M, m, D, h1, h2, h3, h4, h5, h6, h7⟩ := h.map h0
        obtain ⟨kl, hkl⟩ := srt_key (bK_fit 6 (by decide))
        exact wpOp_of ho rfl (wp_insert_own _ _ _ _ rfl 117 3 Try.sortKeyed rfl _ M m D (eval_of h1) h4 (by unfold maxLen; omega) _ _ kl (eval_of hc) rfl hkl _ _ (plainElem_int Try.underlying3 (WalkArith.wf_i64 (by decide))) (fun w' ho' hg hsz => h.insert (n := 6) hn hun h0 h1 h2 h3 h5 h6 h7 hkl ho' hg))
      · have h0 := hall ⟨0, .data⟩ (by simp) rfl
        have hc := h.called 7 (by decide) (hall ⟨15, .data⟩ (by simp) rfl)
        obtain ⟨M, m, D, h1, h2, h3, h4, h5, h6, h7⟩ := h.map h0
        obtain ⟨kl, hkl⟩ := srt_key (bK_fit 7 (by decide))
        exact wpOp_of ho rfl (wp_insert_own _ _ _ _ rfl 117 3 Try.sortKeyed rfl _ M m D (eval_of h1) h4 (by unfold maxLen; omega) _ _ kl (eval_of hc) rfl hkl _ _ (plainElem_int Try.underlying3 (WalkArith.wf_i64 (by decide))) (fun w' ho' hg hsz => h.insert (n := 7) hn hun h0 h1 h2 h3 h5 h6 h7 hkl ho' hg))
      · have h0 := hall ⟨0, .data⟩ (by simp) rfl
        have hc := h.called 8 (by decide) (hall ⟨17, .data⟩ (by simp) rfl)
        obtain ⟨M, m, D, h1, h2, h3, h4, h5, h6, h7⟩ := h.map h0
        obtain ⟨kl, hkl⟩ := srt_key (bK_fit 8 (by decide))
        exact wpOp_of ho rfl (wp_insert_own _ _ _ _ rfl 117 3 Try.sortKeyed rfl _ M m D (eval_of h1) h4 (by unfold maxLen; omega) _ _ kl (eval_of hc) rfl hkl _ _ (plainElem_int Try.underlying3 (WalkArith.wf_i64 (by decide))) (fun w' ho' hg hsz => h.insert (n := 8) hn hun h0 h1 h2 h3 h5 h6 h7 hkl ho' hg))
      · have h0 := hall ⟨0, .data⟩ (by simp) rfl
        have hc := h.called 9 (by decide) (hall ⟨19, .data⟩ (by simp) rfl)
        obtain ⟨M, m, D, h1, h2, h3, h4, h5, h6, h7⟩ := h.map h0
        obtain ⟨kl, hkl⟩ := srt_key (bK_fit 9 (by decide))
        exact wpOp_of ho rfl (wp_insert_own _ _ _ _ rfl 117 3 Try.sortKeyed rfl _ M m D (eval_of h1) h4 (by unfold maxLen; omega) _ _ kl (eval_of hc) rfl hkl _ _ (plainElem_int Try.underlying3 (WalkArith.wf_i64 (by decide))) (fun w' ho' hg hsz => h.insert (n := 9) hn hun h0 h1 h2 h3 h5 h6 h7 hkl ho' hg))
  · intro listed a w1 h hr
    have hl := all_listed (by kernel_rfl) h.lsize hr
    have hl : ∀ i, i < 23 → listed.getD i false = true := hl
    obtain ⟨M, m, D, h1, h2, h3, h4, h5, h6, h7⟩ := h.map (hl 0 (by decide))
    have hB : BInv D := fun s kl hs hk => by
      by_cases e : ∃ n, n < 10 ∧ s = bK n
      · obtain ⟨n, hn, rfl⟩ := e
        rw [h6 n hn kl (hl _ (by omega)) hk, bK_beg n hn]
      · have hne : ∀ n < 10, s ≠ bK n := fun n hn q => e ⟨n, hn, q⟩
        rw [beg_none hne]
        exact h7 s kl hs (fun n hn q => absurd q (hne n hn)) hk
    have h0 := (h.told (hl 22 (by decide))).2.trans h1
    have hdf := h.defers
    have hbl := h.below
    obtain ⟨tm, df⟩ := a
    subst hdf
    obtain ⟨xs⟩ := tm
    have hsz : xs.length = 13 := h.size
    have h0 : xs[0]? = some (.map (some M)) := by simpa using h0
    obtain ⟨x0, r0, rfl⟩ : ∃ x r, xs = x :: r := by
      cases xs with
      | nil => simp at hsz
      | cons x r => exact ⟨x, r, rfl⟩
    obtain rfl : x0 = .map (some M) := by simpa using h0
    refine hK9 _ _ (wp_ret ?_)
    have hfin : (∃ M' m' D', Ending.returned (.map (some M)) = .returned (.map (some M')) ∧ w.heap.size ≤ M' ∧ w1.ownsMap Try.prog 117 (plainElem Try.prog 3) M' m' D' ∧ BInv D' ∧ Below w.heap.size w w1) := ⟨M, m, D, rfl, h2, h4, hB, hbl⟩
    clear h hl h1 h2 h3 h4 h5 h6 h7 hB hbl h0 hr hsz
    go_ret
    exact hfin

end Go.Proofs.Ytccilgemfkdmkaa
