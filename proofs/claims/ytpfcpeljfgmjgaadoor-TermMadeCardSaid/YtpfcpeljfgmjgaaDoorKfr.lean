/- All but some blocks, and a row that grows, is as it was (Fr); a set of ints in a map; package term's finder: add, find; Vars. -/
import Derived.Test.YtpfcpeljfgmjgaaDoorKcs
import Derived.Test.YtpfcpeljfgmjgaaDoorZmap
namespace Go.Proofs.YtpfcpeljfgmjgaaDoor
open Go.RowKit Go.Maps
set_option linter.unusedVariables false
set_option linter.unusedSimpArgs false

/-- Below B all is as it was; from there on all but the blocks of X and rows of e's. -/
structure Fr (B : Nat) (X : Nat → Prop) (e : TypeId) (w w' : World) : Prop where
  bel : Below B w w'
  block : ∀ k, k < w.heap.size → ¬ X k → (∀ cs z, w.heap[k]? ≠ some (.cells cs e z)) → w'.heap[k]? = w.heap[k]?
section
variable {B : Nat} {X : Nat → Prop} {e : TypeId} {w w' w'' : World}
theorem Fr.size (h : Fr B X e w w') : w.heap.size ≤ w'.heap.size := h.bel.size
theorem Fr.refl (B : Nat) (X : Nat → Prop) (e : TypeId) (w : World) : Fr B X e w w := ⟨Below.refl _ _, fun _ _ _ _ => rfl⟩
theorem Fr.trans (h : Fr B X e w w') (k : Fr B X e w' w'') : Fr B X e w w'' :=
  ⟨h.bel.trans k.bel, fun i hi hx hv => (k.block i (Nat.lt_of_lt_of_le hi h.size) hx (fun cs z q => hv cs z (by rw [← h.block i hi hx hv]; exact q))).trans (h.block i hi hx hv)⟩
theorem Fr.of_below (hb : Below w.heap.size w w') (hB : B ≤ w.heap.size) : Fr B X e w w' := ⟨hb.mono hB, fun i hi _ _ => hb.block i hi⟩
theorem Fr.next (h : Fr B X e w w') (hb : Below w'.heap.size w' w'') (hB : B ≤ w.heap.size) : Fr B X e w w'' := h.trans (Fr.of_below hb (Nat.le_trans hB h.size))
theorem Fr.alloc (h : Fr B X e w w') (o : Obj) (hB : B ≤ w.heap.size) : Fr B X e w (w'.alloc o) := h.next ((Below.refl _ w').alloc (Nat.le_refl _) o) hB
theorem Fr.set (h : Fr B X e w w') {p : Addr} (hp : X p.block) (hb : B ≤ p.block) (u : Value) : Fr B X e w (w'.setCell p u) :=
  h.trans ⟨(Below.refl _ _).setCell hb u, fun i _ hx _ => Below.heap_setCell _ _ _ _ (by rintro rfl; exact hx hp)⟩
theorem Fr.grown (h : Fr B X e w w') {b : Nat} (hX : X b) (hb : B ≤ b) (hg : w'.grownBy w'' (some b)) (hB : B ≤ w.heap.size) : Fr B X e w w'' :=
  h.trans ⟨(Below.refl _ _).grown hg (Nat.le_trans hB h.size) (fun q hq => by cases hq; exact hb), fun i hi hx _ => hg.block i hi (fun q => by cases q; exact hx hX)⟩
/-- The row itself grows. -/
theorem Fr.row (h : Fr B X e w w') {v : Value} {size n : Nat} {xs : List Value} (hv : w'.ownsRow B e size v n xs) (hg : w'.grownBy w'' v.ownBlock) (hB : B ≤ w.heap.size) : Fr B X e w w'' := by
  refine h.trans ⟨?_, fun i hi hx hn => hg.block i hi (fun q => ?_)⟩
  · refine (Below.refl _ _).grown hg (Nat.le_trans hB h.size) (fun q hq => ?_)
    obtain ⟨_, ⟨rfl, _⟩ | ⟨g, cap, cur, rfl, hb, _⟩⟩ := hv
    · cases hq
    · cases hq; exact hb
  · obtain ⟨_, ⟨rfl, _⟩ | ⟨g, cap, cur, rfl, hb, hgg, _⟩⟩ := hv
    · cases q
    · have : g = i := by have q' : some i = some g := q; cases q'; rfl
      subst this
      exact hn _ _ hgg
theorem Fr.box {b : Nat} {t : TypeId} {cs : List Value} (h : Fr B X e w w') (hb : Box w b t cs) (hx : ¬ X b) (ht : t ≠ e) : Box w' b t cs :=
  (h.block b hb.lt hx (fun cs' z q => ht (by have h1 : w.heap[b]? = some (.cells cs.toArray t (0, 0)) := hb; rw [h1] at q; cases q; rfl))).trans hb
end
theorem own_lo17 {w : World} {base n size : Nat} {e : TypeId} {v : Value} {xs : List Value} (h : w.ownsRow base e size v n xs) : ∀ q, v.ownBlock = some q → base ≤ q ∧ q < w.heap.size := by
  intro q hq
  obtain ⟨_, ⟨rfl, _⟩ | ⟨g, cap, cur, rfl, hb, hg, _⟩⟩ := h
  · cases hq
  · have : g = q := by simpa [Value.ownBlock] using hq
    subst this
    exact ⟨hb, (Array.getElem?_eq_some_iff.1 hg).1⟩
theorem own_shape17 {w : World} {base n size : Nat} {e : TypeId} {v : Value} {xs : List Value} (h : w.ownsRow base e size v n xs) : ∃ a c, v = .slice a n c := by
  obtain ⟨_, ⟨rfl, h0⟩ | ⟨g, cap, cur, rfl, _⟩⟩ := h
  · exact ⟨none, 0, by rw [h0]⟩
  · exact ⟨_, _, rfl⟩
theorem own_ag17 {w w' : World} {base n size : Nat} {e : TypeId} {v : Value} {xs : List Value} (h : w.ownsRow base e size v n xs) (hb : ∀ q, v.ownBlock = some q → w'.heap[q]? = w.heap[q]?) : w'.ownsRow base e size v n xs := by
  obtain ⟨h1, ⟨rfl, h2⟩ | ⟨g, cap, cur, rfl, hb1, hg, hr⟩⟩ := h
  · exact ⟨h1, .inl ⟨rfl, h2⟩⟩
  · exact ⟨h1, .inr ⟨g, cap, cur, rfl, hb1, (hb g rfl).trans hg, hr⟩⟩

/-! ### A set of ints -/
theorem Tryd.kintKeyed : Keyed Tryd.prog 3 := int_keyed Tryd.underlying3
theorem Tryd.kzeroUnit (w : World) : (zeroValue 181).run Tryd.prog w = .ok (.agg #[]) w := by kernel_rfl
def fits17 (x : Int) : Prop := -9223372036854775808 ≤ x ∧ x ≤ 9223372036854775807
theorem fits17_wf {x : Int} (h : fits17 x) : (Lit.int .i64 x).wf = true := WalkArith.wf_i64 (by unfold fits17 at h; omega)
theorem int_key {x : Int} (h : fits17 x) : ∃ kl, keyOf Tryd.prog 3 (.int .i64 x) = some kl := ⟨_, keyOf_int_mk Tryd.underlying3 (fits17_wf h)⟩
def VInv (l : List Int) (D : DataW Unit) : Prop := IsMap D ∧ ∀ (x : Int) (kl : Lit), fits17 x → keyOf Tryd.prog 3 (.int .i64 x) = some kl → Maps.has D kl = decide (x ∈ l)
def VM (w : World) (b n : Nat) (l : List Int) : Prop := ∃ D, w.ownsMap Tryd.prog 3 unitElem b n D ∧ VInv l D
theorem VM.agree {w w' : World} {b n : Nat} {l : List Int} (h : VM w b n l) (hb : w'.heap[b]? = w.heap[b]?) : VM w' b n l := by
  obtain ⟨D, h1, h2⟩ := h; exact ⟨D, ownsMap_agree h1 hb, h2⟩
theorem VM.lt {w : World} {b n : Nat} {l : List Int} (h : VM w b n l) : b < w.heap.size := by
  obtain ⟨D, h1, h2⟩ := h; exact ownsMap_lt h1
theorem VM.made (w : World) : VM (w.alloc (.map #[] 0)) w.heap.size 0 [] := ⟨_, World.ownsMap_made _ _ _ _, isMap_empty, fun x kl _ _ => by simp [Maps.has]⟩
theorem VM.look {w : World} {b n : Nat} {l : List Int} (h : VM w b n l) {x : Int} (hx : fits17 x) :
    Sem.run Tryd.prog (Instr.lookup 106 (.map (some b)) (.int .i64 x) true) w = .ok (.tuple #[.agg #[], .bool (decide (x ∈ l))]) w := by
  obtain ⟨D, hm, hi⟩ := h
  obtain ⟨kl, hkl⟩ := int_key hx
  have h1 := hi.2 x kl hx hkl
  obtain ⟨v, ps, hrun, hv⟩ := hm.look_ok Tryd.kintKeyed Tryd.underlying106 (Tryd.kzeroUnit _) unitElem_mk hkl
  obtain ⟨rfl, _⟩ := unitElem_inv hv
  rw [h1] at hrun
  exact hrun
theorem VM.store {w : World} {b n : Nat} {l : List Int} (h : VM w b n l) (hn : n ≤ 1000000000000) {x : Int} (hx : fits17 x) :
    ∃ w', Sem.run Tryd.prog (Instr.mapUpdate 106 (.map (some b)) (.int .i64 x) (.agg #[])) w = .ok () w' ∧ VM w' b (n + 1) (l ++ [x]) ∧ w.grownBy w' (some b) ∧ w'.heap.size = w.heap.size := by
  obtain ⟨D, hm, hi⟩ := h
  obtain ⟨kl, hkl⟩ := int_key hx
  obtain ⟨w9, hrun9, hown9, hturn9⟩ := World.ownsMap.store hm Tryd.kintKeyed Tryd.underlying106 (show n < maxLen by unfold maxLen; omega) hkl unitElem_mk
  refine ⟨w9, hrun9, ⟨_, hown9, hi.1.put _ _, fun y kl' hy hk' => ?_⟩, hturn9.grown, ?_⟩
  · by_cases e : y = x
    · subst e
      rw [hkl] at hk'
      obtain rfl := Option.some.inj hk'
      rw [has_put_same hi.1 (Tryd.kintKeyed.key hkl)]; simp
    · have hne : kl' ≠ kl := fun q => e (by
        have := Tryd.kintKeyed.inj (q ▸ hk') hkl
        simpa using this)
      rw [has_put_other hne, hi.2 y kl' hy hk']
      simp [e]
  · obtain ⟨_, _, _, _, _, rfl⟩ := hturn9
    simp [ChangeMaps.setBlock]

/-! ### The finder -/
def FX (fb mb : Nat) : Nat → Prop := fun q => q = fb ∨ q = mb
/-- The finder in block fb, its map in mb, its list v. -/
structure FD (w : World) (B fb mb : Nat) (l : List Int) (v : Value) : Prop where
  box : Box w fb 108 [.map (some mb), v]
  map : VM w mb l.length l
  own : w.ownsRow B 3 1 v l.length (l.map (Value.int .i64))
  fm : fb ≠ mb
  bf : B ≤ fb
  bm : B ≤ mb
def Found (B fb mb : Nat) (l : List Int) (w w' : World) : Prop := (∃ v', FD w' B fb mb l v') ∧ Fr B (FX fb mb) 3 w w'
theorem FD.agree {w w' : World} {B fb mb : Nat} {l : List Int} {v : Value} (h : FD w B fb mb l v) (hb : Below w.heap.size w w') : FD w' B fb mb l v :=
  ⟨h.box.below hb, h.map.agree (hb.block _ h.map.lt), own_ag17 h.own (fun q hq => hb.block _ (own_lo17 h.own q hq).2), h.fm, h.bf, h.bm⟩
theorem two_all17 {w : World} {b : Nat} {t : TypeId} {c0 c1 : Value} (h : Box w b t [c0, c1]) : w.cell? ⟨b, 0, none⟩ = some c0 ∧ w.cell? ⟨b, 1, none⟩ = some c1 ∧ w.frozen? ⟨b, 0, none⟩ = false ∧ w.frozen? ⟨b, 1, none⟩ = false := ⟨h.cell 0, h.cell 1, h.frozen 0, h.frozen 1⟩
theorem news17 (W : World) (u : Value) (t : TypeId) : ∀ ad, some (⟨W.heap.size, 0, none⟩ : Addr) = some ad → ∀ (j : Nat) (v : Value), [u][j]? = some v → (W.alloc (.cells #[u] t)).cell? (ad.add j) = some v := by
  rintro ad e j v hj
  cases e
  match j, hj with
  | 0, hj => simp at hj; subst hj; exact (Box.new W t [u]).cell 0
/-- The row of ints lies in no block of another kind. -/
theorem own_ne17 {w : World} {B size n : Nat} {e t : TypeId} {v : Value} {xs cs : List Value} {b : Nat} (h : w.ownsRow B e size v n xs) (hb : Box w b t cs) (ht : t ≠ e) : v.ownBlock ≠ some b := by
  intro q
  obtain ⟨_, ⟨rfl, _⟩ | ⟨g, cap, cur, rfl, _, hg, _⟩⟩ := h
  · cases q
  · have : g = b := by have q' : some g = some b := q; cases q'; rfl
    subst this
    have h1 : w.heap[g]? = some (.cells cs.toArray t (0, 0)) := hb
    rw [hg] at h1; cases h1; exact ht rfl
theorem own_nm17 {w : World} {B size n nb : Nat} {e : TypeId} {v : Value} {xs : List Value} {b : Nat} {l : List Int} (h : w.ownsRow B e size v n xs) (hb : VM w b nb l) : v.ownBlock ≠ some b := by
  intro q
  obtain ⟨D, ⟨es, clock, h1, _⟩, _⟩ := hb
  obtain ⟨_, ⟨rfl, _⟩ | ⟨g, cap, cur, rfl, _, hg, _⟩⟩ := h
  · cases q
  · have : g = b := by have q' : some g = some b := q; cases q'; rfl
    subst this
    rw [hg] at h1; cases h1
theorem Tryd.kfi : (108 : TypeId) ≠ 3 := by decide
theorem Tryd.kintInfo : (Tryd.prog.info? 3).map (fun i => (i.zero, i.size, i.bytes)) = some (some (.int .i64 0), 1, 8) := by kernel_rfl

set_option maxRecDepth 100000 in
set_option maxHeartbeats 4000000 in
theorem ty_add (w : World) (B fb mb : Nat) (l : List Int) (v : Value) (x : Int) (h : FD w B fb mb l v) (hx : fits17 x) (hl : l.length ≤ 100000000000) (hB : B ≤ w.heap.size) :
    Calls Tryd.prog 87 #[.pointer (some ⟨fb, 0, none⟩), .int .i64 x] w fun e w' => e = .returned (.tuple #[]) ∧ Found B fb mb (addV l x) w w' := by
  obtain ⟨i0, hi0, hz0, hz1, hz2⟩ := info_parts Tryd.kintInfo
  have HL := Lib.hid (h.map.look hx)
  have hlook := h.map.look hx
  have H := Lib.hid h
  obtain ⟨_, _, _, _⟩ := two_all17 h.box
  have hfl := h.box.lt
  by_cases hin : x ∈ l
  · have ha : addV l x = l := by unfold addV; rw [if_pos hin]
    rw [ha]
    rw [show decide (x ∈ l) = true from decide_eq_true hin] at hlook
    clear ha hin HL h hi0 hz0 hz1 hz2
    go_enter Tryd.func87, Tryd.ntmps87
    go_wp2_with fail
    go_end0
    have hb : Below w.heap.size w (w.alloc (.cells #[] 181)) := (Below.refl _ w).alloc (Nat.le_refl _) _
    exact ⟨rfl, ⟨v, H.out.agree hb⟩, Fr.of_below hb hB⟩
  · have ha : addV l x = l ++ [x] := by unfold addV; rw [if_neg hin]
    rw [ha]
    rw [show decide (x ∈ l) = false from decide_eq_false hin] at hlook
    obtain ⟨W1, hW1⟩ : ∃ W1, w.alloc (.cells #[] 181) = W1 := ⟨_, rfl⟩
    have hb1 : Below w.heap.size w W1 := hW1 ▸ (Below.refl _ w).alloc (Nat.le_refl _) _
    have h1 := h.agree hb1
    obtain ⟨W2, hst, hm2, hg2, hs2⟩ := h1.map.store (by omega) hx
    have hbox2 : Box W2 fb 108 [.map (some mb), v] := (hg2.block fb h1.box.lt (fun e => h.fm (Option.some.inj e))).trans h1.box
    have hown2 := own_ag17 h1.own (fun q hq => hg2.block q (own_lo17 h1.own q hq).2 (fun e => own_nm17 h1.own h1.map (by rw [hq, e])))
    have HF2 : Hid (Fr B (FX fb mb) 3 w W2) := (Fr.of_below hb1 hB).grown (.inr rfl) h.bm hg2 hB
    have HW1 := Lib.hid h1
    have HS2 : Hid (B ≤ W2.heap.size) := by show B ≤ _; have := hb1.size; omega
    have HML : Hid (mb < w.heap.size) := h.map.lt
    obtain ⟨_, _, _, _⟩ := two_all17 h1.box
    have hfl1 := h1.box.lt
    obtain ⟨_, _, _, _⟩ := two_all17 hbox2
    have hfl2 := hbox2.lt
    have hsz1 := hb1.size
    obtain ⟨n, hn⟩ : ∃ n, l.length = n := ⟨_, rfl⟩
    have HN := Lib.hid hn
    rw [hn] at hm2 hown2
    have HM2 := Lib.hid hm2
    have HO2 := Lib.hid hown2
    have HX2 := Lib.hid hbox2
    obtain ⟨av, cv, rfl⟩ := own_shape17 hown2
    have hnl : n ≤ 100000000000 := by omega
    clear ha hin HL h hb1 h1 hm2 hg2 hbox2 hown2 hn hl hs2
    go_enter Tryd.func87, Tryd.ntmps87
    go_wp2_with (at_builtin; refine wpList_append_any rfl _ _ 22 rfl B 3 i0 (.int .i64 0) 1 8 Tryd.underlying22 hi0 hz0 hz1 hz2 rfl (by decide) _ n (l.map (Value.int .i64)) rfl ?c0 _ 1 1 [.int .i64 x] rfl ?cn rfl ?c2 ?c3 ?c4 ?c5 ?c6 ?_)
    case c0 => exact HO2.out.alloc _
    case cn => intro e; cases e
    case c2 => exact news17 W2 _ _
    case c3 => intro u hu; simp at hu; subst hu; rfl
    case c4 => unfold maxLen; omega
    case c5 => omega
    case c6 => have := HS2.out; rw [World.size_alloc]; omega
    intro v' w3 hown3 hg3
    have HO3 := Lib.hid hown3
    have HA := Lib.hid ((HX2.out.alloc (.cells #[.int .i64 x] 3)))
    have hb3 : Box w3 fb 108 [.map (some mb), .slice av n cv] := (hg3.block fb HA.out.lt (fun e => own_ne17 HO2.out HX2.out Tryd.kfi e.symm)).trans HA.out
    have HM3 := Lib.hid ((HM2.out.agree (w' := W2.alloc (.cells #[.int .i64 x] 3)) (Below.heap_alloc _ _ _ HM2.out.lt)).agree (w' := w3) (hg3.block mb (by rw [World.size_alloc]; have := HM2.out.lt; omega) (fun e => own_nm17 HO2.out HM2.out e.symm)))
    have HF3 := Lib.hid (((HF2.out.alloc (.cells #[.int .i64 x] 3) hB).row (HO2.out.alloc _) hg3 hB))
    have HB3 := Lib.hid hb3
    obtain ⟨_, _, _, _⟩ := two_all17 hb3
    have hfl3 := hb3.lt
    obtain ⟨a3, c3, rfl⟩ := own_shape17 hown3
    clear hown3 hg3 hb3 HA
    go_wp2_with fail
    go_end0
    refine ⟨rfl, ⟨.slice a3 (n + 1) c3, HB3.out.set 1 (.slice a3 (n + 1) c3), ?_, ?_, HW1.out.fm, HW1.out.bf, HW1.out.bm⟩, HF3.out.set (p := ⟨fb, 1, none⟩) (.inl rfl) HW1.out.bf _⟩
    · rw [List.length_append, HN.out]
      exact HM3.out.agree (Below.heap_setCell _ ⟨fb, 1, none⟩ _ _ (fun e => HW1.out.fm e.symm))
    · rw [List.length_append, HN.out, List.map_append]
      exact own_ag17 HO3.out (fun q hq => Below.heap_setCell _ ⟨fb, 1, none⟩ _ _ (fun e => own_ne17 HO3.out HB3.out Tryd.kfi (by rw [hq]; exact congrArg some e)))

end Go.Proofs.YtpfcpeljfgmjgaaDoor
