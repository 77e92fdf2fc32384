/- The document's tooDeep. -/
import Derived.Test.YtgkeblpjmfdhkaaYdeepM
import Derived.Test.YtgkeblpjmfdhkaaZHM
import Derived.Test.YtgkeblpjmfdhkaaZGM
import Derived.Test.YtgkeblpjmfdhkaaZIM
namespace Go.Proofs.Ytgkeblpjmfdhkaa
open Go.RowKit Go.Maps
set_option linter.unusedVariables false
set_option linter.unusedSimpArgs false

/-- The lesser place, where there is one yet. -/
def mnI (a x : Int) : Int := if a < 0 ∨ x < a then x else a
def stepB (a : Int) (b : Bd) : Int := if 60 < b.body.deep then mnI a b.p else a
def stepT (q : Int) (a : Int) (t : Ty) : Int := if 60 < t.deep then mnI a q else a
def stepC (a : Int) (c : Cn) : Int := c.args.foldl (stepT c.p) a
def stepD (a : Int) (d : Dt) : Int := d.cons.foldl stepC a
def tooDoc (p : Pg) : Int := p.datas.foldl stepD (p.binds.foldl stepB (-1))
theorem fold_take {α : Type} {f : Int → α → Int} {l : List α} {i : Nat} {x : α} (h : l[i]? = some x) (a : Int) : (l.take (i + 1)).foldl f a = f ((l.take i).foldl f a) x := by
  rw [take_snoc' h, List.foldl_append]; rfl
theorem fold_all {α : Type} {f : Int → α → Int} {l : List α} {i : Nat} (h : l.length ≤ i) (a : Int) : (l.take i).foldl f a = l.foldl f a := by rw [List.take_of_length_le h]
theorem IsV.dt3 {S : Nat → Prop} {w : World} {v : Value} {d : Dt} (h : IsV S w (dtC d) v) : ∃ (a a' : Option Addr) (cp cp' : Nat), v = .agg #[.string (strB d.s), .int .i64 d.p, .slice a d.vars.length cp, .slice a' d.cons.length cp'] ∧ d.cons.length ≤ cp' ∧ InC S w (.s d.cons.length 3 (d.cons.flatMap cnC)) (.slice a' d.cons.length cp') := by
  obtain ⟨a, a', cp, cp', h1, h2⟩ := h.dt2
  obtain ⟨_, _, h3, h4, _⟩ := h2.slice
  cases h3
  exact ⟨a, a', cp, cp', h1, h4, h2⟩
theorem IsV.cn3 {S : Nat → Prop} {w : World} {v : Value} {x : Cn} (h : IsV S w (cnC x) v) : ∃ (a : Option Addr) (cp : Nat), v = .agg #[.string (strB x.s), .int .i64 x.p, .slice a x.args.length cp] ∧ x.args.length ≤ cp ∧ InC S w (.s x.args.length 4 (x.args.flatMap tyC)) (.slice a x.args.length cp) := by
  obtain ⟨a, cp, h1, h2⟩ := h.cn
  obtain ⟨_, _, h3, h4, _⟩ := h2.slice
  cases h3
  rw [tysC_eq] at h2
  exact ⟨a, cp, h1, h4, h2⟩

set_option maxRecDepth 100000 in
set_option maxHeartbeats 8000000 in
theorem y_tooDeep (p : Pg) (S : Nat → Prop) (v : Value) (w : World) (hv : IsV S w (pgC p) v) (hdb : ∀ b ∈ p.binds, b.body.deep ≤ 1000000) (hdt : ∀ d ∈ p.datas, ∀ c ∈ d.cons, ∀ t ∈ c.args, t.deep ≤ 1000000) :
    Calls Try.prog 58 #[v] w fun e w' => e = .returned (.int .i64 (tooDoc p)) ∧ Below w.heap.size w w' := by
  obtain ⟨a, a', cp, cp', rfl, hcd, hcb, hkd, hkb⟩ := hv.pg3
  have hmd := hkd.max_len
  have hmb := hkb.max_len
  obtain ⟨ND, hND⟩ : ∃ ND, p.datas.length = ND := ⟨_, rfl⟩
  obtain ⟨NB, hNB⟩ : ∃ NB, p.binds.length = NB := ⟨_, rfl⟩
  have HND := Lib.hid hND
  have HNB := Lib.hid hNB
  have HKD := Lib.hid hkd
  have HKB := Lib.hid hkb
  rw [hND] at hmd hcd ⊢
  rw [hNB] at hmb hcb ⊢
  have HDB := Lib.hid hdb
  have HDT := Lib.hid hdt
  obtain ⟨w0, hw0⟩ : ∃ w0, w.alloc (.cells #[.slice a ND cp, .slice a' NB cp'] 28) = w0 := ⟨_, rfl⟩
  have bx := Box.new w 28 [.slice a ND cp, .slice a' NB cp']
  rw [hw0] at bx
  have BX := Lib.hid bx
  have HB0 : Hid (Below w.heap.size w w0) := by show Below _ _ _; rw [← hw0]; exact (Below.refl _ _).alloc (Nat.le_refl _) _
  have hw1 : w.heap.size < w0.heap.size := bx.lt
  clear hv hkd hkb hND hNB hdb hdt bx
  go_enter Try.func58, Try.ntmps58
  go_wp2_with fail
  try rw [hw0]
  clear hw0
  go_loopw [3, 4] (fun av iv wr => ∃ i : Nat, i ≤ NB ∧ iv = .int .i64 (i : Int) ∧ av = .int .i64 ((p.binds.take i).foldl stepB (-1)) ∧ Hid (Below w0.heap.size w0 wr)) (fun _ iv _ => NB - (intOf iv).toNat)
  case atStart => exact ⟨0, Nat.zero_le _, rfl, rfl, Below.refl _ _⟩
  case round =>
    obtain ⟨i, hi, rfl, rfl, HB⟩ := hrel
    have HBW : Hid (Below w.heap.size w wr) := HB0.out.trans (HB.out.mono (Nat.le_of_lt hw1))
    obtain ⟨_, _, _, _⟩ := two_cells (BX.out.below HB.out)
    have hwr := (BX.out.below HB.out).lt
    by_cases hlt : i < NB
    · obtain ⟨x, hx⟩ : ∃ x, p.binds[i]? = some x := ⟨_, List.getElem?_eq_getElem (by rw [HNB.out]; exact hlt)⟩
      obtain ⟨b, off, us, rfl, hb, hxv, hc⟩ := HKB.out.elem bdC_len hx
      obtain ⟨z0, z1, z2, z3, z4, z5, z6, z7, z8, z9, hz9, hbody⟩ := hxv.bd
      obtain rfl := agg_inj hz9
      have hbw : b < wr.heap.size := by have := HBW.out.size; omega
      have hcc : ∀ (j : Nat) (u : Value), ([.string (strB x.s), .int .i64 x.p, .int .i64 z0, .int .i64 z1, .string (strB z3), .int .i64 z2, .slice z4 z6 z8, .slice z5 z7 z9] : List Value)[j]? = some u → wr.cell? ⟨b, off + (i * 8 + j), none⟩ = some u := fun j u hu => (HBW.out.cell (p := ⟨b, off + (i * 8 + j), none⟩) hb).trans (hc j u hu)
      have q1 := hcc 1 _ rfl
      have q2 := hcc 2 _ rfl
      have q3 := hcc 3 _ rfl
      have q4 := hcc 4 _ rfl
      have q5 := hcc 5 _ rfl
      have q6 := hcc 6 _ rfl
      have q7 := hcc 7 _ rfl
      rw [← Nat.add_assoc] at q1 q2 q3 q4 q5 q6 q7
      have hxd := HDB.out x (List.mem_of_getElem? hx)
      have HX := Lib.hid (y_Deep x.body.deep x.body S _ wr (Nat.le_refl _) hxd (hbody.under HBW.out))
      have HTK := Lib.hid (fold_take (f := stepB) hx (-1))
      clear hx hxv hc hcc hbody
      obtain ⟨A, hA⟩ : ∃ A, (p.binds.take i).foldl stepB (-1) = A := ⟨_, rfl⟩
      rw [hA] at HTK ⊢
      clear hA
      obtain ⟨X, hX⟩ : ∃ X, x.body.deep = X := ⟨_, rfl⟩
      obtain ⟨Q, hQ⟩ : ∃ Q, x.p = Q := ⟨_, rfl⟩
      have HS : Hid (stepB A x = if 60 < X then mnI A Q else A) := by show _ = _; unfold stepB; rw [hX, hQ]
      rw [hX] at HX hxd
      rw [hQ] at q1
      clear hX hQ
      by_cases hd : 60 < X
      · have d1 : decide ((60 : Int) < (X : Int)) = true := decide_eq_true (by omega)
        have d2 : decide (60 < X) = true := decide_eq_true hd
        by_cases ha : A < 0
        · have e1 : decide (A < 0) = true := decide_eq_true ha
          have HS2 : Hid (stepB A x = Q) := by show _ = _; rw [HS.out, if_pos hd]; unfold mnI; rw [if_pos (.inl ha)]
          clear hd ha HS
          go_wp2_with (go_at_call 107; refine HX.out.mono ?_; rintro e w1 ⟨rfl, hb1⟩; have bx1 := (BX.out.below HB.out).below hb1; obtain ⟨_, _, _, _⟩ := two_cells bx1; have hwx := bx1.lt; have q11 := (hb1.cell (p := ⟨b, off + i * 8 + 1, none⟩) hbw).trans q1; have hbx : b < w1.heap.size := (by have := hb1.size; omega); have HB1 := Lib.hid hb1; clear hb1 bx1)
          go_roundw
          case rel => exact ⟨i + 1, by omega, by go_num, by rw [HTK.out, HS2.out], HB.out.trans (HB1.out.mono HB.out.size)⟩
          case measure => simp [intOf]; omega
        · have e1 : decide (A < 0) = false := decide_eq_false ha
          by_cases hq : Q < A
          · have e2 : decide (Q < A) = true := decide_eq_true hq
            have HS2 : Hid (stepB A x = Q) := by show _ = _; rw [HS.out, if_pos hd]; unfold mnI; rw [if_pos (.inr hq)]
            clear hd ha hq HS
            go_wp2_with (go_at_call 107; refine HX.out.mono ?_; rintro e w1 ⟨rfl, hb1⟩; have bx1 := (BX.out.below HB.out).below hb1; obtain ⟨_, _, _, _⟩ := two_cells bx1; have hwx := bx1.lt; have q11 := (hb1.cell (p := ⟨b, off + i * 8 + 1, none⟩) hbw).trans q1; have hbx : b < w1.heap.size := (by have := hb1.size; omega); have HB1 := Lib.hid hb1; clear hb1 bx1)
            go_roundw
            case rel => exact ⟨i + 1, by omega, by go_num, by rw [HTK.out, HS2.out], HB.out.trans (HB1.out.mono HB.out.size)⟩
            case measure => simp [intOf]; omega
          · have e2 : decide (Q < A) = false := decide_eq_false hq
            have HS2 : Hid (stepB A x = A) := by show _ = _; rw [HS.out, if_pos hd]; unfold mnI; rw [if_neg (by omega)]
            clear hd ha hq HS
            go_wp2_with (go_at_call 107; refine HX.out.mono ?_; rintro e w1 ⟨rfl, hb1⟩; have bx1 := (BX.out.below HB.out).below hb1; obtain ⟨_, _, _, _⟩ := two_cells bx1; have hwx := bx1.lt; have q11 := (hb1.cell (p := ⟨b, off + i * 8 + 1, none⟩) hbw).trans q1; have hbx : b < w1.heap.size := (by have := hb1.size; omega); have HB1 := Lib.hid hb1; clear hb1 bx1)
            go_roundw
            case rel => exact ⟨i + 1, by omega, by go_num, by rw [HTK.out, HS2.out], HB.out.trans (HB1.out.mono HB.out.size)⟩
            case measure => simp [intOf]; omega
      · have d1 : decide ((60 : Int) < (X : Int)) = false := decide_eq_false (by omega)
        have d2 : decide (60 < X) = false := decide_eq_false hd
        have HS2 : Hid (stepB A x = A) := by show _ = _; rw [HS.out, if_neg hd]
        clear hd HS
        go_wp2_with (go_at_call 107; refine HX.out.mono ?_; rintro e w1 ⟨rfl, hb1⟩; have bx1 := (BX.out.below HB.out).below hb1; obtain ⟨_, _, _, _⟩ := two_cells bx1; have hwx := bx1.lt; have q11 := (hb1.cell (p := ⟨b, off + i * 8 + 1, none⟩) hbw).trans q1; have hbx : b < w1.heap.size := (by have := hb1.size; omega); have HB1 := Lib.hid hb1; clear hb1 bx1)
        go_roundw
        case rel => exact ⟨i + 1, by omega, by go_num, by rw [HTK.out, HS2.out], HB.out.trans (HB1.out.mono HB.out.size)⟩
        case measure => simp [intOf]; omega
    · obtain rfl : i = NB := by omega
      obtain ⟨A, hA⟩ : ∃ A, (p.binds.take i).foldl stepB (-1) = A := ⟨_, rfl⟩
      have HA : Hid (p.binds.foldl stepB (-1) = A) := by show _ = _; rw [← hA, fold_all (by rw [HNB.out]; exact Nat.le_refl _)]
      rw [hA]
      clear hA
      obtain ⟨wB, rfl⟩ : ∃ wB, wB = wr := ⟨wr, rfl⟩
      go_wp2_with fail
      go_loopg [3, 5] ND (fun gn av iv wr => ∃ i : Nat, i ≤ ND ∧ gn + i = ND ∧ iv = .int .i64 (i : Int) ∧ av = .int .i64 ((p.datas.take i).foldl stepD A) ∧ Hid (Below w0.heap.size w0 wr))
      case atStart => exact ⟨0, Nat.zero_le _, rfl, rfl, rfl, HB⟩
      case round =>
        obtain ⟨i, hi, hgi, rfl, rfl, HB⟩ := hrel
        obtain ⟨_, _, _, _⟩ := two_cells (BX.out.below HB.out)
        have hwr := (BX.out.below HB.out).lt
        by_cases hlt : i < ND
        · obtain ⟨x, hx⟩ : ∃ x, p.datas[i]? = some x := ⟨_, List.getElem?_eq_getElem (by rw [HND.out]; exact hlt)⟩
          obtain ⟨b, off, us, rfl, hb, hxv, hc⟩ := HKD.out.elem dtC_len hx
          obtain ⟨a1, a2, cp1, cp2, hz9, hcc2, hkc⟩ := hxv.dt3
          obtain rfl := agg_inj hz9
          have HC3 : Hid (w.cell? ⟨b, off + i * 4 + 3, none⟩ = some (.slice a2 x.cons.length cp2)) := by have := hc 3 _ rfl; rw [← Nat.add_assoc] at this; exact this
          have hmc := hkc.max_len
          have HTK := Lib.hid (fold_take (f := stepD) hx A)
          have HDX : Hid (∀ c ∈ x.cons, ∀ t ∈ c.args, t.deep ≤ 1000000) := fun c hc t ht => HDT.out x (List.mem_of_getElem? hx) c hc t ht
          have HKC := Lib.hid hkc
          obtain ⟨NC, hNC⟩ : ∃ NC, x.cons.length = NC := ⟨_, rfl⟩
          have HNC := Lib.hid hNC
          rw [hNC] at HC3 hmc hcc2
          clear hx hxv hc hkc hNC
          obtain ⟨A2, hA2⟩ : ∃ A2, (p.datas.take i).foldl stepD A = A2 := ⟨_, rfl⟩
          rw [hA2] at HTK ⊢
          clear hA2
          have hbw0 : b < w0.heap.size := by omega
          go_wp2_with fail
          go_loopg [3, 6] NC (fun gn av kv wx => ∃ k : Nat, k ≤ NC ∧ gn + k = NC ∧ kv = .int .i64 (k : Int) ∧ av = .int .i64 ((x.cons.take k).foldl stepC A2) ∧ Hid (Below w0.heap.size w0 wx))
          case atStart => exact ⟨0, Nat.zero_le _, rfl, rfl, rfl, HB⟩
          case round =>
            obtain ⟨k, hk, hgk, rfl, rfl, HBk⟩ := hrel
            have HBkW : Hid (Below w.heap.size w wr) := HB0.out.trans (HBk.out.mono (Nat.le_of_lt hw1))
            obtain ⟨_, _, _, _⟩ := two_cells (BX.out.below HBk.out)
            have hwk := (BX.out.below HBk.out).lt
            have q3 : wr.cell? ⟨b, off + i * 4 + 3, none⟩ = some (.slice a2 NC cp2) := (HBkW.out.cell (p := ⟨b, off + i * 4 + 3, none⟩) hb).trans HC3.out
            have hbk : b < wr.heap.size := by have := HBkW.out.size; omega
            by_cases hlk : k < NC
            · obtain ⟨y, hy⟩ : ∃ y, x.cons[k]? = some y := ⟨_, List.getElem?_eq_getElem (by rw [HNC.out]; exact hlk)⟩
              obtain ⟨b2, off2, us2, rfl, hb2, hyv, hc2⟩ := HKC.out.elem cnC_len hy
              obtain ⟨a3, cp3, hz9, hcc3, hka⟩ := hyv.cn3
              obtain rfl := agg_inj hz9
              have hcc : ∀ (j : Nat) (u : Value), ([.string (strB y.s), .int .i64 y.p, .slice a3 y.args.length cp3] : List Value)[j]? = some u → wr.cell? ⟨b2, off2 + (k * 3 + j), none⟩ = some u := fun j u hu => (HBkW.out.cell (p := ⟨b2, off2 + (k * 3 + j), none⟩) hb2).trans (hc2 j u hu)
              have r0 := hcc 0 _ rfl
              have r1 := hcc 1 _ rfl
              have r2 := hcc 2 _ rfl
              rw [← Nat.add_assoc] at r0 r1 r2
              rw [Nat.add_zero] at r0
              have hb2k : b2 < wr.heap.size := by have := HBkW.out.size; omega
              have hma := hka.max_len
              have HTK2 := Lib.hid (fold_take (f := stepC) hy A2)
              have HDY : Hid (∀ t ∈ y.args, t.deep ≤ 1000000) := fun t ht => HDX.out y (List.mem_of_getElem? hy) t ht
              have HKA := Lib.hid hka
              obtain ⟨NA, hNA⟩ : ∃ NA, y.args.length = NA := ⟨_, rfl⟩
              have HNA := Lib.hid hNA
              rw [hNA] at r2 hma hcc3
              obtain ⟨Q, hQ⟩ : ∃ Q, y.p = Q := ⟨_, rfl⟩
              have HQ := Lib.hid hQ
              rw [hQ] at r1
              obtain ⟨YS, hYS⟩ : ∃ YS, strB y.s = YS := ⟨_, rfl⟩
              rw [hYS] at r0
              clear hy hyv hc2 hcc hka hNA hQ hYS
              obtain ⟨A3, hA3⟩ : ∃ A3, (x.cons.take k).foldl stepC A2 = A3 := ⟨_, rfl⟩
              rw [hA3] at HTK2 ⊢
              clear hA3
              go_upto_region 14 with (fail)
              obtain ⟨w2, hw2⟩ : ∃ w2, wr.alloc (.cells #[.string YS, .int .i64 Q, .slice a3 NA cp3] 59) = w2 := ⟨_, rfl⟩
              have by1 := Box.new wr 59 [.string YS, .int .i64 Q, .slice a3 NA cp3]
              have HB2 : Hid (Below w0.heap.size w0 w2) := by show Below _ _ _; rw [← hw2]; exact HBk.out.alloc HBk.out.size _
              rw [hw2] at by1 ⊢
              obtain ⟨cb, hcb2⟩ : ∃ cb, wr.heap.size = cb := ⟨_, rfl⟩
              rw [hcb2] at by1 ⊢
              have BY := Lib.hid by1
              clear hw2 hcb2 by1 r0 r1 r2
              have HBW2 : Hid (Below w.heap.size w w2) := HB0.out.trans (HB2.out.mono (Nat.le_of_lt hw1))
              go_wp2_with fail
              go_loopg [3, 8] NA (fun gn av jv wy => ∃ j : Nat, j ≤ NA ∧ gn + j = NA ∧ jv = .int .i64 (j : Int) ∧ av = .int .i64 ((y.args.take j).foldl (stepT Q) A3) ∧ Hid (Below w2.heap.size w2 wy))
              case atStart => exact ⟨0, Nat.zero_le _, rfl, rfl, rfl, Below.refl _ _⟩
              case round =>
                obtain ⟨j, hj, hgj, rfl, rfl, HBj⟩ := hrel
                have hby := BY.out.below HBj.out
                obtain ⟨_, _, _, _, _, _⟩ := hby.three
                have hcl := hby.lt
                clear hby
                have HBjW : Hid (Below w.heap.size w wr) := HBW2.out.trans (HBj.out.mono HBW2.out.size)
                by_cases hlj : j < NA
                · obtain ⟨t, ht⟩ : ∃ t, y.args[j]? = some t := ⟨_, List.getElem?_eq_getElem (by rw [HNA.out]; exact hlj)⟩
                  obtain ⟨b3, off3, us3, rfl, hb3, htv, hc3⟩ := HKA.out.elem tyC_len ht
                  obtain ⟨z0, z1, z2, z3, z4, z5, hz9⟩ := htv.tys
                  obtain rfl := agg_inj hz9
                  have hcc : ∀ (m : Nat) (u : Value), ([.int .i64 z0, .int .i64 z1, .string (strB z2), .slice z3 z4 z5] : List Value)[m]? = some u → wr.cell? ⟨b3, off3 + (j * 4 + m), none⟩ = some u := fun m u hu => (HBjW.out.cell (p := ⟨b3, off3 + (j * 4 + m), none⟩) hb3).trans (hc3 m u hu)
                  have s0 := hcc 0 _ rfl
                  have s1 := hcc 1 _ rfl
                  have s2 := hcc 2 _ rfl
                  have s3 := hcc 3 _ rfl
                  rw [← Nat.add_assoc] at s0 s1 s2 s3
                  rw [Nat.add_zero] at s0
                  have hb3k : b3 < wr.heap.size := by have := HBjW.out.size; omega
                  have htd := HDY.out t (List.mem_of_getElem? ht)
                  have HX := Lib.hid (y_deep t.deep t S _ wr (Nat.le_refl _) htd (htv.under HBjW.out))
                  have HTK3 := Lib.hid (fold_take (f := stepT Q) ht A3)
                  clear ht htv hc3 hcc
                  obtain ⟨A, hA⟩ : ∃ A, (y.args.take j).foldl (stepT Q) A3 = A := ⟨_, rfl⟩
                  rw [hA] at HTK3 ⊢
                  clear hA
                  obtain ⟨X, hX⟩ : ∃ X, t.deep = X := ⟨_, rfl⟩
                  have HS : Hid (stepT Q A t = if 60 < X then mnI A Q else A) := by show _ = _; unfold stepT; rw [hX]
                  rw [hX] at HX htd
                  clear hX
                  by_cases hd : 60 < X
                  · have d1 : decide ((60 : Int) < (X : Int)) = true := decide_eq_true (by omega)
                    have d2 : decide (60 < X) = true := decide_eq_true hd
                    by_cases ha : A < 0
                    · have e1 : decide (A < 0) = true := decide_eq_true ha
                      have HS2 : Hid (stepT Q A t = Q) := by show _ = _; rw [HS.out, if_pos hd]; unfold mnI; rw [if_pos (.inl ha)]
                      clear hd ha HS
                      go_wp2_with (go_at_call 108; refine HX.out.mono ?_; rintro e w1 ⟨rfl, hb1⟩; have hby := (BY.out.below HBj.out).below hb1; obtain ⟨_, _, _, _, _, _⟩ := hby.three; have hwx := hby.lt; have HB1 := Lib.hid hb1; clear hb1 hby)
                      go_roundg (NA - (j + 1))
                      case measure => omega
                      case rel => exact ⟨j + 1, by omega, by omega, by go_num, by rw [HTK3.out, HS2.out], HBj.out.trans (HB1.out.mono HBj.out.size)⟩
                    · have e1 : decide (A < 0) = false := decide_eq_false ha
                      by_cases hq : Q < A
                      · have e2 : decide (Q < A) = true := decide_eq_true hq
                        have HS2 : Hid (stepT Q A t = Q) := by show _ = _; rw [HS.out, if_pos hd]; unfold mnI; rw [if_pos (.inr hq)]
                        clear hd ha hq HS
                        go_wp2_with (go_at_call 108; refine HX.out.mono ?_; rintro e w1 ⟨rfl, hb1⟩; have hby := (BY.out.below HBj.out).below hb1; obtain ⟨_, _, _, _, _, _⟩ := hby.three; have hwx := hby.lt; have HB1 := Lib.hid hb1; clear hb1 hby)
                        go_roundg (NA - (j + 1))
                        case measure => omega
                        case rel => exact ⟨j + 1, by omega, by omega, by go_num, by rw [HTK3.out, HS2.out], HBj.out.trans (HB1.out.mono HBj.out.size)⟩
                      · have e2 : decide (Q < A) = false := decide_eq_false hq
                        have HS2 : Hid (stepT Q A t = A) := by show _ = _; rw [HS.out, if_pos hd]; unfold mnI; rw [if_neg (by omega)]
                        clear hd ha hq HS
                        go_wp2_with (go_at_call 108; refine HX.out.mono ?_; rintro e w1 ⟨rfl, hb1⟩; have hby := (BY.out.below HBj.out).below hb1; obtain ⟨_, _, _, _, _, _⟩ := hby.three; have hwx := hby.lt; have HB1 := Lib.hid hb1; clear hb1 hby)
                        go_roundg (NA - (j + 1))
                        case measure => omega
                        case rel => exact ⟨j + 1, by omega, by omega, by go_num, by rw [HTK3.out, HS2.out], HBj.out.trans (HB1.out.mono HBj.out.size)⟩
                  · have d1 : decide ((60 : Int) < (X : Int)) = false := decide_eq_false (by omega)
                    have d2 : decide (60 < X) = false := decide_eq_false hd
                    have HS2 : Hid (stepT Q A t = A) := by show _ = _; rw [HS.out, if_neg hd]
                    clear hd HS
                    go_wp2_with (go_at_call 108; refine HX.out.mono ?_; rintro e w1 ⟨rfl, hb1⟩; have hby := (BY.out.below HBj.out).below hb1; obtain ⟨_, _, _, _, _, _⟩ := hby.three; have hwx := hby.lt; have HB1 := Lib.hid hb1; clear hb1 hby)
                    go_roundg (NA - (j + 1))
                    case measure => omega
                    case rel => exact ⟨j + 1, by omega, by omega, by go_num, by rw [HTK3.out, HS2.out], HBj.out.trans (HB1.out.mono HBj.out.size)⟩
                · obtain rfl : j = NA := by omega
                  have HF : Hid (stepC A3 y = (y.args.take j).foldl (stepT Q) A3) := by show _ = _; rw [fold_all (by rw [HNA.out]; exact Nat.le_refl _)]; unfold stepC; rw [HQ.out]
                  go_wp2_with fail
                  go_roundg (NC - (k + 1))
                  case measure => omega
                  case rel => exact ⟨k + 1, by omega, by omega, by go_num, by rw [HTK2.out, HF.out], HB2.out.trans (HBj.out.mono HB2.out.size)⟩
            · obtain rfl : k = NC := by omega
              have HF : Hid (stepD A2 x = (x.cons.take k).foldl stepC A2) := by show _ = _; rw [fold_all (by rw [HNC.out]; exact Nat.le_refl _)]; rfl
              go_wp2_with fail
              go_roundg (ND - (i + 1))
              case measure => omega
              case rel => exact ⟨i + 1, by omega, by omega, by go_num, by rw [HTK.out, HF.out], HBk⟩
        · obtain rfl : i = ND := by omega
          have HF : Hid (tooDoc p = (p.datas.take i).foldl stepD A) := by show _ = _; unfold tooDoc; rw [HA.out, fold_all (by rw [HND.out]; exact Nat.le_refl _)]
          go_wp2_with fail
          go_ret
          exact ⟨by rw [HF.out]; rfl, HB0.out.trans (HB.out.mono (Nat.le_of_lt hw1))⟩

end Go.Proofs.Ytgkeblpjmfdhkaa
