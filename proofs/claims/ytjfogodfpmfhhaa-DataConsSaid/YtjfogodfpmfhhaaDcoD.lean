/- The law DataCons: a Con's own type is its data's name with all its variables. -/
import Derived.Test.YtjfogodfpmfhhaaDccD
import Derived.Test.YtjfogodfpmfhhaaDAD
import Derived.Deep.RegionHeld3
import Derived.Deep.AppendLies
import Derived.IntWalk
import Derived.Lib.SmallJoins
namespace Go.Proofs.Ytjfogodfpmfhhaa
open Go.RowKit Go.Maps
set_option linter.unusedVariables false
set_option linter.unusedSimpArgs false

/-- The declaration of DataCons in memory. -/
structure DV (w : World) (q h D : Nat) (v : Value) : Prop where
  bq : Box w q 63 [.int .i64 2, .int .i64 0, .string ⟨#[73, 110, 116]⟩, .slice none 0 0]
  bh : Box w h 59 [.string ⟨#[65]⟩, .int .i64 0, .slice none 0 0, .string ⟨#[66]⟩, .int .i64 0, .slice (some ⟨q, 0, none⟩) 1 1]
  bd : Box w D 56 [.string ⟨#[68]⟩, .int .i64 0, v, .slice (some ⟨h, 0, none⟩) 2 2]
theorem DV.alloc {w : World} {q h D : Nat} {v : Value} (x : DV w q h D v) (o : Obj) : DV (w.alloc o) q h D v := ⟨x.bq.alloc o, x.bh.alloc o, x.bd.alloc o⟩
theorem DV.below {w w' : World} {q h D : Nat} {v : Value} (x : DV w q h D v) (hb : Below w.heap.size w w') : DV w' q h D v := ⟨x.bq.below hb, x.bh.below hb, x.bd.below hb⟩
theorem DV.start (w : World) : DV (((w.alloc (.cells #[.int .i64 2, .int .i64 0, .string ⟨#[73, 110, 116]⟩, .slice none 0 0] 63)).alloc (.cells #[.string ⟨#[65]⟩, .int .i64 0, .slice none 0 0, .string ⟨#[66]⟩, .int .i64 0, .slice (some ⟨w.heap.size, 0, none⟩) 1 1] 59)).alloc (.cells #[.string ⟨#[68]⟩, .int .i64 0, .slice none 0 0, .slice (some ⟨w.heap.size + 1, 0, none⟩) 2 2] 56)) w.heap.size (w.heap.size + 1) (w.heap.size + 1 + 1) (.slice none 0 0) := by
  have h1 := Box.new w 63 [.int .i64 2, .int .i64 0, .string ⟨#[73, 110, 116]⟩, .slice none 0 0]
  have h2 := Box.new (w.alloc (.cells #[.int .i64 2, .int .i64 0, .string ⟨#[73, 110, 116]⟩, .slice none 0 0] 63)) 59 [.string ⟨#[65]⟩, .int .i64 0, .slice none 0 0, .string ⟨#[66]⟩, .int .i64 0, .slice (some ⟨w.heap.size, 0, none⟩) 1 1]
  have h3 := Box.new ((w.alloc (.cells #[.int .i64 2, .int .i64 0, .string ⟨#[73, 110, 116]⟩, .slice none 0 0] 63)).alloc (.cells #[.string ⟨#[65]⟩, .int .i64 0, .slice none 0 0, .string ⟨#[66]⟩, .int .i64 0, .slice (some ⟨w.heap.size, 0, none⟩) 1 1] 59)) 56 [.string ⟨#[68]⟩, .int .i64 0, .slice none 0 0, .slice (some ⟨w.heap.size + 1, 0, none⟩) 2 2]
  rw [World.size_alloc] at h2 h3
  rw [World.size_alloc] at h3
  exact ⟨(h1.alloc _).alloc _, h2.alloc _, h3⟩
theorem Box.grownH {w w1 w' : World} {b : Nat} {t : TypeId} {cs : List Value} {row : Option Nat} (h : Box w b t cs) (hg : w1.grownBy w' row) (he : w1.heap = w.heap) (hne : some b ≠ row) : Box w' b t cs :=
  (show Box w1 b t cs from by unfold Box; rw [he]; exact h).grown hg hne
theorem DV.setH {w w1 w' : World} {q h D : Nat} {v : Value} {row : Option Nat} (x : DV w q h D v) (hg : w1.grownBy w' row) (he : w1.heap = w.heap) (h1 : some q ≠ row) (h2 : some h ≠ row) (h3 : some D ≠ row) (h4 : q ≠ D) (h5 : h ≠ D) (v' : Value) : DV (w'.setCell ⟨D, 2, none⟩ v') q h D v' :=
  ⟨(x.bq.grownH hg he h1).setOther h4 _, (x.bh.grownH hg he h2).setOther h5 _, (x.bd.grownH hg he h3).set 2 v'⟩
theorem Below.grownH {w0 w1 w' : World} {B : Nat} {row : Option Nat} (h : Below B w0 w1) (hg : w1.grownBy w' row) (hB : B ≤ w1.heap.size) (hr : ∀ q, row = some q → B ≤ q) : Below B w0 w' := h.grown hg hB hr
theorem Below.drews {w0 w w1 : World} {B : Nat} (h : Below B w0 w) (h1 : w1.heap = w.heap) (h2 : w1.os = w.os) (h3 : w1.tape = w.tape) (h4 : w1.output = w.output) : Below B w0 w1 :=
  ⟨h2.trans h.os, h3.trans h.tape, h4.trans h.output, by rw [h1]; exact h.size, fun b hb => by rw [h1]; exact h.block b hb⟩
theorem DV.heq {w w' : World} {q h D : Nat} {v : Value} (x : DV w q h D v) (e : w'.heap = w.heap) : DV w' q h D v :=
  ⟨by unfold Box; rw [e]; exact x.bq, by unfold Box; rw [e]; exact x.bh, by unfold Box; rw [e]; exact x.bd⟩
theorem Box.heq {w w' : World} {b : Nat} {t : TypeId} {cs : List Value} (h : Box w b t cs) (e : w'.heap = w.heap) : Box w' b t cs := by unfold Box; rw [e]; exact h
theorem DV.two {w wo W' : World} {q h D : Nat} {v : Value} (x : DV wo q h D v) (hb : Below w.heap.size w wo) (o1 o2 : Obj) (e1 : W'.heap = ((wo.alloc o1).alloc o2).heap) (e2 : W'.os = wo.os) (e3 : W'.tape = wo.tape) (e4 : W'.output = wo.output) : DV W' q h D v ∧ Below w.heap.size w W' :=
  ⟨((x.alloc o1).alloc o2).heq e1, Below.drews ((hb.alloc hb.size o1).alloc (by have := hb.size; simp; omega) o2) e1 e2 e3 e4⟩
theorem DV.oneOf {w' : World} {q h D g : Nat} {a : Option Addr} {n c : Nat} (x : DV w' q h D (.slice a n c)) (y : Box w' g 56 [.string ⟨#[68]⟩, .int .i64 0, .slice a n c, .slice (some ⟨h, 0, none⟩) 2 2]) : One2 w' g h q ⟨#[68]⟩ ⟨#[65]⟩ ⟨#[66]⟩ ⟨#[73, 110, 116]⟩ a n c :=
  ⟨y.lt, x.bh.lt, x.bq.lt, y.cell 0, y.cell 1, y.cell 2, y.cell 3, x.bh.cell 0, x.bh.cell 1, x.bh.cell 2, x.bh.cell 3, x.bh.cell 4, x.bh.cell 5, x.bq.cell 0, x.bq.cell 1, x.bq.cell 2, x.bq.cell 3⟩
set_option maxRecDepth 100000 in
set_option maxHeartbeats 8000000 in
theorem data_cons_law (nn wh : Nat) (w : World) (hn : nn < 256) (hw : wh < 256) :
    Calls Try.prog 7 #[.int .u8 (nn : Int), .int .u8 (wh : Int)] w fun e w' => e = .returned (.bool true) ∧ Below w.heap.size w w' := by
  obtain ⟨i0, hi0, hz0, hz1, hz2⟩ := info_parts Try.zstrInfo
  obtain ⟨k, hk⟩ : ∃ k, nn % 5 = k := ⟨_, rfl⟩
  obtain ⟨t, ht⟩ : ∃ t, wh % 3 = t := ⟨_, rfl⟩
  obtain ⟨u, hu⟩ : ∃ u, wh % 2 = u := ⟨_, rfl⟩
  have hk5 : k < 5 := by omega
  have ht3 : t < 3 := by omega
  have hu2 : u < 2 := by omega
  have a1 : IntKind.i64.wrap (nn : Int) = (nn : Int) := IntWalk.i64_in _ (by omega)
  have a2 : (nn : Int).tmod 5 = (k : Int) := by rw [Int.tmod_eq_emod_of_nonneg (by omega)]; omega
  have a3 : IntKind.i64.wrap (k : Int) = (k : Int) := IntWalk.i64_in _ (by omega)
  have b1 : (wh : Int).tmod 3 = (t : Int) := by rw [Int.tmod_eq_emod_of_nonneg (by omega)]; omega
  have b2 : IntKind.u8.wrap (t : Int) = (t : Int) := by have : t = 0 ∨ t = 1 ∨ t = 2 := (by omega); rcases this with h | h | h <;> rw [h] <;> decide
  have c1 : IntKind.i64.wrap (wh : Int) = (wh : Int) := IntWalk.i64_in _ (by omega)
  have c2 : (wh : Int).tmod 2 = (u : Int) := by rw [Int.tmod_eq_emod_of_nonneg (by omega)]; omega
  have c3 : IntKind.i64.wrap (u : Int) = (u : Int) := IntWalk.i64_in _ (by omega)
  clear hk ht hu
  go_enter Try.func7, Try.ntmps7
  go_wp2_with fail
  go_loopw [7] (fun iv wr => ∃ (i : Nat) (a : Option Addr) (c : Nat) (xs : List Value), i ≤ k ∧ iv = .int .i64 (i : Int) ∧ Hid (wr.ownsRow (w.heap.size + 1 + 1 + 1) 9 1 (.slice a i c) i xs) ∧ Hid (DV wr w.heap.size (w.heap.size + 1) (w.heap.size + 1 + 1) (.slice a i c)) ∧ Hid (Below w.heap.size w wr)) (fun iv _ => k - (intOf iv).toNat)
  case atStart => exact ⟨0, none, 0, [], Nat.zero_le _, rfl, Lib.hid (World.ownsRow_nil _ _ _ _), Lib.hid (DV.start w), Lib.hid ((((Below.refl _ w).alloc (Nat.le_refl _) _).alloc (by simp) _).alloc (by simp; omega) _)⟩
  case round =>
    obtain ⟨i, a, c, xs, hik, rfl, HO, HD, HB⟩ := hrel
    obtain ⟨wo, rfl⟩ : ∃ wo, wo = wr := ⟨wr, rfl⟩
    by_cases hlt : i < k
    · obtain ⟨_, _, _, _⟩ := four_cells HD.out.bd
      obtain ⟨_, _, _, _⟩ := four_frozen HD.out.bd
      have hDl := HD.out.bd.lt
      have HLO := Lib.hid (ownsRow_lo HO.out)
      have HNE : Hid (some (w.heap.size + 1 + 1) ≠ (Value.slice a i c).ownBlock) := fun e => by have := HLO.out _ e.symm; omega
      have HNE2 : Hid (some (w.heap.size + 1) ≠ (Value.slice a i c).ownBlock) := fun e => by have := HLO.out _ e.symm; omega
      have HNE3 : Hid (some w.heap.size ≠ (Value.slice a i c).ownBlock) := fun e => by have := HLO.out _ e.symm; omega
      have HNEW : Hid (∀ (W : World) (x : ByteArray) (m : Nat), m = W.heap.size → ∀ (j : Nat) (u : Value), ([.string x] : List Value)[j]? = some u → (W.alloc (.cells #[.string x] 9)).cell? (Addr.add ⟨m, 0, none⟩ j) = some u) := fun W x m hm j u hj => by
        subst hm
        exact World.news_of_block (w := W.alloc (.cells #[.string x] 9)) (B := W.heap.size) (cs := #[.string x]) (Box.new W 9 [.string x]) j u (by simpa using hj)
      have HONE : Hid (∀ (x : ByteArray), ∀ u ∈ ([.string x] : List Value), u.oneCell' = true) := fun x u hu => by simp at hu; subst hu; rfl
      have r5 : (wo.alloc (.cells #[.string ⟨#[112]⟩, .string ⟨#[113]⟩, .string ⟨#[114]⟩, .string ⟨#[115]⟩, .string ⟨#[116]⟩] 9)).cell? ⟨w.heap.size + 1 + 1, 2, none⟩ = some (.slice a i c) := (HD.out.bd.alloc (.cells #[.string ⟨#[112]⟩, .string ⟨#[113]⟩, .string ⟨#[114]⟩, .string ⟨#[115]⟩, .string ⟨#[116]⟩] 9)).cell 2
      have r6 : ∀ x : ByteArray, ((wo.alloc (.cells #[.string ⟨#[112]⟩, .string ⟨#[113]⟩, .string ⟨#[114]⟩, .string ⟨#[115]⟩, .string ⟨#[116]⟩] 9)).alloc (.cells #[.string x] 9)).cell? ⟨w.heap.size + 1 + 1, 2, none⟩ = some (.slice a i c) := fun x => ((HD.out.bd.alloc (.cells #[.string ⟨#[112]⟩, .string ⟨#[113]⟩, .string ⟨#[114]⟩, .string ⟨#[115]⟩, .string ⟨#[116]⟩] 9)).alloc (.cells #[.string x] 9)).cell 2
      have Q1 : Hid (i + 1 ≤ maxLen) := by unfold maxLen; show _ ≤ _; omega
      have Q2 : Hid ((i + 1) * 16 ≤ 140737488355328) := by show _ ≤ _; omega
      have Q3 : Hid (∀ o1 o2, w.heap.size + 1 + 1 + 1 ≤ ((wo.alloc o1).alloc o2).heap.size) := fun o1 o2 => by simp; omega
      have hi4 : i = 0 ∨ i = 1 ∨ i = 2 ∨ i = 3 := by omega
      go_wp2_with fail
      rcases hi4 with rfl | rfl | rfl | rfl
      · skip
        go_region_law ((refine step_append_lies _ rfl _ _ _ rfl (w.heap.size + 1 + 1 + 1) 9 i0 (.string ⟨#[]⟩) 1 16 Try.underlying53 hi0 hz0 hz1 hz2 rfl (by decide) _ _ xs rfl ((HO.out.alloc (.cells #[.string ⟨#[112]⟩, .string ⟨#[113]⟩, .string ⟨#[114]⟩, .string ⟨#[115]⟩, .string ⟨#[116]⟩] 9)).alloc (.cells #[.string ⟨#[112]⟩] 9)) ⟨wo.heap.size + 1, 0, none⟩ 1 1 [.string ⟨#[112]⟩] rfl rfl (HNEW.out (wo.alloc (.cells #[.string ⟨#[112]⟩, .string ⟨#[113]⟩, .string ⟨#[114]⟩, .string ⟨#[115]⟩, .string ⟨#[116]⟩] 9)) ⟨#[112]⟩ (wo.heap.size + 1) (by simp)) (HONE.out _) (by decide) Q1.out Q2.out (Q3.out (.cells #[.string ⟨#[112]⟩, .string ⟨#[113]⟩, .string ⟨#[114]⟩, .string ⟨#[115]⟩, .string ⟨#[116]⟩] 9) (.cells #[.string ⟨#[112]⟩] 9)) _ rfl ?_); intro g9 cap w9 hown9 hgrow hat hlt9; have z9 := ((HD.out.bd.alloc (.cells #[.string ⟨#[112]⟩, .string ⟨#[113]⟩, .string ⟨#[114]⟩, .string ⟨#[115]⟩, .string ⟨#[116]⟩] 9)).alloc (.cells #[.string ⟨#[112]⟩] 9)).grownH hgrow rfl HNE.out; have z5 := z9.cell 2; have z7 := z9.frozen 2; simp only [List.getElem?_cons_zero, List.getElem?_cons_succ] at z5; have z6 := z9.lt)
        all_goals go_wp2_with fail
        all_goals go_roundw
        all_goals first
          | (refine ⟨1, some ⟨g9, 0, none⟩, cap, xs ++ [.string ⟨#[112]⟩], hlt, rfl, Lib.hid (ownsRow_setCell_below hown9 (by show w.heap.size + 1 + 1 < _; omega) _), Lib.hid (((HD.out.alloc (.cells #[.string ⟨#[112]⟩, .string ⟨#[113]⟩, .string ⟨#[114]⟩, .string ⟨#[115]⟩, .string ⟨#[116]⟩] 9)).alloc (.cells #[.string ⟨#[112]⟩] 9)).setH hgrow rfl HNE3.out HNE2.out HNE.out (by omega) (by omega) _), Lib.hid (Below.setCell (Below.grownH (Below.drews ((HB.out.alloc HB.out.size (.cells #[.string ⟨#[112]⟩, .string ⟨#[113]⟩, .string ⟨#[114]⟩, .string ⟨#[115]⟩, .string ⟨#[116]⟩] 9)).alloc (by have := HB.out.size; simp; omega) (.cells #[.string ⟨#[112]⟩] 9)) (by rfl) (by rfl) (by rfl) (by rfl)) hgrow (by have := HB.out.size; simp; omega) (fun q hq => by have := HLO.out q hq; omega)) (by show w.heap.size ≤ w.heap.size + 1 + 1; omega) _)⟩)
          | (simp [intOf]; omega)
      · skip
        go_region_law ((refine step_append_lies _ rfl _ _ _ rfl (w.heap.size + 1 + 1 + 1) 9 i0 (.string ⟨#[]⟩) 1 16 Try.underlying53 hi0 hz0 hz1 hz2 rfl (by decide) _ _ xs rfl ((HO.out.alloc (.cells #[.string ⟨#[112]⟩, .string ⟨#[113]⟩, .string ⟨#[114]⟩, .string ⟨#[115]⟩, .string ⟨#[116]⟩] 9)).alloc (.cells #[.string ⟨#[113]⟩] 9)) ⟨wo.heap.size + 1, 0, none⟩ 1 1 [.string ⟨#[113]⟩] rfl rfl (HNEW.out (wo.alloc (.cells #[.string ⟨#[112]⟩, .string ⟨#[113]⟩, .string ⟨#[114]⟩, .string ⟨#[115]⟩, .string ⟨#[116]⟩] 9)) ⟨#[113]⟩ (wo.heap.size + 1) (by simp)) (HONE.out _) (by decide) Q1.out Q2.out (Q3.out (.cells #[.string ⟨#[112]⟩, .string ⟨#[113]⟩, .string ⟨#[114]⟩, .string ⟨#[115]⟩, .string ⟨#[116]⟩] 9) (.cells #[.string ⟨#[113]⟩] 9)) _ rfl ?_); intro g9 cap w9 hown9 hgrow hat hlt9; have z9 := ((HD.out.bd.alloc (.cells #[.string ⟨#[112]⟩, .string ⟨#[113]⟩, .string ⟨#[114]⟩, .string ⟨#[115]⟩, .string ⟨#[116]⟩] 9)).alloc (.cells #[.string ⟨#[113]⟩] 9)).grownH hgrow rfl HNE.out; have z5 := z9.cell 2; have z7 := z9.frozen 2; simp only [List.getElem?_cons_zero, List.getElem?_cons_succ] at z5; have z6 := z9.lt)
        all_goals go_wp2_with fail
        all_goals go_roundw
        all_goals first
          | (refine ⟨2, some ⟨g9, 0, none⟩, cap, xs ++ [.string ⟨#[113]⟩], hlt, rfl, Lib.hid (ownsRow_setCell_below hown9 (by show w.heap.size + 1 + 1 < _; omega) _), Lib.hid (((HD.out.alloc (.cells #[.string ⟨#[112]⟩, .string ⟨#[113]⟩, .string ⟨#[114]⟩, .string ⟨#[115]⟩, .string ⟨#[116]⟩] 9)).alloc (.cells #[.string ⟨#[113]⟩] 9)).setH hgrow rfl HNE3.out HNE2.out HNE.out (by omega) (by omega) _), Lib.hid (Below.setCell (Below.grownH (Below.drews ((HB.out.alloc HB.out.size (.cells #[.string ⟨#[112]⟩, .string ⟨#[113]⟩, .string ⟨#[114]⟩, .string ⟨#[115]⟩, .string ⟨#[116]⟩] 9)).alloc (by have := HB.out.size; simp; omega) (.cells #[.string ⟨#[113]⟩] 9)) (by rfl) (by rfl) (by rfl) (by rfl)) hgrow (by have := HB.out.size; simp; omega) (fun q hq => by have := HLO.out q hq; omega)) (by show w.heap.size ≤ w.heap.size + 1 + 1; omega) _)⟩)
          | (simp [intOf]; omega)
      · skip
        go_region_law ((refine step_append_lies _ rfl _ _ _ rfl (w.heap.size + 1 + 1 + 1) 9 i0 (.string ⟨#[]⟩) 1 16 Try.underlying53 hi0 hz0 hz1 hz2 rfl (by decide) _ _ xs rfl ((HO.out.alloc (.cells #[.string ⟨#[112]⟩, .string ⟨#[113]⟩, .string ⟨#[114]⟩, .string ⟨#[115]⟩, .string ⟨#[116]⟩] 9)).alloc (.cells #[.string ⟨#[114]⟩] 9)) ⟨wo.heap.size + 1, 0, none⟩ 1 1 [.string ⟨#[114]⟩] rfl rfl (HNEW.out (wo.alloc (.cells #[.string ⟨#[112]⟩, .string ⟨#[113]⟩, .string ⟨#[114]⟩, .string ⟨#[115]⟩, .string ⟨#[116]⟩] 9)) ⟨#[114]⟩ (wo.heap.size + 1) (by simp)) (HONE.out _) (by decide) Q1.out Q2.out (Q3.out (.cells #[.string ⟨#[112]⟩, .string ⟨#[113]⟩, .string ⟨#[114]⟩, .string ⟨#[115]⟩, .string ⟨#[116]⟩] 9) (.cells #[.string ⟨#[114]⟩] 9)) _ rfl ?_); intro g9 cap w9 hown9 hgrow hat hlt9; have z9 := ((HD.out.bd.alloc (.cells #[.string ⟨#[112]⟩, .string ⟨#[113]⟩, .string ⟨#[114]⟩, .string ⟨#[115]⟩, .string ⟨#[116]⟩] 9)).alloc (.cells #[.string ⟨#[114]⟩] 9)).grownH hgrow rfl HNE.out; have z5 := z9.cell 2; have z7 := z9.frozen 2; simp only [List.getElem?_cons_zero, List.getElem?_cons_succ] at z5; have z6 := z9.lt)
        all_goals go_wp2_with fail
        all_goals go_roundw
        all_goals first
          | (refine ⟨3, some ⟨g9, 0, none⟩, cap, xs ++ [.string ⟨#[114]⟩], hlt, rfl, Lib.hid (ownsRow_setCell_below hown9 (by show w.heap.size + 1 + 1 < _; omega) _), Lib.hid (((HD.out.alloc (.cells #[.string ⟨#[112]⟩, .string ⟨#[113]⟩, .string ⟨#[114]⟩, .string ⟨#[115]⟩, .string ⟨#[116]⟩] 9)).alloc (.cells #[.string ⟨#[114]⟩] 9)).setH hgrow rfl HNE3.out HNE2.out HNE.out (by omega) (by omega) _), Lib.hid (Below.setCell (Below.grownH (Below.drews ((HB.out.alloc HB.out.size (.cells #[.string ⟨#[112]⟩, .string ⟨#[113]⟩, .string ⟨#[114]⟩, .string ⟨#[115]⟩, .string ⟨#[116]⟩] 9)).alloc (by have := HB.out.size; simp; omega) (.cells #[.string ⟨#[114]⟩] 9)) (by rfl) (by rfl) (by rfl) (by rfl)) hgrow (by have := HB.out.size; simp; omega) (fun q hq => by have := HLO.out q hq; omega)) (by show w.heap.size ≤ w.heap.size + 1 + 1; omega) _)⟩)
          | (simp [intOf]; omega)
      · skip
        go_region_law ((refine step_append_lies _ rfl _ _ _ rfl (w.heap.size + 1 + 1 + 1) 9 i0 (.string ⟨#[]⟩) 1 16 Try.underlying53 hi0 hz0 hz1 hz2 rfl (by decide) _ _ xs rfl ((HO.out.alloc (.cells #[.string ⟨#[112]⟩, .string ⟨#[113]⟩, .string ⟨#[114]⟩, .string ⟨#[115]⟩, .string ⟨#[116]⟩] 9)).alloc (.cells #[.string ⟨#[115]⟩] 9)) ⟨wo.heap.size + 1, 0, none⟩ 1 1 [.string ⟨#[115]⟩] rfl rfl (HNEW.out (wo.alloc (.cells #[.string ⟨#[112]⟩, .string ⟨#[113]⟩, .string ⟨#[114]⟩, .string ⟨#[115]⟩, .string ⟨#[116]⟩] 9)) ⟨#[115]⟩ (wo.heap.size + 1) (by simp)) (HONE.out _) (by decide) Q1.out Q2.out (Q3.out (.cells #[.string ⟨#[112]⟩, .string ⟨#[113]⟩, .string ⟨#[114]⟩, .string ⟨#[115]⟩, .string ⟨#[116]⟩] 9) (.cells #[.string ⟨#[115]⟩] 9)) _ rfl ?_); intro g9 cap w9 hown9 hgrow hat hlt9; have z9 := ((HD.out.bd.alloc (.cells #[.string ⟨#[112]⟩, .string ⟨#[113]⟩, .string ⟨#[114]⟩, .string ⟨#[115]⟩, .string ⟨#[116]⟩] 9)).alloc (.cells #[.string ⟨#[115]⟩] 9)).grownH hgrow rfl HNE.out; have z5 := z9.cell 2; have z7 := z9.frozen 2; simp only [List.getElem?_cons_zero, List.getElem?_cons_succ] at z5; have z6 := z9.lt)
        all_goals go_wp2_with fail
        all_goals go_roundw
        all_goals first
          | (refine ⟨4, some ⟨g9, 0, none⟩, cap, xs ++ [.string ⟨#[115]⟩], hlt, rfl, Lib.hid (ownsRow_setCell_below hown9 (by show w.heap.size + 1 + 1 < _; omega) _), Lib.hid (((HD.out.alloc (.cells #[.string ⟨#[112]⟩, .string ⟨#[113]⟩, .string ⟨#[114]⟩, .string ⟨#[115]⟩, .string ⟨#[116]⟩] 9)).alloc (.cells #[.string ⟨#[115]⟩] 9)).setH hgrow rfl HNE3.out HNE2.out HNE.out (by omega) (by omega) _), Lib.hid (Below.setCell (Below.grownH (Below.drews ((HB.out.alloc HB.out.size (.cells #[.string ⟨#[112]⟩, .string ⟨#[113]⟩, .string ⟨#[114]⟩, .string ⟨#[115]⟩, .string ⟨#[116]⟩] 9)).alloc (by have := HB.out.size; simp; omega) (.cells #[.string ⟨#[115]⟩] 9)) (by rfl) (by rfl) (by rfl) (by rfl)) hgrow (by have := HB.out.size; simp; omega) (fun q hq => by have := HLO.out q hq; omega)) (by show w.heap.size ≤ w.heap.size + 1 + 1; omega) _)⟩)
          | (simp [intOf]; omega)
    · obtain rfl : i = k := by omega
      obtain ⟨_, _, _, _⟩ := four_cells HD.out.bd
      have hDl := HD.out.bd.lt
      clear HO
      have X1 : Hid (∀ W' : World, W'.heap = ((wo.alloc (.cells #[.string ⟨#[68]⟩, .int .i64 0, .slice a i c, .slice (some ⟨w.heap.size + 1, 0, none⟩) 2 2] 56)).alloc (.cells #[.string ⟨#[65]⟩, .string ⟨#[66]⟩, .string ⟨#[67]⟩] 9)).heap → One2 W' wo.heap.size (w.heap.size + 1) w.heap.size ⟨#[68]⟩ ⟨#[65]⟩ ⟨#[66]⟩ ⟨#[73, 110, 116]⟩ a i c) := fun W' e =>
        DV.oneOf (((HD.out.alloc _).alloc _).heq e) (((Box.new wo 56 [.string ⟨#[68]⟩, .int .i64 0, .slice a i c, .slice (some ⟨w.heap.size + 1, 0, none⟩) 2 2]).alloc _).heq e)
      have X2 : Hid (∀ W' : World, W'.heap = ((wo.alloc (.cells #[.string ⟨#[65]⟩, .string ⟨#[66]⟩, .string ⟨#[67]⟩] 9)).alloc (.cells #[.string ⟨#[68]⟩, .int .i64 0, .slice a i c, .slice (some ⟨w.heap.size + 1, 0, none⟩) 2 2] 56)).heap → One2 W' (wo.heap.size + 1) (w.heap.size + 1) w.heap.size ⟨#[68]⟩ ⟨#[65]⟩ ⟨#[66]⟩ ⟨#[73, 110, 116]⟩ a i c) := fun W' e => by
        have h := Box.new (wo.alloc (.cells #[.string ⟨#[65]⟩, .string ⟨#[66]⟩, .string ⟨#[67]⟩] 9)) 56 [.string ⟨#[68]⟩, .int .i64 0, .slice a i c, .slice (some ⟨w.heap.size + 1, 0, none⟩) 2 2]
        rw [World.size_alloc] at h
        exact DV.oneOf (((HD.out.alloc _).alloc _).heq e) (h.heq e)
      have HY : Hid (∀ W' : World, (W'.heap = ((wo.alloc (.cells #[.string ⟨#[68]⟩, .int .i64 0, .slice a i c, .slice (some ⟨w.heap.size + 1, 0, none⟩) 2 2] 56)).alloc (.cells #[.string ⟨#[65]⟩, .string ⟨#[66]⟩, .string ⟨#[67]⟩] 9)).heap ∨ W'.heap = ((wo.alloc (.cells #[.string ⟨#[65]⟩, .string ⟨#[66]⟩, .string ⟨#[67]⟩] 9)).alloc (.cells #[.string ⟨#[68]⟩, .int .i64 0, .slice a i c, .slice (some ⟨w.heap.size + 1, 0, none⟩) 2 2] 56)).heap) → W'.os = wo.os → W'.tape = wo.tape → W'.output = wo.output → DV W' w.heap.size (w.heap.size + 1) (w.heap.size + 1 + 1) (.slice a i c) ∧ Below w.heap.size w W') := fun W' e e2 e3 e4 => by
        rcases e with e | e
        · exact HD.out.two HB.out _ _ e e2 e3 e4
        · exact HD.out.two HB.out _ _ e e2 e3 e4
      have hcN : t = 0 ∨ t = 1 ∨ t = 2 := by omega
      go_upto_region 7 with fail
      go_cut [8, 9] (fun v8 v9 wx => v8 = .int .i64 (cI t) ∧ v9 = .int .i64 (cJ t) ∧ Hid (DV wx w.heap.size (w.heap.size + 1) (w.heap.size + 1 + 1) (.slice a i c)) ∧ Hid (Below w.heap.size w wx))
      case first =>
        clear HD HB
        rcases hcN with rfl | rfl | rfl
        · have HC : Hid (∀ w' g, One2 w' g (w.heap.size + 1) w.heap.size ⟨#[68]⟩ ⟨#[65]⟩ ⟨#[66]⟩ ⟨#[73, 110, 116]⟩ a i c → Calls Try.prog 26 #[.slice (some ⟨g, 0, none⟩) 1 1, .string ⟨#[65]⟩] w' fun e w'' => e = .returned (.tuple #[.int .i64 (0), .int .i64 (0)]) ∧ Below w'.heap.size w' w'') := fun w' g X => k_ConABC w' g _ _ _ _ _ _ _ X 0 (by omega)
          go_region_with (first
            | (go_at_call 26; (with_reducible refine (HC.out _ wo.heap.size ?hx).mono ?_); (case hx => exact X1.out _ (by rfl)); rintro e w8 ⟨rfl, hb8⟩; have HD8 := Lib.hid ((HY.out _ (.inl (by rfl)) (by rfl) (by rfl) (by rfl)).1.below hb8); have HB8 := Lib.hid ((HY.out _ (.inl (by rfl)) (by rfl) (by rfl) (by rfl)).2.trans (hb8.mono (HY.out _ (.inl (by rfl)) (by rfl) (by rfl) (by rfl)).2.size)); clear hb8)
            | (go_at_call 26; (with_reducible refine (HC.out _ (wo.heap.size + 1) ?hx).mono ?_); (case hx => exact X2.out _ (by rfl)); rintro e w8 ⟨rfl, hb8⟩; have HD8 := Lib.hid ((HY.out _ (.inr (by rfl)) (by rfl) (by rfl) (by rfl)).1.below hb8); have HB8 := Lib.hid ((HY.out _ (.inr (by rfl)) (by rfl) (by rfl) (by rfl)).2.trans (hb8.mono (HY.out _ (.inr (by rfl)) (by rfl) (by rfl) (by rfl)).2.size)); clear hb8))
          all_goals go_wp2_with fail
          all_goals go_meet
          all_goals exact ⟨rfl, rfl, HD8, HB8⟩
        · have HC : Hid (∀ w' g, One2 w' g (w.heap.size + 1) w.heap.size ⟨#[68]⟩ ⟨#[65]⟩ ⟨#[66]⟩ ⟨#[73, 110, 116]⟩ a i c → Calls Try.prog 26 #[.slice (some ⟨g, 0, none⟩) 1 1, .string ⟨#[66]⟩] w' fun e w'' => e = .returned (.tuple #[.int .i64 (0), .int .i64 (1)]) ∧ Below w'.heap.size w' w'') := fun w' g X => k_ConABC w' g _ _ _ _ _ _ _ X 1 (by omega)
          go_region_with (first
            | (go_at_call 26; (with_reducible refine (HC.out _ wo.heap.size ?hx).mono ?_); (case hx => exact X1.out _ (by rfl)); rintro e w8 ⟨rfl, hb8⟩; have HD8 := Lib.hid ((HY.out _ (.inl (by rfl)) (by rfl) (by rfl) (by rfl)).1.below hb8); have HB8 := Lib.hid ((HY.out _ (.inl (by rfl)) (by rfl) (by rfl) (by rfl)).2.trans (hb8.mono (HY.out _ (.inl (by rfl)) (by rfl) (by rfl) (by rfl)).2.size)); clear hb8)
            | (go_at_call 26; (with_reducible refine (HC.out _ (wo.heap.size + 1) ?hx).mono ?_); (case hx => exact X2.out _ (by rfl)); rintro e w8 ⟨rfl, hb8⟩; have HD8 := Lib.hid ((HY.out _ (.inr (by rfl)) (by rfl) (by rfl) (by rfl)).1.below hb8); have HB8 := Lib.hid ((HY.out _ (.inr (by rfl)) (by rfl) (by rfl) (by rfl)).2.trans (hb8.mono (HY.out _ (.inr (by rfl)) (by rfl) (by rfl) (by rfl)).2.size)); clear hb8))
          all_goals go_wp2_with fail
          all_goals go_meet
          all_goals exact ⟨rfl, rfl, HD8, HB8⟩
        · have HC : Hid (∀ w' g, One2 w' g (w.heap.size + 1) w.heap.size ⟨#[68]⟩ ⟨#[65]⟩ ⟨#[66]⟩ ⟨#[73, 110, 116]⟩ a i c → Calls Try.prog 26 #[.slice (some ⟨g, 0, none⟩) 1 1, .string ⟨#[67]⟩] w' fun e w'' => e = .returned (.tuple #[.int .i64 (-1), .int .i64 (-1)]) ∧ Below w'.heap.size w' w'') := fun w' g X => k_ConABC w' g _ _ _ _ _ _ _ X 2 (by omega)
          go_region_with (first
            | (go_at_call 26; (with_reducible refine (HC.out _ wo.heap.size ?hx).mono ?_); (case hx => exact X1.out _ (by rfl)); rintro e w8 ⟨rfl, hb8⟩; have HD8 := Lib.hid ((HY.out _ (.inl (by rfl)) (by rfl) (by rfl) (by rfl)).1.below hb8); have HB8 := Lib.hid ((HY.out _ (.inl (by rfl)) (by rfl) (by rfl) (by rfl)).2.trans (hb8.mono (HY.out _ (.inl (by rfl)) (by rfl) (by rfl) (by rfl)).2.size)); clear hb8)
            | (go_at_call 26; (with_reducible refine (HC.out _ (wo.heap.size + 1) ?hx).mono ?_); (case hx => exact X2.out _ (by rfl)); rintro e w8 ⟨rfl, hb8⟩; have HD8 := Lib.hid ((HY.out _ (.inr (by rfl)) (by rfl) (by rfl) (by rfl)).1.below hb8); have HB8 := Lib.hid ((HY.out _ (.inr (by rfl)) (by rfl) (by rfl) (by rfl)).2.trans (hb8.mono (HY.out _ (.inr (by rfl)) (by rfl) (by rfl) (by rfl)).2.size)); clear hb8))
          all_goals go_wp2_with fail
          all_goals go_meet
          all_goals exact ⟨rfl, rfl, HD8, HB8⟩
      case rest =>
        rename World => w8
        obtain ⟨rfl, rfl, HD8, HB8⟩ := hcut
        clear X1 X2 HY HD HB
        clear hDl
        obtain ⟨_, _, _, _⟩ := four_cells HD8.out.bd
        have hDl8 := HD8.out.bd.lt
        have HT2 : Hid (∀ (w' : World) (g : Nat), One2 w' g (w.heap.size + 1) w.heap.size ⟨#[68]⟩ ⟨#[65]⟩ ⟨#[66]⟩ ⟨#[73, 110, 116]⟩ a i c → Calls Try.prog 27 #[.slice (some ⟨g, 0, none⟩) 1 1, .int .i64 0, .int .i64 (u : Int)] w' fun e w'' => ∃ ab kb, e = .returned (.tuple #[.slice (some ⟨ab, 0, none⟩) u u, .agg #[.int .i64 2, .int .i64 0, .string ⟨#[68]⟩, .slice (some ⟨kb, 0, none⟩) i i]]) ∧ w'.heap.size ≤ kb ∧ RowsIn 4 w'' kb (tvRows i i) ∧ Below w'.heap.size w' w'') := fun w' g X => k_Type2 w' g _ _ _ _ _ _ a i c X (by omega) (by decide) (by decide) u hu2
        have X3 : Hid (One2 (w8.alloc (.cells #[.string ⟨#[68]⟩, .int .i64 0, .slice a i c, .slice (some ⟨w.heap.size + 1, 0, none⟩) 2 2] 56)) w8.heap.size (w.heap.size + 1) w.heap.size ⟨#[68]⟩ ⟨#[65]⟩ ⟨#[66]⟩ ⟨#[73, 110, 116]⟩ a i c) := Lib.hid (DV.oneOf (HD8.out.alloc _) (Box.new w8 56 [.string ⟨#[68]⟩, .int .i64 0, .slice a i c, .slice (some ⟨w.heap.size + 1, 0, none⟩) 2 2]))
        have HY8 : Hid (∀ w', Below (w8.alloc (.cells #[.string ⟨#[68]⟩, .int .i64 0, .slice a i c, .slice (some ⟨w.heap.size + 1, 0, none⟩) 2 2] 56)).heap.size (w8.alloc (.cells #[.string ⟨#[68]⟩, .int .i64 0, .slice a i c, .slice (some ⟨w.heap.size + 1, 0, none⟩) 2 2] 56)) w' → DV w' w.heap.size (w.heap.size + 1) (w.heap.size + 1 + 1) (.slice a i c) ∧ Below w.heap.size w w') := fun w' h => ⟨(HD8.out.alloc _).below h, (HB8.out.alloc HB8.out.size _).trans (h.mono (by have := HB8.out.size; simp; omega))⟩
        go_upto_region 8 with fail
        go_cut [10, 11] (fun v10 v11 wx => ∃ ab kb P1, v10 = .slice (some ⟨ab, 0, none⟩) u u ∧ v11 = .pointer (some ⟨P1, 0, none⟩) ∧ Hid (Box wx P1 63 [.int .i64 2, .int .i64 0, .string ⟨#[68]⟩, .slice (some ⟨kb, 0, none⟩) i i]) ∧ Hid (RowsIn 4 wx kb (tvRows i i)) ∧ Hid (DV wx w.heap.size (w.heap.size + 1) (w.heap.size + 1 + 1) (.slice a i c)) ∧ Hid (Below w.heap.size w wx))
        case first =>
          clear HD8 HB8
          go_wp2_with (go_at_call 27; (with_reducible refine (HT2.out _ _ X3.out).mono ?_); rintro e w9 ⟨ab, kb, rfl, hkb, hr9, hb9⟩; have HV9 := Lib.hid (HY8.out _ hb9); have HR9 := Lib.hid hr9; clear hr9 hb9 hkb)
          go_meet
          exact ⟨ab, kb, w9.heap.size, rfl, rfl, Lib.hid (Box.new w9 63 [.int .i64 2, .int .i64 0, .string ⟨#[68]⟩, .slice (some ⟨kb, 0, none⟩) i i]), Lib.hid (HR9.out.agree (Below.heap_alloc w9 _ kb HR9.out.1) (by simp)), Lib.hid (HV9.out.1.alloc _), Lib.hid (HV9.out.2.alloc HV9.out.2.size _)⟩
        case rest =>
        rename World => w9
        obtain ⟨ab, kb, P1, rfl, rfl, HP9, HR9, HD9, HB9⟩ := hcut
        clear X3 HY8 HT2 HD8 HB8 hDl8
        obtain ⟨_, _, _, _⟩ := four_cells HD9.out.bd
        have hDl9 := HD9.out.bd.lt
        have HT3 := Lib.hid (fun w' => k_TypeNo w' w9.heap.size)
        go_upto_region 9 with fail
        go_cut [12, 13] (fun v12 v13 wx => ∃ P2, v12 = .slice none 0 0 ∧ v13 = .pointer (some ⟨P2, 0, none⟩) ∧ Hid (Box wx P2 63 [.int .i64 0, .int .i64 0, .string ⟨#[]⟩, .slice none 0 0]) ∧ Hid (Box wx P1 63 [.int .i64 2, .int .i64 0, .string ⟨#[68]⟩, .slice (some ⟨kb, 0, none⟩) i i]) ∧ Hid (RowsIn 4 wx kb (tvRows i i)) ∧ Hid (Below w.heap.size w wx))
        case first =>
          go_wp2_with (go_at_call 27; (with_reducible refine (HT3.out _).mono ?_); rintro e w5 ⟨rfl, hb5⟩; have HP5 := Lib.hid ((HP9.out.alloc _).below hb5); have HR5 := Lib.hid ((HR9.out.agree (Below.heap_alloc w9 (.cells #[.string ⟨#[68]⟩, .int .i64 0, .slice a i c, .slice (some ⟨w.heap.size + 1, 0, none⟩) 2 2] 56) kb HR9.out.1) (by simp)).agree (hb5.block kb (by have := HR9.out.1; simp; omega)) hb5.size); have HB5 := Lib.hid ((HB9.out.alloc HB9.out.size _).trans (hb5.mono (by have := HB9.out.size; simp; omega))); clear hb5)
          go_meet
          exact ⟨w5.heap.size, rfl, rfl, Lib.hid (Box.new w5 63 [.int .i64 0, .int .i64 0, .string ⟨#[]⟩, .slice none 0 0]), Lib.hid (HP5.out.alloc _), Lib.hid (HR5.out.agree (Below.heap_alloc w5 _ kb HR5.out.1) (by simp)), Lib.hid (HB5.out.alloc HB5.out.size _)⟩
        case rest =>
        rename World => w6
        obtain ⟨P2, rfl, rfl, HQ6, HP6, HR6, HB6⟩ := hcut
        clear HT3 HD9 HB9 HP9 HR9 hDl9
        obtain ⟨_, _, _, _⟩ := four_cells HP6.out
        obtain ⟨_, _, _, _⟩ := four_cells HQ6.out
        have hp1 := HP6.out.lt
        have hp2 := HQ6.out.lt
        have e1 : ((u : Int) == (u : Int)) = true := by simp
        have e2 : ((i : Int) == (i : Int)) = true := by simp
        rcases hcN with rfl | rfl | rfl
        · go_wp2_with fail
          go_loopw [14] (fun iv wr => ∃ m : Nat, m ≤ i ∧ iv = .int .i64 (m : Int) ∧ wr = w6) (fun iv _ => i - (intOf iv).toNat)
          case atStart => exact ⟨0, Nat.zero_le _, rfl, rfl⟩
          case round =>
            obtain ⟨m, hm, rfl, rfl⟩ := hrel
            by_cases hlm : m < i
            · have hg := tvRows_get (i := i) hlm
              rw [if_pos hlm] at hg
              have g0 := (HR6.out.2 m _ hg 0 _ rfl).1
              have g1 := (HR6.out.2 m _ hg 1 _ rfl).1
              rw [Nat.add_zero] at g0
              have T1 : ∀ W, Sem.run Try.prog (Instr.indexAt 57 (.slice (some ⟨kb, 0, none⟩) i i) (.int .i64 (m : Int))) W = .ok (.pointer (some ⟨kb, m * 4, none⟩)) W := fun W => by go_simp
              have hmm : m + 1 ≤ i := hlm
              clear hg
              go_wp2_with fail
              go_roundw
              case rel => exact ⟨m + 1, by omega, by go_num, trivial⟩
              case measure => simp [intOf]; omega
            · have hmi : m = i := by omega
              go_wp2_with (go_at_call 25; refine (d_awake _).mono ?_; rintro e w7 ⟨rfl, hb7⟩; have HB7 := Lib.hid (HB6.out.trans (hb7.mono HB6.out.size)); clear hb7)
              go_ret
              exact ⟨rfl, HB7.out⟩
        · go_wp2_with fail
          go_loopw [14] (fun iv wr => ∃ m : Nat, m ≤ i ∧ iv = .int .i64 (m : Int) ∧ wr = w6) (fun iv _ => i - (intOf iv).toNat)
          case atStart => exact ⟨0, Nat.zero_le _, rfl, rfl⟩
          case round =>
            obtain ⟨m, hm, rfl, rfl⟩ := hrel
            by_cases hlm : m < i
            · have hg := tvRows_get (i := i) hlm
              rw [if_pos hlm] at hg
              have g0 := (HR6.out.2 m _ hg 0 _ rfl).1
              have g1 := (HR6.out.2 m _ hg 1 _ rfl).1
              rw [Nat.add_zero] at g0
              have T1 : ∀ W, Sem.run Try.prog (Instr.indexAt 57 (.slice (some ⟨kb, 0, none⟩) i i) (.int .i64 (m : Int))) W = .ok (.pointer (some ⟨kb, m * 4, none⟩)) W := fun W => by go_simp
              have hmm : m + 1 ≤ i := hlm
              clear hg
              go_wp2_with fail
              go_roundw
              case rel => exact ⟨m + 1, by omega, by go_num, trivial⟩
              case measure => simp [intOf]; omega
            · have hmi : m = i := by omega
              go_wp2_with (go_at_call 25; refine (d_awake _).mono ?_; rintro e w7 ⟨rfl, hb7⟩; have HB7 := Lib.hid (HB6.out.trans (hb7.mono HB6.out.size)); clear hb7)
              go_ret
              exact ⟨rfl, HB7.out⟩
        · go_wp2_with fail
          go_loopw [14] (fun iv wr => ∃ m : Nat, m ≤ i ∧ iv = .int .i64 (m : Int) ∧ wr = w6) (fun iv _ => i - (intOf iv).toNat)
          case atStart => exact ⟨0, Nat.zero_le _, rfl, rfl⟩
          case round =>
            obtain ⟨m, hm, rfl, rfl⟩ := hrel
            by_cases hlm : m < i
            · have hg := tvRows_get (i := i) hlm
              rw [if_pos hlm] at hg
              have g0 := (HR6.out.2 m _ hg 0 _ rfl).1
              have g1 := (HR6.out.2 m _ hg 1 _ rfl).1
              rw [Nat.add_zero] at g0
              have T1 : ∀ W, Sem.run Try.prog (Instr.indexAt 57 (.slice (some ⟨kb, 0, none⟩) i i) (.int .i64 (m : Int))) W = .ok (.pointer (some ⟨kb, m * 4, none⟩)) W := fun W => by go_simp
              have hmm : m + 1 ≤ i := hlm
              clear hg
              go_wp2_with fail
              go_roundw
              case rel => exact ⟨m + 1, by omega, by go_num, trivial⟩
              case measure => simp [intOf]; omega
            · have hmi : m = i := by omega
              go_wp2_with (go_at_call 25; refine (d_awake _).mono ?_; rintro e w7 ⟨rfl, hb7⟩; have HB7 := Lib.hid (HB6.out.trans (hb7.mono HB6.out.size)); clear hb7)
              go_ret
              exact ⟨rfl, HB7.out⟩

end Go.Proofs.Ytjfogodfpmfhhaa
