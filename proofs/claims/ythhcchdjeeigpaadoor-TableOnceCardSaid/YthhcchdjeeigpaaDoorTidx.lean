/- Contract of package table's index. -/
import Derived.Test.YthhcchdjeeigpaaDoorTkey
import Derived.Test.YthhcchdjeeigpaaDoorTout
import Derived.Deep.RegionLaw
import Derived.Deep.RegionHeld3
import Derived.Deep.RegionWith
import Derived.Deep.DeepCutAuto
import Derived.Deep.CutRange
namespace Go.Proofs.YthhcchdjeeigpaaDoor
open Go.RowKit Go.Maps
set_option linter.unusedVariables false
set_option linter.unusedSimpArgs false

theorem Tryd.keyInfo : (Tryd.prog.info? 57).map (fun i => (i.zero, i.size, i.bytes)) = some (some (.agg #[.string ByteArray.empty, .int .i64 0, .int .i64 0]), 3, 32) := by kernel_rfl

theorem Box.six {w : World} {b : Nat} {t : TypeId} {c0 c1 c2 c3 c4 c5 : Value} (h : Box w b t [c0, c1, c2, c3, c4, c5]) : w.cell? ⟨b, 0, none⟩ = some c0 ∧ w.cell? ⟨b, 1, none⟩ = some c1 ∧ w.cell? ⟨b, 2, none⟩ = some c2 ∧ w.cell? ⟨b, 3, none⟩ = some c3 ∧ w.cell? ⟨b, 4, none⟩ = some c4 ∧ w.cell? ⟨b, 5, none⟩ = some c5 :=
  ⟨h.cell 0, h.cell 1, h.cell 2, h.cell 3, h.cell 4, h.cell 5⟩
theorem Box.sixf {w : World} {b : Nat} {t : TypeId} {c0 c1 c2 c3 c4 c5 : Value} (h : Box w b t [c0, c1, c2, c3, c4, c5]) : w.frozen? ⟨b, 0, none⟩ = false ∧ w.frozen? ⟨b, 1, none⟩ = false ∧ w.frozen? ⟨b, 2, none⟩ = false ∧ w.frozen? ⟨b, 3, none⟩ = false ∧ w.frozen? ⟨b, 4, none⟩ = false ∧ w.frozen? ⟨b, 5, none⟩ = false :=
  ⟨h.frozen 0, h.frozen 1, h.frozen 2, h.frozen 3, h.frozen 4, h.frozen 5⟩

/-- What a table has, behind a look. -/
def Looked (w w' : World) (G M e0 : Nat) (room : Int) (kv c3 c4 c5 : Value) (keys keys' : List Ky) (n : Nat) : Prop :=
  ∃ kv' D' n', Box w' G 114 [.int .i64 room, kv', .map (some M), c3, c4, c5] ∧ w'.ownsRow e0 57 3 kv' keys'.length (keys'.flatMap kcell) ∧ w'.ownsMap Tryd.prog 57 (plainElem Tryd.prog 3) M n' D' ∧ PInv D' keys' ∧ n' ≤ n + 1 ∧
    (kv'.ownBlock = kv.ownBlock ∨ ∃ q, kv'.ownBlock = some q ∧ w.heap.size ≤ q) ∧ Out (fun b => b = G ∨ b = M ∨ kv.ownBlock = some b) w w'

set_option maxRecDepth 100000 in
set_option maxHeartbeats 2000000 in
theorem index_there (w : World) (G M e0 : Nat) (room : Int) (kv c3 c4 c5 : Value) (keys : List Ky) (n : Nat) (D : DataW Unit) (k : Ky) (hb : Box w G 114 [.int .i64 room, kv, .map (some M), c3, c4, c5])
    (hk : w.ownsRow e0 57 3 kv keys.length (keys.flatMap kcell)) (hm : w.ownsMap Tryd.prog 57 (plainElem Tryd.prog 3) M n D) (hp : PInv D keys) (hf : kfit k) (hin : k ∈ keys) (x : Nat) (hx : kat keys k = x) :
    Calls Tryd.prog 70 #[.pointer (some ⟨G, 0, none⟩), kval k] w fun e w' => e = .returned (.int .i64 (x : Int)) ∧ Below w.heap.size w w' := by
  obtain ⟨kl, hkl⟩ := ky_key hf
  obtain ⟨p1, p2⟩ := hp.2 k kl hkl
  have p3 := p2 hin
  rw [hx] at p3
  rw [decide_eq_true hin] at p1
  obtain ⟨s, ka, kb⟩ := k
  have hkl' : keyOf Tryd.prog 57 (.agg #[.string s, .int .i64 ka, .int .i64 kb]) = some kl := hkl
  have hGl := hb.lt
  have hMl := ownsMap_lt hm
  have hbn := hb.alloc (.cells #[.string s, .int .i64 ka, .int .i64 kb] 57)
  have hbx := Box.new w 57 [.string s, .int .i64 ka, .int .i64 kb]
  obtain ⟨_, _, _, _, _, _⟩ := hbn.six
  obtain ⟨_, _, _, _, _, _⟩ := hbx.three
  have HM := hm.alloc (.cells #[.string s, .int .i64 ka, .int .i64 kb] 57)
  have hrun := look_at (w := (w.alloc (.cells #[.string s, .int .i64 ka, .int .i64 kb] 57)).drew) Tryd.kyKeyed Tryd.underlying108 Tryd.underlying3 (Tryd.tzeroInt _) HM hkl' p1 p3
  have HB : Hid (Below w.heap.size w (w.alloc (.cells #[.string s, .int .i64 ka, .int .i64 kb] 57))) := (Below.refl _ _).alloc (Nat.le_refl _) _
  have hs : (w.alloc (.cells #[.string s, .int .i64 ka, .int .i64 kb] 57)).heap.size = w.heap.size + 1 := by simp
  have hwl : w.heap.size < (w.alloc (.cells #[.string s, .int .i64 ka, .int .i64 kb] 57)).heap.size := by omega
  clear hb hk hm hp hf hin hx hkl hkl' p1 p2 p3 hbn hbx hs HM
  unfold kval
  go_enter Tryd.func70, Tryd.ntmps70
  go_wp2_with fail
  go_region
  go_wp2_with fail
  go_ret
  exact ⟨rfl, HB.out.drew⟩

theorem grown_al {w W w9 : World} {o : Obj} {row : Option Nat} (h : W.grownBy w9 row) (h1 : W.os = w.os) (h2 : W.tape = w.tape) (h3 : W.output = w.output) (h4 : W.heap = (w.alloc o).heap) : w.grownBy w9 row := by
  refine ⟨h.os.trans h1, h.tape.trans h2, h.output.trans h3, Nat.le_trans ?_ h.size, fun k hk hne => (h.block k ?_ hne).trans ?_⟩
  · rw [h4]; simp
  · rw [h4]; simp; omega
  · rw [h4]; exact Below.heap_alloc w o k hk
theorem ownsRow_shape {w : World} {base n size : Nat} {e : TypeId} {v : Value} {xs : List Value} (h : w.ownsRow base e size v n xs) : ∃ a c, v = .slice a n c := by
  obtain ⟨_, ⟨rfl, h0⟩ | ⟨g, cap, cur, rfl, _⟩⟩ := h
  · exact ⟨none, 0, by rw [h0]⟩
  · exact ⟨_, _, rfl⟩

set_option maxRecDepth 100000 in
set_option maxHeartbeats 2000000 in
theorem index_full (w : World) (G M e0 : Nat) (room : Int) (kv c3 c4 c5 : Value) (keys : List Ky) (n : Nat) (D : DataW Unit) (k : Ky) (hb : Box w G 114 [.int .i64 room, kv, .map (some M), c3, c4, c5])
    (hk : w.ownsRow e0 57 3 kv keys.length (keys.flatMap kcell)) (hm : w.ownsMap Tryd.prog 57 (plainElem Tryd.prog 3) M n D) (hp : PInv D keys) (hf : kfit k) (hin : k ∉ keys) (hr : ¬ (keys.length : Int) < room) :
    Calls Tryd.prog 70 #[.pointer (some ⟨G, 0, none⟩), kval k] w fun e w' => e = .returned (.int .i64 (-1)) ∧ Below w.heap.size w w' := by
  obtain ⟨kl, hkl⟩ := ky_key hf
  obtain ⟨p1, _⟩ := hp.2 k kl hkl
  rw [decide_eq_false hin] at p1
  have p3 := atKey_of_not_has p1 (.lit (.int .i64 0))
  obtain ⟨s, ka, kb⟩ := k
  have hkl' : keyOf Tryd.prog 57 (.agg #[.string s, .int .i64 ka, .int .i64 kb]) = some kl := hkl
  obtain ⟨av, cv, rfl⟩ := ownsRow_shape hk
  obtain ⟨L, hL⟩ : ∃ L, keys.length = L := ⟨_, rfl⟩
  rw [hL] at hr hb
  have hdec : decide (room ≤ (L : Int)) = true := decide_eq_true (by omega)
  have hGl := hb.lt
  have hMl := ownsMap_lt hm
  have hbn := hb.alloc (.cells #[.string s, .int .i64 ka, .int .i64 kb] 57)
  have hbx := Box.new w 57 [.string s, .int .i64 ka, .int .i64 kb]
  obtain ⟨_, _, _, _, _, _⟩ := hbn.six
  obtain ⟨_, _, _, _, _, _⟩ := hbx.three
  have HM := hm.alloc (.cells #[.string s, .int .i64 ka, .int .i64 kb] 57)
  have hrun := look_at (w := (w.alloc (.cells #[.string s, .int .i64 ka, .int .i64 kb] 57)).drew) Tryd.kyKeyed Tryd.underlying108 Tryd.underlying3 (Tryd.tzeroInt _) HM hkl' p1 p3
  have HB : Hid (Below w.heap.size w (w.alloc (.cells #[.string s, .int .i64 ka, .int .i64 kb] 57))) := (Below.refl _ _).alloc (Nat.le_refl _) _
  have hs : (w.alloc (.cells #[.string s, .int .i64 ka, .int .i64 kb] 57)).heap.size = w.heap.size + 1 := by simp
  have hwl : w.heap.size < (w.alloc (.cells #[.string s, .int .i64 ka, .int .i64 kb] 57)).heap.size := by omega
  clear hb hk hm hp hf hin hkl hkl' p1 p3 hbn hbx hs HM hL hr
  unfold kval
  go_enter Tryd.func70, Tryd.ntmps70
  go_wp2_with fail
  go_region
  go_wp2_with fail
  go_region
  go_wp2_with fail
  go_ret
  exact ⟨rfl, HB.out.drew.drew⟩

set_option maxRecDepth 100000 in
set_option maxHeartbeats 4000000 in
theorem index_new (w : World) (G M e0 : Nat) (room : Int) (kv c3 c4 c5 : Value) (keys : List Ky) (n : Nat) (D : DataW Unit) (k : Ky) (hb : Box w G 114 [.int .i64 room, kv, .map (some M), c3, c4, c5])
    (hk : w.ownsRow e0 57 3 kv keys.length (keys.flatMap kcell)) (hm : w.ownsMap Tryd.prog 57 (plainElem Tryd.prog 3) M n D) (hp : PInv D keys) (hn : n ≤ 1000000) (hl : keys.length ≤ 1000000) (hf : kfit k) (hin : k ∉ keys) (hr : (keys.length : Int) < room) (hGe : G < e0) (hMe : M < e0) (hGM : G ≠ M) (he : e0 ≤ w.heap.size) :
    Calls Tryd.prog 70 #[.pointer (some ⟨G, 0, none⟩), kval k] w fun e w' => e = .returned (.int .i64 (keys.length : Nat)) ∧ Looked w w' G M e0 room kv c3 c4 c5 keys (keys ++ [k]) n := by
  obtain ⟨i0, hi0, hz0, hz1, hz2⟩ := info_parts Tryd.keyInfo
  obtain ⟨kl, hkl⟩ := ky_key hf
  obtain ⟨p1, _⟩ := hp.2 k kl hkl
  rw [decide_eq_false hin] at p1
  have p3 := atKey_of_not_has p1 (.lit (.int .i64 0))
  have hpn := pinv_put hp hkl hin
  have HKC := Lib.hid (kcell_one k)
  have hfl : (keys ++ [k]).flatMap kcell = keys.flatMap kcell ++ kcell k := by simp
  have hll : (keys ++ [k]).length = keys.length + 1 := by simp
  have HFL := Lib.hid hfl
  have HLL := Lib.hid hll
  have hkc : kcell k = [.string k.s, .int .i64 k.a, .int .i64 k.b] := rfl
  rw [hkc] at HFL
  have HKC1 : Hid (∀ v ∈ ([.string k.s, .int .i64 k.a, .int .i64 k.b] : List Value), v.oneCell' = true) := HKC
  obtain ⟨kl', hkl2⟩ : ∃ k', k' = k := ⟨_, rfl⟩
  obtain ⟨s, ka, kb⟩ := k
  dsimp only at HFL HKC1
  have hkl' : keyOf Tryd.prog 57 (.agg #[.string s, .int .i64 ka, .int .i64 kb]) = some kl := hkl
  obtain ⟨av, cv, hkv⟩ := ownsRow_shape hk
  obtain ⟨L, hL⟩ : ∃ L, keys.length = L := ⟨_, rfl⟩
  rw [hL] at hr hk hl hkv hpn HLL ⊢
  have hlo := ownsRow_lo hk
  subst hkv
  have hdec : decide (room ≤ (L : Int)) = false := decide_eq_false (by omega)
  have hGl := hb.lt
  have hMl := ownsMap_lt hm
  have hbn := hb.alloc (.cells #[.string s, .int .i64 ka, .int .i64 kb] 57)
  have hbx := Box.new w 57 [.string s, .int .i64 ka, .int .i64 kb]
  obtain ⟨_, _, _, _, _, _⟩ := hbn.six
  obtain ⟨_, _, _, _, _, _⟩ := hbn.sixf
  obtain ⟨_, _, _, _, _, _⟩ := hbx.three
  have HM := hm.alloc (.cells #[.string s, .int .i64 ka, .int .i64 kb] 57)
  have hrun := look_at (w := (w.alloc (.cells #[.string s, .int .i64 ka, .int .i64 kb] 57)).drew) Tryd.kyKeyed Tryd.underlying108 Tryd.underlying3 (Tryd.tzeroInt _) HM hkl' p1 p3
  have HO : Hid (Out (fun b => b = G ∨ b = M ∨ (Value.slice av L cv).ownBlock = some b) w (w.alloc (.cells #[.string s, .int .i64 ka, .int .i64 kb] 57))) := (Out.refl _ w).alloc _
  have hs : (w.alloc (.cells #[.string s, .int .i64 ka, .int .i64 kb] 57)).heap.size = w.heap.size + 1 := by simp
  have hwl : w.heap.size < (w.alloc (.cells #[.string s, .int .i64 ka, .int .i64 kb] 57)).heap.size := by omega
  have HMM := Lib.hid HM
  have HBN := Lib.hid hbn
  have HBX := Lib.hid hbx
  have HOW : Hid ((w.alloc (.cells #[.string s, .int .i64 ka, .int .i64 kb] 57)).ownsRow e0 57 3 (.slice av L cv) L (keys.flatMap kcell)) := hk.alloc _
  have HPN := Lib.hid hpn
  have HLO := Lib.hid hlo
  have HKL := Lib.hid hkl'
  have HHN : Hid (n < maxLen) := by unfold maxLen; show _ < _; omega
  have hGw : G ≠ w.heap.size := by omega
  have hMw : M ≠ w.heap.size := by omega
  clear hb hk hm hp hf hin hkl p1 p3 hbn hbx HM hL hr hpn hlo HKC hfl hll hkc hkl2 hkl'
  unfold kval
  go_enter Tryd.func70, Tryd.ntmps70
  generalize hwa : w.alloc (.cells #[.string s, .int .i64 ka, .int .i64 kb] 57) = wa at *
  have HNEW : Hid (∀ (W : World) (q : Nat) (u : Value), ([.string s, .int .i64 ka, .int .i64 kb] : List Value)[q]? = some u → (W.alloc (.cells #[.string s, .int .i64 ka, .int .i64 kb] 57)).cell? (Addr.add ⟨W.heap.size, 0, none⟩ q) = some u) := fun W q u hq =>
    World.news_of_block (w := W.alloc (.cells #[.string s, .int .i64 ka, .int .i64 kb] 57)) (B := W.heap.size) (cs := #[.string s, .int .i64 ka, .int .i64 kb]) (Box.new W 57 [.string s, .int .i64 ka, .int .i64 kb]) q u (by simpa using hq)
  have Q1 : Hid (L + 1 ≤ maxLen) := by unfold maxLen; show _ ≤ _; omega
  have Q2 : Hid ((L + 1) * 32 ≤ 140737488355328) := by show _ ≤ _; omega
  have Q3 : Hid (e0 ≤ wa.heap.size) := by show _ ≤ _; omega
  have HNE : Hid (some G ≠ (Value.slice av L cv).ownBlock) := fun e => by have := HLO.out G e.symm; omega
  have HNW : Hid (some w.heap.size ≠ (Value.slice av L cv).ownBlock) := fun e => by have := HLO.out _ e.symm; omega
  have HNM : Hid (some M ≠ (Value.slice av L cv).ownBlock) := fun e => by have := HLO.out _ e.symm; omega
  have hGa : G < wa.heap.size := by omega
  have hMa : M < wa.heap.size := by omega
  have HS := Lib.hid hs
  clear hs
  go_wp2_with fail
  go_region
  go_wp2_with fail
  go_region
  go_upto_region 7 with fail
  go_cut [] from 34 to 43 (fun wx => ∃ g9 cap w9, Hid (w9.ownsRow e0 57 3 (.slice (some ⟨g9, 0, none⟩) (L + 1) cap) (L + 1) (keys.flatMap kcell ++ [.string s, .int .i64 ka, .int .i64 kb])) ∧ Hid (wa.grownBy w9 (Value.slice av L cv).ownBlock) ∧ Hid ((Value.slice av L cv).ownBlock = some g9 ∨ wa.heap.size ≤ g9) ∧ wx = w9.setCell ⟨G, 1, none⟩ (.slice (some ⟨g9, 0, none⟩) (L + 1) cap))
  case first =>
    go_region_law (refine step_append_lies _ rfl _ _ _ rfl e0 57 i0 (.agg #[.string ByteArray.empty, .int .i64 0, .int .i64 0]) 3 32 Tryd.underlying55 hi0 hz0 hz1 hz2 rfl (by decide) _ L (keys.flatMap kcell) rfl (HOW.out.alloc _) ⟨wa.heap.size, 0, none⟩ 1 1 [.string s, .int .i64 ka, .int .i64 kb] rfl rfl (HNEW.out _) HKC1.out (by decide) Q1.out Q2.out (by simpa using Nat.le_succ_of_le Q3.out) _ rfl ?_; intro g9 cap w9 hown9 hgrow hat hlt9; have z9 := HBN.out.drew.drew.drew.alloc (.cells #[.string s, .int .i64 ka, .int .i64 kb] 57) |>.grown hgrow HNE.out; have z5 := z9.cell 1; have z7 := z9.frozen 1; simp only [List.getElem?_cons_zero, List.getElem?_cons_succ] at z5; have z6 := z9.lt)
    all_goals (go_wp2_with fail; go_meet)
    all_goals exact ⟨g9, cap, w9, hown9, grown_al (o := .cells #[.string s, .int .i64 ka, .int .i64 kb] 57) hgrow rfl rfl rfl rfl, (by
      rcases hat with h | h
      · exact .inl h
      · exact .inr (by rw [h]; show wa.heap.size ≤ (wa.alloc _).heap.size; simp)), rfl⟩
  case rest =>
    obtain ⟨g9, cap, w9, HOWN9, HGR, HAT, rfl⟩ := hcut
    have HG9 := (HBN.out.grown HGR.out HNE.out).set 1 (.slice (some ⟨g9, 0, none⟩) (L + 1) cap)
    simp only [List.set_cons_succ, List.set_cons_zero] at HG9
    have HX9 := (HBX.out.grown HGR.out HNW.out).setOther (a := ⟨G, 1, none⟩) (Ne.symm hGw) (.slice (some ⟨g9, 0, none⟩) (L + 1) cap)
    have HM9 : (w9.setCell ⟨G, 1, none⟩ (.slice (some ⟨g9, 0, none⟩) (L + 1) cap)).ownsMap Tryd.prog 57 (plainElem Tryd.prog 3) M n D := ownsMap_agree HMM.out ((Below.heap_setCell _ ⟨G, 1, none⟩ _ M (Ne.symm hGM)).trans (HGR.out.block M hMa HNM.out))
    obtain ⟨_, _, _, _, _, _⟩ := HG9.six
    obtain ⟨_, _, _⟩ := HX9.three
    have hge : e0 ≤ g9 := (HOWN9.out.lt g9 rfl).1
    have hgl : g9 < w9.heap.size := (HOWN9.out.lt g9 rfl).2
    have HOUT : Hid (Out (fun b => b = G ∨ b = M ∨ (Value.slice av L cv).ownBlock = some b) w (w9.setCell ⟨G, 1, none⟩ (.slice (some ⟨g9, 0, none⟩) (L + 1) cap))) := (HO.out.grown HGR.out fun q hq => .inl (.inr (.inr hq))).setCell (.inl (.inl rfl)) _
    have HOW9 : Hid ((w9.setCell ⟨G, 1, none⟩ (.slice (some ⟨g9, 0, none⟩) (L + 1) cap)).ownsRow e0 57 3 (.slice (some ⟨g9, 0, none⟩) (L + 1) cap) (L + 1) (keys.flatMap kcell ++ [.string s, .int .i64 ka, .int .i64 kb])) := ownsRow_agree HOWN9.out fun q hq => by
      have hqe : q = g9 := (Option.some.inj hq).symm
      subst hqe
      exact Below.heap_setCell _ ⟨G, 1, none⟩ _ q (by show q ≠ G; omega)
    have hgG : g9 ≠ G := by omega
    have hgM : g9 ≠ M := by omega
    have HGB := Lib.hid HG9
    have hM9l := ownsMap_lt HM9
    have hG9l := HG9.lt
    have hX9l := HX9.lt
    generalize hwb : w9.setCell ⟨G, 1, none⟩ (.slice (some ⟨g9, 0, none⟩) (L + 1) cap) = wb at *
    obtain ⟨wm, hrunm, hownm, hturn⟩ := World.ownsMap.store (w := wb.drew) HM9 Tryd.kyKeyed Tryd.underlying108 HHN.out HKL.out (plainElem_int Tryd.underlying3 (a := (L : Int)) (WalkArith.wf_i64 (by omega)))
    have hgr := hturn.grown
    have HOM := Lib.hid hownm
    have HGRM := Lib.hid hgr
    clear hownm hturn hgr HX9 HG9 hrun hwb
    go_wp2_with fail
    go_region
    go_wp2_with fail
    go_ret
    have hnm : some G ≠ some M := fun e => hGM (Option.some.inj e)
    refine ⟨rfl, .slice (some ⟨g9, 0, none⟩) (L + 1) cap, _, n + 1, HGB.out.drew.grown HGRM.out hnm, ?_, HOM.out, HPN.out, Nat.le_refl _, ?_, HOUT.out.drew.grown HGRM.out fun q hq => .inl (.inr (.inl (Option.some.inj hq).symm))⟩
    · rw [HLL.out, HFL.out]
      exact ownsRow_agree HOW9.out fun q hq => by
        have hqe : q = g9 := (Option.some.inj hq).symm
        subst hqe
        exact HGRM.out.block q (by show q < wb.heap.size; exact (HOW9.out.lt q rfl).2) (fun e => hgM (Option.some.inj e))
    · rcases HAT.out with h | h
      · exact .inl h.symm
      · exact .inr ⟨g9, rfl, by have := HS.out; omega⟩

/-- index, whatever is there. -/
theorem index_any (w : World) (G M e0 : Nat) (room : Int) (kv c3 c4 c5 : Value) (keys : List Ky) (n : Nat) (D : DataW Unit) (k : Ky) (hb : Box w G 114 [.int .i64 room, kv, .map (some M), c3, c4, c5])
    (hk : w.ownsRow e0 57 3 kv keys.length (keys.flatMap kcell)) (hm : w.ownsMap Tryd.prog 57 (plainElem Tryd.prog 3) M n D) (hp : PInv D keys) (hn : n ≤ 1000000) (hl : keys.length ≤ 1000000) (hf : kfit k) (hGe : G < e0) (hMe : M < e0) (hGM : G ≠ M) (he : e0 ≤ w.heap.size) (x : Int) (hx : (lookK room keys k).2 = x) (keys' : List Ky) (hks : (lookK room keys k).1 = keys') :
    Calls Tryd.prog 70 #[.pointer (some ⟨G, 0, none⟩), kval k] w fun e w' => e = .returned (.int .i64 x) ∧ Looked w w' G M e0 room kv c3 c4 c5 keys keys' n := by
  have hsame : ∀ w', Below w.heap.size w w' → Looked w w' G M e0 room kv c3 c4 c5 keys keys n := fun w' h =>
    ⟨kv, D, n, hb.below h, ownsRow_below hk h, ownsMap_agree hm (h.block M (ownsMap_lt hm)), hp, Nat.le_succ _, .inl rfl, Out.of_below h⟩
  subst hx hks
  unfold lookK
  by_cases hin : k ∈ keys
  · rw [if_pos (kat_lt.2 hin)]
    exact (index_there w G M e0 room kv c3 c4 c5 keys n D k hb hk hm hp hf hin _ rfl).mono fun e w' ⟨h1, h2⟩ => ⟨h1, hsame w' h2⟩
  · rw [if_neg (fun h => hin (kat_lt.1 h))]
    by_cases hr : (keys.length : Int) < room
    · rw [if_pos hr]
      exact index_new w G M e0 room kv c3 c4 c5 keys n D k hb hk hm hp hn hl hf hin hr hGe hMe hGM he
    · rw [if_neg hr]
      exact (index_full w G M e0 room kv c3 c4 c5 keys n D k hb hk hm hp hf hin hr).mono fun e w' ⟨h1, h2⟩ => ⟨h1, hsame w' h2⟩

end Go.Proofs.YthhcchdjeeigpaaDoor
