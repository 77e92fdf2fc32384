/- The walk of the law TableOne: it returns true and changes nothing that was there. -/
import Derived.Test.YthhcchdjeeigpaaDoorTonm
import Derived.Test.YthhcchdjeeigpaaDoorTkeys
import Derived.Deep.AppendLies
namespace Go.Proofs.YthhcchdjeeigpaaDoor
open Go.RowKit Go.Maps
set_option linter.unusedVariables false
set_option linter.unusedSimpArgs false

theorem news_key (W : World) (s : ByteArray) (A B : Int) (q : Nat) (u : Value) (hq : ([.string s, .int .i64 A, .int .i64 B] : List Value)[q]? = some u) : (W.alloc (.cells #[.string s, .int .i64 A, .int .i64 B] 57)).cell? (Addr.add ⟨W.heap.size, 0, none⟩ q) = some u :=
  World.news_of_block (w := W.alloc (.cells #[.string s, .int .i64 A, .int .i64 B] 57)) (B := W.heap.size) (cs := #[.string s, .int .i64 A, .int .i64 B]) (Box.new W 57 [.string s, .int .i64 A, .int .i64 B]) q u (by simpa using hq)
theorem news_int (W : World) (A : Int) (q : Nat) (u : Value) (hq : ([.int .i64 A] : List Value)[q]? = some u) : (W.alloc (.cells #[.int .i64 A] 3)).cell? (Addr.add ⟨W.heap.size, 0, none⟩ q) = some u :=
  World.news_of_block (w := W.alloc (.cells #[.int .i64 A] 3)) (B := W.heap.size) (cs := #[.int .i64 A]) (Box.new W 3 [.int .i64 A]) q u (by simpa using hq)
theorem own_intsT {w : World} {base n : Nat} {e : TypeId} {v : Value} {xs : List Int} (h : w.ownsRow base e 1 v n (xs.map (Value.int .i64))) (hl : xs.length = n) : ∃ a c, v = .slice a n c ∧ Row base w.heap.size w a n xs := by
  subst hl
  exact RowF.of_owns (f := Value.int .i64) (d := (0 : Int)) h
theorem kscr_lone {w : World} {lo hi : Nat} {a : Option Addr} {n c : Nat} {ks : List Ky} (h : Sl 3 lo hi w a n (ks.map kcell)) (hh : hi ≤ w.heap.size) : KScr (w.alloc (.cells #[.slice a n c] 55)).heap.size (w.alloc (.cells #[.slice a n c] 55)) (some ⟨w.heap.size, 0, none⟩) 1 [ks] := by
  have hl : ks.length = n := by have := h.1; simpa using this
  refine ⟨rfl, .inr ⟨w.heap.size, 0, rfl, by simp, fun i s hs => ?_⟩⟩
  have hi : i = 0 := by have := (List.getElem?_eq_some_iff.1 hs).1; simp at this; exact this
  subst hi
  simp at hs
  subst hs
  refine ⟨a, c, ?_, ?_⟩
  · rw [hl]; exact (Box.new w 55 [.slice a n c]).cell 0
  · rw [hl]
    exact (h.agree fun b _ hb => Below.heap_alloc w _ b (by omega)).mono (Nat.zero_le _) (by rw [World.size_alloc]; omega)

theorem below_at {w w4 w9 : World} (h : Below w.heap.size w w4) (k : Below w4.heap.size w4 w9) : Below w.heap.size w w9 := h.trans (k.mono h.size)
set_option maxRecDepth 100000 in
set_option maxHeartbeats 4000000 in
theorem tone_law (a1 a3 : Option Addr) (l1 l3 c1 c3 A : Nat) (xs : List Nat) (x3 : List Int) (w : World) (h1 : TRowY 0 w.heap.size w a1 l1 xs) (b1 : ∀ i, i < l1 → xs.getD i 0 ≤ 255) (hA : A ≤ 255)
    (h3 : Row 0 w.heap.size w a3 l3 x3) (hT : Tab w) :
    Calls Tryd.prog 13 #[.slice a1 l1 c1, .int .u8 (A : Int), .slice a3 l3 c3] w fun e w' => e = .returned (.bool true) ∧ Below w.heap.size w w' := by
  have H1 := Lib.hid h1
  have B1 := Lib.hid b1
  have H3 := Lib.hid h3
  have HT := Lib.hid hT
  have hTl := hT.lt
  have hxl : xs.length = l1 := h1.1
  clear h1 b1 h3 hT
  by_cases g1 : (60 : Int) < (l1 : Int)
  · have HA := Lib.hid (awake_any8 w HT.out)
    go_enter Tryd.func13, Tryd.ntmps13
    go_wp2_with (first | (go_at_call 27; (with_reducible refine (HA.out).mono ?_); rintro e w' ⟨rfl, hb⟩))
    go_ret
    exact ⟨rfl, hb⟩
  by_cases g3 : (200 : Int) < (l3 : Int)
  · have HA := Lib.hid (awake_any8 w HT.out)
    go_enter Tryd.func13, Tryd.ntmps13
    go_wp2_with (first | (go_at_call 27; (with_reducible refine (HA.out).mono ?_); rintro e w' ⟨rfl, hb⟩))
    go_ret
    exact ⟨rfl, hb⟩
  obtain ⟨j0, hj0, hy0, hy1, hy2⟩ := info_parts Tryd.keyInfo
  obtain ⟨i0, hi0, hz0, hz1, hz2⟩ := info_parts Tryd.info3
  have HXL := Lib.hid hxl
  go_enter Tryd.func13, Tryd.ntmps13
  go_wp2_with fail
  go_loopg [7, 8] (l1) (fun gn lv i wr => ∃ k : Nat, gn + k ≤ l1 ∧ l1 ≤ gn + k ∧ i = .int .i64 k ∧ wr.ownsRow w.heap.size 57 3 lv k (((xs.take k).map kOf).flatMap kcell) ∧ Below w.heap.size w wr)
  case atStart => exact ⟨0, by omega, by omega, rfl, World.ownsRow_nil _ _ _ _, Below.refl _ _⟩
  case round =>
    obtain ⟨k, hk1, hk2, rfl, hown, hb⟩ := hrel
    obtain ⟨av, cv, rfl⟩ := ownsRow_shape hown
    have sr := hb.size
    by_cases hlt : k < l1
    · obtain ⟨b2, o2, rfl, hb2a, hb2b, hc2⟩ := H1.out.2.resolve_left (by omega)
      have hx := (hb.cell (p := ⟨b2, o2 + k, none⟩) hb2b).trans (hc2 k hlt)
      have hby := B1.out k hlt
      have hxe : xs[k]? = some (xs.getD k 0) := by rw [List.getD_eq_getElem?_getD, List.getElem?_eq_getElem (by omega)]; rfl
      obtain ⟨x, hxg⟩ : ∃ x, xs.getD k 0 = x := ⟨_, rfl⟩
      rw [hxg] at hx hby hxe
      have hb2r : b2 < wr.heap.size := by omega
      have e1t : (x : Int).tmod 11 = ((x % 11 : Nat) : Int) := by rw [Int.tmod_eq_emod_of_nonneg (by omega)]; omega
      obtain ⟨r, hr⟩ : ∃ r, x % 11 = r := ⟨_, rfl⟩
      have hks : ((xs.take (k + 1)).map kOf).flatMap kcell = ((xs.take k).map kOf).flatMap kcell ++ [.string ⟨#[107]⟩, .int .i64 (r : Int), .int .i64 0] := by rw [List.take_add_one, hxe, ← hr]; simp [kcell, kOf]
      rw [hr] at e1t
      have hr11 : r < 11 := by omega
      have HKS := Lib.hid hks
      have HOW := Lib.hid hown
      have HBW := Lib.hid hb
      have Q1 : Hid (k + 1 ≤ maxLen) := by unfold maxLen; show _ ≤ _; omega
      have Q2 : Hid ((k + 1) * 32 ≤ 140737488355328) := by show _ ≤ _; omega
      have HON2 : Hid (∀ v ∈ ([.string ⟨#[107]⟩, .int .i64 (r : Int), .int .i64 0] : List Value), v.oneCell' = true) := by
        intro v hv
        simp at hv
        rcases hv with rfl | rfl | rfl <;> rfl
      clear hown hb hks hc2 hxe hxg hr
      go_wp2_with (at_builtin; refine wpList_append_lies _ rfl _ _ 55 rfl w.heap.size 57 j0 (.agg #[.string ByteArray.empty, .int .i64 0, .int .i64 0]) 3 32 Tryd.underlying55 hj0 hy0 hy1 hy2 rfl (by decide) _ k (((xs.take k).map kOf).flatMap kcell) rfl (HOW.out.alloc _) ⟨wr.heap.size, 0, none⟩ 1 1 [.string ⟨#[107]⟩, .int .i64 (r : Int), .int .i64 0] rfl rfl (news_key _ _ _ _) HON2.out (by decide) Q1.out Q2.out (by simp; omega) _ rfl ?_; intro g9 cap w9 hown9 hgrow hat9 hlt9; have HO9 := Lib.hid hown9; have HGR := Lib.hid hgrow; clear hown9 hgrow hat9)
      have hb9 : Below w.heap.size w w9 := below_grown (below_alloc HBW.out (Nat.le_refl _) _) HGR.out (Nat.le_refl _) (fun q hq => (HOW.out.lt q hq).1)
      go_roundg (l1 - (k + 1))
      case measure => omega
      case rel => exact ⟨k + 1, by omega, by omega, by go_num, by rw [HKS.out]; exact HO9.out, hb9⟩
    · obtain rfl : k = l1 := by omega
      have hall : xs.take k = xs := by rw [← HXL.out, List.take_length]
      rw [hall] at hown
      obtain ⟨av2, cv2, hve, _, hsl⟩ := Sl.of_owns kcell_length hown (by rw [List.length_map, HXL.out])
      have q1 : av2 = av ∧ cv2 = cv := by cases hve; exact ⟨rfl, rfl⟩
      obtain ⟨rfl, rfl⟩ := q1
      have HSL := Lib.hid hsl
      have HB := Lib.hid hb
      clear hown hb hve hsl hall
      go_wp2_with fail
      have hW : Below w.heap.size w (wr.alloc (.cells #[.slice av2 k cv2] 55)) := HB.out.alloc (by omega) _
      have hks := kscr_lone (c := cv2) HSL.out (Nat.le_refl _)
      have hsW : w.heap.size ≤ (wr.alloc (.cells #[.slice av2 k cv2] 55)).heap.size := hW.size
      have hslW : Sl 3 w.heap.size wr.heap.size (wr.alloc (.cells #[.slice av2 k cv2] 55)) av2 k ((xs.map kOf).map kcell) := HSL.out.agree fun b _ hb => Below.heap_alloc wr _ b (by omega)
      have hsz : wr.heap.size ≤ (wr.alloc (.cells #[.slice av2 k cv2] 55)).heap.size := by rw [World.size_alloc]; omega
      have HT3 := Lib.hid (HT.out.below hW hTl)
      obtain ⟨N, hN⟩ : ∃ N, 3 * ([xs.map kOf].map List.length).sum = N := ⟨_, rfl⟩
      have hNk : N = 3 * k := by rw [← hN]; simp [HXL.out]
      refine (tplay_any (some ⟨wr.heap.size, 0, none⟩) a3 1 1 l3 c3 [xs.map kOf] x3 100 (A : Int) _ hks (Nat.le_refl _) (H3.out.below hW (Nat.le_refl _)) hsW (by omega) (by omega) (by omega) (fun s hs y hy => by simp at hs; subst hs; obtain ⟨n, _, rfl⟩ := List.mem_map.1 hy; exact kOf_fit n) HT3.out N hN).mono ?_
      rintro e w4 ⟨gg, kv, gs, rfl, hres, hb4⟩
      have s4 := hb4.size
      obtain ⟨e1, e2, e3⟩ := one_end (σ := sg (A : Int)) (room := 100) (picks := x3) hN
      obtain ⟨ga, gc, hgc, hgr⟩ := hres.got (i := 0) (by omega)
      obtain ⟨ka, kc, rfl, _⟩ := hres.keys
      have hgg : gg < w4.heap.size := hres.2.2.2.1.1
      rw [e1, HXL.out] at hgc hgr
      obtain ⟨MM, hMM⟩ : ∃ M, (ttAt (sg (A : Int)) 100 x3 [xs.map kOf] N).keys.length = M := ⟨_, rfl⟩
      have HMM : Hid ((FA xs k).length = MM) := by show _ = _; rw [← hMM, e2, FA_len, HXL.out]
      rw [hMM]
      obtain ⟨go, hgo⟩ : ∃ go, ((ttAt (sg (A : Int)) 100 x3 [xs.map kOf] N).tw 0).got = go := ⟨_, rfl⟩
      rw [hgo] at e3 hgr
      have HB4 : Hid (Below w.heap.size w w4) := hW.trans (hb4.mono hsW)
      have HSL4 := Lib.hid (hslW.below hb4 hsz)
      have HE3 := Lib.hid e3
      have HGR := Lib.hid hgr
      have HT4 : Hid (Tab w4) := HT.out.below HB4.out hTl
      have HGC := Lib.hid hgc
      have hNe : ((N : Int) != 3 * (k : Int)) = false := by simp; omega
      have hwr4 : wr.heap.size < w4.heap.size := by rw [World.size_alloc] at s4; omega
      clear hW hks hsW hslW hsz hN hres hb4 s4 e1 e2 e3 hgr hgo hNk hMM
      go_wp2_with fail
      clear hNe
      go_loopg [13, 14] (k) (fun gn sv i wo => ∃ r m : Nat, gn + r ≤ k ∧ k ≤ gn + r ∧ i = .int .i64 r ∧ Hid ((FA xs r).length = m) ∧ wo.ownsRow w4.heap.size 3 1 sv m ((FA xs r).map (Value.int .i64)) ∧ Below w4.heap.size w4 wo)
      case atStart => exact ⟨0, 0, by omega, by omega, rfl, by show _ = _; rw [FA_zero]; rfl, by rw [FA_zero]; exact World.ownsRow_nil _ _ _ _, Below.refl _ _⟩
      case round =>
        rename World => wo
        obtain ⟨r, m, hr1, hr2, rfl, hm, hown, hbo⟩ := hrel
        obtain ⟨sa, sc, rfl, hsr⟩ := own_intsT hown hm.out
        have so := hbo.size
        by_cases hlt : r < k
        · obtain ⟨n, hn⟩ : ∃ n, xs[r]? = some n := ⟨_, List.getElem?_eq_getElem (by rw [HXL.out]; exact hlt)⟩
          obtain ⟨bk, ok, rfl, _, hbk, hck⟩ := keys_cell HSL4.out (by omega)
          have hkc := (hck r (kOf n) (by rw [List.getElem?_map, hn]; rfl)).2.1
          have hko : (kOf n).a = ((n % 11 : Nat) : Int) := rfl
          rw [hko] at hkc
          obtain ⟨x, hx⟩ : ∃ x, n % 11 = x := ⟨_, rfl⟩
          rw [hx] at hkc
          have hgv := HE3.out r n hn
          obtain ⟨bg, og, rfl, _, hbg, hcg⟩ := HGR.out.2.resolve_left (by omega)
          have hgc := hcg r hlt
          obtain ⟨gv, hgve⟩ : ∃ gv, go.getD r 0 = gv := ⟨_, rfl⟩
          rw [hgve] at hgc hgv
          have HFR : Hid (∀ j : Nat, (∀ i, i < j → (FA xs r).getD i 0 ≠ (x : Int)) → (j = m ∨ j < m ∧ (FA xs r).getD j 0 = (x : Int)) → gv = (j : Int) ∧ FA xs (r + 1) = FA xs r ++ (if j = m then [(x : Int)] else [])) := fun j h1 h2 => by
            have := FA_round hn (by omega) (j := j) (by rw [hx]; exact h1) (by rw [hx, hm.out]; exact h2)
            rw [hx, hm.out] at this
            exact ⟨hgv.trans this.1, this.2⟩
          have hms : m ≤ r := by rw [← hm.out]; exact FA_short xs r
          have K : ∀ wx, Below w4.heap.size w4 wx → wx.cell? ⟨bk, ok + r * 3 + 1, none⟩ = some (.int .i64 (x : Int)) ∧ wx.cell? ⟨gg, 0, none⟩ = some (.slice (some ⟨bg, og, none⟩) k gc) ∧ wx.cell? ⟨bg, og + r, none⟩ = some (.int .i64 gv) := fun wx hb' => by
            exact ⟨(hb'.cell (p := ⟨bk, ok + r * 3 + 1, none⟩) (Nat.lt_trans hbk hwr4)).trans hkc, (hb'.cell (p := ⟨gg, 0, none⟩) hgg).trans HGC.out, (hb'.cell (p := ⟨bg, og + r, none⟩) hbg).trans hgc⟩
          have HK := Lib.hid K
          have HOWN := Lib.hid hown
          have HBO := Lib.hid hbo
          have HSR := Lib.hid hsr
          clear K hown hbo hsr hgc hcg hgv hgve hkc hko hck hn hx
          go_wp2_with fail
          go_loopg [15] (m) (fun gn kk wx => ∃ j : Nat, gn + j ≤ m ∧ m ≤ gn + j ∧ kk = .int .i64 j ∧ Hid (∀ i, i < j → (FA xs r).getD i 0 ≠ (x : Int)) ∧ Below wo.heap.size wo wx)
          case atStart => exact ⟨0, by omega, by omega, rfl, fun i hi => absurd hi (Nat.not_lt_zero i), Below.refl _ _⟩
          case round =>
            rename World => wx
            obtain ⟨j, hj1, hj2, rfl, hne, hbx⟩ := hrel
            obtain ⟨kk1, kk2, kk3⟩ := HK.out _ (below_next HBO.out hbx (Nat.le_refl _))
            have sx := hbx.size
            have hbkx : bk < wx.heap.size := by omega
            have hggx : gg < wx.heap.size := by omega
            have hbgx : bg < wx.heap.size := by omega
            by_cases hjl : j < m
            · obtain ⟨bs, os, rfl, _, hbs, hcs⟩ := HSR.out.2.resolve_left (by omega)
              have hsc := (hbx.cell (p := ⟨bs, os + j, none⟩) hbs).trans (hcs j hjl)
              obtain ⟨z, hz⟩ : ∃ z, (FA xs r).getD j 0 = z := ⟨_, rfl⟩
              rw [hz] at hsc
              have hbsx : bs < wx.heap.size := by omega
              have HBX := Lib.hid hbx
              by_cases he : z = (x : Int)
              · obtain ⟨rfl, hnx⟩ := HFR.out j hne.out (.inr ⟨hjl, hz.trans he⟩)
                rw [if_neg (by omega), List.append_nil] at hnx
                have HNX := Lib.hid hnx
                subst he
                have hjm : ¬ ((j : Int) = (m : Int)) := by omega
                clear hbx hcs hz hnx
                go_wp2_with fail
                go_loud (go_quiet (fail))
                go_wp2_with fail
                have how := ownsRow_below HOWN.out HBX.out
                have hbw := below_next HBO.out HBX.out (Nat.le_refl _)
                go_roundg (k - (r + 1))
                case measure => omega
                case rel => exact ⟨r + 1, m, by omega, by omega, by go_num, by show _ = _; rw [HNX.out]; exact hm.out, by rw [HNX.out]; exact how, below_drewN' hbw _⟩
              · clear hbx hcs
                go_wp2_with fail
                go_loud (go_quiet (fail))
                go_wp2_with fail
                go_roundg (m - (j + 1))
                case measure => omega
                case rel =>
                  refine ⟨j + 1, by omega, by omega, by go_num, fun i hi => ?_, below_drewN' HBX.out _⟩
                  by_cases hij : i = j
                  · subst hij; rw [hz]; exact he
                  · exact hne.out i (by omega)
            · obtain rfl : j = m := by omega
              obtain ⟨rfl, hnx⟩ := HFR.out j hne.out (.inl rfl)
              rw [if_pos rfl] at hnx
              have HNX := Lib.hid hnx
              have HBX := Lib.hid hbx
              have how := ownsRow_below HOWN.out hbx
              have hbw := below_next HBO.out hbx (Nat.le_refl _)
              have HOW := Lib.hid how
              have HBW := Lib.hid hbw
              have Q1 : Hid (j + 1 ≤ maxLen) := by unfold maxLen; show _ ≤ _; omega
              have Q2 : Hid ((j + 1) * 8 ≤ 140737488355328) := by show _ ≤ _; omega
              have HON1 : Hid (∀ v ∈ ([.int .i64 (x : Int)] : List Value), v.oneCell' = true) := by
                intro v hv
                simp at hv
                subst hv
                rfl
              clear hbx hnx how hbw
              go_wp2_with fail
              go_loud (go_quiet (fail))
              have how : (wx.drewN nq).ownsRow w4.heap.size 3 1 (.slice sa j sc) j ((FA xs r).map (Value.int .i64)) := HOW.out
              have hbw : Below w4.heap.size w4 (wx.drewN nq) := below_drewN' HBW.out _
              have q1 : (wx.drewN nq).cell? ⟨bk, ok + r * 3 + 1, none⟩ = some (.int .i64 (x : Int)) := kk1
              have q2 : (wx.drewN nq).cell? ⟨gg, 0, none⟩ = some (.slice (some ⟨bg, og, none⟩) k gc) := kk2
              have q3 : (wx.drewN nq).cell? ⟨bg, og + r, none⟩ = some (.int .i64 (j : Int)) := kk3
              have HOZ := Lib.hid how
              have HBZ := Lib.hid hbw
              have r1 : bk < (wx.drewN nq).heap.size := hbkx
              have r2 : gg < (wx.drewN nq).heap.size := hggx
              have r3 : bg < (wx.drewN nq).heap.size := hbgx
              clear how hbw kk1 kk2 kk3 HOW HBW HBX hbkx hggx hbgx sx
              generalize wx.drewN nq = wz at *
              go_wp2_with (at_builtin; refine wpList_append_lies _ rfl _ _ 22 rfl w4.heap.size 3 i0 (.int .i64 0) 1 8 Tryd.underlying22 hi0 hz0 hz1 hz2 rfl (by decide) _ j ((FA xs r).map (Value.int .i64)) rfl (HOZ.out.alloc _) ⟨wz.heap.size, 0, none⟩ 1 1 [.int .i64 (x : Int)] rfl rfl (news_int _ _) HON1.out (by decide) Q1.out Q2.out (by simp; have := HBZ.out.size; omega) _ rfl ?_; intro g9 cap w9 hown9 hgrow hat9 hlt9; have hb9 : Below w4.heap.size w4 w9 := below_grown (below_alloc HBZ.out (Nat.le_refl _) _) hgrow (Nat.le_refl _) (fun q hq => (HOZ.out.lt q hq).1); obtain ⟨kk1, kk2, kk3⟩ := HK.out _ hb9; have r29 : gg < w9.heap.size := Nat.lt_of_lt_of_le hgg hb9.size; have r39 : bg < w9.heap.size := Nat.lt_of_lt_of_le hbg hb9.size; have HO9 := Lib.hid hown9; have HB9 := Lib.hid hb9; clear hown9 hb9 hgrow hat9)
              go_roundg (k - (r + 1))
              case measure => omega
              case rel => exact ⟨r + 1, j + 1, by omega, by omega, by go_num, by show _ = _; rw [HNX.out, List.length_append, hm.out]; rfl, by rw [HNX.out, List.map_append]; exact HO9.out, HB9.out⟩
        · obtain rfl : r = k := by omega
          have HI : Hid (∀ W, Below w4.heap.size w4 W → Calls Tryd.prog 19 #[.slice ga r gc, .slice ga r gc] W fun e w'' => e = .returned (.bool true) ∧ Below w4.heap.size w4 w'') := fun W hW => by
            have := ints_any ga ga r r gc gc go go W (HGR.out.below hW (Nat.le_refl _)) (HGR.out.below hW (Nat.le_refl _)) (by omega)
            refine Calls.mono this ?_
            rintro e w'' ⟨rfl, q, rfl⟩
            exact ⟨by simp, below_drewN' hW _⟩
          have HA : Hid (∀ W, Below w4.heap.size w4 W → Calls Tryd.prog 27 #[] W fun e w'' => e = .returned (.bool true) ∧ Below w4.heap.size w4 w'') := fun W hW => by
            refine Calls.mono (awake_any8 W (HT4.out.below hW HT4.out.lt)) ?_
            rintro e w'' ⟨rfl, hb⟩
            exact ⟨rfl, below_next hW hb (Nat.le_refl _)⟩
          have K : ∀ W, Below w4.heap.size w4 W → Below w4.heap.size w4 W ∧ W.cell? ⟨gg, 0, none⟩ = some (.slice ga r gc) := fun W hW => ⟨hW, (hW.cell (p := ⟨gg, 0, none⟩) hgg).trans HGC.out⟩
          have HK := Lib.hid K
          have hmm : m = MM := hm.out.symm.trans HMM.out
          subst hmm
          have HBO := Lib.hid hbo
          have hmq : ((m : Int) == (m : Int)) = true := by simp
          clear hbo hown hsr K
          go_wp2_with fail
          go_loud (go_region_held3 (fun W => Below w4.heap.size w4 W ∧ W.cell? ⟨gg, 0, none⟩ = some (.slice ga r gc))
            ((with_reducible apply HK.out
              first
              | ((with_reducible apply Below.drew); (with_reducible exact HBO.out))
              | (with_reducible exact hb9)
              | (with_reducible exact hb8)))
            (first
              | (go_at_call 19; (with_reducible refine (HI.out _ ?_).mono ?_); exact And.left (by assumption); rintro e w' ⟨rfl, hb8⟩)
              | (go_at_call 27; (with_reducible refine (HA.out _ ?_).mono ?_); exact And.left (by assumption); rintro e w' ⟨rfl, hb9⟩)
              | fail))
          go_wp2_with fail
          go_ret
          exact ⟨rfl, below_at HB4.out hb9⟩

end Go.Proofs.YthhcchdjeeigpaaDoor
