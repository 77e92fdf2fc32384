/- Contract of the statements' Keys: keys by numbers. -/
import Derived.Test.YthhcchdjeeigpaaDoorTstart
import Derived.Test.YthhcchdjeeigpaaDoorTopen
import Derived.Deep.RegionHeld3
import Derived.Deep.AppendLies
namespace Go.Proofs.YthhcchdjeeigpaaDoor
open Go.RowKit
set_option linter.unusedVariables false
set_option linter.unusedSimpArgs false

theorem tgrownBy_drew {w w' : World} {r : Option Nat} (h : w.grownBy w' r) : w.grownBy w'.drew r := ⟨h.os, h.tape, h.output, h.size, h.block⟩
theorem tgrownBy_below {w w' w'' : World} {r : Option Nat} (h : w.grownBy w' r) (k : Below w'.heap.size w' w'') : w.grownBy w'' r := ⟨k.os.trans h.os, k.tape.trans h.tape, k.output.trans h.output, Nat.le_trans h.size k.size, fun q h1 h2 => (k.block q (Nat.lt_of_lt_of_le h1 h.size)).trans (h.block q h1 h2)⟩
theorem tgrownBy_alloc {w w' : World} {r : Option Nat} (h : w.grownBy w' r) (o : Obj) : w.grownBy (w'.alloc o) r := ⟨h.os, h.tape, h.output, by have := h.size; simp; omega, fun q h1 h2 => (Below.heap_alloc w' o q (Nat.lt_of_lt_of_le h1 h.size)).trans (h.block q h1 h2)⟩
theorem tgrownBy_grown {w w' w'' : World} {r : Option Nat} (h : w.grownBy w' r) (k : w'.grownBy w'' r) : w.grownBy w'' r := ⟨k.os.trans h.os, k.tape.trans h.tape, k.output.trans h.output, Nat.le_trans h.size k.size, fun q h1 h2 => (k.block q (Nat.lt_of_lt_of_le h1 h.size) h2).trans (h.block q h1 h2)⟩
theorem ownsRow_oneT {w : World} {base e size n : Nat} {v : Value} {xs : List Value} (h : w.ownsRow base e size v n xs) : v.oneCell' = true := by
  obtain ⟨_, ⟨rfl, _⟩ | ⟨_, _, _, rfl, _⟩⟩ := h <;> rfl

theorem Sl.keepT {k lo hi hi' n : Nat} {w w' : World} {a : Option Addr} {xs : List (List Value)} (h : Sl k lo hi w a n xs) (hh : hi ≤ hi') (hb : 0 < n → ∀ b off, a = some ⟨b, off, none⟩ → lo ≤ b → b < hi → w'.heap[b]? = w.heap[b]?) : Sl k lo hi' w' a n xs := by
  obtain ⟨h1, h2⟩ := h
  by_cases h0 : n = 0
  · exact ⟨h1, .inl h0⟩
  · obtain ⟨b, off, rfl, hl, hh', hc⟩ := h2.resolve_left h0
    exact ⟨h1, .inr ⟨b, off, rfl, hl, by omega, hc.agree (hb (by omega) b off rfl hl hh')⟩⟩
/-- How they lie: those of the outer slice's values so far. -/
def KIn (lo : Nat) (w : World) (own : Option Nat) (svs : List Value) (ss : List (List Ky)) : Prop :=
  svs.length = ss.length ∧ ∀ (i : Nat) (s : List Ky), ss[i]? = some s → ∃ a c, svs[i]? = some (.slice a s.length c) ∧ Sl 3 lo w.heap.size w a s.length (s.map kcell) ∧ ∀ q, own = some q → 0 < s.length → ∀ b off, a = some ⟨b, off, none⟩ → b ≠ q

theorem KIn.snoc {lo : Nat} {wr wz w9 : World} {own : Option Nat} {svs : List Value} {ss : List (List Ky)} {a4 : Option Addr} {m4 c4 g : Nat} {os : List Ky} {o : Obj} (h : KIn lo wr own svs ss) (hl : lo ≤ wr.heap.size) (hown : ∀ q, own = some q → q < wr.heap.size)
    (hb : Below wr.heap.size wr wz) (hg : (wz.alloc o).grownBy w9 own) (hat : own = some g ∨ g = (wz.alloc o).heap.size) (hr : Sl 3 wr.heap.size wz.heap.size wz a4 m4 (os.map kcell)) : KIn lo w9 (some g) (svs ++ [.slice a4 m4 c4]) (ss ++ [os]) := by
  have s1 := hb.size
  have s2 := hg.size
  rw [World.size_alloc] at s2
  have hm : os.length = m4 := by have := hr.1; simpa using this
  refine ⟨by simp [h.1], fun i s hs => ?_⟩
  by_cases hi : i < ss.length
  · rw [List.getElem?_append_left hi] at hs
    obtain ⟨a, c, h1, h2, h3⟩ := h.2 i s hs
    refine ⟨a, c, by rw [List.getElem?_append_left (by rw [h.1]; exact hi)]; exact h1, h2.keepT (by omega) fun hn b off e hlo hhi => ?_, fun q hq hn b off e => ?_⟩
    · rw [hg.block b (by simp; omega) (fun e2 => h3 b e2.symm hn b off e rfl), Below.heap_alloc wz o b (by omega), hb.block b hhi]
    · have hqg : g = q := Option.some.inj hq
      subst hqg
      rcases hat with e2 | e2
      · exact h3 g e2 hn b off e
      · rw [World.size_alloc] at e2
        obtain ⟨b', off', e3, _, hh, _⟩ := h2.2.resolve_left (by omega)
        rw [e] at e3
        cases e3
        omega
  · rw [List.getElem?_append_right (by omega)] at hs
    have hz : i - ss.length = 0 := by have := (List.getElem?_eq_some_iff.1 hs).1; simp at this; omega
    rw [hz] at hs
    simp at hs
    subst hs
    refine ⟨a4, c4, by rw [List.getElem?_append_right (by rw [h.1]; omega), h.1, hz, hm]; rfl, ?_, fun q hq hn b off e => ?_⟩
    · rw [hm]
      exact (hr.mono hl (Nat.le_refl _)).keepT (by omega) fun hn b off e hlo hhi => by
        obtain ⟨b', off', e3, h5, _, _⟩ := hr.2.resolve_left (by omega)
        rw [e] at e3
        cases e3
        rw [hg.block b (by simp; omega) (fun e2 => by have := hown b e2.symm; omega), Below.heap_alloc wz o b (by omega)]
    · have hqg : g = q := Option.some.inj hq
      subst hqg
      obtain ⟨b', off', e3, h5, h6, _⟩ := hr.2.resolve_left (by omega)
      rw [e] at e3
      cases e3
      rcases hat with e2 | e2
      · have := hown g e2; omega
      · rw [World.size_alloc] at e2; omega
theorem KIn.scr {lo base k : Nat} {w : World} {v : Value} {e : TypeId} {svs : List Value} {ss : List (List Ky)} (h : KIn lo w v.ownBlock svs ss) (ho : w.ownsRow base e 1 v k svs) (hk : ss.length = k) : ∃ a c, v = .slice a ss.length c ∧ KScr w.heap.size w a ss.length ss := by
  obtain ⟨h1, ⟨rfl, h0⟩ | ⟨g, cap, cur, rfl, hb, hg, hn, hcap, hsz, ht⟩⟩ := id ho
  · exact ⟨none, 0, by rw [hk, h0], rfl, .inl (by omega)⟩
  · refine ⟨some ⟨g, 0, none⟩, cap, by rw [hk], rfl, .inr ⟨g, 0, rfl, (Array.getElem?_eq_some_iff.1 hg).1, fun i s hs => ?_⟩⟩
    obtain ⟨a, c, h2, h3, _⟩ := h.2 i s hs
    have hi : i < k := by have := (List.getElem?_eq_some_iff.1 hs).1; omega
    refine ⟨a, c, ?_, h3.mono (Nat.zero_le _) (Nat.le_refl _)⟩
    rw [Nat.zero_add, ho.cellAt i (by omega), h2]


theorem Tryd.keysInfo : (Tryd.prog.info? 55).map (fun i => (i.zero, i.size, i.bytes)) = some (some (.slice none 0 0), 1, 24) := by kernel_rfl
/-- Keys that were made. -/
def KMade (ss : List (List Ky)) : Prop := ∀ s ∈ ss, s.length ≤ 12 ∧ ∀ k ∈ s, kfit k ∧ k.s.size ≤ 10
def nmOf (r : Nat) : ByteArray := if r = 0 then ⟨#[73, 110, 116]⟩ else if r = 1 then ⟨#[45, 62]⟩ else ⟨#[44]⟩
theorem nmOf_size (r : Nat) : (nmOf r).size ≤ 10 := by unfold nmOf; split; decide; split <;> decide

set_option maxRecDepth 100000 in
set_option maxHeartbeats 4000000 in
theorem keys_any (a : Option Addr) (la ca : Nat) (w : World) (hg : TGridY w a la) :
    Calls Tryd.prog 32 #[.slice a la ca] w fun e w' => ∃ a' c' ss, e = .returned (.slice a' ss.length c') ∧ ss.length ≤ 10 ∧ KMade ss ∧ KScr w'.heap.size w' a' ss.length ss ∧ Below w.heap.size w w' := by
  obtain ⟨i0, hi0, hz0, hz1, hz2⟩ := info_parts Tryd.keysInfo
  obtain ⟨j0, hj0, hy0, hy1, hy2⟩ := info_parts Tryd.keyInfo
  have HG := Lib.hid hg
  clear hg
  have HNEWS : Hid (∀ (W : World) (v : Value) (q : Nat) (u : Value), [v][q]? = some u → (W.alloc (.cells #[v] 55)).cell? (Addr.add ⟨W.heap.size, 0, none⟩ q) = some u) := by
    intro W v q u hq
    match q, hq with
    | 0, hq => simp at hq; subst hq; simp [Addr.add]
  have HNEWK : Hid (∀ (W : World) (s : ByteArray) (A B : Int) (q : Nat) (u : Value), ([.string s, .int .i64 A, .int .i64 B] : List Value)[q]? = some u → (W.alloc (.cells #[.string s, .int .i64 A, .int .i64 B] 57)).cell? (Addr.add ⟨W.heap.size, 0, none⟩ q) = some u) := fun W s A B q u hq =>
    World.news_of_block (w := W.alloc (.cells #[.string s, .int .i64 A, .int .i64 B] 57)) (B := W.heap.size) (cs := #[.string s, .int .i64 A, .int .i64 B]) (Box.new W 57 [.string s, .int .i64 A, .int .i64 B]) q u (by simpa using hq)
  have HNEWK2 : Hid (∀ (W : World) (o : Obj) (s : ByteArray) (A B : Int) (q : Nat) (u : Value), ([.string s, .int .i64 A, .int .i64 B] : List Value)[q]? = some u → ((W.alloc o).alloc (.cells #[.string s, .int .i64 A, .int .i64 B] 57)).cell? (Addr.add ⟨W.heap.size + 1, 0, none⟩ q) = some u) := fun W o s A B q u hq => by
    have := HNEWK.out (W.alloc o) s A B q u hq
    rwa [World.size_alloc] at this
  have HONE : Hid (∀ (a : Option Addr) (m c : Nat), ∀ u ∈ [Value.slice a m c], u.oneCell' = true) := by
    intro a m c u hu
    simp at hu
    subst hu
    rfl
  go_enter Tryd.func32, Tryd.ntmps32
  go_wp2_with fail
  go_loopw [3, 4] (fun lv iv wr => ∃ (k : Nat) (svs : List Value) (ss : List (List Ky)), k ≤ la ∧ k ≤ 10 ∧ iv = .int .i64 (k : Int) ∧ wr.ownsRow w.heap.size 55 1 lv k svs ∧ Hid (ss.length = k) ∧ Hid (KMade ss) ∧ Hid (KIn w.heap.size wr lv.ownBlock svs ss) ∧ Below w.heap.size w wr) (fun _ iv _ => 10 - (intOf iv).toNat)
  case atStart => exact ⟨0, [], [], Nat.zero_le _, Nat.zero_le _, rfl, World.ownsRow_nil _ _ _ _, rfl, fun s hs => absurd hs List.not_mem_nil, ⟨rfl, fun i s hs => absurd hs (by simp)⟩, Below.refl _ _⟩
  case round =>
    rename World => wo
    obtain ⟨k, svs, ss, hk, hk8, rfl, hown, hkl, hmade, hin, hb⟩ := hrel
    have so := hb.size
    by_cases hlt : k < la
    · by_cases hlt8 : k < 10
      · obtain ⟨b, off, rfl, hbb, hc⟩ := HG.out.resolve_left (by omega)
        obtain ⟨A, L, C, xs, hcell, hLC, hrow, hby⟩ := hc k hlt
        have hbw : b < wo.heap.size := by omega
        have hkI : (k : Int) < (la : Int) := by omega
        have HB := Lib.hid hb
        have HOWN := Lib.hid hown
        have HCELL := Lib.hid hcell
        have HROW := Lib.hid hrow
        have HBY := Lib.hid hby
        clear hc hcell hrow hby hb hown
        go_wp2_with fail
        go_loopw [5, 6] (fun kv jv wr => ∃ (j : Nat) (ks : List Ky), j ≤ L ∧ j ≤ 12 ∧ jv = .int .i64 (j : Int) ∧ wr.ownsRow wo.heap.size 57 3 kv j (ks.flatMap kcell) ∧ Hid (ks.length = j) ∧ Hid (∀ q ∈ ks, kfit q ∧ q.s.size ≤ 10) ∧ Below wo.heap.size wo wr) (fun _ jv _ => 12 - (intOf jv).toNat)
        case atStart => exact ⟨0, [], Nat.zero_le _, Nat.zero_le _, rfl, World.ownsRow_nil _ _ _ _, rfl, fun s hs => absurd hs List.not_mem_nil, Below.refl _ _⟩
        case round =>
          obtain ⟨j, ks, hj, hj12, rfl, hown, hjl, hfit, hb⟩ := hrel
          obtain ⟨av, cv, rfl⟩ := ownsRow_shape hown
          have sr := hb.size
          have hcW := ((HB.out.trans (hb.mono so)).cell (p := ⟨b, off + k, none⟩) hbb).trans HCELL.out
          have hbr : b < wr.heap.size := by omega
          by_cases hjL : j < L
          · by_cases hj2 : j < 12
            · obtain ⟨b2, o2, rfl, hb2a, hb2b, hc2⟩ := HROW.out.2.resolve_left (by omega)
              have hx := ((HB.out.trans (hb.mono so)).cell (p := ⟨b2, o2 + j, none⟩) hb2b).trans (hc2 j hjL)
              have hby := HBY.out j hjL
              obtain ⟨x, hxe⟩ : ∃ x, xs.getD j 0 = x := ⟨_, rfl⟩
              rw [hxe] at hx hby
              have hb2r : b2 < wr.heap.size := by omega
              obtain ⟨r, hr⟩ : ∃ r, r = x % 3 := ⟨_, rfl⟩
              obtain ⟨A2, hA⟩ : ∃ A, A = x / 3 % 4 := ⟨_, rfl⟩
              obtain ⟨B2, hB2⟩ : ∃ B, B = x / 12 % 3 := ⟨_, rfl⟩
              have e1 : (x : Int) % 3 = (r : Int) := by omega
              have e2 : (x : Int) / 3 % 4 = (A2 : Int) := by omega
              have e3 : (x : Int) / 12 % 3 = (B2 : Int) := by omega
              have e1t : (x : Int).tmod 3 = (r : Int) := by rw [Int.tmod_eq_emod_of_nonneg (by omega)]; exact e1
              have hr3 : r < 3 := by omega
              have hrI : (r : Int) < 3 := by omega
              have hr0 : (0 : Int) ≤ (r : Int) := by omega
              have HAA : Hid (A2 ≤ 3) := by show A2 ≤ 3; omega
              have HBB : Hid (B2 ≤ 2) := by show B2 ≤ 2; omega
              have hstr : ∀ W : World, (W.alloc (.cells #[.string ⟨#[73, 110, 116]⟩, .string ⟨#[45, 62]⟩, .string ⟨#[44]⟩] 9)).cell? ⟨W.heap.size, r, none⟩ = some (.string (nmOf r)) := fun W => by
                have hbx := Box.new W 9 [.string ⟨#[73, 110, 116]⟩, .string ⟨#[45, 62]⟩, .string ⟨#[44]⟩]
                have := hbx.cell r
                rw [show (W.alloc (.cells #[.string ⟨#[73, 110, 116]⟩, .string ⟨#[45, 62]⟩, .string ⟨#[44]⟩] 9)).cell? ⟨W.heap.size, r, none⟩ = _ from this]
                have hc : r = 0 ∨ r = 1 ∨ r = 2 := by omega
                rcases hc with h | h | h <;> subst h <;> rfl
              have hks : (ks ++ [(⟨nmOf r, (A2 : Int), (B2 : Int)⟩ : Ky)]).flatMap kcell = ks.flatMap kcell ++ [.string (nmOf r), .int .i64 (A2 : Int), .int .i64 (B2 : Int)] := by simp [kcell]
              have HKS := Lib.hid hks
              obtain ⟨nm, hnm⟩ : ∃ nm, nmOf r = nm := ⟨_, rfl⟩
              have HNM : Hid (nm.size ≤ 10) := by show _ ≤ _; rw [← hnm]; exact nmOf_size r
              rw [hnm] at hstr HKS
              have HOW := Lib.hid hown
              have HBW := Lib.hid hb
              have hjLI : (j : Int) < (L : Int) := by omega
              have hjz : (0 : Int) ≤ (j : Int) := by omega
              have Q1 : Hid (j + 1 ≤ maxLen) := by unfold maxLen; show _ ≤ _; omega
              have Q2 : Hid ((j + 1) * 32 ≤ 140737488355328) := by show _ ≤ _; omega
              have HON2 : Hid (∀ v ∈ ([.string nm, .int .i64 (A2 : Int), .int .i64 (B2 : Int)] : List Value), v.oneCell' = true) := by
                intro v hv
                simp at hv
                rcases hv with rfl | rfl | rfl <;> rfl
              clear hown hb hks hc2 hxe hr hA hB2 hnm
              go_wp2_with (at_builtin; refine wpList_append_lies _ rfl _ _ 55 rfl wo.heap.size 57 j0 (.agg #[.string ByteArray.empty, .int .i64 0, .int .i64 0]) 3 32 Tryd.underlying55 hj0 hy0 hy1 hy2 rfl (by decide) _ j (ks.flatMap kcell) rfl ((HOW.out.alloc _).alloc _) ⟨wr.heap.size + 1, 0, none⟩ 1 1 [.string nm, .int .i64 (A2 : Int), .int .i64 (B2 : Int)] rfl rfl (HNEWK2.out _ _ _ _ _) HON2.out (by decide) Q1.out Q2.out (by simp; omega) _ rfl ?_; intro g9 cap w9 hown9 hgrow hat9 hlt9; have HO9 := Lib.hid hown9; have HGR := Lib.hid hgrow; clear hown9 hgrow hat9)
              have hb9 : Below wo.heap.size wo w9 := below_grown (below_alloc (below_alloc HBW.out (Nat.le_refl _) _) (Nat.le_refl _) _) HGR.out (Nat.le_refl _) (fun q hq => (HOW.out.lt q hq).1)
              go_roundw
              case rel =>
                refine ⟨j + 1, by omega, by omega, by go_num, ks ++ [⟨nm, (A2 : Int), (B2 : Int)⟩], by rw [HKS.out]; exact HO9.out, by show _ = _; rw [List.length_append, hjl.out]; rfl, fun q hq => ?_, hb9⟩
                rcases List.mem_append.1 hq with h | h
                · exact hfit.out q h
                · simp at h; subst h
                  have h1 := HAA.out
                  have h2 := HBB.out
                  have h3 := HNM.out
                  refine ⟨⟨?_, ?_, ?_⟩, h3⟩
                  · unfold tfit; show _ ≤ (A2 : Int) ∧ (A2 : Int) ≤ _; omega
                  · unfold tfit; show _ ≤ (B2 : Int) ∧ (B2 : Int) ≤ _; omega
                  · unfold maxLen; show nm.size ≤ _; omega
              case measure => simp [intOf]; omega
            · obtain rfl : j = 12 := by omega
              have hjLI : ((12 : Nat) : Int) < (L : Int) := by omega
              have hjLN : 12 < L := hjL
              obtain ⟨av2, cv2, hve, hcap2, hsl⟩ := Sl.of_owns kcell_length hown hjl.out
              have q1 : av2 = av ∧ cv2 = cv := by cases hve; exact ⟨rfl, rfl⟩
              obtain ⟨rfl, rfl⟩ := q1
              have HSL := Lib.hid hsl
              have HBW := Lib.hid hb
              have HOUT : Hid (wr.ownsRow w.heap.size 55 1 u3 k svs) := ownsRow_below HOWN.out hb
              have Q1 : Hid (k + 1 ≤ maxLen) := by unfold maxLen; show _ ≤ _; omega
              have Q2 : Hid ((k + 1) * 24 ≤ 140737488355328) := by show _ ≤ _; omega
              clear hown hb hve hcap2 hsl
              go_wp2_with (at_builtin; refine wpList_append_lies _ rfl _ _ 54 rfl w.heap.size 55 i0 (.slice none 0 0) 1 24 Tryd.underlying54 hi0 hz0 hz1 hz2 rfl (by decide) _ k svs rfl (HOUT.out.alloc _) ⟨wr.heap.size, 0, none⟩ 1 1 [.slice av2 12 cv2] rfl rfl (HNEWS.out _ _) (HONE.out _ _ _) (by decide) Q1.out Q2.out (by simp; omega) _ rfl ?_; intro g9 cap w9 hown9 hgrow hat9 hlt9; have HO9 := Lib.hid hown9; have HGR := Lib.hid hgrow; have HAT := Lib.hid hat9; clear hown9 hgrow hat9)
              have hin9 := hin.out.snoc (c4 := cv2) so (fun q hq => (HOWN.out.lt q hq).2) HBW.out HGR.out HAT.out HSL.out
              have hb9 : Below w.heap.size w w9 := below_grown (below_alloc (below_next HB.out HBW.out (Nat.le_refl _)) (Nat.le_refl _) _) HGR.out (Nat.le_refl _) (fun q hq => (HOWN.out.lt q hq).1)
              have HM9 : Hid (KMade (ss ++ [ks])) := fun s hs => by
                rcases List.mem_append.1 hs with h | h
                · exact hmade.out s h
                · simp at h; subst h
                  exact ⟨by rw [hjl.out]; omega, hfit.out⟩
              have HL9 : Hid ((ss ++ [ks]).length = k + 1) := by show _ = _; rw [List.length_append, hkl.out]; rfl
              go_roundw
              case rel => exact ⟨k + 1, _, _, by omega, by omega, by go_num, HO9.out, HL9, HM9, hin9, hb9⟩
              case measure => simp [intOf]; omega
          · obtain rfl : j = L := by omega
            have hnj : ¬ ((j : Int) < (j : Int)) := by omega
            obtain ⟨av2, cv2, hve, hcap2, hsl⟩ := Sl.of_owns kcell_length hown hjl.out
            have q1 : av2 = av ∧ cv2 = cv := by cases hve; exact ⟨rfl, rfl⟩
            obtain ⟨rfl, rfl⟩ := q1
            have HSL := Lib.hid hsl
            have HBW := Lib.hid hb
            have HOUT : Hid (wr.ownsRow w.heap.size 55 1 u3 k svs) := ownsRow_below HOWN.out hb
            have Q1 : Hid (k + 1 ≤ maxLen) := by unfold maxLen; show _ ≤ _; omega
            have Q2 : Hid ((k + 1) * 24 ≤ 140737488355328) := by show _ ≤ _; omega
            clear hown hb hve hcap2 hsl
            go_wp2_with (at_builtin; refine wpList_append_lies _ rfl _ _ 54 rfl w.heap.size 55 i0 (.slice none 0 0) 1 24 Tryd.underlying54 hi0 hz0 hz1 hz2 rfl (by decide) _ k svs rfl (HOUT.out.alloc _) ⟨wr.heap.size, 0, none⟩ 1 1 [.slice av2 j cv2] rfl rfl (HNEWS.out _ _) (HONE.out _ _ _) (by decide) Q1.out Q2.out (by simp; omega) _ rfl ?_; intro g9 cap w9 hown9 hgrow hat9 hlt9; have HO9 := Lib.hid hown9; have HGR := Lib.hid hgrow; have HAT := Lib.hid hat9; clear hown9 hgrow hat9)
            have hin9 := hin.out.snoc (c4 := cv2) so (fun q hq => (HOWN.out.lt q hq).2) HBW.out HGR.out HAT.out HSL.out
            have hb9 : Below w.heap.size w w9 := below_grown (below_alloc (below_next HB.out HBW.out (Nat.le_refl _)) (Nat.le_refl _) _) HGR.out (Nat.le_refl _) (fun q hq => (HOWN.out.lt q hq).1)
            have HM9 : Hid (KMade (ss ++ [ks])) := fun s hs => by
              rcases List.mem_append.1 hs with h | h
              · exact hmade.out s h
              · simp at h; subst h
                exact ⟨by rw [hjl.out]; omega, hfit.out⟩
            have HL9 : Hid ((ss ++ [ks]).length = k + 1) := by show _ = _; rw [List.length_append, hkl.out]; rfl
            go_roundw
            case rel => exact ⟨k + 1, _, _, by omega, by omega, by go_num, HO9.out, HL9, HM9, hin9, hb9⟩
            case measure => simp [intOf]; omega
      · obtain rfl : k = 10 := by omega
        go_wp2_with fail
        go_ret
        obtain ⟨a', c', e, hs⟩ := hin.out.scr hown hkl.out
        exact ⟨a', c', ss, by rw [← e]; rfl, by have := hkl.out; omega, hmade.out, hs, hb⟩
    · obtain rfl : k = la := by omega
      go_wp2_with fail
      go_ret
      obtain ⟨a', c', e, hs⟩ := hin.out.scr hown hkl.out
      exact ⟨a', c', ss, by rw [← e]; rfl, by have := hkl.out; omega, hmade.out, hs, hb⟩

end Go.Proofs.YthhcchdjeeigpaaDoor
