/- Facts of the end of a play on keys, as the laws of layer 8 ask them. -/
import Derived.Test.YthhcchdjeeigpaaDoorTkeys
import Derived.Test.YthhcchdjeeigpaaDoorTaw
namespace Go.Proofs.YthhcchdjeeigpaaDoor
open Go.RowKit Go.Maps
set_option linter.unusedVariables false
set_option linter.unusedSimpArgs false

theorem nodup_sub_len {α : Type} [DecidableEq α] : ∀ {l m : List α}, l.Nodup → (∀ x ∈ l, x ∈ m) → l.length ≤ m.length
  | [], _, _, _ => Nat.zero_le _
  | a :: l, m, hn, hs => by
    have ha : a ∈ m := hs a (List.mem_cons_self ..)
    have hn' := List.nodup_cons.1 hn
    have := nodup_sub_len (l := l) (m := m.erase a) hn'.2 (fun x hx => by
      refine (List.mem_erase_of_ne ?_).2 (hs x (List.mem_cons_of_mem _ hx))
      rintro rfl
      exact hn'.1 hx)
    rw [List.length_erase_of_mem ha] at this
    have h1 : 0 < m.length := List.length_pos_of_mem ha
    simp only [List.length_cons]
    omega
theorem kmade_sum {ss : List (List Ky)} (h : KMade ss) (hl : ss.length ≤ 10) : (ss.map List.length).sum ≤ 120 := by
  have key : ∀ l : List (List Ky), (∀ s ∈ l, s.length ≤ 12) → (l.map List.length).sum ≤ 12 * l.length := by
    intro l
    induction l with
    | nil => intro _; simp
    | cons a l ih =>
      intro ha
      have h1 := ih fun s hs => ha s (List.mem_cons_of_mem _ hs)
      have h2 := ha a (List.mem_cons_self ..)
      simp only [List.map_cons, List.sum_cons, List.length_cons]
      omega
  have := key ss fun s hs => (h s hs).1
  omega
theorem kmade_fit {ss : List (List Ky)} (h : KMade ss) : ∀ s ∈ ss, ∀ k ∈ s, kfit k := fun s hs k hk => ((h s hs).2 k hk).1
theorem tend_fit {room : Int} {ss : List (List Ky)} {g : Tg} (h : TEnd room ss g) (hm : KMade ss) : ∀ k ∈ g.keys, kfit k := by
  intro k hk
  obtain ⟨i, s, hs, hx⟩ := h.src k hk
  exact kmade_fit hm s (List.mem_of_getElem? hs) k hx
/-- With room for all, the table's keys are the keys of the lists. -/
theorem tend_all {room : Int} {ss : List (List Ky)} {g : Tg} (h : TEnd room ss g) (hr : ((ss.map List.length).sum : Int) < room) (x : Ky) : x ∈ g.keys ↔ ∃ s ∈ ss, x ∈ s := by
  have hc := h.cnt
  constructor
  · intro hx
    obtain ⟨i, s, hs, hxs⟩ := h.src x hx
    exact ⟨s, List.mem_of_getElem? hs, hxs⟩
  · rintro ⟨s, hs, hx⟩
    obtain ⟨i, hi⟩ := List.mem_iff_getElem?.1 hs
    obtain ⟨j, hj⟩ := List.mem_iff_getElem?.1 hx
    rcases (h.got i s hi).2 j x hj with ⟨m, _, hm⟩ | ⟨_, hn⟩
    · exact List.mem_of_getElem? hm
    · omega
theorem tend_same {room room' : Int} {ss : List (List Ky)} {g g' : Tg} (h : TEnd room ss g) (h' : TEnd room' ss g') (hr : ((ss.map List.length).sum : Int) < room) (hr' : ((ss.map List.length).sum : Int) < room') : g.keys.length = g'.keys.length ∧ ∀ x ∈ g.keys, x ∈ g'.keys := by
  have h1 : ∀ x ∈ g.keys, x ∈ g'.keys := fun x hx => (tend_all h' hr' x).2 ((tend_all h hr x).1 hx)
  have h2 : ∀ x ∈ g'.keys, x ∈ g.keys := fun x hx => (tend_all h hr x).2 ((tend_all h' hr' x).1 hx)
  exact ⟨Nat.le_antisymm (nodup_sub_len h.nodup h1) (nodup_sub_len h'.nodup h2), h1⟩
/-- The list of keys that a table is, one key of it read. -/
theorem keys_cell {lo hi n : Nat} {w : World} {a : Option Addr} {ks : List Ky} (h : Sl 3 lo hi w a n (ks.map kcell)) (hn : 0 < n) : ∃ b off, a = some ⟨b, off, none⟩ ∧ lo ≤ b ∧ b < hi ∧ ∀ i k, ks[i]? = some k → w.cell? ⟨b, off + i * 3, none⟩ = some (.string k.s) ∧ w.cell? ⟨b, off + i * 3 + 1, none⟩ = some (.int .i64 k.a) ∧ w.cell? ⟨b, off + i * 3 + 2, none⟩ = some (.int .i64 k.b) := by
  obtain ⟨b, off, e, h1, h2, h3⟩ := h.at hn
  refine ⟨b, off, e, h1, h2, fun i k hk => ?_⟩
  have hq : (ks.map kcell)[i]? = some (kcell k) := by rw [List.getElem?_map, hk]; rfl
  have h0 := h3 i _ hq 0 (.string k.s) rfl
  have h1 := h3 i _ hq 1 (.int .i64 k.a) rfl
  have h2 := h3 i _ hq 2 (.int .i64 k.b) rfl
  exact ⟨h0, h1, h2⟩

end Go.Proofs.YthhcchdjeeigpaaDoor
