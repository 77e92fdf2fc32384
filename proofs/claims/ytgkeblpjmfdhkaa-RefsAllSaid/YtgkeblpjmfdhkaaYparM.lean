/- The document's Parse. -/
import Derived.Test.YtgkeblpjmfdhkaaYpmM
import Derived.Test.YtgkeblpjmfdhkaaYexprM
import Derived.Test.YtgkeblpjmfdhkaaYconM
import Derived.Test.YtgkeblpjmfdhkaaZGM
import Derived.Test.YtgkeblpjmfdhkaaZIM
import Derived.Test.YtgkeblpjmfdhkaaLexgM
namespace Go.Proofs.Ytgkeblpjmfdhkaa
open Go.RowKit Go.Maps
set_option linter.unusedVariables false
set_option linter.unusedSimpArgs false

theorem rowsL_al {A : Type} {Pr : A → Prop} {sep : Srt} {most : Nat} {one : PS → A × PS} (h : ∀ σ, Pr (one σ).1) : ∀ (f : Nat) (l : List A) (σ : PS), (∀ x ∈ l, Pr x) → ∀ x ∈ (rowsL sep most one f l σ).1, Pr x
  | 0, l, σ, hl => hl
  | f + 1, l, σ, hl => by
    unfold rowsL
    split
    · refine rowsL_al h f _ _ fun x hx => ?_
      rcases List.mem_append.1 hx with hx | hx
      · exact hl x hx
      · rw [List.mem_singleton.1 hx]; exact h _
    · exact hl
theorem rowsF_al {A : Type} {Pr : A → Prop} {sep : Srt} {most : Nat} {one : PS → A × PS} (h : ∀ σ, Pr (one σ).1) (σ : PS) : ∀ x ∈ (rowsF sep most one σ).1, Pr x :=
  rowsL_al h _ _ _ fun x hx => by rw [List.mem_singleton.1 hx]; exact h _
theorem programL_pl (En n : Nat) : ∀ (f : Nat) (p : Pg) (σ : PS), (∀ b ∈ p.binds, 0 ≤ b.p) → (∀ d ∈ p.datas, ∀ c ∈ d.cons, 0 ≤ c.p) → (∀ b ∈ (programL En n f p σ).1.binds, 0 ≤ b.p) ∧ (∀ d ∈ (programL En n f p σ).1.datas, ∀ c ∈ d.cons, 0 ≤ c.p)
  | 0, p, σ, h1, h2 => ⟨h1, h2⟩
  | f + 1, p, σ, h1, h2 => by
    unfold programL
    split
    · exact ⟨h1, h2⟩
    · split
      · refine programL_pl En n f _ _ h1 fun d hd => ?_
        rcases List.mem_append.1 hd with hd | hd
        · exact h2 d hd
        · rw [List.mem_singleton.1 hd]
          exact rowsF_al (Pr := fun c : Cn => 0 ≤ c.p) (fun σ => Int.natCast_nonneg _) _
      · refine programL_pl En n f _ _ (fun b hb => ?_) h2
        rcases List.mem_append.1 hb with hb | hb
        · exact h1 b hb
        · rw [List.mem_singleton.1 hb]
          exact Int.natCast_nonneg _
def finP (P : Pg × PS) : Out3 :=
  if P.2.st = true then ⟨⟨[], []⟩, 4, P.2.at_⟩
  else if tooDeepL P.1 = [] then ⟨P.1, 0, 0⟩ else ⟨⟨[], []⟩, 5, minL (tooDeepL P.1)⟩
theorem finP_doc {P : Pg × PS} (h : P.2.st = false) (hb : ∀ b ∈ P.1.binds, 0 ≤ b.p) (hc : ∀ d ∈ P.1.datas, ∀ c ∈ d.cons, 0 ≤ c.p) :
    (tooDoc P.1 < 0 → finP P = ⟨P.1, 0, 0⟩) ∧ (¬ tooDoc P.1 < 0 → finP P = ⟨⟨[], []⟩, 5, tooDoc P.1⟩) := by
  have h1 := tooDoc_eq P.1 hb hc
  unfold finP
  rw [h, if_neg (by decide)]
  by_cases he : tooDeepL P.1 = []
  · rw [if_pos he] at h1 ⊢
    exact ⟨fun _ => rfl, fun h2 => absurd (by omega) h2⟩
  · rw [if_neg he] at h1 ⊢
    have h3 := minL_least he
    refine ⟨fun h2 => ?_, fun _ => by rw [h1]⟩
    rw [h1] at h2
    rcases h3 with ⟨h4, h5⟩ | ⟨h4, h5⟩
    · exact absurd (h4 _ (List.head_mem he)) (by simp)
    · rcases (tooDeepL_mem P.1 _).1 h4 with ⟨b, hb1, _, hb2⟩ | ⟨d, hd, c, hc1, _, hc2⟩
      · have := hb b hb1; omega
      · have := hc d hd c hc1; omega
theorem RP.first {w : World} {R En c : Nat} {a : Option Addr} {ts : List Tk} (hb : Box w R 100 [.slice a ts.length c, .int .i64 0, .int .i64 (En : Int), .bool false, .int .i64 0]) (ht : TR R w a ts.length ts) (hc : ts.length ≤ c) (hf : ∀ t ∈ ts, t.fit) (ho : ∀ t ∈ ts, t.okk) (hl : ts.length ≤ 65536) : RP ⟨R, En, a, c, ts⟩ w ⟨ts, false, 0⟩ :=
  ⟨⟨0, Nat.zero_le _, hb, fun _ => rfl, fun e => nomatch e⟩, ht, hc, hf, ho, hl⟩

end Go.Proofs.Ytgkeblpjmfdhkaa
