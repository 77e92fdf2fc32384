/- Contracts: whether a text is a word. -/
import Derived.Test.YtdhkcbkeehameaaLexr
import Derived.Lib.Strings
namespace Go.Proofs.Ytdhkcbkeehameaa
open Go.RowKit
set_option linter.unusedVariables false
set_option linter.unusedSimpArgs false

theorem wordB_or (l : By) : wordB l = ((l == [100, 97, 116, 97]) || ((l == [108, 101, 116]) || ((l == [105, 110]) || ((l == [105, 102]) || ((l == [116, 104, 101, 110]) || ((l == [101, 108, 115, 101]) || ((l == [99, 97, 115, 101]) || ((l == [111, 102]) || ((l == [116, 114, 117, 101]) || (l == [102, 97, 108, 115, 101])))))))))) := by
  unfold wordB wordsL
  rw [Bool.eq_iff_iff]
  simp [List.contains_iff_mem]

set_option maxHeartbeats 2000000 in
theorem w_isWord (s : ByteArray) (w : World) :
    Calls Try.prog 43 #[.string s] w fun e w' => e = .returned (.bool (wordB s.data.toList)) ∧ w' = w := by
  rw [wordB_or, ← Lib.toList_data]
  go_enter Try.func43, Try.ntmps43
  go_wp2
  all_goals
    go_ret
    refine ⟨ret_bool ?_, rfl⟩
    first
      | (simp only [*, Bool.true_or, Bool.or_true, Bool.false_or]; done)
      | simp_all
set_option maxHeartbeats 2000000 in
theorem w_word (s : ByteArray) (w : World) :
    Calls Try.prog 26 #[.string s] w fun e w' => e = .returned (.bool (wordB s.data.toList)) ∧ w' = w := by
  rw [wordB_or, ← Lib.toList_data]
  go_enter Try.func26, Try.ntmps26
  go_wp2
  all_goals
    go_ret
    refine ⟨ret_bool ?_, rfl⟩
    first
      | (simp only [*, Bool.true_or, Bool.or_true, Bool.false_or]; done)
      | simp_all
end Go.Proofs.Ytdhkcbkeehameaa
