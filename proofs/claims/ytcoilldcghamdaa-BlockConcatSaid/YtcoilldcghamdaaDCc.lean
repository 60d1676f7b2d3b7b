/- BlockConcat: lists of words that are drawn, loaded into an array, for each number of lists. No conditions but those of each theorem. -/
import Derived.Test.YtcoilldcghamdaaSyZ
import Derived.KernelRfl
import Derived.Test.YtcoilldcghamdaaDCa
import Derived.Test.YtcoilldcghamdaaDCb
namespace Go.Proofs.Ytcoilldcghamdaa
open Go.RowKit
open OldD (DA Dk Co fp Gr Row Fresh hid hd hs gu nk good ldK ge vu Ar un stF chk3 chk4 rdV wrE wrK flK)
set_option linter.unusedVariables false
set_option linter.unnecessarySimpa false
set_option linter.unusedSimpArgs false
set_option maxRecDepth 10000
def enc8 (z : Int) : List AV := [.val (.int .u8 z)]
theorem words_i (z s : Int) (h : 0 ≤ z ∧ z ≤ 1000) : CallOK Try.prog 15 [I z, U s] [] (.sl 10 0 1 z.toNat none) [(10, some (.vec 36 1 z.toNat (rowG encU (wordsL s z.toNat))))] := by
  have := words_any z.toNat s (by omega)
  rwa [show ((z.toNat : Nat) : Int) = z by omega] at this
end Go.Proofs.Ytcoilldcghamdaa
