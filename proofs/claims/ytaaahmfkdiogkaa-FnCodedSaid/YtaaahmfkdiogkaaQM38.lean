/- Merged: Ask12. -/
import Derived.Test.YtaaahmfkdiogkaaQM33
import Derived.Test.YtaaahmfkdiogkaaQM36
import Derived.Test.YtaaahmfkdiogkaaQM34
import Derived.Test.YtaaahmfkdiogkaaQM32
namespace Go.Proofs.Ytaaahmfkdiogkaa
set_option linter.unusedVariables false
set_option linter.unusedSimpArgs false
open Go.RowKit

theorem askGroups : AskGroups := fun n w h1 h2 => (implGroups_any n w h1 h2).mono fun e w' h => ⟨h.1, by rw [← h.2]; exact Below.refl _ _⟩
theorem askTablesOk : AskTablesOk := fun a cap B n T w hT hB _ _ _ _ => implTablesOk_any a cap B T n w hT hB
theorem askPutSels : AskPutSels := fun a cap B k z w hz hB _ h1 h4 hr => implPutSels_yes a cap B k z w hz hB h1 h4 hr
theorem askPutSelsNo : AskPutSelsNo := fun a cap B z k w hz hB _ hl n1 n2 h => implPutSels_no a cap B z k w hz hB hl n1 n2 h
theorem askGetSels : AskGetSels := fun s at0 n k w hs ha hn h1 h4 => implGetSels_any s at0 n k w hs ha hn h1 h4
theorem askGetSelsNo : AskGetSelsNo := fun s at0 n k w hs b1 b2 b3 b4 b5 b6 h => implGetSels_no s at0 n k w hs b1 b2 b3 b4 b5 b6 h
theorem askPutCoded : AskPutCoded := fun a at2 a3 cap capT cap3 B S G T w hz hT hz3 hB h1 h2 _ hok => implPutCoded_yes a at2 a3 cap capT cap3 B S G T w hz hT hz3 hB h1 h2 hok
theorem askPutCodedNo : AskPutCodedNo := fun a at2 a3 cap capT cap3 B S G T w hz hT hz3 hB _ _ _ h1 h2 h3 hok => implPutCoded_no a at2 a3 cap capT cap3 B S G T w hz hT hz3 hB h1 h2 h3 hok
theorem askCodedBits : AskCodedBits := fun a at2 a3 cap capT cap3 B S G T w hz hT hz3 hB h1 h2 _ l1 l2 l3 => implCodedBits_any a at2 a3 cap capT cap3 B S G T w hz hT hz3 hB h1 h2 l1 l2 l3
theorem askGetCoded : AskGetCoded := fun at2 a3 capT cap3 B at0 G T s e0 w hT hz3 hB h1 h2 hok hs ha r1 r2 => implGetCoded_any at2 a3 capT cap3 B at0 G T s e0 w hT hz3 hB h1 h2 hok hs ha r1 r2
theorem askGetCodedNo : AskGetCodedNo := fun at2 a3 capT cap3 B at0 G T s e0 w hT hz3 hB _ _ l1 l2 hs b1 b2 _ _ h => implGetCoded_no at2 a3 capT cap3 B at0 G T s e0 w hT hz3 hB l1 l2 hs b1 b2 h
end Go.Proofs.Ytaaahmfkdiogkaa
