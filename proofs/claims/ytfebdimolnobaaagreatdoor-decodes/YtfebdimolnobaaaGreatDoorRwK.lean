import Derived.Test.YtfebdimolnobaaaGreatDoorAl
import Derived.Test.YtfebdimolnobaaaGreatDoorRows
import Derived.LaidByTextLater
import Derived.LaidOnce
import Derived.SevenTiedAt
set_option maxRecDepth 100000
set_option maxHeartbeats 8000000
set_option linter.all false
namespace Go.Proofs.YtfebdimolnobaaaGreatDoor
open Go.RowKit Go.Proofs.Tryz
section
open Go.Proofs.YtfebdimolnobaaaGreatDoor.Rows
def Rh:Tryz.pinned.checked.prog.headLifts.contains "ownunsafe" =false:=Tj
def RV:prog.laidByTextLater [("math/bits.deBruijn32tab",laid_math_bits_deBruijn32tab), ("math/bits.deBruijn64tab",laid_math_bits_deBruijn64tab), ("internal/strconv.uint64pow10",laid_internal_strconv_uint64pow10), ("unicode/utf8.acceptRanges",laid_unicode_utf8_acceptRanges), ("strconv.ErrRange",laid_strconv_ErrRange), ("strconv.ErrSyntax",laid_strconv_ErrSyntax), ("twinwire/model.baseWords",laid_twinwire_model_baseWords)] [.data,.data,.data,.data,.sentinel,.sentinel,.data] true:=
 Program.laidByTextLater_by_one 77 8 65 Tj Tj Tj Tj Tj Tj (λ_ _=>Tj)
def RW:decodesUptoRow.laidByTextAt .later Tryz.pinned [.data,.data,.data,.data,.sentinel,.sentinel,.data,.pinned] true:=
 OpenClaim.laidByTextAt_pinned rfl rfl RV rfl rfl rfl rfl (λy a e=>by
  simp only[decodesUptoRow,List.zip_cons_cons,List.zip_nil_right,aR,List.mem_nil_iff,or_false]at a;rcases a with rfl|rfl|rfl|rfl|rfl|rfl|rfl|rfl;iterate 7 cases e
  exact⟨Tj,Tj⟩) (by
  unfold Program.listedFits;rw[Rh]
  kernel_rfl)
end
end Go.Proofs.YtfebdimolnobaaaGreatDoor
