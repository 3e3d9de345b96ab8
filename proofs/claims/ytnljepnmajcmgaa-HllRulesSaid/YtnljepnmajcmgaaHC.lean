/- What package hll answers: all its contracts (hRight_any, hNew_any, hPlace_any, hAdd_any, hOf_any, hMerge_any, hLower_any, hCount_any). -/
import Derived.Test.YtnljepnmajcmgaaHCCt
namespace Go.Proofs.Ytnljepnmajcmgaa
end Go.Proofs.Ytnljepnmajcmgaa
