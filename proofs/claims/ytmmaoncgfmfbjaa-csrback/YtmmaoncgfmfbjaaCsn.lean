/-
  Package csr is what the statements on status registers need.
-/
import Derived.Test.YtmmaoncgfmfbjaaCsk
import Derived.Test.YtmmaoncgfmfbjaaCnx
import Derived.Test.YtmmaoncgfmfbjaaCnt
namespace Go.Proofs.Ytmmaoncgfmfbjaa
open Go.RowKit

theorem csrK : CsrK where
  read := fun f u hu n now due w => nRead f u hu n now due w
  write := fun f u hu n x hx w => nWrite f u hu n x hx w
  trap := fun f u hu c v _ _ w => nTrap f u hu c v w
  ret := fun f u hu w => nRet f u hu w
end Go.Proofs.Ytmmaoncgfmfbjaa
