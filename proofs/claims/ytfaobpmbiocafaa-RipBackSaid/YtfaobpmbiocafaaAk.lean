/-
  The document's example for datagrams of RIP: values alone. No conditions.
-/
import Derived.Test.YtfaobpmbiocafaaEc
import Derived.Test.YtfaobpmbiocafaaPa
namespace Go.Proofs.Ytfaobpmbiocafaa.Ak
open Go.ChangeShapes Go.WideShapes Go.ChangeAt Go.RowKit
open Go.Proofs.Ytfaobpmbiocafaa.Ms
open Go.Proofs.Ytfaobpmbiocafaa.Rp
open Go.Proofs.Ytfaobpmbiocafaa.Ps
open Go.Proofs.Ytfaobpmbiocafaa.Es
open Go.Proofs.Ytfaobpmbiocafaa.Bk (E)
set_option linter.unusedVariables false
set_option maxRecDepth 100000

def exB : ByteArray := ⟨#[2, 2, 0, 0, 0, 2, 0, 7, 10, 0, 0, 0, 255, 0, 0, 0, 0, 0, 0, 0, 0, 0, 0, 3]⟩
def exE : E := ⟨2, 7, ⟨#[10, 0, 0, 0]⟩, ⟨#[255, 0, 0, 0]⟩, ⟨#[0, 0, 0, 0]⟩, 3⟩
def exM : M := { M.zero with kind := 1, cmd := 2, ver := 2, family := 2, tag := 7, pfx := ⟨#[10, 0, 0, 0]⟩, plen := 8, next := ⟨#[0, 0, 0, 0]⟩, metric := 3 }
theorem ex_hd : (hdAt exB).2 = 0 := by decide +kernel
theorem ex_cn : (cnAt exB).2 = 0 := by decide +kernel
theorem ex_says : says exB = false := by
  unfold says Au.isA Au.starts
  rw [ByteArray.toList_eq]
  decide +kernel
theorem ex_at : atN exB = 4 := by unfold atN; rw [ex_says]; rfl
theorem ex_hdM : hdM exB = { M.zero with kind := 1, cmd := 2, ver := 2 } := by unfold hdM; rw [ex_says]; rfl
theorem ex_ent : entP exB 4 = exE := by
  unfold entP Ent.E.of exE
  congr 1 <;> decide +kernel
theorem ex_plen : Mask.plenN exE.mask = 8 := by decide +kernel
theorem ex_route : routeM (hdM exB) exE = exM := by
  rw [ex_hdM]
  unfold routeM plenE
  rw [ex_plen]
  rfl
theorem ex_ck (al : Bool) : ckE (hdM exB) exE al = 0 := by
  rw [ex_hdM]
  unfold ckE ck2
  rw [ex_plen]
  cases al <;> decide +kernel
theorem ex_out : out exB = ([exM], 0, 0) := by
  unfold out
  rw [if_neg (by simpa using ex_hd), if_neg (by simpa using ex_cn), ex_at, if_neg (by decide)]
  have hc : cntN exB = 1 := by unfold cntN; rw [ex_at]; decide
  rw [hc, ents_none (fun i hi => by obtain rfl : i = 0 := (by omega); rw [show 4 + 20 * 0 = 4 from rfl, ex_ent]; exact ex_ck _)]
  show ([routeM (hdM exB) (entP exB 4)], _, _) = _
  rw [ex_ent, ex_route]
theorem ex_right : rightB exM = true := by
  unfold rightB Bare.bare1 routeB
  decide +kernel
theorem ex_enc : enc [exM] = (exB, 0, 0) := by
  have h0 : at0 [exM] 0 = exM := rfl
  rw [Es.enc_ok (fun i hi => by obtain rfl : i = 0 := (by simpa using hi); exact ckW_zero.2 (by rw [h0]; exact ex_right)) (by simp) (fun i hi => by obtain rfl : i = 0 := (by simpa using hi); unfold ckT; rw [h0]; decide +kernel)]
  congr 1
end Go.Proofs.Ytfaobpmbiocafaa.Ak
