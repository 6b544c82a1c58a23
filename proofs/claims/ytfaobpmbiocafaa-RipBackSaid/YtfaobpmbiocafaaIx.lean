/-
  The first message of a list that may not be: slices.IndexFunc at it. Conditions: a list of at most 2^20 messages, whose lists aren't long.
-/
import Derived.Test.YtfaobpmbiocafaaEs
import Derived.Test.YtfaobpmbiocafaaRt
import Derived.Test.YtfaobpmbiocafaaAll
namespace Go.Proofs.Ytfaobpmbiocafaa.Ix
open Go.ChangeShapes Go.WideShapes Go.ChangeAt Go.RowKit
open Go.Proofs.Ytfaobpmbiocafaa.Ms
open Go.Proofs.Ytfaobpmbiocafaa.Box
open Go.Proofs.Ytfaobpmbiocafaa.Rp
open Go.Proofs.Ytfaobpmbiocafaa.Ps
open Go.Proofs.Ytfaobpmbiocafaa.Es
open Go.Proofs.Ytfaobpmbiocafaa.Hs
open Go.Proofs.Ytfaobpmbiocafaa.All
open Go.Proofs.Ytfaobpmbiocafaa.Rt
set_option linter.unusedVariables false
set_option maxRecDepth 100000

theorem int_eq {k : IntKind} {a b : Int} (h : a = b) : Ending.returned (.int k a) = .returned (.int k b) := by rw [h]
/-- The first place whose message may not be; -1, if there is none. -/
def idxW (l : List M) : Int := match bad (ckW l) l.length with | some i => ((i : Nat) : Int) | none => -1
theorem idx_some {l : List M} {k : Nat} (hk : k < l.length) (h : ∀ i, i < k → ckW l i = 0) (hn : ckW l k ≠ 0) : idxW l = ((k : Nat) : Int) := by
  unfold idxW
  rw [bad_some hk h hn]
theorem idx_none {l : List M} (h : ∀ i, i < l.length → ckW l i = 0) : idxW l = -1 := by
  unfold idxW
  rw [bad_none h]
theorem row_in {w : World} {a : Option Addr} {l : List M} (h : MRow w a l) (hs : ∀ m ∈ l, Short m) {k : Nat} (hk : k < l.length) : l[k].In w := by
  obtain ⟨p, _, _, _, hd, hss⟩ := h k hk
  have := hs _ (List.getElem_mem hk)
  exact ⟨hd, hss, this.1, this.2⟩

set_option maxHeartbeats 3200000 in
theorem index_any (a : Option Addr) (c : Nat) (l : List M) (w : World) (hl : MRow w a l) (hs : ∀ m ∈ l, Short m) (hn : l.length ≤ 1048576) :
    Calls Try.prog 33 #[.slice a l.length c, .func (.func 34) #[] #[]] w fun e w' => e = .returned (.int .i64 (idxW l)) ∧ Below w.heap.size w w' := by
  go_enter Try.func33, Try.ntmps33
  go_wp2
  go_loopw [8] (fun i wr => ∃ k : Nat, k ≤ l.length ∧ i = .int .i64 k ∧ Hid (∀ i, i < k → ckW l i = 0) ∧ Hid (Below w.heap.size w wr)) (fun i _ => l.length - (intOf i).toNat)
  case atStart => exact ⟨0, Nat.zero_le _, rfl, Lib.hid (fun i hi => absurd hi (by omega)), Lib.hid (Below.refl _ _)⟩
  case round =>
    obtain ⟨k, hk, rfl, HT, HB⟩ := hrel
    by_cases hlt : k < l.length
    · obtain ⟨p, rfl, _, hc, _, _⟩ := (hl.below HB.out) k hlt
      have P := Lib.hid (wrong_any l[k] wr (row_in (hl.below HB.out) hs hlt))
      have HI := Lib.hid (fun (h : ckW l k ≠ 0) => idx_some hlt HT.out h)
      have HJ := Lib.hid (fun (h : ckW l k = 0) => show ∀ i, i < k + 1 → ckW l i = 0 from fun i hi => by
        by_cases hik : i < k
        · exact HT.out i hik
        · obtain rfl : i = k := by omega
          exact h)
      have HR := Lib.hid (show ckW l k = if rightB l[k] then 0 else 1 by unfold ckW; rw [at0_eq l k hlt])
      have HC := Lib.hid hc
      clear hl hc hs HT
      generalize l[k] = u at *
      generalize rightB u = x at *
      cases x
      · have HZ := Lib.hid (HI.out (by rw [HR.out]; decide))
        clear HI HJ HR
        go_wp2_with (first | (refine wpList_loadA (m := u) rfl _ rfl rfl HC.out ?_))
        refine P.out.mono ?_
        rintro e w1 ⟨rfl, hb1⟩
        go_wp2
        go_ret
        exact ⟨int_eq HZ.out.symm, bcall HB.out hb1⟩
      · have HZ := Lib.hid (HJ.out HR.out)
        clear HI HJ HR
        go_wp2_with (first | (refine wpList_loadA (m := u) rfl _ rfl rfl HC.out ?_))
        refine P.out.mono ?_
        rintro e w1 ⟨rfl, hb1⟩
        have HB1 := Lib.hid (bcall HB.out hb1)
        clear hb1
        go_wp2
        go_roundw
        case rel => exact ⟨k + 1, hlt, by go_num, HZ, HB1⟩
        case measure => simp [intOf]; omega
    · obtain rfl : k = l.length := by omega
      have HZ := Lib.hid (idx_none HT.out)
      go_wp2
      go_ret
      exact ⟨int_eq HZ.out.symm, HB.out⟩
end Go.Proofs.Ytfaobpmbiocafaa.Ix
