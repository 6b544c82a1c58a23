/-
  Which Subs bytes hold: the program's sift and Get. Condition: at most 100000 bytes.
-/
import Derived.Test.YteecialdkfaejaaDoorS2
import Derived.Test.YteecialdkfaejaaDoorP5
import Derived.Test.YteecialdkfaejaaDoorF4
namespace Go.Proofs.YteecialdkfaejaaDoor.S5
open Go.ChangeShapes Go.WideShapes Go.ChangeAt Go.RowKit
open Go.Proofs.YteecialdkfaejaaDoor.Ms
open Go.Proofs.YteecialdkfaejaaDoor.Cnt
open Go.Proofs.YteecialdkfaejaaDoor.S1
open Go.Proofs.YteecialdkfaejaaDoor.S2
open Go.Proofs.YteecialdkfaejaaDoor.F1 (enc1 encT outT placed placed_len okT size_of len_le)
open Go.Proofs.YteecialdkfaejaaDoor.F4 (AnsT split_own)
open Go.Proofs.YteecialdkfaejaaDoor.Tl (TRow cellsT indexT add_two)
open Go.Proofs.YteecialdkfaejaaDoor.Sx (cellsS Lst bs_one app_one cells_new)
open Go.Proofs.YteecialdkfaejaaDoor.Bk (Bk Sh wpList_builtK)
set_option linter.unusedVariables false
set_option maxRecDepth 100000
set_option maxRecDepth 100000

/-- The first k of TLVs with places, without them. -/
def els (l : List F1.T) (k : Nat) : List El := (l.take k).map Prod.snd
theorem els_zero (l : List F1.T) : els l 0 = [] := by unfold els; simp
theorem els_snoc (l : List F1.T) (k : Nat) (h : k < l.length) : els l (k + 1) = els l k ++ [l[k].2] := by
  unfold els
  rw [List.take_succ_eq_append_getElem h, List.map_append]
  rfl
theorem els_all (l : List F1.T) : els l l.length = l.map Prod.snd := by unfold els; rw [List.take_length]
theorem els_len (l : List F1.T) (k : Nat) : (els l k).length ≤ k := by unfold els; rw [List.length_map, List.length_take]; omega
theorem lst_mono {B B' : Nat} {w : World} {v : Value} {l : List El} (h : Lst B w v l) (hB : B' ≤ B) : Lst B' w v l := by
  refine ⟨h.1, ?_⟩
  rcases h.2 with h | ⟨k, cap, cur, a, b, c, d⟩
  · exact .inl h
  · exact .inr ⟨k, cap, cur, a, Nat.le_trans hB b, c, d⟩
/-- The answer of a sifting: those kept (the list is the call's own), and whether none must be known. -/
def AnsF (l : List El) (w : World) (e : Ending) (w' : World) : Prop :=
  ∃ a c, e = .returned (.tuple #[.slice a (keep l).length c, .bool (knownB l)]) ∧ Lst w.heap.size w' (.slice a (keep l).length c) (keep l) ∧ Below w.heap.size w w'
theorem AnsF.of {l : List El} {w w' : World} {v : Value} {k : Bool} (hk : k = knownB l) (hl : Lst w.heap.size w' v (keep l)) (hb : Below w.heap.size w w') : AnsF l w (.returned (.tuple #[v, .bool k])) w' := by
  obtain ⟨a, c, rfl⟩ := hl.slice
  exact ⟨a, c, by rw [hk], hl, hb⟩
theorem bool_val {a b : Bool} (h : a = b) : Value.bool a = Value.bool b := by rw [h]

set_option maxHeartbeats 3200000 in
theorem sift_any (a : Option Addr) (c : Nat) (l : List F1.T) (w : World) (hl : TRow w a l) (ln : l.length ≤ 100000) :
    Calls Tryd.prog 71 #[.slice a l.length c] w (AnsF (l.map Prod.snd) w) := by
  have HLn := Lib.hid ln
  clear ln
  go_enter Tryd.func71, Tryd.ntmps71
  go_wp2
  go_loopw [4, 5, 10] (fun v kn i wr => ∃ k : Nat, k ≤ l.length ∧ i = .int .i64 k ∧ kn = .bool (knownB (els l k)) ∧ Hid (Lst w.heap.size wr v (keep (els l k))) ∧ Hid (Below w.heap.size w wr)) (fun _ _ i _ => l.length - (intOf i).toNat)
  case atStart => exact ⟨0, Nat.zero_le _, rfl, by rw [els_zero]; rfl, Lib.hid (by rw [els_zero]; exact Lst.nil _ _), Lib.hid (Below.refl _ _)⟩
  case round =>
    obtain ⟨k, hk, rfl, rfl, HV, HB⟩ := hrel
    by_cases hlt : k < l.length
    · obtain ⟨p, rfl, hp, c0, c1, c2⟩ := (hl.below HB.out) k hlt
      have ix := fun W => indexT p l.length c k hlt W
      have HT := Lib.hid (els_snoc l k hlt)
      have hk2 : (k : Int) ≤ 100000 := by have := HLn.out; omega
      have HC : Hid ((keep (els l k)).length ≤ 100000) := Lib.hid (by have := HLn.out; have := keep_len (els l k); have := els_len l k; omega)
      rw [add_one] at c1
      rw [add_two] at c2
      generalize l[k] = u at *
      generalize els l k = lk at *
      obtain ⟨at0, d, n⟩ := u
      simp only [] at c0 c1 c2 HT
      have HX := Lib.hid (Bk.Bk.new 29 wr (cellsT (at0, d, n)))
      have HV := Lib.hid (HV.out.below (balloc (Below.refl _ wr) (.cells (cellsT (at0, d, n)) 29)))
      have HB := Lib.hid (balloc HB.out (.cells (cellsT (at0, d, n)) 29))
      go_upto_region 6 with fail
      change Code.wp _ _ _ _ (wr.alloc (.cells (cellsT (at0, d, n)) 29))
      generalize wr.alloc (.cells (cellsT (at0, d, n)) 29) = W at *
      generalize wr.heap.size = q at *
      clear c0 c1 c2 hp ix
      have c0 := HX.out.cell 0 (.int .i64 n) rfl
      have c2 := HX.out.cell 2 (.string d) rfl
      by_cases h1 : n < 2
      · have hk0 : keepB (d, n) = false := by unfold keepB; simp; omega
        have e1 := keep_no hk0 lk
        have e2 : knownB (lk ++ [(d, n)]) = knownB lk := by rw [known_snoc]; simp; omega
        rw [← HT.out] at e1 e2
        rw [← e1] at HV
        have E2 := Lib.hid e2
        clear e1 e2 hk0 HX
        go_wp2
        go_roundw
        case rel => exact ⟨k + 1, hlt, by go_num, bool_val E2.out.symm, HV, HB⟩
        case measure => simp [intOf]; omega
      by_cases h2 : 127 < n
      · have hk0 : keepB (d, n) = false := by unfold keepB; simp; omega
        have e1 := keep_no hk0 lk
        have e2 : knownB (lk ++ [(d, n)]) = false := by rw [known_snoc]; simp; omega
        rw [← HT.out] at e1 e2
        rw [← e1] at HV
        have E2 := Lib.hid e2
        clear e1 e2 hk0 HX
        go_wp2
        go_roundw
        case rel => exact ⟨k + 1, hlt, by go_num, bool_val E2.out.symm, HV, HB⟩
        case measure => simp [intOf]; omega
      have hk0 : keepB (d, n) = true := by unfold keepB; simp; omega
      have e1 := keep_yes hk0 lk
      have e2 : knownB (lk ++ [(d, n)]) = knownB lk := by rw [known_snoc]; simp; omega
      rw [← HT.out] at e1 e2
      have E1 := Lib.hid e1
      have E2 := Lib.hid e2
      clear e1 e2 hk0
      generalize keep lk = kl at *
      have HLA := Lib.hid (HV.out.below (balloc (Below.refl _ W) (.cells (cellsS (d, n)) 89)))
      have HBA := Lib.hid (balloc HB.out (.cells (cellsS (d, n)) 89))
      go_upto_region 10 with (first | (refine wpList_builtK rfl 89 _ rfl (cellsS (d, n)) (by kernel_rfl) ?_) | (refine bs_one rfl _ rfl (m := (d, n)) rfl ?_) | (at_builtin; refine app_one rfl _ _ rfl w.heap.size _ kl (d, n) W.heap.size 1 rfl HLA.out rfl (cells_new (d, n) W) HC.out HBA.out.size ?_))
      intro v' w' hl2 hb _
      have HV : Hid (Lst w.heap.size w' v' (keep (els l (k + 1)))) := Lib.hid (by rw [E1.out]; exact hl2)
      have HB := Lib.hid (HBA.out.trans hb)
      clear hl2 hb HLA HBA HX c0 c2
      go_wp2
      go_roundw
      case rel => exact ⟨k + 1, hlt, by go_num, bool_val E2.out.symm, HV, HB⟩
      case measure => simp [intOf]; omega
    · obtain rfl : k = l.length := by omega
      rw [els_all] at HV
      go_wp2
      go_ret2
      exact AnsF.of (by rw [els_all]) HV.out HB.out
/-- The answer of Get: Subs (the list is the call's own), whether none must be known, an error. -/
def AnsS (p : List El × Bool × Int) (w : World) (e : Ending) (w' : World) : Prop :=
  ∃ a c, e = .returned (.tuple #[.slice a p.1.length c, .bool p.2.1, .int .i64 p.2.2]) ∧ Lst w.heap.size w' (.slice a p.1.length c) p.1 ∧ Below w.heap.size w w'
theorem AnsS.no {p : List El × Bool × Int} {w w' : World} {d : Int} (h : p = ([], false, d)) (hb : Below w.heap.size w w') : AnsS p w (.returned (.tuple #[.slice none 0 0, .bool false, .int .i64 d])) w' := by
  subst h
  exact ⟨none, 0, rfl, Lst.nil _ _, hb⟩
theorem AnsS.yes {p : List El × Bool × Int} {w w' : World} {a : Option Addr} {c n : Nat} {l : List El} {k : Bool} (h : p = (l, k, 0)) (hn : l.length = n) (hl : Lst w.heap.size w' (.slice a n c) l) (hb : Below w.heap.size w w') : AnsS p w (.returned (.tuple #[.slice a n c, .bool k, .int .i64 0])) w' := by
  subst h hn
  exact ⟨a, c, rfl, hl, hb⟩
set_option maxHeartbeats 3200000 in
theorem get_own (s : ByteArray) (w : World) (hs : s.size ≤ 100000) : Calls Tryd.prog 50 #[.string s] w (AnsS (outS s) w) := by
  have P1 := Lib.hid (split_own s 0 w hs (by omega) (by omega))
  rcases outS_cases s with ⟨l, ho, he, e, hk⟩ | ⟨p, e, hk⟩
  rotate_left
  · have HY := Lib.hid hk
    rw [e] at P1
    clear e hk hs
    go_enter Tryd.func50, Tryd.ntmps50
    go_wp2_with fail
    refine P1.out.mono ?_
    rintro r w1 ⟨a1, c1, rfl, h1, hb⟩
    have HB := Lib.hid hb
    clear h1 hb P1
    dsimp only [List.length_nil]
    go_wp2
    go_ret3
    exact AnsS.no HY.out HB.out
  have HZ := size_of he
  have hls := len_le l
  have HS := Lib.hid (show l.length ≤ 100000 by omega)
  have HQ := Lib.hid (show bytesN (keep l) ≤ 100000 by have := keep_size l; omega)
  have HK := Lib.hid (show (keep l).length ≤ 100000 by have := keep_len l; omega)
  have HP := Lib.hid (show (placed 0 l).length ≤ 100000 by rw [placed_len]; omega)
  have HD := Lib.hid (placed_snd l 0)
  have HY := Lib.hid hk
  rw [e] at P1
  clear e hk hs ho he HZ hls
  go_enter Tryd.func50, Tryd.ntmps50
  go_wp2_with fail
  refine P1.out.mono ?_
  rintro r w1 ⟨a1, c1, rfl, h1, hb⟩
  have P2 := Lib.hid (sift_any a1 c1 (placed 0 l) w1 h1.row HP.out)
  rw [HD.out] at P2
  have HB := Lib.hid hb
  clear h1 hb P1
  dsimp only
  generalize (placed 0 l).length = np at *
  go_wp2_with fail
  refine P2.out.mono ?_
  rintro r w2 ⟨a2, c2, rfl, h2, hb⟩
  have HL := Lib.hid (lst_mono h2 HB.out.size)
  have HB := Lib.hid (bcall HB.out hb)
  have P3 := Lib.hid (bytes_any a2 c2 (keep l) w2 h2.row (by have := HK.out; omega) (by have := HQ.out; omega))
  clear h2 hb P2
  have HE := HY.out
  clear HY
  rcases HE with ⟨hq, e⟩ | ⟨hq, e⟩
  · have HY := Lib.hid e
    have hq2 : ((bytesN (keep l) : Nat) : Int) ≤ 200 := by omega
    clear hq e
    generalize ((bytesN (keep l) : Nat) : Int) = n at *
    generalize hg : keep l = kl at *
    clear hg
    go_wp2_with fail
    refine P3.out.mono ?_
    rintro r w3 ⟨rfl, hb⟩
    have HL := Lib.hid (HL.out.below hb)
    have HB := Lib.hid (bcall HB.out hb)
    clear hb P3
    go_wp2
    go_ret3
    exact AnsS.yes HY.out rfl HL.out HB.out
  · have HY := Lib.hid e
    have hq2 : 200 < ((bytesN (keep l) : Nat) : Int) := by omega
    clear hq e
    generalize ((bytesN (keep l) : Nat) : Int) = n at *
    generalize hg : keep l = kl at *
    clear hg
    go_wp2_with fail
    refine P3.out.mono ?_
    rintro r w3 ⟨rfl, hb⟩
    have HB := Lib.hid (bcall HB.out hb)
    clear hb P3 HL
    go_wp2
    go_ret3
    exact AnsS.no HY.out HB.out
end Go.Proofs.YteecialdkfaejaaDoor.S5
