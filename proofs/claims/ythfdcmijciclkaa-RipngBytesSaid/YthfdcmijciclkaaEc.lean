/-
  Encode: the first message of a list that may not be, and the datagram of routes, or why there is none. Conditions: a list of at most 1000 messages, whose lists aren't long.
-/
import Derived.Test.YthfdcmijciclkaaWr
namespace Go.Proofs.Ythfdcmijciclkaa.Ec
open Go.ChangeShapes Go.WideShapes Go.ChangeAt Go.RowKit
open Go.Proofs.Ythfdcmijciclkaa.Ms
open Go.Proofs.Ythfdcmijciclkaa.Box
open Go.Proofs.Ythfdcmijciclkaa.Rp
open Go.Proofs.Ythfdcmijciclkaa.Rt
open Go.Proofs.Ythfdcmijciclkaa.Hs
open Go.Proofs.Ythfdcmijciclkaa.All
open Go.Proofs.Ythfdcmijciclkaa.Ap
open Go.Proofs.Ythfdcmijciclkaa.St
open Go.Proofs.Ythfdcmijciclkaa.Wr
open Go.Proofs.Ythfdcmijciclkaa.Bk (E Bk Sh wpList_builtK wpList_loadK wpList_storeK)
set_option linter.unusedVariables false
set_option maxRecDepth 100000

/-- The first place whose message may not be; -1, if there is none. -/
def idxW (l : List M) : Int := match bad (ckW l) l.length with | some i => ((i : Nat) : Int) | none => -1
theorem idx_some {l : List M} {k : Nat} (hk : k < l.length) (h : ∀ i, i < k → ckW l i = 0) (hn : ckW l k ≠ 0) : idxW l = ((k : Nat) : Int) := by
  unfold idxW
  rw [bad_some hk h hn]
theorem idx_none {l : List M} (h : ∀ i, i < l.length → ckW l i = 0) : idxW l = -1 := by
  unfold idxW
  rw [bad_none h]
theorem row_in {w : World} {a : Option Addr} {l : List M} (h : MRow w a l) (hs : ∀ m ∈ l, Short m) {k : Nat} (hk : k < l.length) : l[k].In w := by
  obtain ⟨p, _, _, _, hd, hss⟩ := h k hk
  have := hs _ (List.getElem_mem hk)
  exact ⟨hd, hss, this.1, this.2⟩

set_option maxHeartbeats 3200000 in
theorem index_any (a : Option Addr) (c : Nat) (l : List M) (w : World) (hl : MRow w a l) (hs : ∀ m ∈ l, Short m) (hn : l.length ≤ 1048576) :
    Calls Try.prog 33 #[.slice a l.length c, .func (.func 34) #[] #[]] w fun e w' => e = .returned (.int .i64 (idxW l)) ∧ Below w.heap.size w w' := by
  go_enter Try.func33, Try.ntmps33
  go_wp2
  go_loopw [8] (fun i wr => ∃ k : Nat, k ≤ l.length ∧ i = .int .i64 k ∧ Hid (∀ i, i < k → ckW l i = 0) ∧ Hid (Below w.heap.size w wr)) (fun i _ => l.length - (intOf i).toNat)
  case atStart => exact ⟨0, Nat.zero_le _, rfl, Lib.hid (fun i hi => absurd hi (by omega)), Lib.hid (Below.refl _ _)⟩
  case round =>
    obtain ⟨k, hk, rfl, HT, HB⟩ := hrel
    by_cases hlt : k < l.length
    · obtain ⟨p, rfl, _, hc, _, _⟩ := (hl.below HB.out) k hlt
      have P := Lib.hid (wrong_any l[k] wr (row_in (hl.below HB.out) hs hlt))
      have HI := Lib.hid (fun (h : ckW l k ≠ 0) => idx_some hlt HT.out h)
      have HJ := Lib.hid (fun (h : ckW l k = 0) => show ∀ i, i < k + 1 → ckW l i = 0 from fun i hi => by
        by_cases hik : i < k
        · exact HT.out i hik
        · obtain rfl : i = k := by omega
          exact h)
      have HR := Lib.hid (show ckW l k = if rightB l[k] then 0 else 1 by unfold ckW; rw [at0_eq l k hlt])
      have HC := Lib.hid hc
      clear hl hc hs HT
      generalize l[k] = u at *
      generalize rightB u = x at *
      cases x
      · have HZ := Lib.hid (HI.out (by rw [HR.out]; decide))
        clear HI HJ HR
        go_wp2_with (first | (refine wpList_loadA (m := u) rfl _ rfl rfl HC.out ?_))
        refine P.out.mono ?_
        rintro e w1 ⟨rfl, hb1⟩
        go_wp2
        go_ret
        exact ⟨int_eq HZ.out.symm, bcall HB.out hb1⟩
      · have HZ := Lib.hid (HJ.out HR.out)
        clear HI HJ HR
        go_wp2_with (first | (refine wpList_loadA (m := u) rfl _ rfl rfl HC.out ?_))
        refine P.out.mono ?_
        rintro e w1 ⟨rfl, hb1⟩
        have HB1 := Lib.hid (bcall HB.out hb1)
        clear hb1
        go_wp2
        go_roundw
        case rel => exact ⟨k + 1, hlt, by go_num, HZ, HB1⟩
        case measure => simp [intOf]; omega
    · obtain rfl : k = l.length := by omega
      have HZ := Lib.hid (idx_none HT.out)
      go_wp2
      go_ret
      exact ⟨int_eq HZ.out.symm, HB.out⟩

/-- The answer: bytes, a place, an error. -/
def AnsE (p : ByteArray × Int × Int) (w : World) (e : Ending) (w' : World) : Prop := e = .returned (.tuple #[.string p.1, .int .i64 p.2.1, .int .i64 p.2.2]) ∧ Below w.heap.size w w'
theorem AnsE.of {p : ByteArray × Int × Int} {w w' : World} {b : ByteArray} {x y : Int} (h : p = (b, x, y)) (hb : Below w.heap.size w w') : AnsE p w (.returned (.tuple #[.string b, .int .i64 x, .int .i64 y])) w' := by
  subst h
  exact ⟨rfl, hb⟩
/-- Which of the three it is. -/
theorem enc_cases (l : List M) :
    (∃ k, k < l.length ∧ (∀ i, i < k → ckW l i = 0) ∧ ckW l k ≠ 0) ∨ ((∀ i, i < l.length → ckW l i = 0) ∧ (l.length = 0 ∨ 0 < l.length)) := by
  rcases first_of (ckW l) l.length with h | h
  · exact .inl h
  · exact .inr ⟨h, by omega⟩
theorem right_parts {m : M} (h : rightB m = true) : (m.cmd = 1 ∨ m.cmd = 2) ∧ m.pfx.size = 16 ∧ m.next.size = 16 := by
  unfold rightB pfxB at h
  simp only [Bool.and_eq_true, decide_eq_true_eq] at h
  exact ⟨cmd_or h.2.2.1, h.2.2.2.2.2.1.1, next_size h.2.2.2.2.2.2⟩
theorem ok_hop {m : M} (h : rightB m = true) : Rte.OkE (hopE m.next) := by
  have := (right_parts h).2.2
  exact ⟨by show m.next.size ≤ maxLen; unfold maxLen; omega, by show (0 : Nat) ≤ maxLen; omega, by show (0 : Nat) ≤ maxLen; omega⟩
theorem ok_ent {m : M} (h : rightB m = true) : Rte.OkE (entM m) := by
  have := (right_parts h).2.1
  exact ⟨by show m.pfx.size ≤ maxLen; unfold maxLen; omega, by show (0 : Nat) ≤ maxLen; omega, by show (0 : Nat) ≤ maxLen; omega⟩
theorem la_zero (l : List M) : laK l 0 = none16 := rfl

set_option maxHeartbeats 6400000 in
theorem encode_any (a : Option Addr) (c : Nat) (l : List M) (w : World) (hl : MRow w a l) (hs : ∀ m ∈ l, Short m) (hn : l.length ≤ 1000) :
    Calls Try.prog 14 #[.slice a l.length c] w (AnsE (enc l) w) := by
  have P1 := Lib.hid (index_any a c l w hl hs (by omega))
  have HMr := Lib.hid (fun (W : World) (h : Below w.heap.size w W) => hl.below h)
  rcases enc_cases l with ⟨k, h1, h2, h3⟩ | ⟨hw, h0 | h0⟩
  · have HZ := Lib.hid (enc_wrong h1 h2 h3)
    have hx := idx_some h1 h2 h3
    rw [hx] at P1
    clear hx h1 h2 h3
    go_enter Try.func14, Try.ntmps14
    go_wp2_with fail
    refine P1.out.mono ?_
    rintro e w1 ⟨rfl, hb⟩
    go_wp2
    go_ret3
    exact AnsE.of HZ.out hb
  · have HZ := Lib.hid (enc_none h0)
    have hx := idx_none hw
    rw [hx] at P1
    have HL := Lib.hid h0
    have e1 : ((l.length : Int) == 0) = true := by rw [beq_iff_eq]; omega
    clear hx h0 hw
    go_enter Try.func14, Try.ntmps14
    go_wp2_with fail
    refine P1.out.mono ?_
    rintro e w1 ⟨rfl, hb⟩
    go_wp2
    go_ret3
    exact AnsE.of HZ.out hb
  · have hx := idx_none hw
    rw [hx] at P1
    have HR := Lib.hid (all_right hw)
    have HC1 : Hid ((at0 l 0).cmd = 1 ∨ (at0 l 0).cmd = 2) := Lib.hid (by rw [at0_eq l 0 h0]; exact (right_parts (HR.out _ (List.getElem_mem h0))).1)
    have HAp := Lib.hid (fun k (h1 : k < l.length) h2 h3 => enc_apart (l := l) (k := k) hw h1 h2 h3)
    have HOk := Lib.hid (fun h => enc_ok (l := l) hw (by omega) h)
    have e1 : ((l.length : Int) == 0) = false := by rw [beq_eq_false_iff_ne]; omega
    clear hx hw hl hs
    go_enter Try.func14, Try.ntmps14
    go_wp2_with fail
    refine P1.out.mono ?_
    rintro e w1 ⟨rfl, hb⟩
    obtain ⟨p, rfl, _, hc, _, _⟩ := (HMr.out _ hb) 0 h0
    have ix0 := indexM p l.length c 0 h0
    have cm : w1.cell? ⟨p.block, p.off + 1, none⟩ = some (.int .i64 (at0 l 0).cmd) := hc 1 (.int .i64 (at0 l 0).cmd) (by rw [← at0_eq l 0 h0]; rfl)
    have HBe := Lib.hid hb
    clear hc hb P1
    generalize hcm : (at0 l 0).cmd = cc at *
    have HCm := Lib.hid hcm
    clear hcm
    go_upto_region 7 with (first | (refine wpList_builtK rfl 55 _ rfl #[.int .i64 cc, .string ⟨#[0, 0, 0, 0, 0, 0, 0, 0, 0, 0, 0, 0, 0, 0, 0, 0]⟩, .slice none 0 0] (by kernel_rfl) ?_) | (refine wpList_storeK (b := w1.heap.size) shW rfl _ _ rfl rfl rfl (Bk.Bk.new 55 w1 #[.int .i64 0, .string ⟨#[]⟩, .slice none 0 0]) rfl rfl rfl ?_))
    have HW0 : Hid (Wri w.heap.size w1.heap.size cc none16 [] (w1.alloc (.cells #[.int .i64 cc, .string ⟨#[0, 0, 0, 0, 0, 0, 0, 0, 0, 0, 0, 0, 0, 0, 0, 0]⟩, .slice none 0 0] 55))) := Lib.hid ⟨HBe.out.size, .slice none 0 0, Bk.Bk.new _ w1 _, Own.nil _ _⟩
    have HB0 := Lib.hid (balloc HBe.out (.cells #[.int .i64 cc, .string ⟨#[0, 0, 0, 0, 0, 0, 0, 0, 0, 0, 0, 0, 0, 0, 0, 0]⟩, .slice none 0 0] 55))
    have hsz : w.heap.size ≤ (w1.alloc (.cells #[.int .i64 cc, .string ⟨#[0, 0, 0, 0, 0, 0, 0, 0, 0, 0, 0, 0, 0, 0, 0, 0]⟩, .slice none 0 0] 55)).heap.size := HB0.out.size
    clear ix0 cm HBe
    generalize w1.alloc _ = V at *
    generalize w1.heap.size = b at *
    go_wp2_with fail
    refine (Wr.head_any w.heap.size b cc none16 [] V HW0.out hsz (by decide) HC1.out).mono ?_
    rintro e w2 ⟨rfl, hw2, hb2⟩
    have HW : Hid (Wri w.heap.size b cc (laK l 0) (bsK l 0) w2) := Lib.hid (by rw [bs_zero, HCm.out]; exact hw2)
    have HB := Lib.hid (HB0.out.trans hb2)
    clear hw2 hb2 HW0 HB0 hsz
    go_wp2
    go_loopw [26] (fun i wr => ∃ k : Nat, k ≤ l.length ∧ i = .int .i64 k ∧ Hid (Wri w.heap.size b cc (laK l k) (bsK l k) wr) ∧ Hid (∀ i, i < k → ckC l i = 0) ∧ Hid (Below w.heap.size w wr)) (fun i _ => l.length - (intOf i).toNat)
    case atStart => exact ⟨0, Nat.zero_le _, rfl, HW, Lib.hid (fun i hi => absurd hi (by omega)), HB⟩
    case round =>
      obtain ⟨k, hk, rfl, HL, HK, HB⟩ := hrel
      clear HW
      by_cases hlt : k < l.length
      · obtain ⟨p2, hp2, _, hc, _, _⟩ := HMr.out _ HB.out k hlt
        obtain rfl : p = p2 := by simpa using hp2
        clear hp2
        have ixk := indexM p l.length c k hlt
        have HCk := Lib.hid hc
        have HBs := Lib.hid (bs_succ l k hlt)
        have HLa := Lib.hid (la_succ l k hlt)
        have HLn := Lib.hid (bs_len l k (by omega))
        have HRk := Lib.hid (HR.out _ (List.getElem_mem hlt))
        have HCe : Hid (ckC l k = ckA cc l[k]) := Lib.hid (by unfold ckC ckA; rw [at0_eq l k hlt, HCm.out])
        have HAk := Lib.hid (fun h => HAp.out k hlt HK.out h)
        have HJ := Lib.hid (fun (h : ckC l k = 0) => show ∀ i, i < k + 1 → ckC l i = 0 from fun i hi => by
          by_cases hik : i < k
          · exact HK.out i hik
          · obtain rfl : i = k := by omega
            exact h)
        clear hc HK
        generalize l[k] = u at *
        go_upto_region 11 with (first | (refine wpList_loadA (m := u) rfl _ rfl rfl HCk.out ?_) | (refine wpList_storeM (b := wr.heap.size) (m := M.zero) (m' := u) rfl _ _ rfl rfl rfl (heap_alloc_new wr _) ?_))
        change Code.wp _ _ _ _ ((wr.alloc (.cells M.zero.cells 34)).setRow wr.heap.size u.cells)
        rw [World.setRow_alloc_new]
        have HL := Lib.hid (HL.out.below (balloc (Below.refl _ wr) (.cells u.cells 34)))
        have HB := Lib.hid (balloc HB.out (.cells u.cells 34))
        have BU := Lib.hid (Bx.new wr u)
        clear HCk ixk
        generalize wr.alloc (.cells u.cells 34) = W7 at *
        generalize wr.heap.size = g7 at *
        go_wp2_with (first | (refine wpList_loadM (b := g7) (m := u) rfl _ rfl rfl BU.out ?_))
        refine (add_any w.heap.size b cc (laK l k) (bsK l k) u _ HL.out HB.out.size (by have := HLn.out; omega) (ok_hop HRk.out) (ok_ent HRk.out)).mono ?_
        rintro e w8 ⟨rfl, hw8, hb8⟩
        have HW8 := Lib.hid hw8
        have HB := Lib.hid (HB.out.trans hb8)
        clear hw8 hb8 HL BU HLn HRk
        by_cases hc : ckA cc u = 0
        rotate_left
        · have HZ := Lib.hid (HAk.out (by rw [HCe.out]; exact hc))
          have h7 : ckA cc u = 7 := by
            unfold ckA at hc ⊢
            split at hc
            · exact absurd rfl hc
            · rw [if_neg (by assumption)]
          rw [h7]
          clear hc h7 HAk HJ HW8 HBs HLa HCe
          go_wp2
          go_ret3
          exact AnsE.of HZ.out HB.out
        · have HK1 := Lib.hid (HJ.out (by rw [HCe.out]; exact hc))
          have HL := Lib.hid (show Wri w.heap.size b cc (laK l (k + 1)) (bsK l (k + 1)) w8 by rw [HLa.out, HBs.out]; exact HW8.out hc)
          rw [hc]
          clear hc HAk HJ HW8 HBs HLa HCe
          go_wp2
          go_roundw
          case rel => exact ⟨k + 1, hlt, by go_num, HL, HK1, HB⟩
          case measure => simp [intOf]; omega
      · obtain rfl : k = l.length := by omega
        have HZ := Lib.hid (HOk.out HK.out)
        obtain ⟨_, v, hbk, hown⟩ := HL.out
        rw [bs_all] at hown
        have hcv := hown.conv
        have d2 := hbk.cell 2 _ rfl
        clear hbk hown HL HK hlt
        generalize wrtL l = ws at *
        go_wp2
        go_ret3
        exact AnsE.of HZ.out HB.out
end Go.Proofs.Ythfdcmijciclkaa.Ec
