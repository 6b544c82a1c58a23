/-
  The program's little pieces of a message's bytes: numbers, what stands of an address, the TLVs of a router-id and of a next hop, an Update's fields. Conditions: an address isn't long; a router-id has 8 bytes, a next hop 4 or 16.
-/
import Derived.Test.YtjhfpobjbijcpaaGreatDoorE12
import Derived.Test.YtjhfpobjbijcpaaGreatDoorE13
import Derived.Test.YtjhfpobjbijcpaaGreatDoorE23
import Derived.Test.YtjhfpobjbijcpaaGreatDoorE24
import Derived.Lib.MinMax
namespace Go.Proofs.YtjhfpobjbijcpaaGreatDoor.L4
open Go.ChangeShapes Go.WideShapes Go.ChangeAt Go.RowKit
open Go.Proofs.YtjhfpobjbijcpaaGreatDoor.Ms
open Go.Proofs.YtjhfpobjbijcpaaGreatDoor.Box
open Go.Proofs.YtjhfpobjbijcpaaGreatDoor.An
open Go.Proofs.YtjhfpobjbijcpaaGreatDoor.Lk (link link_any shA sh_yes link_size)
open Go.Proofs.YtjhfpobjbijcpaaGreatDoor.Nu (layN layN_len oput_any text_eq ext_list)
open Go.Proofs.YtjhfpobjbijcpaaGreatDoor.J1 (baseN cutP ext_to size_list mk_size)
open Go.Proofs.YtjhfpobjbijcpaaGreatDoor.K1 (famA fam)
open Go.Proofs.YtjhfpobjbijcpaaGreatDoor.S1 (putS)
open Go.Proofs.YtjhfpobjbijcpaaGreatDoor.L1
open Go.Proofs.YtjhfpobjbijcpaaGreatDoor.F1 (enc1 ok1 put_ok putO)
open Go.Proofs.YtjhfpobjbijcpaaGreatDoor.F6 (cat_is PutIs)
open Go.Proofs.YtjhfpobjbijcpaaGreatDoor.F2 (sl_l)
open Go.Proofs.YtjhfpobjbijcpaaGreatDoor.Hs
open Go.Proofs.YtjhfpobjbijcpaaGreatDoor.Hy
set_option linter.unusedVariables false
set_option maxRecDepth 100000
set_option maxRecDepth 100000
theorem str_eq {a b : ByteArray} (h : a = b) : Ending.returned (.string a) = .returned (.string b) := by rw [h]
theorem num_any (v : Int) (n : Nat) (ni : Int) (hni : ni = n) (h1 : 1 ≤ n) (h7 : n ≤ 7) (w : World) : Calls Tryz.prog 147 #[.int .i64 v, .int .i64 ni] w fun e w' => e = .returned (.string ⟨(layN v n).toArray⟩) ∧ Below w.heap.size w w' := by
  have P1 := Lib.hid (fun V => oput_any v n ni hni h1 h7 V)
  clear hni h1 h7
  generalize (⟨(layN v n).toArray⟩ : ByteArray) = s at *
  go_enter Tryz.func147, Tryz.ntmps147
  go_wp2_with fail
  refine (P1.out _).mono ?_
  rintro r w' ⟨rfl, hb⟩
  go_wp2
  go_ret
  exact ⟨rfl, hb⟩
/-- What stands of an address, in an encoding. -/
def stB (ae : Int) (s : ByteArray) : ByteArray := ⟨(s.data.toList.drop (baseN ae)).toArray⟩
theorem st_not {ae : Int} {s : ByteArray} (h : ¬ ae = 3) : stB ae s = s := by
  unfold stB baseN
  rw [if_neg h]
  exact text_eq rfl
theorem st_long {s : ByteArray} : stB 3 s = s.extract 8 s.size := text_eq (by rw [ext_to]; rfl)
theorem st_short {s : ByteArray} (h : s.size ≤ 8) : stB 3 s = s.extract s.size s.size := text_eq (by
  rw [ext_to]
  show s.data.toList.drop 8 = _
  rw [List.drop_of_length_le (by rw [size_list]; exact h), List.drop_of_length_le (by rw [size_list]; exact Nat.le_refl _)])
theorem stand_any (ae : Int) (s : ByteArray) (w : World) : Calls Tryz.prog 130 #[.int .i64 ae, .string s] w fun e w' => e = .returned (.string (stB ae s)) ∧ w = w' := by
  by_cases h : ae = 3
  rotate_left
  · have e3 : (ae != 3) = true := by simpa using h
    rw [st_not h]
    clear h
    go_enter Tryz.func130, Tryz.ntmps130
    go_wp2
    go_ret
    exact ⟨rfl, rfl⟩
  subst h
  by_cases h8 : 8 ≤ s.size
  · have cut := sl_l s 8 8 s.size rfl h8 rfl
    rw [st_long]
    generalize hz : s.extract 8 s.size = z at *
    have hm : min (8 : Int) (s.size : Int) = 8 := by omega
    have hx : max (8 : Int) (s.size : Int) = s.size := by omega
    clear hz
    go_enter Tryz.func130, Tryz.ntmps130
    go_wp2
    go_ret
    exact ⟨rfl, rfl⟩
  · have cut := sl_l s (s.size : Int) s.size s.size rfl (Nat.le_refl _) rfl
    rw [st_short (by omega)]
    generalize hz : s.extract s.size s.size = z at *
    have hm : min (8 : Int) (s.size : Int) = s.size := by omega
    clear hz
    go_enter Tryz.func130, Tryz.ntmps130
    go_wp2
    go_ret
    exact ⟨rfl, rfl⟩
theorem hop_st (a : ByteArray) : stB (hopE a) a = hopS a := by
  unfold hopE hopS
  by_cases h4 : a.size = 4
  · rw [if_pos h4, if_pos h4]; exact st_not (by decide)
  rw [if_neg h4, if_neg h4]
  by_cases hl : link a = true
  · rw [if_pos hl, if_pos hl, sh_yes hl]; exact st_long
  · rw [if_neg hl, if_neg hl]; exact st_not (by decide)
theorem id_any (a : ByteArray) (w : World) (h : a.size = 8) : Calls Tryz.prog 128 #[.string a] w fun e w' => e = .returned (.string ⟨(enc1 (idD a, 6)).toArray⟩) ∧ Below w.heap.size w w' := by
  have P1 := Lib.hid (fun V => Oct.zeros_mid 2 V (by decide))
  have hc := cat_is ⟨(List.replicate 2 (0 : UInt8)).toArray⟩ a (idD a) (by decide) (by omega) (text_eq (by simp [ByteArray.data_append, idD]))
  obtain ⟨ho, hz⟩ := L2.id_ok h
  have hp := (put_ok ho (show ¬ (6 : Int) = 0 by decide)).2
  have P2 := Lib.hid (fun V => F6.put_any 6 (idD a) V (by omega))
  unfold PutIs at P2
  rw [show putO 6 (idD a) = _ from hp] at P2
  clear h hp ho hz
  generalize (⟨(enc1 (idD a, 6)).toArray⟩ : ByteArray) = u at *
  generalize idD a = d at *
  generalize F1.putB 6 d = y at *
  generalize (⟨(List.replicate 2 (0 : UInt8)).toArray⟩ : ByteArray) = z at *
  go_enter Tryz.func128, Tryz.ntmps128
  go_wp2_with fail
  refine (P1.out _).mono ?_
  rintro r w1 ⟨rfl, hb⟩
  have HB := Lib.hid hb
  clear hb
  go_wp2_with fail
  refine (P2.out _).mono ?_
  rintro r w2 ⟨rfl, hb⟩
  have HB := Lib.hid (bcall HB.out hb)
  clear hb
  go_wp2
  go_ret
  exact ⟨rfl, HB.out⟩
theorem hae_any (a : ByteArray) (w : World) : Calls Tryz.prog 146 #[.string a] w fun e w' => e = .returned (.int .i64 (hopE a)) ∧ w = w' := by
  have P1 := Lib.hid (fun V => K2.afam_any a V)
  have P2 := Lib.hid (fun V => link_any a V)
  by_cases h4 : a.size = 4
  · have hk := Lib.hid (show hopE a = 1 by unfold hopE; rw [if_pos h4])
    have e0 : famA a = 0 := by unfold famA; rw [if_pos h4]
    rw [e0] at P1
    clear h4 e0
    go_enter Tryz.func146, Tryz.ntmps146
    go_wp2_with fail
    refine (P1.out _).mono ?_
    rintro r w1 ⟨rfl, rfl⟩
    go_wp2
    go_ret
    exact ⟨by rw [hk.out]; rfl, rfl⟩
  have e0 : (famA a == 0) = false := by unfold famA; rw [if_neg h4]; split <;> rfl
  have hk : hopE a = if link a = true then 3 else 2 := by unfold hopE; rw [if_neg h4]
  have HK := Lib.hid hk
  clear h4 hk
  generalize famA a = f at *
  cases hl : link a
  · rw [hl] at P2 HK
    clear hl
    go_enter Tryz.func146, Tryz.ntmps146
    go_wp2_with fail
    refine (P1.out _).mono ?_
    rintro r w1 ⟨rfl, rfl⟩
    go_wp2_with fail
    refine (P2.out _).mono ?_
    rintro r w1 ⟨rfl, rfl⟩
    go_wp2
    go_ret
    exact ⟨by rw [HK.out]; rfl, rfl⟩
  · rw [hl] at P2 HK
    clear hl
    go_enter Tryz.func146, Tryz.ntmps146
    go_wp2_with fail
    refine (P1.out _).mono ?_
    rintro r w1 ⟨rfl, rfl⟩
    go_wp2_with fail
    refine (P2.out _).mono ?_
    rintro r w1 ⟨rfl, rfl⟩
    go_wp2
    go_ret
    exact ⟨by rw [HK.out]; rfl, rfl⟩
theorem hop_any (a : ByteArray) (w : World) (h : a.size = 4 ∨ a.size = 16) : Calls Tryz.prog 129 #[.string a] w fun e w' => e = .returned (.string ⟨(enc1 (hopD a, 7)).toArray⟩) ∧ Below w.heap.size w w' := by
  obtain ⟨h1, h3, hs, _, _⟩ := hop_cases h
  have hzd := (L1.hop_size h).2
  have P1 := Lib.hid (fun V => hae_any a V)
  have P2 := Lib.hid (fun V => num_any (hopE a) 1 1 rfl (by decide) (by decide) V)
  have P3 := Lib.hid (fun V => Oct.zeros_mid 1 V (by decide))
  have P4 := Lib.hid (fun V => stand_any (hopE a) a V)
  rw [hop_st] at P4
  have ho := L2.hop_ok h
  have hp := (put_ok ho (show ¬ (7 : Int) = 0 by decide)).2
  have P5 := Lib.hid (fun V => F6.put_any 7 (hopD a) V (by omega))
  unfold PutIs at P5
  rw [show putO 7 (hopD a) = _ from hp] at P5
  have hl := layN_len (hopE a) 1
  have hz1 : (⟨(layN (hopE a) 1).toArray⟩ : ByteArray).size ≤ 1 := by rw [mk_size]; exact hl
  have hzs : (hopS a).size ≤ 16 := by rw [hs]; unfold K1.sizeA; split <;> (try split) <;> (try split) <;> omega
  have hd : (⟨(layN (hopE a) 1).toArray⟩ : ByteArray) ++ ⟨(List.replicate 1 (0 : UInt8)).toArray⟩ ++ hopS a = hopD a := text_eq (by simp [ByteArray.data_append, hopD])
  have hz : (⟨(List.replicate 1 (0 : UInt8)).toArray⟩ : ByteArray).size = 1 := rfl
  generalize (⟨(layN (hopE a) 1).toArray⟩ : ByteArray) = u1 at *
  generalize (⟨(List.replicate 1 (0 : UInt8)).toArray⟩ : ByteArray) = u2 at *
  have c1 := cat_is u1 u2 _ (by omega) (by omega) rfl
  have hz12 : (u1 ++ u2).size ≤ 2 := by rw [ByteArray.size_append]; omega
  generalize u1 ++ u2 = u3 at *
  have c2 := cat_is u3 (hopS a) _ (by omega) (by omega) hd
  clear h h1 h3 hs hzd hp ho hl hz1 hzs hd hz hz12
  generalize (⟨(enc1 (hopD a, 7)).toArray⟩ : ByteArray) = u at *
  generalize hopD a = d at *
  generalize hopE a = ae at *
  generalize hopS a = sa at *
  generalize F1.putB 7 d = y at *
  go_enter Tryz.func129, Tryz.ntmps129
  go_wp2_with fail
  refine (P1.out _).mono ?_
  rintro r w1 ⟨rfl, rfl⟩
  go_wp2_with fail
  refine (P2.out _).mono ?_
  rintro r w1 ⟨rfl, hb⟩
  have HB := Lib.hid hb
  clear hb
  go_wp2_with fail
  refine (P3.out _).mono ?_
  rintro r w2 ⟨rfl, hb⟩
  have HB := Lib.hid (bcall HB.out hb)
  clear hb
  go_wp2_with fail
  refine (P4.out _).mono ?_
  rintro r w3 ⟨rfl, rfl⟩
  go_wp2_with fail
  refine (P5.out _).mono ?_
  rintro r w4 ⟨rfl, hb⟩
  have HB := Lib.hid (bcall HB.out hb)
  clear hb
  go_wp2
  go_ret
  exact ⟨rfl, HB.out⟩
/-- An Update's fields. -/
def hdU (m : M) (n : Int) : ByteArray := ⟨(layN m.ae 1 ++ (layN (flB m) 1 ++ (layN m.plen 1 ++ (layN n 1 ++ (layN m.interval 2 ++ (layN m.seq 2 ++ layN m.metric 2)))))).toArray⟩
theorem hd_size (m : M) (n : Int) : (hdU m n).size ≤ 10 := by
  unfold hdU
  rw [mk_size]
  simp only [List.length_append]
  have := layN_len m.ae 1; have := layN_len (flB m) 1; have := layN_len m.plen 1; have := layN_len n 1; have := layN_len m.interval 2; have := layN_len m.seq 2; have := layN_len m.metric 2
  omega
theorem hd_upd (m : M) (n : Nat) : hdU m n ++ ⟨((cutP m.ae m.pfx m.plen).data.toList.drop n).toArray⟩ ++ putS m.sl = updD m n := text_eq (by
  unfold hdU updD updL
  simp [ByteArray.data_append])
theorem lay_z (v : Int) (n : Nat) : (⟨(layN v n).toArray⟩ : ByteArray).size ≤ n := by rw [mk_size]; exact layN_len v n
set_option maxHeartbeats 6400000 in
theorem head_any (m : M) (n : Int) (w : World) (hm : m.In w) : Calls Tryz.prog 134 #[.agg m.cells, .int .i64 n] w fun e w' => e = .returned (.string (hdU m n)) ∧ Below w.heap.size w w' := by
  have HF := Lib.hid (Fs.new w m hm)
  have Q1 := Lib.hid (fun V => num_any m.ae 1 1 rfl (by decide) (by decide) V)
  have Q2 := Lib.hid (fun V => num_any (flB m) 1 1 rfl (by decide) (by decide) V)
  have Q3 := Lib.hid (fun V => num_any m.plen 1 1 rfl (by decide) (by decide) V)
  have Q4 := Lib.hid (fun V => num_any n 1 1 rfl (by decide) (by decide) V)
  have Q5 := Lib.hid (fun V => num_any m.interval 2 2 rfl (by decide) (by decide) V)
  have Q6 := Lib.hid (fun V => num_any m.seq 2 2 rfl (by decide) (by decide) V)
  have Q7 := Lib.hid (fun V => num_any m.metric 2 2 rfl (by decide) (by decide) V)
  have HD := Lib.hid (show (⟨(layN m.ae 1).toArray⟩ : ByteArray) ++ ⟨(layN (flB m) 1).toArray⟩ ++ ⟨(layN m.plen 1).toArray⟩ ++ ⟨(layN n 1).toArray⟩ ++ ⟨(layN m.interval 2).toArray⟩ ++ ⟨(layN m.seq 2).toArray⟩ ++ ⟨(layN m.metric 2).toArray⟩ = hdU m n from text_eq (by unfold hdU; simp [ByteArray.data_append]))
  have z1 := lay_z m.ae 1
  generalize (⟨(layN m.ae 1).toArray⟩ : ByteArray) = t1 at *
  have z2 := lay_z (flB m) 1
  generalize (⟨(layN (flB m) 1).toArray⟩ : ByteArray) = t2 at *
  have z3 := lay_z m.plen 1
  generalize (⟨(layN m.plen 1).toArray⟩ : ByteArray) = t3 at *
  have z4 := lay_z n 1
  generalize (⟨(layN n 1).toArray⟩ : ByteArray) = t4 at *
  have z5 := lay_z m.interval 2
  generalize (⟨(layN m.interval 2).toArray⟩ : ByteArray) = t5 at *
  have z6 := lay_z m.seq 2
  generalize (⟨(layN m.seq 2).toArray⟩ : ByteArray) = t6 at *
  have z7 := lay_z m.metric 2
  generalize (⟨(layN m.metric 2).toArray⟩ : ByteArray) = t7 at *
  have cat2 := cat_is t1 t2 _ (by omega) (by omega) rfl
  have y2 : (t1 ++ t2).size ≤ 2 := by rw [ByteArray.size_append]; omega
  generalize t1 ++ t2 = u2 at *
  have cat3 := cat_is u2 t3 _ (by omega) (by omega) rfl
  have y3 : (u2 ++ t3).size ≤ 3 := by rw [ByteArray.size_append]; omega
  generalize u2 ++ t3 = u3 at *
  have cat4 := cat_is u3 t4 _ (by omega) (by omega) rfl
  have y4 : (u3 ++ t4).size ≤ 4 := by rw [ByteArray.size_append]; omega
  generalize u3 ++ t4 = u4 at *
  have cat5 := cat_is u4 t5 _ (by omega) (by omega) rfl
  have y5 : (u4 ++ t5).size ≤ 6 := by rw [ByteArray.size_append]; omega
  generalize u4 ++ t5 = u5 at *
  have cat6 := cat_is u5 t6 _ (by omega) (by omega) rfl
  have y6 : (u5 ++ t6).size ≤ 8 := by rw [ByteArray.size_append]; omega
  generalize u5 ++ t6 = u6 at *
  have cat7 := cat_is u6 t7 _ (by omega) (by omega) HD.out
  clear hm HD z1 z2 z3 z4 z5 z6 z7 y2 y3 y4 y5 y6
  have HFL := Lib.hid (show flB m = if m.ae = 0 then 0 else 128 from rfl)
  generalize flB m = fl at *
  generalize hdU m n = hu at *
  by_cases h0 : m.ae = 0
  · rw [if_pos h0] at HFL
    obtain rfl := HFL.out
    have e0 : (m.ae == 0) = true := by simpa using h0
    clear HFL h0
    go_enter Tryz.func134, Tryz.ntmps134
    go_upto_region 1 with fail
    generalize w.alloc (.cells m.cells 38) = V at *
    have c5 := HF.out.m.cs.c5
    go_upto_region 4 with fail
    refine wp_region_held_drew (S := fun W => Fs w W w.heap.size m) (by kernel_rfl) HF.out.drew (fun hS => ?_)
    clear HF c5
    generalize V.drew = X0 at *
    refine H.tk (i := 0) (v := ?v0x1p) ?h0x1p hS ?_
    case h0x1p => (intro w hw; go_simp; first | done | (with_reducible rfl))
    try simp only [Act.put, List.setIfInBounds_toArray, List.set_cons_zero, List.set_cons_succ]
    refine H.tk (i := 1) (v := ?v1x2p) ?h1x2p hS ?_
    case h1x2p => (intro w hw; have c := (hw.m).cs.c5; go_simp; first | done | (with_reducible rfl))
    try simp only [Act.put, List.setIfInBounds_toArray, List.set_cons_zero, List.set_cons_succ]
    refine H.tk (i := 3) (v := ?v3x3p) ?h3x3p hS ?_
    case h3x3p => (intro w hw; go_simp; first | done | (with_reducible rfl))
    try simp only [Act.put, List.setIfInBounds_toArray, List.set_cons_zero, List.set_cons_succ]
    refine H.tk (i := 6) (v := ?v6x4p) ?h6x4p hS ?_
    case h6x4p => (intro w hw; go_simp; first | done | (with_reducible rfl))
    try simp only [Act.put, List.setIfInBounds_toArray, List.set_cons_zero, List.set_cons_succ]
    refine H.tk (i := 7) (v := ?v7x5p) ?h7x5p hS ?_
    case h7x5p => (intro w hw; have c := (hw.m).cs.c7; go_simp; first | done | (with_reducible rfl))
    try simp only [Act.put, List.setIfInBounds_toArray, List.set_cons_zero, List.set_cons_succ]
    refine H.tk (i := 10) (v := ?v10x6p) ?h10x6p hS ?_
    case h10x6p => (intro w hw; go_simp; first | done | (with_reducible rfl))
    try simp only [Act.put, List.setIfInBounds_toArray, List.set_cons_zero, List.set_cons_succ]
    refine H.tk (i := 13) (v := ?v13x7p) ?h13x7p hS ?_
    case h13x7p => (intro w hw; go_simp; first | done | (with_reducible rfl))
    try simp only [Act.put, List.setIfInBounds_toArray, List.set_cons_zero, List.set_cons_succ]
    refine H.tk (i := 14) (v := ?v14x8p) ?h14x8p hS ?_
    case h14x8p => (intro w hw; have c := (hw.m).cs.c14; go_simp; first | done | (with_reducible rfl))
    try simp only [Act.put, List.setIfInBounds_toArray, List.set_cons_zero, List.set_cons_succ]
    refine H.tk (i := 17) (v := ?v17x9p) ?h17x9p hS ?_
    case h17x9p => (intro w hw; go_simp; first | done | (with_reducible rfl))
    try simp only [Act.put, List.setIfInBounds_toArray, List.set_cons_zero, List.set_cons_succ]
    refine H.tk (i := 18) (v := ?v18x10p) ?h18x10p hS ?_
    case h18x10p => (intro w hw; have c := (hw.m).cs.c12; go_simp; first | done | (with_reducible rfl))
    try simp only [Act.put, List.setIfInBounds_toArray, List.set_cons_zero, List.set_cons_succ]
    refine H.tk (i := 21) (v := ?v21x11p) ?h21x11p hS ?_
    case h21x11p => (intro w hw; go_simp; first | done | (with_reducible rfl))
    try simp only [Act.put, List.setIfInBounds_toArray, List.set_cons_zero, List.set_cons_succ]
    refine H.tk (i := 22) (v := ?v22x12p) ?h22x12p hS ?_
    case h22x12p => (intro w hw; have c := (hw.m).cs.c10; go_simp; first | done | (with_reducible rfl))
    try simp only [Act.put, List.setIfInBounds_toArray, List.set_cons_zero, List.set_cons_succ]
    refine H.one (i := 2) (by simp only [List.getElem?_toArray, List.getElem?_cons_succ, List.getElem?_cons_zero]; rfl) (by kernel_rfl) (by kernel_rfl) (fun K hK => ?_)
    go_simp
    refine (Q1.out _).mono ?_
    rintro e X1 ⟨rfl, hb⟩
    have hS' := hS.call hb
    refine hK.out _ _ hS' ?_
    clear hK K hb hS
    have hS := hS'
    clear hS'
    try simp only [Act.put, List.setIfInBounds_toArray, List.set_cons_zero, List.set_cons_succ]
    refine H.one (i := 4) (by simp only [List.getElem?_toArray, List.getElem?_cons_succ, List.getElem?_cons_zero]; rfl) (by kernel_rfl) (by kernel_rfl) (fun K hK => ?_)
    go_simp
    refine (Q2.out _).mono ?_
    rintro e X2 ⟨rfl, hb⟩
    have hS' := hS.call hb
    refine hK.out _ _ hS' ?_
    clear hK K hb hS
    have hS := hS'
    clear hS'
    try simp only [Act.put, List.setIfInBounds_toArray, List.set_cons_zero, List.set_cons_succ]
    refine H.tk (i := 5) (v := ?v5x13p) ?h5x13p hS ?_
    case h5x13p => (intro w hw; go_simp; first | done | (with_reducible rfl))
    try simp only [Act.put, List.setIfInBounds_toArray, List.set_cons_zero, List.set_cons_succ]
    refine H.one (i := 8) (by simp only [List.getElem?_toArray, List.getElem?_cons_succ, List.getElem?_cons_zero]; rfl) (by kernel_rfl) (by kernel_rfl) (fun K hK => ?_)
    go_simp
    refine (Q3.out _).mono ?_
    rintro e X3 ⟨rfl, hb⟩
    have hS' := hS.call hb
    refine hK.out _ _ hS' ?_
    clear hK K hb hS
    have hS := hS'
    clear hS'
    try simp only [Act.put, List.setIfInBounds_toArray, List.set_cons_zero, List.set_cons_succ]
    refine H.tk (i := 9) (v := ?v9x14p) ?h9x14p hS ?_
    case h9x14p => (intro w hw; go_simp; first | done | (with_reducible rfl))
    try simp only [Act.put, List.setIfInBounds_toArray, List.set_cons_zero, List.set_cons_succ]
    refine H.one (i := 11) (by simp only [List.getElem?_toArray, List.getElem?_cons_succ, List.getElem?_cons_zero]; rfl) (by kernel_rfl) (by kernel_rfl) (fun K hK => ?_)
    go_simp
    refine (Q4.out _).mono ?_
    rintro e X4 ⟨rfl, hb⟩
    have hS' := hS.call hb
    refine hK.out _ _ hS' ?_
    clear hK K hb hS
    have hS := hS'
    clear hS'
    try simp only [Act.put, List.setIfInBounds_toArray, List.set_cons_zero, List.set_cons_succ]
    refine H.tk (i := 12) (v := ?v12x15p) ?h12x15p hS ?_
    case h12x15p => (intro w hw; go_simp; first | done | (with_reducible rfl))
    try simp only [Act.put, List.setIfInBounds_toArray, List.set_cons_zero, List.set_cons_succ]
    refine H.one (i := 15) (by simp only [List.getElem?_toArray, List.getElem?_cons_succ, List.getElem?_cons_zero]; rfl) (by kernel_rfl) (by kernel_rfl) (fun K hK => ?_)
    go_simp
    refine (Q5.out _).mono ?_
    rintro e X5 ⟨rfl, hb⟩
    have hS' := hS.call hb
    refine hK.out _ _ hS' ?_
    clear hK K hb hS
    have hS := hS'
    clear hS'
    try simp only [Act.put, List.setIfInBounds_toArray, List.set_cons_zero, List.set_cons_succ]
    refine H.tk (i := 16) (v := ?v16x16p) ?h16x16p hS ?_
    case h16x16p => (intro w hw; go_simp; first | done | (with_reducible rfl))
    try simp only [Act.put, List.setIfInBounds_toArray, List.set_cons_zero, List.set_cons_succ]
    refine H.one (i := 19) (by simp only [List.getElem?_toArray, List.getElem?_cons_succ, List.getElem?_cons_zero]; rfl) (by kernel_rfl) (by kernel_rfl) (fun K hK => ?_)
    go_simp
    refine (Q6.out _).mono ?_
    rintro e X6 ⟨rfl, hb⟩
    have hS' := hS.call hb
    refine hK.out _ _ hS' ?_
    clear hK K hb hS
    have hS := hS'
    clear hS'
    try simp only [Act.put, List.setIfInBounds_toArray, List.set_cons_zero, List.set_cons_succ]
    refine H.tk (i := 20) (v := ?v20x17p) ?h20x17p hS ?_
    case h20x17p => (intro w hw; go_simp; first | done | (with_reducible rfl))
    try simp only [Act.put, List.setIfInBounds_toArray, List.set_cons_zero, List.set_cons_succ]
    refine H.one (i := 23) (by simp only [List.getElem?_toArray, List.getElem?_cons_succ, List.getElem?_cons_zero]; rfl) (by kernel_rfl) (by kernel_rfl) (fun K hK => ?_)
    go_simp
    refine (Q7.out _).mono ?_
    rintro e X7 ⟨rfl, hb⟩
    have hS' := hS.call hb
    refine hK.out _ _ hS' ?_
    clear hK K hb hS
    have hS := hS'
    clear hS'
    try simp only [Act.put, List.setIfInBounds_toArray, List.set_cons_zero, List.set_cons_succ]
    refine H.tk (i := 24) (v := ?v24x18p) ?h24x18p hS ?_
    case h24x18p => (intro w hw; go_simp; first | done | (with_reducible rfl))
    try simp only [Act.put, List.setIfInBounds_toArray, List.set_cons_zero, List.set_cons_succ]
    refine H.tk (i := 25) (v := ?v25x19p) ?h25x19p hS ?_
    case h25x19p => (intro w hw; go_simp; first | done | (with_reducible rfl))
    try simp only [Act.put, List.setIfInBounds_toArray, List.set_cons_zero, List.set_cons_succ]
    refine wpAnyH_done (by kernel_rfl) ?_ _
    go_wp2
    go_ret
    exact ⟨rfl, hS.bel⟩
  rw [if_neg h0] at HFL
  obtain rfl := HFL.out
  have e0 : (m.ae == 0) = false := by simpa using h0
  clear HFL h0
  go_enter Tryz.func134, Tryz.ntmps134
  go_upto_region 1 with fail
  generalize w.alloc (.cells m.cells 38) = V at *
  have c5 := HF.out.m.cs.c5
  go_upto_region 4 with fail
  refine wp_region_held_drew (S := fun W => Fs w W w.heap.size m) (by kernel_rfl) HF.out.drew (fun hS => ?_)
  clear HF c5
  generalize V.drew = X0 at *
  refine H.tk (i := 0) (v := ?v0x1) ?h0x1 hS ?_
  case h0x1 => (intro w hw; go_simp; first | done | (with_reducible rfl))
  try simp only [Act.put, List.setIfInBounds_toArray, List.set_cons_zero, List.set_cons_succ]
  refine H.tk (i := 1) (v := ?v1x2) ?h1x2 hS ?_
  case h1x2 => (intro w hw; have c := (hw.m).cs.c5; go_simp; first | done | (with_reducible rfl))
  try simp only [Act.put, List.setIfInBounds_toArray, List.set_cons_zero, List.set_cons_succ]
  refine H.tk (i := 3) (v := ?v3x3) ?h3x3 hS ?_
  case h3x3 => (intro w hw; go_simp; first | done | (with_reducible rfl))
  try simp only [Act.put, List.setIfInBounds_toArray, List.set_cons_zero, List.set_cons_succ]
  refine H.tk (i := 6) (v := ?v6x4) ?h6x4 hS ?_
  case h6x4 => (intro w hw; go_simp; first | done | (with_reducible rfl))
  try simp only [Act.put, List.setIfInBounds_toArray, List.set_cons_zero, List.set_cons_succ]
  refine H.tk (i := 7) (v := ?v7x5) ?h7x5 hS ?_
  case h7x5 => (intro w hw; have c := (hw.m).cs.c7; go_simp; first | done | (with_reducible rfl))
  try simp only [Act.put, List.setIfInBounds_toArray, List.set_cons_zero, List.set_cons_succ]
  refine H.tk (i := 10) (v := ?v10x6) ?h10x6 hS ?_
  case h10x6 => (intro w hw; go_simp; first | done | (with_reducible rfl))
  try simp only [Act.put, List.setIfInBounds_toArray, List.set_cons_zero, List.set_cons_succ]
  refine H.tk (i := 13) (v := ?v13x7) ?h13x7 hS ?_
  case h13x7 => (intro w hw; go_simp; first | done | (with_reducible rfl))
  try simp only [Act.put, List.setIfInBounds_toArray, List.set_cons_zero, List.set_cons_succ]
  refine H.tk (i := 14) (v := ?v14x8) ?h14x8 hS ?_
  case h14x8 => (intro w hw; have c := (hw.m).cs.c14; go_simp; first | done | (with_reducible rfl))
  try simp only [Act.put, List.setIfInBounds_toArray, List.set_cons_zero, List.set_cons_succ]
  refine H.tk (i := 17) (v := ?v17x9) ?h17x9 hS ?_
  case h17x9 => (intro w hw; go_simp; first | done | (with_reducible rfl))
  try simp only [Act.put, List.setIfInBounds_toArray, List.set_cons_zero, List.set_cons_succ]
  refine H.tk (i := 18) (v := ?v18x10) ?h18x10 hS ?_
  case h18x10 => (intro w hw; have c := (hw.m).cs.c12; go_simp; first | done | (with_reducible rfl))
  try simp only [Act.put, List.setIfInBounds_toArray, List.set_cons_zero, List.set_cons_succ]
  refine H.tk (i := 21) (v := ?v21x11) ?h21x11 hS ?_
  case h21x11 => (intro w hw; go_simp; first | done | (with_reducible rfl))
  try simp only [Act.put, List.setIfInBounds_toArray, List.set_cons_zero, List.set_cons_succ]
  refine H.tk (i := 22) (v := ?v22x12) ?h22x12 hS ?_
  case h22x12 => (intro w hw; have c := (hw.m).cs.c10; go_simp; first | done | (with_reducible rfl))
  try simp only [Act.put, List.setIfInBounds_toArray, List.set_cons_zero, List.set_cons_succ]
  refine H.one (i := 2) (by simp only [List.getElem?_toArray, List.getElem?_cons_succ, List.getElem?_cons_zero]; rfl) (by kernel_rfl) (by kernel_rfl) (fun K hK => ?_)
  go_simp
  refine (Q1.out _).mono ?_
  rintro e X1 ⟨rfl, hb⟩
  have hS' := hS.call hb
  refine hK.out _ _ hS' ?_
  clear hK K hb hS
  have hS := hS'
  clear hS'
  try simp only [Act.put, List.setIfInBounds_toArray, List.set_cons_zero, List.set_cons_succ]
  refine H.one (i := 4) (by simp only [List.getElem?_toArray, List.getElem?_cons_succ, List.getElem?_cons_zero]; rfl) (by kernel_rfl) (by kernel_rfl) (fun K hK => ?_)
  go_simp
  refine (Q2.out _).mono ?_
  rintro e X2 ⟨rfl, hb⟩
  have hS' := hS.call hb
  refine hK.out _ _ hS' ?_
  clear hK K hb hS
  have hS := hS'
  clear hS'
  try simp only [Act.put, List.setIfInBounds_toArray, List.set_cons_zero, List.set_cons_succ]
  refine H.tk (i := 5) (v := ?v5x13) ?h5x13 hS ?_
  case h5x13 => (intro w hw; go_simp; first | done | (with_reducible rfl))
  try simp only [Act.put, List.setIfInBounds_toArray, List.set_cons_zero, List.set_cons_succ]
  refine H.one (i := 8) (by simp only [List.getElem?_toArray, List.getElem?_cons_succ, List.getElem?_cons_zero]; rfl) (by kernel_rfl) (by kernel_rfl) (fun K hK => ?_)
  go_simp
  refine (Q3.out _).mono ?_
  rintro e X3 ⟨rfl, hb⟩
  have hS' := hS.call hb
  refine hK.out _ _ hS' ?_
  clear hK K hb hS
  have hS := hS'
  clear hS'
  try simp only [Act.put, List.setIfInBounds_toArray, List.set_cons_zero, List.set_cons_succ]
  refine H.tk (i := 9) (v := ?v9x14) ?h9x14 hS ?_
  case h9x14 => (intro w hw; go_simp; first | done | (with_reducible rfl))
  try simp only [Act.put, List.setIfInBounds_toArray, List.set_cons_zero, List.set_cons_succ]
  refine H.one (i := 11) (by simp only [List.getElem?_toArray, List.getElem?_cons_succ, List.getElem?_cons_zero]; rfl) (by kernel_rfl) (by kernel_rfl) (fun K hK => ?_)
  go_simp
  refine (Q4.out _).mono ?_
  rintro e X4 ⟨rfl, hb⟩
  have hS' := hS.call hb
  refine hK.out _ _ hS' ?_
  clear hK K hb hS
  have hS := hS'
  clear hS'
  try simp only [Act.put, List.setIfInBounds_toArray, List.set_cons_zero, List.set_cons_succ]
  refine H.tk (i := 12) (v := ?v12x15) ?h12x15 hS ?_
  case h12x15 => (intro w hw; go_simp; first | done | (with_reducible rfl))
  try simp only [Act.put, List.setIfInBounds_toArray, List.set_cons_zero, List.set_cons_succ]
  refine H.one (i := 15) (by simp only [List.getElem?_toArray, List.getElem?_cons_succ, List.getElem?_cons_zero]; rfl) (by kernel_rfl) (by kernel_rfl) (fun K hK => ?_)
  go_simp
  refine (Q5.out _).mono ?_
  rintro e X5 ⟨rfl, hb⟩
  have hS' := hS.call hb
  refine hK.out _ _ hS' ?_
  clear hK K hb hS
  have hS := hS'
  clear hS'
  try simp only [Act.put, List.setIfInBounds_toArray, List.set_cons_zero, List.set_cons_succ]
  refine H.tk (i := 16) (v := ?v16x16) ?h16x16 hS ?_
  case h16x16 => (intro w hw; go_simp; first | done | (with_reducible rfl))
  try simp only [Act.put, List.setIfInBounds_toArray, List.set_cons_zero, List.set_cons_succ]
  refine H.one (i := 19) (by simp only [List.getElem?_toArray, List.getElem?_cons_succ, List.getElem?_cons_zero]; rfl) (by kernel_rfl) (by kernel_rfl) (fun K hK => ?_)
  go_simp
  refine (Q6.out _).mono ?_
  rintro e X6 ⟨rfl, hb⟩
  have hS' := hS.call hb
  refine hK.out _ _ hS' ?_
  clear hK K hb hS
  have hS := hS'
  clear hS'
  try simp only [Act.put, List.setIfInBounds_toArray, List.set_cons_zero, List.set_cons_succ]
  refine H.tk (i := 20) (v := ?v20x17) ?h20x17 hS ?_
  case h20x17 => (intro w hw; go_simp; first | done | (with_reducible rfl))
  try simp only [Act.put, List.setIfInBounds_toArray, List.set_cons_zero, List.set_cons_succ]
  refine H.one (i := 23) (by simp only [List.getElem?_toArray, List.getElem?_cons_succ, List.getElem?_cons_zero]; rfl) (by kernel_rfl) (by kernel_rfl) (fun K hK => ?_)
  go_simp
  refine (Q7.out _).mono ?_
  rintro e X7 ⟨rfl, hb⟩
  have hS' := hS.call hb
  refine hK.out _ _ hS' ?_
  clear hK K hb hS
  have hS := hS'
  clear hS'
  try simp only [Act.put, List.setIfInBounds_toArray, List.set_cons_zero, List.set_cons_succ]
  refine H.tk (i := 24) (v := ?v24x18) ?h24x18 hS ?_
  case h24x18 => (intro w hw; go_simp; first | done | (with_reducible rfl))
  try simp only [Act.put, List.setIfInBounds_toArray, List.set_cons_zero, List.set_cons_succ]
  refine H.tk (i := 25) (v := ?v25x19) ?h25x19 hS ?_
  case h25x19 => (intro w hw; go_simp; first | done | (with_reducible rfl))
  try simp only [Act.put, List.setIfInBounds_toArray, List.set_cons_zero, List.set_cons_succ]
  refine wpAnyH_done (by kernel_rfl) ?_ _
  go_wp2
  go_ret
  exact ⟨rfl, hS.bel⟩
end Go.Proofs.YtjhfpobjbijcpaaGreatDoor.L4
