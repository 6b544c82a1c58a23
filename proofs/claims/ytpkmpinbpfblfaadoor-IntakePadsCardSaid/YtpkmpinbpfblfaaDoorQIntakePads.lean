/-
  The statement IntakePads, of any bytes, any paddings and any bytes behind. Condition: the listed variables have what the program's text lays them with (the tied card).
-/
import Derived.Test.YtpkmpinbpfblfaaDoorQ12
import Derived.Test.YtpkmpinbpfblfaaDoorCards
import Derived.Test.YtpkmpinbpfblfaaDoorTie
import Derived.Lay
import Derived.SevenTiedAt
import Derived.Stop.Joined
namespace Go.Proofs.YtpkmpinbpfblfaaDoor.intakePads
open Go.ChangeShapes Go.WideShapes Go.ChangeAt Go.RowKit
open Go.ChangeMaps (open_string shut_string)
open Go.Proofs.YtpkmpinbpfblfaaDoor.Ms
open Go.Proofs.YtpkmpinbpfblfaaDoor.Box
open Go.Proofs.YtpkmpinbpfblfaaDoor.All
open Go.Proofs.YtpkmpinbpfblfaaDoor.An
open Go.Proofs.YtpkmpinbpfblfaaDoor.Tc
open Go.Proofs.YtpkmpinbpfblfaaDoor.K1
open Go.Proofs.YtpkmpinbpfblfaaDoor.Kb
open Go.Proofs.YtpkmpinbpfblfaaDoor.I1
open Go.Proofs.YtpkmpinbpfblfaaDoor.I2
open Go.Proofs.YtpkmpinbpfblfaaDoor.Fq
open Go.Proofs.YtpkmpinbpfblfaaDoor.I9
open Go.Proofs.YtpkmpinbpfblfaaDoor.Hs
open Go.Proofs.YtpkmpinbpfblfaaDoor.Open
set_option linter.unusedVariables false

open Go.Proofs.YtpkmpinbpfblfaaDoor.Tl (cellsT TRow indexT)
open Go.Proofs.YtpkmpinbpfblfaaDoor.Or (st_yes)
open Go.Proofs.YtpkmpinbpfblfaaDoor.Hx (ex_built)
open Go.Proofs.YtpkmpinbpfblfaaDoor.Hy (H.one H.two wp_valW)
open Go.Proofs.YtpkmpinbpfblfaaDoor.Bk (Bk wpList_builtK run_loadK alloc_size)
open Go.Proofs.YtpkmpinbpfblfaaDoor.F1 (outT outB trail okT encT placed)
open Go.Proofs.YtpkmpinbpfblfaaDoor.K9 (int_same)
open Go.Proofs.YtpkmpinbpfblfaaDoor.Pd
open Go.Proofs.YtpkmpinbpfblfaaDoor.F1 (wrap enc1 encT wrap_size putO)
open Go.Proofs.YtpkmpinbpfblfaaDoor.F2 (BodyIs rbody_any)
open Go.Proofs.YtpkmpinbpfblfaaDoor.F5 (rsplit_own)
open Go.Proofs.YtpkmpinbpfblfaaDoor.F6 (rput_any rwrap_any PutIs WrapIs)
open Go.Proofs.YtpkmpinbpfblfaaDoor.S1 (padB pad_facts)

set_option maxHeartbeats 51200000 in
set_option maxRecDepth 100000 in
theorem walk (b : ByteArray) (pa : Option Addr) (pl : List Int) (pc : Nat) (be : ByteArray) (w : World) (hz : b.size ≤ maxLen) (hp : BRow w pa pl) (hy : be.size ≤ maxLen) (ht : Tab w) :
    Calls Tryd.prog 3 #[.string b, .slice pa pl.length pc, .string be] w fun r w' => r = .returned (.bool true) ∧ Below w.heap.size w w' := by
  unfold maxLen at hz hy
  have HT := Lib.hid ht
  have h1 := ht.pos
  clear ht
  have HP := Lib.hid hp
  clear hp
  by_cases g2000 : 2000 < b.size
  · have g2000' : (2000 : Int) < (b.size : Int) := by omega
    go_enter Tryd.func3, Tryd.ntmps3
    go_wp2_with fail
    refine (awake_any _ (HT.out)).mono ?_
    rintro r w1 ⟨rfl, hb⟩
    have HB := Lib.hid hb
    clear hb
    go_wp2
    go_ret
    exact ⟨rfl, HB.out⟩
  have g2000' : ¬ (2000 : Int) < (b.size : Int) := by omega
  by_cases g200 : 200 < be.size
  · have g200' : (200 : Int) < (be.size : Int) := by omega
    go_enter Tryd.func3, Tryd.ntmps3
    go_wp2_with fail
    refine (awake_any _ (HT.out)).mono ?_
    rintro r w1 ⟨rfl, hb⟩
    have HB := Lib.hid hb
    clear hb
    go_wp2
    go_ret
    exact ⟨rfl, HB.out⟩
  have g200' : ¬ (200 : Int) < (be.size : Int) := by omega
  by_cases g60 : 60 < pl.length
  · have g60' : (60 : Int) < (pl.length : Int) := by omega
    go_enter Tryd.func3, Tryd.ntmps3
    go_wp2_with fail
    refine (awake_any _ (HT.out)).mono ?_
    rintro r w1 ⟨rfl, hb⟩
    have HB := Lib.hid hb
    clear hb
    go_wp2
    go_ret
    exact ⟨rfl, HB.out⟩
  have g60' : ¬ (60 : Int) < (pl.length : Int) := by omega
  have PP := Lib.hid (fun V (y : Tab V) => I8.parse_any b V (by omega) y)
  have PB := Lib.hid (fun V => rbody_any b V (by unfold maxLen; omega))
  unfold BodyIs at PB
  have hbs : (outB b).1.size ≤ 2000 := by
    rcases outB_two b with ⟨i, e, _, h⟩ | ⟨s, _, h, hs⟩ <;> rw [h]
    · exact Nat.zero_le _
    · show s.size ≤ 2000; omega
  have PS := Lib.hid (fun V => rsplit_own (outB b).1 4 V (by omega) (by omega) (by omega))
  have PE := Lib.hid (fun V => rsplit_own be 0 V (by omega) (by omega) (by omega))
  have HS := Lib.hid (outP_sml b)
  have hlen := outP_len b
  have HOK := Lib.hid (fun h => outP_ok (b := b) h)
  have HPD := Lib.hid (fun (u : ByteArray) (l q : List F1.El) h1 h2 h3 h4 h5 h6 => pads_same (u := u) (t := be) (l := l) (q := q) h1 h2 h3 h4 h5 h6)
  go_enter Tryd.func3, Tryd.ntmps3
  go_wp2_with fail
  refine (PP.out _ HT.out).mono ?_
  rintro e w1 ⟨qa1, qk1, l1, rfl, hp1, hm1, hb⟩
  have HM1 := Lib.hid hm1.row
  have HP1 := Lib.hid hp1
  have HB := Lib.hid hb
  clear hb hm1 hp1 PP
  go_wp2_with fail
  refine (PB.out _).mono ?_
  rintro e w2 ⟨rfl, hb⟩
  have HM1 := Lib.hid (HM1.out.below hb)
  have HB := Lib.hid (bcall HB.out hb)
  clear hb PB
  go_wp2_with fail
  refine (PS.out _).mono ?_
  rintro e w3 ⟨ta, tc, rfl, htl, hb⟩
  have HM1 := Lib.hid (HM1.out.below hb)
  have HTL := Lib.hid htl.row
  have HB := Lib.hid (bcall HB.out hb)
  clear hb htl PS
  go_wp2_with fail
  refine (PE.out _).mono ?_
  rintro e w4 ⟨ua, uc, rfl, -, hb⟩
  have HM1 := Lib.hid (HM1.out.below hb)
  have HTL := Lib.hid (HTL.out.below hb)
  have HB := Lib.hid (bcall HB.out hb)
  clear hb PE
  have HOB := Lib.hid (fun (h : (outP b).2.2 = 0) => show (outB b).2.2 = 0 ∧ (outT 4 (outB b).1).2.2 = 0 from by
    obtain ⟨s, l, _, h1, _, _, h2, _⟩ := HOK.out h
    rw [h1]
    exact ⟨rfl, by rw [h2]⟩)
  obtain ⟨q, hq⟩ : ∃ q, outP b = q := ⟨_, rfl⟩
  obtain ⟨f, hf⟩ : ∃ f, (outB b).2.2 = f := ⟨_, rfl⟩
  obtain ⟨g, hg⟩ : ∃ g, (outT 4 (outB b).1).2.2 = g := ⟨_, rfl⟩
  obtain ⟨h, hh⟩ : ∃ h, (outT 0 be).2.2 = h := ⟨_, rfl⟩
  rw [hq, hf, hg] at HOB
  rw [hq] at HP1
  rw [hq, hf, hg, hh]
  obtain ⟨ml, at0, er⟩ := q
  dsimp only at HOB HP1 ⊢
  have f1 : (f != 0) = !(f == 0) := rfl
  have f2 : (g != 0) = !(g == 0) := rfl
  have f3 : (h != 0) = !(h == 0) := rfl
  have f4 : (er != 0) = !(er == 0) := rfl
  by_cases her0 : er = 0
  rotate_left
  · have ber : (er == 0) = false := by simpa using her0
    have ner : (er != 0) = true := by rw [bne, ber]; rfl
    clear hq hf hg hh her0
    by_cases hf0 : f = 0
    rotate_left
    · have bf : (f == 0) = false := by simpa using hf0
      have nf : (f != 0) = true := by rw [bne, bf]; rfl
      clear hf0
      clear f1 f2 f3 f4 HM1 HTL HP1 HOB HOK HPD HS hlen hbs
      go_wp2_with fail
      refine (awake_any _ (HT.out.below HB.out)).mono ?_
      rintro r w5 ⟨rfl, hb⟩
      have HB := Lib.hid (bcall HB.out hb)
      clear hb
      go_wp2
      go_ret
      exact ⟨rfl, HB.out⟩
    have bf : (f == 0) = true := by simpa using hf0
    have nf : (f != 0) = false := by rw [bne, bf]; rfl
    clear hf0
    by_cases hg0 : g = 0
    rotate_left
    · have bg : (g == 0) = false := by simpa using hg0
      have ng : (g != 0) = true := by rw [bne, bg]; rfl
      clear hg0
      clear f1 f2 f3 f4 HM1 HTL HP1 HOB HOK HPD HS hlen hbs
      go_wp2_with fail
      refine (awake_any _ (HT.out.below HB.out)).mono ?_
      rintro r w5 ⟨rfl, hb⟩
      have HB := Lib.hid (bcall HB.out hb)
      clear hb
      go_wp2
      go_ret
      exact ⟨rfl, HB.out⟩
    have bg : (g == 0) = true := by simpa using hg0
    have ng : (g != 0) = false := by rw [bne, bg]; rfl
    clear hg0
    by_cases hh0 : h = 0
    rotate_left
    · have bh : (h == 0) = false := by simpa using hh0
      have nh : (h != 0) = true := by rw [bne, bh]; rfl
      clear hh0
      clear f1 f2 f3 f4 HM1 HTL HP1 HOB HOK HPD HS hlen hbs
      go_wp2_with fail
      refine (awake_any _ (HT.out.below HB.out)).mono ?_
      rintro r w5 ⟨rfl, hb⟩
      have HB := Lib.hid (bcall HB.out hb)
      clear hb
      go_wp2
      go_ret
      exact ⟨rfl, HB.out⟩
    have bh : (h == 0) = true := by simpa using hh0
    have nh : (h != 0) = false := by rw [bne, bh]; rfl
    clear hh0
    clear f1 f2 f3 f4 HM1 HTL HP1 HOB HOK HPD HS hlen hbs
    go_wp2_with fail
    refine (awake_any _ (HT.out.below HB.out)).mono ?_
    rintro r w5 ⟨rfl, hb⟩
    have HB := Lib.hid (bcall HB.out hb)
    clear hb
    go_wp2
    go_ret
    exact ⟨rfl, HB.out⟩
  subst her0
  obtain ⟨rfl, rfl⟩ := HOB.out rfl
  by_cases hh0 : h = 0
  rotate_left
  · have bh : (h == 0) = false := by simpa using hh0
    have nh : (h != 0) = true := by rw [bne, bh]; rfl
    clear hh0 hq hf hg hh
    clear f1 f2 f3 f4 HM1 HTL HP1 HOB HOK HPD HS hlen hbs
    go_wp2_with fail
    refine (awake_any _ (HT.out.below HB.out)).mono ?_
    rintro r w5 ⟨rfl, hb⟩
    have HB := Lib.hid (bcall HB.out hb)
    clear hb
    go_wp2
    go_ret
    exact ⟨rfl, HB.out⟩
  subst hh0
  obtain ⟨s, l, _, hs1, hol, hsl, hs2, _, hoi, hoP⟩ := HOK.out (by rw [hq])
  rw [hs1, hs2] at HTL
  dsimp only at HTL
  rw [hs1, hs2]
  dsimp only
  rw [hq] at hoP HS hlen
  have HMl := Lib.hid (show (outI (placed 4 l)).1 = ml from (congrArg (·.1) hoP).symm)
  have HO := Lib.hid hol
  have HI := Lib.hid hoi
  have HH := Lib.hid hh
  have HZ := Lib.hid (show (encT l).length ≤ 2000 by rw [← hsl]; have := hbs; rw [hs1] at this; simpa using this)
  have hplen : (placed 4 l).length = l.length := F1.placed_len l 4
  have HPX := Lib.hid (fun (k : Nat) (hk : k < l.length) => show ∃ p : Addr, ta = some p ∧ ∀ W, Below w4.heap.size w4 W →
      W.cell? (p.add (k * 3)) = some (.int .i64 l[k].2) ∧ W.cell? ((p.add (k * 3)).add 2) = some (.string l[k].1) from by
    obtain ⟨p, e, hat⟩ := tl_at HTL.out k (by rw [hplen]; exact hk)
    refine ⟨p, e, fun W hb => ?_⟩
    obtain ⟨c0, _, c2⟩ := hat W hb
    have hx : (placed 4 l)[k]'(by rw [hplen]; exact hk) = ((placed 4 l)[k]'(by rw [hplen]; exact hk)) := rfl
    have hm : ((placed 4 l)[k]'(by rw [hplen]; exact hk)).2 = l[k] := by
      have := congrArg (fun z : List F1.El => z[k]?) (placed_map l 4)
      simp only [List.getElem?_map] at this
      rw [List.getElem?_eq_getElem (by rw [hplen]; exact hk), List.getElem?_eq_getElem hk] at this
      exact Option.some.inj this
    rw [hm] at c0 c2
    exact ⟨c0, c2⟩)
  have hl2000 : l.length ≤ 2000 := by have := F1.len_le l; have := HZ.out; omega
  rw [hplen]
  have SLN := Lib.hid hplen
  clear hq hf hg hh hs1 hs2 hoi hoP hol hsl hbs HOB HOK hplen f1 f2 f3 f4 HTL
  generalize (outB b).2.1 = xx1 at *
  go_wp2
  go_loopw [19, 20] (fun us i wr => ∃ (k : Nat) (u : ByteArray), k ≤ l.length + 1 ∧ i = .int .i64 k ∧ us = .string u ∧ Hid (Qd l k u) ∧ Hid (u.size ≤ 4 * min k 60 + (encT (l.take k)).length) ∧ Hid (Below w4.heap.size w4 wr)) (fun _ i _ => l.length + 1 - (intOf i).toNat)
  case atStart => exact ⟨0, ⟨#[]⟩, Nat.zero_le _, rfl, rfl, Lib.hid (Qd.zero l), Lib.hid (Nat.zero_le _), Lib.hid (Below.refl _ _)⟩
  case round =>
    obtain ⟨k, u, hk, rfl, rfl, HU, HSZ, HR⟩ := hrel
    have hkk : (k : Int) ≤ 2001 := by omega
    by_cases hlt : k ≤ l.length
    rotate_left
    · obtain rfl : k = l.length + 1 := by omega
      have hsz : u.size ≤ 2240 := by have := HSZ.out; have := enc_le l (l.length + 1); have := HZ.out; omega
      have HUO := Lib.hid HU.out
      have HQ : Hid ((outP (wrap u ++ be)).2.2 = 0 ∧ (outP (wrap u ++ be)).1 = ml) := Lib.hid (by
        obtain ⟨q, h1, h2, h3⟩ := HU.out
        rw [List.take_of_length_le (Nat.le_succ _)] at h3
        have := HPD.out u l q h1 h2 h3 HI.out HH.out (by omega)
        rw [HMl.out] at this
        exact this)
      have PW := Lib.hid (fun V => rwrap_any u V (by omega))
      unfold WrapIs at PW
      have hws : (wrap u).size = 4 + u.size := wrap_size (by omega)
      have hcz : (wrap u ++ be).size ≤ 50000 := by rw [ByteArray.size_append, hws]; omega
      have PU := Lib.hid (fun V (y : Tab V) => I8.parse_any (wrap u ++ be) V hcz y)
      have ct := F6.cat_is (wrap u) be _ (by omega) (by omega) rfl
      clear HU HSZ hlt hk hsz hws hcz hkk HUO HPX
      generalize wrap u ++ be = wb at *
      generalize wrap u = wu at *
      generalize decide (u.size ≤ 65531) = db at *
      go_wp2_with fail
      refine (PW.out _).mono ?_
      rintro e w5 ⟨rfl, hb⟩
      have HM1 := Lib.hid (HM1.out.below (bcall HR.out hb))
      have HB := Lib.hid (bcall HB.out (bcall HR.out hb))
      clear hb PW
      go_wp2_with fail
      refine (PU.out _ (HT.out.below HB.out)).mono ?_
      rintro e w6 ⟨qa2, qk2, l2, rfl, hp2, hm2, hb⟩
      have HM1 := Lib.hid (HM1.out.below hb)
      have HM2 := Lib.hid hm2.row
      have HP2 := Lib.hid hp2
      have HB := Lib.hid (bcall HB.out hb)
      clear hb hm2 hp2 PU
      rw [HQ.out.2] at HP2
      rw [HQ.out.1]
      have hse : sameL l1 l2 = true := by rw [HP1.out.same HP2.out]; exact sameL_refl _
      have hl1 : l1.length ≤ 2000 := by rw [HP1.out.1]; exact Nat.le_trans hlen (by omega)
      have hl2 : l2.length ≤ 2000 := by rw [HP2.out.1]; exact Nat.le_trans hlen (by omega)
      have PS := Lib.hid (fun V h h' => rsameAll_any qa1 qa2 qk1 qk2 l1 l2 V h h' (HP1.out.short HS.out) (HP2.out.short HS.out) (by omega) (by omega))
      rw [hse] at PS
      clear hse hl1 hl2 hlen HP1 HP2 HS HQ
      go_wp2_with fail
      refine (awake_any _ (HT.out.below HB.out)).mono ?_
      rintro r w7 ⟨rfl, hb⟩
      have HB := Lib.hid (bcall HB.out hb)
      have HM1 := Lib.hid (HM1.out.below hb)
      have HM2 := Lib.hid (HM2.out.below hb)
      clear hb
      go_wp2_with fail
      refine (PS.out _ HM1.out HM2.out).mono ?_
      rintro r w8 ⟨rfl, hb⟩
      have HB := Lib.hid (bcall HB.out hb)
      clear hb
      go_wp2
      go_ret
      exact ⟨rfl, HB.out⟩
    by_cases hpl : k < pl.length
    · obtain ⟨q, rfl, hqq, c0, g0, g1⟩ := (HP.out.below (bcall HB.out HR.out)) k hpl
      generalize pl[k] = v at *
      have hv0 : 0 ≤ v % 5 := by omega
      obtain ⟨n5, hn⟩ := Int.eq_ofNat_of_zero_le hv0
      have hn5 : n5 < 5 := by omega
      have htm : v.tmod 5 = (n5 : Int) := by rw [Int.tmod_eq_emod_of_nonneg g0]; exact hn
      have c0a : (wr.alloc (.cells padC 9)).cell? (q.add k) = some (.int .u8 v) := ((balloc (Below.refl wr.heap.size wr) (.cells padC 9)).cell (by rw [Ms.add_block]; exact hqq)).trans c0
      clear hv0 g0 g1
      go_upto_region 14 with fail
      have i5 := fun W => index_five wr.heap.size n5 hn5 W
      have c5 := cell_five wr n5 hn5
      have HUP := Lib.hid (HU.out.pad hn5)
      have hpz := (pad_facts hn5).2.2.2.2
      have HSP : Hid ((u ++ padB n5).size ≤ 4 * min (k + 1) 60 + (encT (l.take k)).length) := Lib.hid (by rw [ByteArray.size_append]; have := HSZ.out; omega)
      have ct := F6.cat_is u (padB n5) _ (by have := HSZ.out; have := enc_le l k; have := HZ.out; omega) (by omega) rfl
      clear HU HSZ hpz
      have HRa := Lib.hid (balloc HR.out (.cells padC 9))
      generalize u ++ padB n5 = u1 at *
      generalize padB n5 = z0 at *
      go_upto_region 15 with (first | (refine bs_five rfl rfl ?_))
      have HR := HRa
      clear HRa
      generalize wr.alloc (.cells padC 9) = W1 at *
      clear i5 c5 ct c0 c0a hqq hn htm
      by_cases hlt2 : k < l.length
      · obtain ⟨p, rfl, hat⟩ := HPX.out k hlt2
        have HA := Lib.hid hat
        have ix := fun W => indexT p l.length tc k hlt2 W
        obtain ⟨c0, c2⟩ := hat _ HR.out
        have c2' := c2
        clear c2 hat
        have hx := HO.out _ (List.getElem_mem hlt2)
        have HEQ := Lib.hid (enc_take hlt2)
        by_cases ht0 : 0 < l[k].2
        · obtain ⟨hq1, hq2⟩ := HUP.out.one hlt2 HO.out ht0
          have HU2 := Lib.hid hq1
          have hpz : (putO l[k].2 l[k].1).size ≤ 300 := by rw [hq2, F1.enc1_len]; have := hx.2.2.1; split <;> omega
          have hrec : u1.size ≤ 2300 := by have := HSP.out; have := enc_le l k; have := HZ.out; omega
          have HS2 : Hid ((u1 ++ putO l[k].2 l[k].1).size ≤ 4 * min (k + 1) 60 + (encT (l.take (k + 1))).length) := Lib.hid (by rw [ByteArray.size_append, hq2, HEQ.out]; have := HSP.out; omega)
          have PQ := Lib.hid (fun V => rput_any l[k].2 l[k].1 V (by have := hx.2.2.1; omega))
          unfold PutIs at PQ
          have ct := F6.cat_is u1 (putO l[k].2 l[k].1) _ (by omega) (by omega) rfl
          clear hq1 hq2 hpz hrec hx HEQ
          generalize u1 ++ putO l[k].2 l[k].1 = u2 at *
          generalize putO l[k].2 l[k].1 = z at *
          generalize F1.putB l[k].2 l[k].1 = zb at *
          generalize l[k].2 = n at *
          generalize l[k].1 = dd at *
          go_upto_region 16 with fail
          clear c0 c2'
          have HBr := Lib.hid (HR.out.drew)
          refine wp_region_held_drew (S := fun W => Below w4.heap.size w4 W) (by kernel_rfl) HBr.out (fun hS => ?_)
          clear HBr
          generalize World.drew _ = X0 at *
          refine H.tk (i := 0) (v := .slice (some p) l.length tc) ?h0x1b hS ?_
          case h0x1b => exact (fun w hw => by go_simp)
          try simp only [Act.put, List.setIfInBounds_toArray, List.set_cons_zero, List.set_cons_succ]
          refine H.tk (i := 1) (v := .int .i64 (k : Int)) ?h1x2b hS ?_
          case h1x2b => exact (fun w hw => by go_simp)
          try simp only [Act.put, List.setIfInBounds_toArray, List.set_cons_zero, List.set_cons_succ]
          refine H.tk (i := 2) (v := .pointer (some (p.add (k * 3)))) ?h2x3b hS ?_
          case h2x3b => exact (fun w hw => by go_simp)
          try simp only [Act.put, List.setIfInBounds_toArray, List.set_cons_zero, List.set_cons_succ]
          refine H.tk (i := 3) (v := .pointer (some (p.add (k * 3)))) ?h3x4b hS ?_
          case h3x4b => exact (fun w hw => by go_simp)
          try simp only [Act.put, List.setIfInBounds_toArray, List.set_cons_zero, List.set_cons_succ]
          refine H.tk (i := 4) (v := .int .i64 n) ?h4x5b hS ?_
          case h4x5b => exact (fun w hw => by have c := (HA.out _ hw).1; go_simp)
          try simp only [Act.put, List.setIfInBounds_toArray, List.set_cons_zero, List.set_cons_succ]
          refine H.tk (i := 5) (v := .slice (some p) l.length tc) ?h5x6b hS ?_
          case h5x6b => exact (fun w hw => by go_simp)
          try simp only [Act.put, List.setIfInBounds_toArray, List.set_cons_zero, List.set_cons_succ]
          refine H.tk (i := 6) (v := .int .i64 (k : Int)) ?h6x7b hS ?_
          case h6x7b => exact (fun w hw => by go_simp)
          try simp only [Act.put, List.setIfInBounds_toArray, List.set_cons_zero, List.set_cons_succ]
          refine H.tk (i := 7) (v := .pointer (some (p.add (k * 3)))) ?h7x8b hS ?_
          case h7x8b => exact (fun w hw => by go_simp)
          try simp only [Act.put, List.setIfInBounds_toArray, List.set_cons_zero, List.set_cons_succ]
          refine H.tk (i := 8) (v := .pointer (some ⟨(p.add (k * 3)).block, (p.add (k * 3)).off + 2, none⟩)) ?h8x9b hS ?_
          case h8x9b => exact (fun w hw => by go_simp)
          try simp only [Act.put, List.setIfInBounds_toArray, List.set_cons_zero, List.set_cons_succ]
          refine H.tk (i := 9) (v := .string dd) ?h9x10b hS ?_
          case h9x10b => exact (fun w hw => by have c := (HA.out _ hw).2; rw [Tl.add_two] at c; go_simp)
          try simp only [Act.put, List.setIfInBounds_toArray, List.set_cons_zero, List.set_cons_succ]
          refine H.one (i := 10) (by simp only [List.getElem?_toArray, List.getElem?_cons_succ, List.getElem?_cons_zero]; rfl) (by kernel_rfl) (by kernel_rfl) (fun K hK => ?_)
          go_simp
          refine (PQ.out _).mono ?_
          rintro e X1 ⟨rfl, hb⟩
          refine hK.out _ _ (bcall hS hb) ?_
          clear hK K
          have hS' := bcall hS hb
          clear hS hb
          have hS := hS'
          clear hS'
          try simp only [Act.put, List.setIfInBounds_toArray, List.set_cons_zero, List.set_cons_succ]
          refine H.tk (i := 11) (v := .tuple #[.string z, .bool zb]) ?h11x11b hS ?_
          case h11x11b => exact (fun w hw => by go_simp)
          try simp only [Act.put, List.setIfInBounds_toArray, List.set_cons_zero, List.set_cons_succ]
          refine H.tk (i := 12) (v := .string z) ?h12x12b hS ?_
          case h12x12b => exact (fun w hw => by go_simp)
          try simp only [Act.put, List.setIfInBounds_toArray, List.set_cons_zero, List.set_cons_succ]
          refine H.tk (i := 13) (v := .bool zb) ?h13x13b hS ?_
          case h13x13b => exact (fun w hw => by go_simp)
          try simp only [Act.put, List.setIfInBounds_toArray, List.set_cons_zero, List.set_cons_succ]
          refine H.tk (i := 14) (v := .string z) ?h14x14b hS ?_
          case h14x14b => exact (fun w hw => by go_simp)
          try simp only [Act.put, List.setIfInBounds_toArray, List.set_cons_zero, List.set_cons_succ]
          refine H.tk (i := 15) (v := .bool zb) ?h15x15b hS ?_
          case h15x15b => exact (fun w hw => by go_simp)
          try simp only [Act.put, List.setIfInBounds_toArray, List.set_cons_zero, List.set_cons_succ]
          refine wpAnyH_done (by kernel_rfl) ?_ _
          have HR := Lib.hid hS
          clear hS PQ HA ix
          go_wp2
          go_roundw
          case rel => exact ⟨k + 1, u2, by omega, by go_num, rfl, HU2, HS2, HR⟩
          case measure => simp [intOf]; omega
        · have h0 : l[k].2 = 0 := by have := hx.1; omega
          have HU2 := Lib.hid (HUP.out.skip hlt2 h0)
          have HS2 : Hid (u1.size ≤ 4 * min (k + 1) 60 + (encT (l.take (k + 1))).length) := Lib.hid (by rw [HEQ.out]; have := HSP.out; omega)
          rw [h0] at c0
          clear hx HEQ ht0 h0 c2'
          go_wp2
          go_roundw
          case rel => exact ⟨k + 1, u1, by omega, by go_num, rfl, HU2, HS2, HR⟩
          case measure => simp [intOf]; omega
      · have HU2 := Lib.hid (HUP.out.fin (show l.length ≤ k by omega))
        have HS2 : Hid (u1.size ≤ 4 * min (k + 1) 60 + (encT (l.take (k + 1))).length) := Lib.hid (by rw [show (encT (l.take (k + 1))).length = (encT (l.take k)).length by rw [List.take_of_length_le (by omega), List.take_of_length_le (by omega)]]; have := HSP.out; omega)
        go_wp2
        go_roundw
        case rel => exact ⟨k + 1, u1, by omega, by go_num, rfl, HU2, HS2, HR⟩
        case measure => simp [intOf]; omega
    · have HSP : Hid (u.size ≤ 4 * min (k + 1) 60 + (encT (l.take k)).length) := Lib.hid (by have := HSZ.out; omega)
      by_cases hlt2 : k < l.length
      · obtain ⟨p, rfl, hat⟩ := HPX.out k hlt2
        have HA := Lib.hid hat
        have ix := fun W => indexT p l.length tc k hlt2 W
        obtain ⟨c0, c2⟩ := hat _ HR.out
        have c2' := c2
        clear c2 hat
        have hx := HO.out _ (List.getElem_mem hlt2)
        have HEQ := Lib.hid (enc_take hlt2)
        by_cases ht0 : 0 < l[k].2
        · obtain ⟨hq1, hq2⟩ := HU.out.one hlt2 HO.out ht0
          have HU2 := Lib.hid hq1
          have hpz : (putO l[k].2 l[k].1).size ≤ 300 := by rw [hq2, F1.enc1_len]; have := hx.2.2.1; split <;> omega
          have hrec : u.size ≤ 2300 := by have := HSP.out; have := enc_le l k; have := HZ.out; omega
          have HS2 : Hid ((u ++ putO l[k].2 l[k].1).size ≤ 4 * min (k + 1) 60 + (encT (l.take (k + 1))).length) := Lib.hid (by rw [ByteArray.size_append, hq2, HEQ.out]; have := HSP.out; omega)
          have PQ := Lib.hid (fun V => rput_any l[k].2 l[k].1 V (by have := hx.2.2.1; omega))
          unfold PutIs at PQ
          have ct := F6.cat_is u (putO l[k].2 l[k].1) _ (by omega) (by omega) rfl
          clear hq1 hq2 hpz hrec hx HEQ
          generalize u ++ putO l[k].2 l[k].1 = u2 at *
          generalize putO l[k].2 l[k].1 = z at *
          generalize F1.putB l[k].2 l[k].1 = zb at *
          generalize l[k].2 = n at *
          generalize l[k].1 = dd at *
          go_upto_region 16 with fail
          clear c0 c2'
          have HBr := Lib.hid (HR.out.drew)
          refine wp_region_held_drew (S := fun W => Below w4.heap.size w4 W) (by kernel_rfl) HBr.out (fun hS => ?_)
          clear HBr
          generalize World.drew _ = X0 at *
          refine H.tk (i := 0) (v := .slice (some p) l.length tc) ?h0x1c hS ?_
          case h0x1c => exact (fun w hw => by go_simp)
          try simp only [Act.put, List.setIfInBounds_toArray, List.set_cons_zero, List.set_cons_succ]
          refine H.tk (i := 1) (v := .int .i64 (k : Int)) ?h1x2c hS ?_
          case h1x2c => exact (fun w hw => by go_simp)
          try simp only [Act.put, List.setIfInBounds_toArray, List.set_cons_zero, List.set_cons_succ]
          refine H.tk (i := 2) (v := .pointer (some (p.add (k * 3)))) ?h2x3c hS ?_
          case h2x3c => exact (fun w hw => by go_simp)
          try simp only [Act.put, List.setIfInBounds_toArray, List.set_cons_zero, List.set_cons_succ]
          refine H.tk (i := 3) (v := .pointer (some (p.add (k * 3)))) ?h3x4c hS ?_
          case h3x4c => exact (fun w hw => by go_simp)
          try simp only [Act.put, List.setIfInBounds_toArray, List.set_cons_zero, List.set_cons_succ]
          refine H.tk (i := 4) (v := .int .i64 n) ?h4x5c hS ?_
          case h4x5c => exact (fun w hw => by have c := (HA.out _ hw).1; go_simp)
          try simp only [Act.put, List.setIfInBounds_toArray, List.set_cons_zero, List.set_cons_succ]
          refine H.tk (i := 5) (v := .slice (some p) l.length tc) ?h5x6c hS ?_
          case h5x6c => exact (fun w hw => by go_simp)
          try simp only [Act.put, List.setIfInBounds_toArray, List.set_cons_zero, List.set_cons_succ]
          refine H.tk (i := 6) (v := .int .i64 (k : Int)) ?h6x7c hS ?_
          case h6x7c => exact (fun w hw => by go_simp)
          try simp only [Act.put, List.setIfInBounds_toArray, List.set_cons_zero, List.set_cons_succ]
          refine H.tk (i := 7) (v := .pointer (some (p.add (k * 3)))) ?h7x8c hS ?_
          case h7x8c => exact (fun w hw => by go_simp)
          try simp only [Act.put, List.setIfInBounds_toArray, List.set_cons_zero, List.set_cons_succ]
          refine H.tk (i := 8) (v := .pointer (some ⟨(p.add (k * 3)).block, (p.add (k * 3)).off + 2, none⟩)) ?h8x9c hS ?_
          case h8x9c => exact (fun w hw => by go_simp)
          try simp only [Act.put, List.setIfInBounds_toArray, List.set_cons_zero, List.set_cons_succ]
          refine H.tk (i := 9) (v := .string dd) ?h9x10c hS ?_
          case h9x10c => exact (fun w hw => by have c := (HA.out _ hw).2; rw [Tl.add_two] at c; go_simp)
          try simp only [Act.put, List.setIfInBounds_toArray, List.set_cons_zero, List.set_cons_succ]
          refine H.one (i := 10) (by simp only [List.getElem?_toArray, List.getElem?_cons_succ, List.getElem?_cons_zero]; rfl) (by kernel_rfl) (by kernel_rfl) (fun K hK => ?_)
          go_simp
          refine (PQ.out _).mono ?_
          rintro e X1 ⟨rfl, hb⟩
          refine hK.out _ _ (bcall hS hb) ?_
          clear hK K
          have hS' := bcall hS hb
          clear hS hb
          have hS := hS'
          clear hS'
          try simp only [Act.put, List.setIfInBounds_toArray, List.set_cons_zero, List.set_cons_succ]
          refine H.tk (i := 11) (v := .tuple #[.string z, .bool zb]) ?h11x11c hS ?_
          case h11x11c => exact (fun w hw => by go_simp)
          try simp only [Act.put, List.setIfInBounds_toArray, List.set_cons_zero, List.set_cons_succ]
          refine H.tk (i := 12) (v := .string z) ?h12x12c hS ?_
          case h12x12c => exact (fun w hw => by go_simp)
          try simp only [Act.put, List.setIfInBounds_toArray, List.set_cons_zero, List.set_cons_succ]
          refine H.tk (i := 13) (v := .bool zb) ?h13x13c hS ?_
          case h13x13c => exact (fun w hw => by go_simp)
          try simp only [Act.put, List.setIfInBounds_toArray, List.set_cons_zero, List.set_cons_succ]
          refine H.tk (i := 14) (v := .string z) ?h14x14c hS ?_
          case h14x14c => exact (fun w hw => by go_simp)
          try simp only [Act.put, List.setIfInBounds_toArray, List.set_cons_zero, List.set_cons_succ]
          refine H.tk (i := 15) (v := .bool zb) ?h15x15c hS ?_
          case h15x15c => exact (fun w hw => by go_simp)
          try simp only [Act.put, List.setIfInBounds_toArray, List.set_cons_zero, List.set_cons_succ]
          refine wpAnyH_done (by kernel_rfl) ?_ _
          have HR := Lib.hid hS
          clear hS PQ HA ix
          go_wp2
          go_roundw
          case rel => exact ⟨k + 1, u2, by omega, by go_num, rfl, HU2, HS2, HR⟩
          case measure => simp [intOf]; omega
        · have h0 : l[k].2 = 0 := by have := hx.1; omega
          have HU2 := Lib.hid (HU.out.skip hlt2 h0)
          have HS2 : Hid (u.size ≤ 4 * min (k + 1) 60 + (encT (l.take (k + 1))).length) := Lib.hid (by rw [HEQ.out]; have := HSP.out; omega)
          rw [h0] at c0
          clear hx HEQ ht0 h0 c2'
          go_wp2
          go_roundw
          case rel => exact ⟨k + 1, u, by omega, by go_num, rfl, HU2, HS2, HR⟩
          case measure => simp [intOf]; omega
      · have HU2 := Lib.hid (HU.out.fin (show l.length ≤ k by omega))
        have HS2 : Hid (u.size ≤ 4 * min (k + 1) 60 + (encT (l.take (k + 1))).length) := Lib.hid (by rw [show (encT (l.take (k + 1))).length = (encT (l.take k)).length by rw [List.take_of_length_le (by omega), List.take_of_length_le (by omega)]]; have := HSP.out; omega)
        go_wp2
        go_roundw
        case rel => exact ⟨k + 1, u, by omega, by go_num, rfl, HU2, HS2, HR⟩
        case measure => simp [intOf]; omega

theorem own : ownKnob Tryd.prog.godebug = none := by kernel_rfl

set_option maxRecDepth 100000 in
theorem lifted (os : Os) (started : os.Started) (H : Type) (enc : TypeId × Value → H) :
    ReturnsInHanded {} Tryd.checked os 3 .any (fun w args => (Rows.intakePadsSpec.pre enc Tryd.prog Tryd.f3 Rows.intakePadsRow.domain false w args ∧ laidMetH Tryd.prog Rows.intakePadsRow.laid w) ∧ sizedMet enc Tryd.prog Tryd.f3 (OpenSpec.ofChange Rows.intakePadsSpec) false w args)
      (Rows.intakePadsSpec.post enc Tryd.prog Tryd.f3 false true false false) := by
  refine returnsInHanded_of_change_and (C := Tryd.checked) (X := fun w _ => laidMetH Tryd.prog Rows.intakePadsRow.laid w) (fun _ _ _ hh h => h.of_heap hh) own started (by kernel_rfl) Tryd.func3
    (ChangeSpec.witness_shaped (enc := enc) (C := Tryd.checked) (os := os) (X := fun w _ => laidMetH Tryd.prog Rows.intakePadsRow.laid w) false (World.laidAll Tryd.prog os Rows.intakePadsRow.laid) #[.string ByteArray.empty, .slice none 0 0, .string ByteArray.empty] 8 (World.laidAll_os _ _ _)
      (World.shaped_of_ZipB (by kernel_rfl) (by kernel_rfl)) (by kernel_rfl) (by kernel_rfl) (by kernel_rfl)
      (by rw [MakeChecks.laidMetH_plain _ _ _ (by kernel_rfl)]; exact laidMet_laidAll _ (by kernel_rfl) (by kernel_rfl))) ?_
  intro W base args ds gs before hval0 hW _ _ hL0 _
  have hMet := of_laid hL0
  have hval : ∀ (j : Nat) t v, Tryd.f3.params[j]? = some t → args[j]? = some v → Value.okWide Tryd.prog W .any base t v := hval0
  have hW' := hW
  have hlt := fun x hx => hW'.lt x hx
  obtain ⟨p, q, hA0, hV, rfl, hfz, hnd⟩ := hW
  have hA : DataW.TrodAll enc Tryd.prog W 0 (fun _ => true) true Tryd.f3.params.toList args.toList ds p := hA0
  rw [Tryd.params3] at hA hval
  obtain ⟨v0, vs0, d0, ds0, p0, q0, hargs, rfl, rfl, h0, r0⟩ := trodAll_cons hA
  obtain ⟨v1, vs1, d1, ds1, p1, q1, rfl, rfl, rfl, h1, r1⟩ := trodAll_cons r0
  obtain ⟨v2, vs2, d2, ds2, p2, q2, rfl, rfl, rfl, h2, r2⟩ := trodAll_cons r1
  obtain ⟨rfl, rfl, rfl⟩ := trodAll_nil r2
  obtain rfl : args = #[v0, v1, v2] := by cases args; simp_all
  obtain ⟨rfl, rfl⟩ := trodVars_none hV
  have k0 := h0
  obtain ⟨b, rfl, rfl, rfl, hz⟩ := open_string Tryd.underlying9 (hval 0 9 v0 rfl rfl) k0
  obtain ⟨pa, pl, pc, rfl, hm⟩ := by_bytes (hval 1 22 v1 rfl rfl) h1
  have k2 := h2
  obtain ⟨d, rfl, rfl, rfl, hy⟩ := open_string Tryd.underlying9 (hval 2 9 v2 rfl rfl) k2
  clear hA0 hval0
  simp only [List.append_nil] at hW' hlt
  refine (walk b pa pl pc d W hz hm hy hMet).mono fun e W' ⟨he, hg⟩ => ?_
  subst he
  exact ⟨_, rfl, _, _, _, [], _, [], hW', trodAll_mk1 (shut_bool Tryd.underlying4 _), (trodAll_cons_mk (again (by kernel_rfl) (of_decide_eq_true (by kernel_rfl)) h0 hg fun x hx => hlt x (by first | exact absurd hx (by simp) | simp [hx])) (trodAll_cons_mk (again (by kernel_rfl) (of_decide_eq_true (by kernel_rfl)) h1 hg fun x hx => hlt x (by first | exact absurd hx (by simp) | simp [hx])) (trodAll_cons_mk (again (by kernel_rfl) (of_decide_eq_true (by kernel_rfl)) h2 hg fun x hx => hlt x (by first | exact absurd hx (by simp) | simp [hx])) trodAll_mk0))), rfl, hg.frame _, fun h => by cases h⟩

theorem over : Rows.IntakePadsSaid :=
  OpenClaim.holds_of_wide 3 Tryd.f3 rfl rfl rfl rfl rfl rfl rfl ⟨rfl, rfl, rfl, rfl, rfl⟩ rfl rfl rfl rfl rfl (by kernel_rfl) Tryd.func3 (by kernel_rfl)
    (of_decide_eq_true (by kernel_rfl)) (by unfold Func.isWrapper; first | (rw [if_pos (by decide +kernel)]; kernel_rfl) | (rw [if_neg (by decide +kernel)]; exact ⟨rfl, rfl⟩))
    (fun os started H enc _ => lifted os started H enc)

theorem proved : Rows.IntakePadsCardSaid :=
  Claim7.holds_tied_plain_at .later [] _ true _ _
    over (fun _ h => by cases h) (by kernel_rfl) (fun _ h => by cases h) intakePads_row_tie rfl ⟨rfl, rfl⟩ (by kernel_rfl) rfl
    (fun f fn hf hfn => by
      obtain rfl : f = 3 := Option.some.inj ((show Tryd.prog.funcNamed "roadbook/roadbooklaw23.IntakePads" = some 3 by kernel_rfl).symm.trans hf) |>.symm
      obtain rfl : fn = Tryd.f3 := (Option.some.inj (Tryd.func3.symm.trans hfn)).symm
      exact ⟨by kernel_rfl, fun j t ht => by
        rw [Tryd.params3] at ht
        have hm : t ∈ [9, 22, 9] := by simpa using Array.mem_of_getElem? ht
        have hall : ([9, 22, 9].all fun u => !Tryd.prog.wantsStandIn u) = true := by kernel_rfl
        exact (show Tryd.prog.wantsStandIn t = false by simpa using List.all_eq_true.1 hall t hm)⟩)
    (by kernel_rfl)
#print axioms proved
end Go.Proofs.YtpkmpinbpfblfaaDoor.intakePads
