/-
  A part of a proof. No conditions.
-/
import Derived.Test.YtllhobicfclheaaGreatDoorY31
namespace Go.Proofs.YtllhobicfclheaaGreatDoor
open Go.ChangeShapes Go.WideShapes Go.ChangeAt Go.RowKit
set_option linter.unusedVariables false
set_option maxRecDepth 100000
set_option maxHeartbeats 51200000
namespace F6
open F1 F2 Nu
open Oct (fitsB e0b pw be a0e)
open Bk (Bk)
theorem b0s (c d:UInt8)(w:World):(convert 96 9 (.slice (some ⟨w.heap.size,0,none⟩) 2 2)).run Tryz.prog (w.alloc (.cells #[.int .u8 (c.toNat:Int),.int .u8 (d.toNat:Int)] 5)) = .ok (.string ⟨#[c,d]⟩) (w.alloc (.cells #[.int .u8 (c.toNat:Int),.int .u8 (d.toNat:Int)] 5)):=by
 have h:=World.ownsRow_lit (base:=w.heap.size) (e:=5) (size:=1) w #[.int .u8 (c.toNat:Int),.int .u8 (d.toNat:Int)] 2 (Nat.le_refl _) (by unfold maxLen;omega) rfl
 exact a0e _ _ 2 _ [c,d] 2 rfl h
theorem y0d (a b c:ByteArray)(ha:a.size≤2000000)(hb:b.size≤2000000)(e:a++b=c)(W:World):(Op.stringOp .add a b).run Tryz.prog W = .ok (.string c) W:=by
 subst e
 rw[run_string_add_sum W _ _ (by show a.size+b.size≤_;omega)]
theorem b0x (t:Int):∃ (a:ByteArray) (k:Bool),(k=true↔0≤t∧t≤255)∧(k=true→a=⟨#[UInt8.ofNat t.toNat]⟩)∧
    ∀ V,Calls Tryz.prog 195 #[.int .i64 t,.int .i64 1] V fun e w'=>e = .returned (.tuple #[.string a,.bool k])∧Below V.heap.size V w':=by
 refine⟨⟨(layN t 1).toArray⟩,fitsB t (1:Nat),?_,?_,fun V=>s0c t 1 1 rfl (by omega) (by omega) V⟩
 · rw[e0b]
   show 1≤((1:Nat):Int)∧((1:Nat):Int)≤7∧0≤t∧t<((256 ^ 1:Nat):Int)↔_
   omega
 · intro h;unfold layN;rw[if_pos h]
   show(⟨#[UInt8.ofNat (t.toNat / 256 ^ 0)]⟩:ByteArray)=_
   rw[Nat.pow_zero,Nat.div_one]
def PutIs (t:Int)(d:ByteArray)(w:World)(e:Ending)(w':World):Prop:=e = .returned (.tuple #[.string (putO t d),.bool (putB t d)])∧Below w.heap.size w w'
theorem PutIs.no {t:Int}{d:ByteArray}{w w':World}(h:putB t d=false)(hb:Below w.heap.size w w'):PutIs t d w (.returned (.tuple #[.string ⟨#[]⟩,.bool false])) w':=by
 have:putO t d=⟨#[]⟩:=by unfold putO;rw[h];rfl
 exact⟨by rw[this,h],hb⟩
theorem PutIs.yes {t:Int}{d z:ByteArray}{w w':World}(h:putB t d=true)(hz:z=putO t d)(hb:Below w.heap.size w w'):PutIs t d w (.returned (.tuple #[.string z,.bool true])) w':=⟨by rw[hz,h],hb⟩
theorem n1l {t:Int}{d:ByteArray}(h:putB t d=true):((⟨#[UInt8.ofNat t.toNat]⟩:ByteArray)++⟨#[UInt8.ofNat d.size]⟩)++d=putO t d:=by
 unfold putO;rw[if_pos h]
 exact ByteArray.ext (by simp[ByteArray.data_append])
theorem c0b (t:Int)(d:ByteArray)(w:World)(hs:d.size≤1048576):Calls Tryz.prog 335 #[.int .i64 t,.string d] w (PutIs t d w):=by
 obtain⟨a,k1,ka,ea,n1⟩:=b0x t;obtain⟨b,k2,kb,eb,n2⟩:=b0x (d.size:Int);have P1:=Lib.hid n1;have P2:=Lib.hid n2
 have hds:(d.size:Int)≤1048576:=by omega
 clear n1 n2;by_cases h0:t=0
 · have HF:=Lib.hid (show putB t d=false by unfold putB;simp[h0])
   subst h0;clear hs ka ea kb eb;go_in;refine' qzh;refine' qz76;clear hb P1;refine' qzt;refine' qz50;clear hb P2;refine' qz2w;exact PutIs.no HF.out HB.out
 cases k1 with
 | false=>
  have HF:Hid (putB t d=false):=Lib.hid (by
   have h1:¬(0≤t∧t≤255):=fun h=>by simpa using ka.2 h
   unfold putB;simp only[Bool.and_eq_false_iff,decide_eq_false_iff_not];left
   omega)
  clear hs ka ea kb eb;go_in;refine' qzh;refine' qz76;clear hb P1;refine' qzt;refine' qz50;clear hb P2;refine' qz2w;exact PutIs.no HF.out HB.out
 | true=>
 cases k2 with
 | false=>
  have HF:Hid (putB t d=false):=Lib.hid (by
   have h1:¬(0≤(d.size:Int)∧(d.size:Int)≤255):=fun h=>by simpa using kb.2 h
   unfold putB;simp only[Bool.and_eq_false_iff,decide_eq_false_iff_not];right
   omega)
  clear hs ka ea kb eb;go_in;refine' qzh;refine' qz76;clear hb P1;refine' qzt;refine' qz50;clear hb P2;refine' qz2w;exact PutIs.no HF.out HB.out
 | true=>
 have g1:=ka.1 rfl;have g2:=(kb.1 rfl).2
 have HF:Hid (putB t d=true):=Lib.hid (by
  unfold putB;simp
  omega)
 have ha:a.size=1:=by rw[ea rfl];rfl
 have hb1:b.size=1:=by rw[eb rfl];rfl
 have HZ:Hid ((a++b)++d=putO t d):=Lib.hid (by
  rw[←n1l HF.out,ea rfl,eb rfl,Int.toNat_natCast])
 have c2:=y0d _ d _ (by rw[ByteArray.size_append];omega) (by omega) HZ.out
 have c1:=y0d a b _ (by omega) (by omega) rfl
 have hab:(a++b).size=2:=by rw[ByteArray.size_append];omega
 have HZ2:Hid (∃ z,putO t d=z):=Lib.hid ⟨_,rfl⟩;clear hs ka ea kb eb;generalize a++b=ab at *;obtain⟨z,hz⟩:=HZ2.out;rw[hz]at c2;clear HZ HZ2;have HZ:=Lib.hid hz.symm;clear hz;go_in;refine' qzh;refine' qz76;clear hb P1;refine' qzt;refine' qz50;clear hb P2;refine' qz2w;exact PutIs.yes HF.out HZ.out HB.out
def WrapIs (s:ByteArray)(w:World)(e:Ending)(w':World):Prop:=e = .returned (.tuple #[.string (wrap s),.bool (decide (s.size≤65531))])∧Below w.heap.size w w'
theorem WrapIs.no {s:ByteArray}{w w':World}(h:¬s.size≤65531)(hb:Below w.heap.size w w'):WrapIs s w (.returned (.tuple #[.string ⟨#[]⟩,.bool false])) w':=by
 have:wrap s=⟨#[]⟩:=by unfold wrap;rw[if_neg h]
 exact⟨by rw[this,decide_eq_false h],hb⟩
theorem WrapIs.yes {s z:ByteArray}{w w':World}(h:s.size≤65531)(hz:z=wrap s)(hb:Below w.heap.size w w'):WrapIs s w (.returned (.tuple #[.string z,.bool true])) w':=⟨by rw[hz,decide_eq_true h],hb⟩
theorem q1h {s:ByteArray}(h:s.size≤65531):((⟨#[42,2]⟩:ByteArray)++⟨(layN (s.size:Int) 2).toArray⟩)++s=wrap s:=by
 unfold wrap wrapL;rw[if_pos h]
 exact ByteArray.ext (by simp[ByteArray.data_append])
theorem m1j (s:ByteArray)(w:World)(hs:s.size≤1048576):Calls Tryz.prog 113 #[.string s] w (WrapIs s w):=by
 by_cases h:s.size≤65531;rotate_left
 · have hb:(65531:Int)<s.size:=by omega
   have hb2:(s.size:Int)≤1048576:=by omega
   have HF:=Lib.hid h;clear h hs;go_in;refine' qz2w;exact WrapIs.no HF.out (Below.refl _ _)
 have HF:=Lib.hid h
 have P2:=Lib.hid (fun V=>s0c (s.size:Int) 2 2 rfl (by omega) (by omega) V)
 have hb:(s.size:Int)≤65531:=by omega
 have hz2:(⟨(layN (s.size:Int) 2).toArray⟩:ByteArray).size≤2:=by
  show(layN (s.size:Int) 2).toArray.size≤2
  rw[List.size_toArray];exact i0a _ _
 have c2:=y0d _ s _ (by rw[ByteArray.size_append];show 2+_≤2000000;omega) (by omega) (q1h h)
 have c1:=y0d (⟨#[42,2]⟩:ByteArray) ⟨(layN (s.size:Int) 2).toArray⟩ _ (by show 2≤2000000;omega) (by omega) rfl
 have cv:∀ W:World,(convert 96 9 (.slice (some ⟨W.heap.size,0,none⟩) 2 2)).run Tryz.prog (W.alloc (.cells #[.int .u8 42,.int .u8 2] 5)) = .ok (.string ⟨#[42,2]⟩) (W.alloc (.cells #[.int .u8 42,.int .u8 2] 5)):=fun W=>b0s 42 2 W
 clear h hs;generalize ((⟨#[42,2]⟩:ByteArray)++⟨(layN (s.size:Int) 2).toArray⟩)=ab at *;generalize (⟨(layN (s.size:Int) 2).toArray⟩:ByteArray)=b at *;generalize fitsB (s.size:Int) 2=k at *;generalize hz:wrap s=z at *;have HZ:=Lib.hid hz.symm;clear hz;go_in;refine' qzt;refine' qz4b;refine' qz4n;clear hb P2;refine' qz2w;exact WrapIs.yes HF.out HZ.out (balloc HB.out _)
end F6
namespace L4
open Ms Box An
open Lk (link z0f shA d0m i0d)
open Nu (layN i0a s0c k0a n0a)
open J1 (baseN cutP f0g c0a d0c)
open K1 (famA fam)
open S1 (putS)
open L1
open F1 (enc1 ok1 w0e putO)
open F6 (y0d PutIs)
open F2 (sl_l)
open Hs Hy
theorem n0d {a b:ByteArray}(h:a=b):Ending.returned (.string a) = .returned (.string b):=by rw[h]
theorem u0b (v:Int)(n:Nat)(ni:Int)(hni:ni=n)(h1:1≤n)(h7:n≤7)(w:World):Calls Tryz.prog 363 #[.int .i64 v,.int .i64 ni] w fun e w'=>e = .returned (.string ⟨(layN v n).toArray⟩)∧Below w.heap.size w w':=by
 have P1:=Lib.hid (fun V=>s0c v n ni hni h1 h7 V)
 clear hni h1 h7;generalize (⟨(layN v n).toArray⟩:ByteArray)=s at *;go_in;refine' qzh;rintro r w' ⟨rfl,hb⟩;refine' qzj;exact⟨rfl,hb⟩
def stB (ae:Int)(s:ByteArray):ByteArray:=⟨(s.data.toList.drop (baseN ae)).toArray⟩
theorem a0z {ae:Int}{s:ByteArray}(h:¬ae=3):stB ae s=s:=by
 unfold stB baseN;rw[if_neg h];exact k0a rfl
theorem l1c {s:ByteArray}:stB 3 s=s.extract 8 s.size:=k0a (by rw[f0g];rfl)
theorem r1i {s:ByteArray}(h:s.size≤8):stB 3 s=s.extract s.size s.size:=k0a (by
  rw[f0g]
  show s.data.toList.drop 8=_
  rw[List.drop_of_length_le (by rw[c0a];exact h),List.drop_of_length_le (by rw[c0a];exact Nat.le_refl _)])
theorem f0o (ae:Int)(s:ByteArray)(w:World):Calls Tryz.prog 351 #[.int .i64 ae,.string s] w fun e w'=>e = .returned (.string (stB ae s))∧w=w':=by
 by_cases h:ae=3;rotate_left
 · have e3:(ae != 3)=true:=by simpa using h
   rw[a0z h];clear h;refine' qz93
 subst h;by_cases h8:8≤s.size
 · have cut:=sl_l s 8 8 s.size rfl h8 rfl;rw[l1c];generalize hz:s.extract 8 s.size=z at *
   have hm:min (8:Int) (s.size:Int)=8:=by omega
   have hx:max (8:Int) (s.size:Int)=s.size:=by omega
   clear hz;refine' qz93
 · have cut:=sl_l s (s.size:Int) s.size s.size rfl (Nat.le_refl _) rfl
   rw[r1i (by omega)]
   generalize hz:s.extract s.size s.size=z at *
   have hm:min (8:Int) (s.size:Int)=s.size:=by omega
   clear hz;refine' qz93
theorem s1p (a:ByteArray):stB (hopE a) a=hopS a:=by
 unfold hopE hopS;by_cases h4:a.size=4
 · rw[if_pos h4,if_pos h4];exact a0z (by decide)
 rw[if_neg h4,if_neg h4];by_cases hl:link a=true
 · rw[if_pos hl,if_pos hl,d0m hl];exact l1c
 · rw[if_neg hl,if_neg hl];exact a0z (by decide)
theorem r1q (a:ByteArray)(w:World)(h:a.size=8):Calls Tryz.prog 349 #[.string a] w fun e w'=>e = .returned (.string ⟨(enc1 (idD a,6)).toArray⟩)∧Below w.heap.size w w':=by
 have P1:=Lib.hid (fun V=>Oct.y0e 2 V (by decide))
 have hc:=y0d ⟨(List.replicate 2 (0:UInt8)).toArray⟩ a (idD a) (by decide) (by omega) (k0a (by simp[ByteArray.data_append,idD]))
 obtain⟨ho,hz⟩:=L2.g1h h
 have hp:=(w0e ho (show ¬(6:Int)=0 by decide)).2
 have P2:=Lib.hid (fun V=>F6.c0b 6 (idD a) V (by omega))
 unfold PutIs at P2
 rw[show putO 6 (idD a)=_ from hp]at P2
 clear h hp ho hz;generalize (⟨(enc1 (idD a,6)).toArray⟩:ByteArray)=u at *;generalize idD a=d at *;generalize F1.putB 6 d=y at *;generalize (⟨(List.replicate 2 (0:UInt8)).toArray⟩:ByteArray)=z at *;go_in;refine' qzh;refine' qzbk;clear hb;refine' qzt;rintro r w2 ⟨rfl,hb⟩;refine' qz63;refine' qz7g
theorem b1n (a:ByteArray)(w:World):Calls Tryz.prog 362 #[.string a] w fun e w'=>e = .returned (.int .i64 (hopE a))∧w=w':=by
 have P1:=Lib.hid (fun V=>K2.x0v a V)
 have P2:=Lib.hid (fun V=>z0f a V)
 by_cases h4:a.size=4
 · have hk:=Lib.hid (show hopE a=1 by unfold hopE;rw[if_pos h4])
   have e0:famA a=0:=by unfold famA;rw[if_pos h4]
   rw[e0]at P1;clear h4 e0;go_in;refine' qzh;rintro r w1 ⟨rfl,rfl⟩;refine' qzj
   exact⟨by rw[hk.out];rfl,rfl⟩
 have e0:(famA a==0)=false:=by unfold famA;rw[if_neg h4];split<;>rfl
 have hk:hopE a=if link a=true then 3 else 2:=by unfold hopE;rw[if_neg h4]
 have HK:=Lib.hid hk;clear h4 hk;generalize famA a=f at *;cases hl:link a
 · rw[hl]at P2 HK;clear hl;go_in;refine' qzh;rintro r w1 ⟨rfl,rfl⟩;refine' qzt;rintro r w1 ⟨rfl,rfl⟩;refine' qzj
   exact⟨by rw[HK.out];rfl,rfl⟩
 · rw[hl]at P2 HK;clear hl;go_in;refine' qzh;rintro r w1 ⟨rfl,rfl⟩;refine' qzt;rintro r w1 ⟨rfl,rfl⟩;refine' qzj
   exact⟨by rw[HK.out];rfl,rfl⟩
theorem z0o (a:ByteArray)(w:World)(h:a.size=4∨a.size=16):Calls Tryz.prog 350 #[.string a] w fun e w'=>e = .returned (.string ⟨(enc1 (hopD a,7)).toArray⟩)∧Below w.heap.size w w':=by
 obtain⟨h1,h3,hs,_,_⟩:=w0n h;have hzd:=(L1.f0h h).2
 have P1:=Lib.hid (fun V=>b1n a V)
 have P2:=Lib.hid (fun V=>u0b (hopE a) 1 1 rfl (by decide) (by decide) V)
 have P3:=Lib.hid (fun V=>Oct.y0e 1 V (by decide))
 have P4:=Lib.hid (fun V=>f0o (hopE a) a V)
 rw[s1p]at P4;have ho:=L2.g0r h
 have hp:=(w0e ho (show ¬(7:Int)=0 by decide)).2
 have P5:=Lib.hid (fun V=>F6.c0b 7 (hopD a) V (by omega))
 unfold PutIs at P5
 rw[show putO 7 (hopD a)=_ from hp]at P5
 have hl:=i0a (hopE a) 1
 have hz1:(⟨(layN (hopE a) 1).toArray⟩:ByteArray).size≤1:=by rw[d0c];exact hl
 have hzs:(hopS a).size≤16:=by rw[hs];unfold K1.sizeA;split<;>(try split)<;>(try split)<;>omega
 have hd:(⟨(layN (hopE a) 1).toArray⟩:ByteArray)++⟨(List.replicate 1 (0:UInt8)).toArray⟩++hopS a=hopD a:=k0a (by simp[ByteArray.data_append,hopD])
 have hz:(⟨(List.replicate 1 (0:UInt8)).toArray⟩:ByteArray).size=1:=rfl;generalize (⟨(layN (hopE a) 1).toArray⟩:ByteArray)=u1 at *;generalize (⟨(List.replicate 1 (0:UInt8)).toArray⟩:ByteArray)=u2 at *
 have c1:=y0d u1 u2 _ (by omega) (by omega) rfl
 have hz12:(u1++u2).size≤2:=by rw[ByteArray.size_append];omega
 generalize u1++u2=u3 at *
 have c2:=y0d u3 (hopS a) _ (by omega) (by omega) hd
 clear h h1 h3 hs hzd hp ho hl hz1 hzs hd hz hz12;generalize (⟨(enc1 (hopD a,7)).toArray⟩:ByteArray)=u at *;generalize hopD a=d at *;generalize hopE a=ae at *;generalize hopS a=sa at *;generalize F1.putB 7 d=y at *;go_in;refine' qzh;rintro r w1 ⟨rfl,rfl⟩;refine' qzt;refine' qzbk;clear hb;refine' qz25;rintro r w2 ⟨rfl,hb⟩;refine' qz63;refine' qz8x;rintro r w3 ⟨rfl,rfl⟩;refine' qzg;refine(P5.out _).mono ?_;rintro r w4 ⟨rfl,hb⟩;refine' qz63;refine' qz7g
def hdU (m:M)(n:Int):ByteArray:=⟨(layN m.ae 1++(layN (flB m) 1++(layN m.plen 1++(layN n 1++(layN m.interval 2++(layN m.seq 2++layN m.metric 2)))))).toArray⟩
theorem p1l (m:M)(n:Int):(hdU m n).size≤10:=by
 unfold hdU;rw[d0c];simp only[List.length_append];have:=i0a m.ae 1;have:=i0a (flB m) 1;have:=i0a m.plen 1;have:=i0a n 1;have:=i0a m.interval 2;have:=i0a m.seq 2;have:=i0a m.metric 2;omega
theorem i1r (m:M)(n:Nat):hdU m n++⟨((cutP m.ae m.pfx m.plen).data.toList.drop n).toArray⟩++putS m.sl=updD m n:=k0a (by
  unfold hdU updD updL
  simp[ByteArray.data_append])
theorem n0r (v:Int)(n:Nat):(⟨(layN v n).toArray⟩:ByteArray).size≤n:=by rw[d0c];exact i0a v n
theorem q0c (m:M)(n:Int)(w:World)(hm:m.In w):Calls Tryz.prog 354 #[.agg m.cells,.int .i64 n] w fun e w'=>e = .returned (.string (hdU m n))∧Below w.heap.size w w':=by
 refine' qz40
 have Q1:=Lib.hid (fun V=>u0b m.ae 1 1 rfl (by decide) (by decide) V)
 have Q2:=Lib.hid (fun V=>u0b (flB m) 1 1 rfl (by decide) (by decide) V)
 have Q3:=Lib.hid (fun V=>u0b m.plen 1 1 rfl (by decide) (by decide) V)
 have Q4:=Lib.hid (fun V=>u0b n 1 1 rfl (by decide) (by decide) V)
 have Q5:=Lib.hid (fun V=>u0b m.interval 2 2 rfl (by decide) (by decide) V)
 have Q6:=Lib.hid (fun V=>u0b m.seq 2 2 rfl (by decide) (by decide) V)
 have Q7:=Lib.hid (fun V=>u0b m.metric 2 2 rfl (by decide) (by decide) V)
 have HD:=Lib.hid (show(⟨(layN m.ae 1).toArray⟩:ByteArray)++⟨(layN (flB m) 1).toArray⟩++⟨(layN m.plen 1).toArray⟩++⟨(layN n 1).toArray⟩++⟨(layN m.interval 2).toArray⟩++⟨(layN m.seq 2).toArray⟩++⟨(layN m.metric 2).toArray⟩=hdU m n from k0a (by unfold hdU;simp[ByteArray.data_append]))
 have z1:=n0r m.ae 1;generalize (⟨(layN m.ae 1).toArray⟩:ByteArray)=t1 at *;have z2:=n0r (flB m) 1;generalize (⟨(layN (flB m) 1).toArray⟩:ByteArray)=t2 at *;have z3:=n0r m.plen 1;generalize (⟨(layN m.plen 1).toArray⟩:ByteArray)=t3 at *;have z4:=n0r n 1;generalize (⟨(layN n 1).toArray⟩:ByteArray)=t4 at *;have z5:=n0r m.interval 2;generalize (⟨(layN m.interval 2).toArray⟩:ByteArray)=t5 at *;have z6:=n0r m.seq 2;generalize (⟨(layN m.seq 2).toArray⟩:ByteArray)=t6 at *;have z7:=n0r m.metric 2;generalize (⟨(layN m.metric 2).toArray⟩:ByteArray)=t7 at *
 have cat2:=y0d t1 t2 _ (by omega) (by omega) rfl
 have y2:(t1++t2).size≤2:=by rw[ByteArray.size_append];omega
 generalize t1++t2=u2 at *
 have cat3:=y0d u2 t3 _ (by omega) (by omega) rfl
 have y3:(u2++t3).size≤3:=by rw[ByteArray.size_append];omega
 generalize u2++t3=u3 at *
 have cat4:=y0d u3 t4 _ (by omega) (by omega) rfl
 have y4:(u3++t4).size≤4:=by rw[ByteArray.size_append];omega
 generalize u3++t4=u4 at *
 have cat5:=y0d u4 t5 _ (by omega) (by omega) rfl
 have y5:(u4++t5).size≤6:=by rw[ByteArray.size_append];omega
 generalize u4++t5=u5 at *
 have cat6:=y0d u5 t6 _ (by omega) (by omega) rfl
 have y6:(u5++t6).size≤8:=by rw[ByteArray.size_append];omega
 generalize u5++t6=u6 at *
 have cat7:=y0d u6 t7 _ (by omega) (by omega) HD.out
 clear hm HD z1 z2 z3 z4 z5 z6 z7 y2 y3 y4 y5 y6
 have HFL:=Lib.hid (show flB m=if m.ae=0 then 0 else 128 from rfl)
 generalize flB m=fl at *;generalize hdU m n=hu at *;by_cases h0:m.ae=0
 · rw[if_pos h0]at HFL;obtain rfl:=HFL.out
   have e0:(m.ae==0)=true:=by simpa using h0
   clear HFL h0;refine' qz2f;have c5:=HF.out.m.cs.c5;refine' qzco
   refine wp_region_held_drew (S:=fun W=>Fs w W w.heap.size m) (by kernel_rfl) HF.out.drew (fun hS=>?_)
   clear HF c5;generalize V.drew=X0 at *;refine' qzbl;refine H.tk (i:=1) (v:=?v1x2p) ?h1x2p hS ?_
   case h1x2p=>(intro w hw;have c:=(hw.m).cs.c5;go_simp;first|done|(with_reducible rfl))
   refine' qz0;refine H.tk (i:=3) (v:=?v3x3p) ?h3x3p hS ?_
   case h3x3p=>(intro w hw;go_simp;first|done|(with_reducible rfl))
   refine' qz0;refine H.tk (i:=6) (v:=?v6x4p) ?h6x4p hS ?_
   case h6x4p=>(intro w hw;go_simp;first|done|(with_reducible rfl))
   refine' qz0;refine H.tk (i:=7) (v:=?v7x5p) ?h7x5p hS ?_
   case h7x5p=>(intro w hw;have c:=(hw.m).cs.c7;go_simp;first|done|(with_reducible rfl))
   refine' qz0;refine H.tk (i:=10) (v:=?v10x6p) ?h10x6p hS ?_
   case h10x6p=>(intro w hw;go_simp;first|done|(with_reducible rfl))
   refine' qz0;refine H.tk (i:=13) (v:=?v13x7p) ?h13x7p hS ?_
   case h13x7p=>(intro w hw;go_simp;first|done|(with_reducible rfl))
   refine' qz0;refine H.tk (i:=14) (v:=?v14x8p) ?h14x8p hS ?_
   case h14x8p=>(intro w hw;have c:=(hw.m).cs.c14;go_simp;first|done|(with_reducible rfl))
   refine' qz0;refine H.tk (i:=17) (v:=?v17x9p) ?h17x9p hS ?_
   case h17x9p=>(intro w hw;go_simp;first|done|(with_reducible rfl))
   refine' qz0;refine H.tk (i:=18) (v:=?v18x10p) ?h18x10p hS ?_
   case h18x10p=>(intro w hw;have c:=(hw.m).cs.c12;go_simp;first|done|(with_reducible rfl))
   refine' qz0;refine H.tk (i:=21) (v:=?v21x11p) ?h21x11p hS ?_
   case h21x11p=>(intro w hw;go_simp;first|done|(with_reducible rfl))
   refine' qz0;refine H.tk (i:=22) (v:=?v22x12p) ?h22x12p hS ?_
   case h22x12p=>(intro w hw;have c:=(hw.m).cs.c10;go_simp;first|done|(with_reducible rfl))
   refine' qz1c;go_simp;refine(Q1.out _).mono ?_;rintro e X1 ⟨rfl,hb⟩;refine' qzc3;refine' qz48;go_simp;refine(Q2.out _).mono ?_;rintro e X2 ⟨rfl,hb⟩;refine' qzc3;refine H.tk (i:=5) (v:=?v5x13p) ?h5x13p hS ?_
   case h5x13p=>(intro w hw;go_simp;first|done|(with_reducible rfl))
   refine' qz9a;go_simp;refine(Q3.out _).mono ?_;rintro e X3 ⟨rfl,hb⟩;refine' qzc3;refine H.tk (i:=9) (v:=?v9x14p) ?h9x14p hS ?_
   case h9x14p=>(intro w hw;go_simp;first|done|(with_reducible rfl))
   refine' qz96;go_simp;refine(Q4.out _).mono ?_;rintro e X4 ⟨rfl,hb⟩;refine' qzc3;refine H.tk (i:=12) (v:=?v12x15p) ?h12x15p hS ?_
   case h12x15p=>(intro w hw;go_simp;first|done|(with_reducible rfl))
   refine' qz97;go_simp;refine(Q5.out _).mono ?_;rintro e X5 ⟨rfl,hb⟩;refine' qzc3;refine H.tk (i:=16) (v:=?v16x16p) ?h16x16p hS ?_
   case h16x16p=>(intro w hw;go_simp;first|done|(with_reducible rfl))
   refine' qz98;go_simp;refine(Q6.out _).mono ?_;rintro e X6 ⟨rfl,hb⟩;refine' qzc3;refine H.tk (i:=20) (v:=?v20x17p) ?h20x17p hS ?_
   case h20x17p=>(intro w hw;go_simp;first|done|(with_reducible rfl))
   refine' qz99;go_simp;refine(Q7.out _).mono ?_;rintro e X7 ⟨rfl,hb⟩;refine' qzc3;refine H.tk (i:=24) (v:=?v24x18p) ?h24x18p hS ?_
   case h24x18p=>(intro w hw;go_simp;first|done|(with_reducible rfl))
   refine' qz0;refine H.tk (i:=25) (v:=?v25x19p) ?h25x19p hS ?_
   case h25x19p=>(intro w hw;go_simp;first|done|(with_reducible rfl))
   refine' qz1;refine' qzj;exact⟨rfl,hS.bel⟩
 rw[if_neg h0]at HFL;obtain rfl:=HFL.out
 have e0:(m.ae==0)=false:=by simpa using h0
 clear HFL h0;refine' qz2f;have c5:=HF.out.m.cs.c5;refine' qzco
 refine wp_region_held_drew (S:=fun W=>Fs w W w.heap.size m) (by kernel_rfl) HF.out.drew (fun hS=>?_)
 clear HF c5;generalize V.drew=X0 at *;refine' qzbs;refine H.tk (i:=1) (v:=?v1x2) ?h1x2 hS ?_
 case h1x2=>(intro w hw;have c:=(hw.m).cs.c5;go_simp;first|done|(with_reducible rfl))
 refine' qz0;refine H.tk (i:=3) (v:=?v3x3) ?h3x3 hS ?_
 case h3x3=>(intro w hw;go_simp;first|done|(with_reducible rfl))
 refine' qz0;refine H.tk (i:=6) (v:=?v6x4) ?h6x4 hS ?_
 case h6x4=>(intro w hw;go_simp;first|done|(with_reducible rfl))
 refine' qz0;refine H.tk (i:=7) (v:=?v7x5) ?h7x5 hS ?_
 case h7x5=>(intro w hw;have c:=(hw.m).cs.c7;go_simp;first|done|(with_reducible rfl))
 refine' qz0;refine H.tk (i:=10) (v:=?v10x6) ?h10x6 hS ?_
 case h10x6=>(intro w hw;go_simp;first|done|(with_reducible rfl))
 refine' qz0;refine H.tk (i:=13) (v:=?v13x7) ?h13x7 hS ?_
 case h13x7=>(intro w hw;go_simp;first|done|(with_reducible rfl))
 refine' qz0;refine H.tk (i:=14) (v:=?v14x8) ?h14x8 hS ?_
 case h14x8=>(intro w hw;have c:=(hw.m).cs.c14;go_simp;first|done|(with_reducible rfl))
 refine' qz0;refine H.tk (i:=17) (v:=?v17x9) ?h17x9 hS ?_
 case h17x9=>(intro w hw;go_simp;first|done|(with_reducible rfl))
 refine' qz0;refine H.tk (i:=18) (v:=?v18x10) ?h18x10 hS ?_
 case h18x10=>(intro w hw;have c:=(hw.m).cs.c12;go_simp;first|done|(with_reducible rfl))
 refine' qz0;refine H.tk (i:=21) (v:=?v21x11) ?h21x11 hS ?_
 case h21x11=>(intro w hw;go_simp;first|done|(with_reducible rfl))
 refine' qz0;refine H.tk (i:=22) (v:=?v22x12) ?h22x12 hS ?_
 case h22x12=>(intro w hw;have c:=(hw.m).cs.c10;go_simp;first|done|(with_reducible rfl))
 refine' qz1c;go_simp;refine(Q1.out _).mono ?_;rintro e X1 ⟨rfl,hb⟩;refine' qzc3;refine' qz48;go_simp;refine(Q2.out _).mono ?_;rintro e X2 ⟨rfl,hb⟩;refine' qzc3;refine H.tk (i:=5) (v:=?v5x13) ?h5x13 hS ?_
 case h5x13=>(intro w hw;go_simp;first|done|(with_reducible rfl))
 refine' qz9a;go_simp;refine(Q3.out _).mono ?_;rintro e X3 ⟨rfl,hb⟩;refine' qzc3;refine H.tk (i:=9) (v:=?v9x14) ?h9x14 hS ?_
 case h9x14=>(intro w hw;go_simp;first|done|(with_reducible rfl))
 refine' qz96;go_simp;refine(Q4.out _).mono ?_;rintro e X4 ⟨rfl,hb⟩;refine' qzc3;refine H.tk (i:=12) (v:=?v12x15) ?h12x15 hS ?_
 case h12x15=>(intro w hw;go_simp;first|done|(with_reducible rfl))
 refine' qz97;go_simp;refine(Q5.out _).mono ?_;rintro e X5 ⟨rfl,hb⟩;refine' qzc3;refine H.tk (i:=16) (v:=?v16x16) ?h16x16 hS ?_
 case h16x16=>(intro w hw;go_simp;first|done|(with_reducible rfl))
 refine' qz98;go_simp;refine(Q6.out _).mono ?_;rintro e X6 ⟨rfl,hb⟩;refine' qzc3;refine H.tk (i:=20) (v:=?v20x17) ?h20x17 hS ?_
 case h20x17=>(intro w hw;go_simp;first|done|(with_reducible rfl))
 refine' qz99;go_simp;refine(Q7.out _).mono ?_;rintro e X7 ⟨rfl,hb⟩;refine' qzc3;refine H.tk (i:=24) (v:=?v24x18) ?h24x18 hS ?_
 case h24x18=>(intro w hw;go_simp;first|done|(with_reducible rfl))
 refine' qz0;refine H.tk (i:=25) (v:=?v25x19) ?h25x19 hS ?_
 case h25x19=>(intro w hw;go_simp;first|done|(with_reducible rfl))
 refine' qz1;refine' qzj;exact⟨rfl,hS.bel⟩
end L4
end Go.Proofs.YtllhobicfclheaaGreatDoor
