/-
  A part of a proof. No conditions.
-/
import Derived.Test.YtllhobicfclheaaGreatDoorY41
import Derived.Test.YtllhobicfclheaaGreatDoorY46
namespace Go.Proofs.YtllhobicfclheaaGreatDoor
open Go.ChangeShapes Go.WideShapes Go.ChangeAt Go.RowKit
set_option linter.unusedVariables false
set_option maxRecDepth 100000
set_option maxHeartbeats 51200000
namespace G5
open Ms Box S1
open S5 (AnsS)
open Nu G1 G2 G4 An Tc Rg
open F1 (bt d0b o0b o0g p0f)
open Tl (cellsT)
open Cur (numL o0c)
open Bk (Bk Sh shC cur w0a loadVarK d0a f0a a0a o0a b0a q0a m0a)
open Hs
def Is (t:Int)(s:ByteArray)(X:M)(c:Bool)(p:Nat×Bool):Prop:=(s.size<szF t s→p.2=true)∧(¬s.size<szF t s→p=(szF t s,false)∧(noF t s→c=false)∧(¬noF t s→c=true∧X=hdF t s))
theorem one {s:ByteArray}(h:2≤s.size):nx s 2 (0,false)=(2,false):=i0c (a:=0) (by omega)
theorem two {s:ByteArray}(h:4≤s.size):nx s 2 (2,false)=(4,false):=i0c (a:=2) (by omega)
theorem three {s:ByteArray}(h:6≤s.size):nx s 2 (4,false)=(6,false):=i0c (a:=4) (by omega)
theorem one1 {s:ByteArray}(h:1≤s.size):nx s 1 (0,false)=(1,false):=i0c (a:=0) (by omega)
theorem two1 {s:ByteArray}(h:2≤s.size):nx s 1 (1,false)=(2,false):=i0c (a:=1) (by omega)
theorem d0x {s:ByteArray}(h:s.size<6):(nx s 2 (nx s 2 (nx s 2 (0,false)))).2=true:=by
 by_cases h2:2≤s.size
 · rw[one h2];by_cases h4:4≤s.size
   · rw[two h4,y0j (by omega)]
   · rw[y0j (s:=s) (a:=2) (by omega)];exact y0g rfl
 · rw[y0j (s:=s) (a:=0) (by omega)];exact y0g (y0g rfl)
theorem b0t {s:ByteArray}(h:6≤s.size):nx s 2 (nx s 2 (nx s 2 (0,false)))=(6,false):=by rw[one (by omega),two (by omega),three h]
theorem val {s:ByteArray}{a:Nat}(h:a+2≤s.size):rdV s (a,false) 2=num2 s a:=z0x h
theorem is2 (s:ByteArray):Is 2 s (R2 s) true (nx s 2 (nx s 2 (nx s 2 (0,false)))):=by
 refine⟨fun h=>d0x h,fun h=>?_⟩
 have h6:6≤s.size:=by have:¬s.size<6:=h;omega
 refine⟨b0t h6,fun k=>by have:=k.1;omega,fun _=>⟨rfl,?_⟩⟩
 show R2 s=hd2 s
 unfold R2 hd2
 rw[one (by omega),two (by omega),val (by omega),val (by omega)]
theorem is3 (s:ByteArray):Is 3 s { M.zero with kind:=8,nonce:=rdV s (0,false) 2} true (nx s 2 (0,false)):=by
 refine⟨fun h=>by rw[y0j (s:=s) (a:=0) (by have:s.size<2:=h;omega)],fun h=>?_⟩
 have h2:2≤s.size:=by have:¬s.size<2:=h;omega
 refine⟨one h2,fun k=>by have:=k.1;omega,fun _=>⟨rfl,?_⟩⟩
 rw[val (by omega)]
 rfl
theorem is4 (s:ByteArray):Is 4 s (R4 s) true (nx s 2 (nx s 2 (nx s 2 (0,false)))):=by
 refine⟨fun h=>d0x h,fun h=>?_⟩
 have h6:6≤s.size:=by have:¬s.size<6:=h;omega
 refine⟨b0t h6,fun k=>by have:=k.1;omega,fun _=>⟨rfl,?_⟩⟩
 show R4 s=hd4 s
 have e:rdV s (0,false) 2=256*bt s 0+bt s 1:=(val (a:=0) (by omega)).trans (p0f s 0 (by omega))
 have b1:=d0b s 1;have b2:=o0b s 1;unfold R4 hd4
 rw[one (by omega),two (by omega),val (a:=2) (by omega),val (a:=4) (by omega),e,show(256*bt s 0+bt s 1) / 32768=bt s 0 / 128 by omega]
theorem p1s {s:ByteArray}(h:s.size<6):(pI s).2=true:=by
 unfold pI;by_cases h1:1≤s.size
 · rw[one1 h1];by_cases h2:2≤s.size
   · rw[two1 h2];by_cases h4:4≤s.size
     · rw[two h4,y0j (by omega)]
     · rw[y0j (s:=s) (a:=2) (by omega)];exact y0g rfl
   · rw[y0j (s:=s) (a:=1) (by omega)];exact y0g (y0g rfl)
 · rw[y0j (s:=s) (a:=0) (by omega)];exact y0g (y0g (y0g rfl))
theorem t1p {s:ByteArray}(h:6≤s.size):pI s=(6,false):=by unfold pI;rw[one1 (by omega),two1 (by omega),two (by omega),three h]
theorem is5 (s:ByteArray):Is 5 s (R5 s) (b5 s) (p5 s):=by
 by_cases h6:6≤s.size;rotate_left
 · refine⟨fun _=>?_,fun h=>absurd (show s.size<6+sizeA (bt s 0) by omega) h⟩
   have hp:=p1s (s:=s) (by omega)
   unfold p5;split
   · exact hp
   · exact y0g hp
 have hx:rdV s (0,false) 1=bt s 0:=(z0x (a:=0) (k:=1) (by omega)).trans (o0g s 0 (by omega))
 have hp:=t1p h6
 have hi:I5 s={ M.zero with kind:=10,ae:=bt s 0,cost:=num2 s 2,interval:=num2 s 4}:=by
  unfold I5
  rw[hx,one1 (by omega),two1 (by omega),two (by omega),val (a:=2) (by omega),val (a:=4) (by omega)]
 by_cases h3:3<bt s 0
 · have hz:szF 5 s=6:=by show 6+sizeA (bt s 0)=6;rw[w1h h3]
   refine⟨fun h=>absurd (show s.size<6 by rw[←hz];exact h) (by omega),fun _=>⟨?_,fun _=>?_,fun k=>absurd ⟨rfl,h3⟩ k⟩⟩
   · unfold p5;rw[hx,if_pos h3,hp,hz]
   · unfold b5;rw[hx];exact decide_eq_false (by omega)
 have e5:p5 s=nx s (sizeA (bt s 0)) (6,false):=by unfold p5;rw[hx,if_neg h3,hp]
 refine⟨fun h=>?_,fun h=>⟨?_,fun k=>absurd k.2 h3,fun _=>⟨?_,?_⟩⟩⟩
 · rw[e5,y0j (by have:s.size<6+sizeA (bt s 0):=h;omega)]
 · rw[e5,i0c (by have:¬s.size<6+sizeA (bt s 0):=h;omega)]
   rfl
 · unfold b5;rw[hx];exact decide_eq_true (by omega)
 · show R5 s=hd5 s
   unfold R5 hd5
   rw[hx,if_neg h3,hp,hi,r0w (by have:¬s.size<6+sizeA (bt s 0):=h;omega)]
def AnsR (t:Int)(s:ByteArray)(b:Nat)(w:World)(e:Ending)(w':World):Prop:=∃ X c p,Is t s X c p∧TookB X c s p b w e w'
theorem e0h {v:Value}{s:ByteArray}{p:Nat×Bool}{b:Nat}{w W w1:World}{e:Ending}{X:M}{c:Bool}(hk:Took v s p b W e w1)(hw:Below w.heap.size w W)(hz:W.heap.size=w.heap.size+1)(hb:b<w.heap.size) :
    TookB X c s p b w (.returned (.tuple #[.agg X.cells,.bool c])) (w1.setRow w.heap.size X.cells):=
  ⟨rfl,hk.2.1.row (by omega) _,((Bel.of hw).trans (hk.2.2.mono (by omega))).row (Nat.le_refl _) _⟩
theorem b0m (t:Int)(s:ByteArray)(b:Nat)(h2:2≤t)(h5:t≤5)(hs:s.size≤maxLen)(w:World)(hb:Bk 208 w b (cu s (0,false)))(ht:Tab w)(hb0:2<b) :
    Calls Tryz.prog 292 #[.pointer (some ⟨b,0,none⟩),.int .i64 t] w (AnsR t s b w):=by
 rcases(show t=2∨t=3∨t=4∨t=5 by omega)with rfl|rfl|rfl|rfl
 · refine' qzo;refine' qz3p;refine' qz5r;have hlt:=hb.lt;clear hb;refine' qz3n;refine(j0u s b hs _ HR.out).mono ?_;refine' qz85;have HT:=Lib.hid (e0h (X:=R2 s) (c:=true) hk HB.out hz hlt);have HI:=Lib.hid (is2 s);obtain⟨rfl,hk⟩:=hk;clear hk HX HR HB;generalize R2 s=x at *;refine' qz7y
 · refine' qzo;refine' qz3p;refine' qz5r;have hlt:=hb.lt;clear hb;refine' qz3n
   refine(rdnum s (0,false) 2 b 2 rfl hs (Nat.zero_le _) (by omega) (by omega) _ HR.out).mono ?_
   refine' qz85
   have HT:=Lib.hid (e0h (X:=({ M.zero with kind:=8,nonce:=rdV s (0,false) 2}:M)) (c:=true) hk HB.out hz hlt)
   have HI:=Lib.hid (is3 s);obtain⟨rfl,hk⟩:=hk;clear hk HX HR HB;generalize rdV s (0,false) 2=v at *
   go_wp2_with (first|(refine d0a rfl 29 _ rfl (M.cells { M.zero with kind:=8,nonce:=v}) (by kernel_rfl) ?_)|(refine e0a (b:=w.heap.size) (m:=M.zero) (m':={ M.zero with kind:=8,nonce:=v}) rfl _ _ rfl rfl rfl X1.out ?_))
   exact bodyPost_ret (v := .tuple #[.agg (M.cells { M.zero with kind:=8,nonce:=v}),.bool true]) (m0a rfl _ _ w.heap.size _ rfl (loadVarK shM (X1.out.put (m':={ M.zero with kind:=8,nonce:=v})) rfl) _ rfl) rfl ⟨_,_,_,HI.out,HT.out⟩
 · refine' qzo;refine' qz3p;refine' qz5r;have hlt:=hb.lt;clear hb;refine' qz3n;refine(y0n s b hs _ HR.out).mono ?_;refine' qz85;have HT:=Lib.hid (e0h (X:=R4 s) (c:=true) hk HB.out hz hlt);have HI:=Lib.hid (is4 s);obtain⟨rfl,hk⟩:=hk;clear hk HX HR HB;generalize R4 s=x at *;refine' qz7y
 · have HM:=Lib.hid ht;clear ht;refine' qzo;refine' qz3p;refine' qz5r;have hlt:=hb.lt;clear hb;refine' qz3n;refine(g0u s b hs _ HR.out (HM.out.below HB.out) hb0).mono ?_;refine' qz85
   have HT:=Lib.hid (show TookB (R5 s) (b5 s) s _ b w _ _ from e0h (X:=R5 s) (c:=b5 s) (v := .tuple #[.agg (M.cells (R5 s)),.bool (b5 s)]) ⟨hk.1,hk.2.1,hk.2.2⟩ HB.out hz hlt)
   have HI:=Lib.hid (is5 s);obtain⟨rfl,hk⟩:=hk;clear hk HX HR HB;generalize R5 s=x at *;generalize b5 s=c at *;refine' qz7x;exact bodyPost_ret (v := .tuple #[.agg (M.cells x),.bool c]) (m0a rfl _ _ w.heap.size _ rfl (loadVarK shM (X1.out.put (m':=x)) rfl) _ rfl) rfl ⟨_,_,_,HI.out,HT.out⟩
end G5
namespace G6
open Ms Box S1
open S5 (AnsS)
open G1 G4 G5 An Tc Rg
open Tl (cellsT)
open Cur (o0c)
open Bk (Bk d0a b0a)
open Hs
theorem e0e {B:Nat}{w:World}{v u:Value}{l:List El}{p:Addr}(h:Sx.Lst B w v l)(hg:p.block<B):Sx.Lst B (w.setCell p u) v l:=by
 refine' qz6m
theorem c0e (t a:Int)(s:ByteArray)(w:World)(h2:2≤t)(h5:t≤5)(hs:s.size≤100000)(ht:Tab w):Calls Tryz.prog 250 #[.agg (cellsT (a,(s,t)))] w (AnsB (outF t s) w):=by
 refine' qzd2
 have PF:=Lib.hid (fun b V h T q=>b0m t s b h2 h5 hm V h T q)
 have PR:=Lib.hid (fun b (h:szF t s≤s.size) V r=>u0q s (szF t s) b hm h V r)
 have PS:=Lib.hid (fun V=>S5.c0e (s.extract (szF t s) s.size) V (by simp;omega))
 have PN:=Lib.hid (fun V=>o0c s V hm)
 have h0:=ht.pos;refine' qzi;change Code.wp _ _ _ _ ((w.alloc (.cells (cellsT (a,(s,t))) 110)).alloc (.cells M.zero.cells 29));have hz:=b0a w (.cells (cellsT (a,(s,t))) 110);have X0:=Bx.new (w.alloc (.cells (cellsT (a,(s,t))) 110)) M.zero;rw[hz]at X0;have X0:=Lib.hid X0;have T0:=Lib.hid ((Bk.Bk.new 110 w (cellsT (a,(s,t)))).old (.cells M.zero.cells 29));have HB:=Lib.hid (balloc (balloc (Below.refl _ w) (.cells (cellsT (a,(s,t))) 110)) (.cells M.zero.cells 29));have HT:=Lib.hid (ht.below HB.out);clear hz ht;generalize (w.alloc (.cells (cellsT (a,(s,t))) 110)).alloc (.cells M.zero.cells 29)=W at *;have c2:=T0.out.cell 2 (.string s) rfl;refine' qzg;refine(PN.out _).mono ?_;refine' qz75;have X0:=Lib.hid (X0.out.below hb);have T0:=Lib.hid (T0.out.below hb);have HT:=Lib.hid (HT.out.below hb);refine' qz6;clear hb c2 PN;refine' qzb7;change Code.wp _ _ _ _ (w1.alloc (.cells (cu s (0,false)) 208));have bel:=balloc (Below.refl w1.heap.size w1) (.cells (cu s (0,false)) 208);have hlt:=X0.out.lt;have X0:=Lib.hid (X0.out.below bel);have T0:=Lib.hid (T0.out.below bel);refine' qz5s;have R0:=Lib.hid (Bk.Bk.new 208 w1 (cu s (0,false)));clear bel;generalize w1.alloc (.cells (cu s (0,false)) 208)=W1 at *;generalize w1.heap.size=b at *;have c0:=T0.out.cell 0 (.int .i64 t) rfl;refine' qzg
 refine(PF.out b _ R0.out HT.out (by omega)).mono ?_
 rintro e w2 ⟨X,c,p,hI,rfl,hr,hbel⟩
 have X0:=Lib.hid (hbel.bx (by omega) X0.out)
 have R0:=Lib.hid hr;have hW1:=HB.out.size;refine' qzcc;clear hr hbel c0 T0 HT PF
 go_upto_region 3 with(refine e0a (b:=w2.heap.size) (m:=M.zero) (m':=X) rfl _ _ rfl rfl rfl (Bx.new w2 M.zero) ?_)
 change Code.wp _ _ _ _ ((w2.alloc (.cells M.zero.cells 29)).setRow w2.heap.size X.cells);refine' qz33;have bel:=balloc (Below.refl w2.heap.size w2) (.cells X.cells 29);have hlt2:=R0.out.lt;have X0:=Lib.hid (X0.out.below bel);refine' qzd;have XM:=Lib.hid (Bx.new w2 X);clear bel;generalize w2.alloc (.cells X.cells 29)=V at *;generalize w2.heap.size=g at *;obtain⟨q,y⟩:=p;have c3:=R0.out.cell 3 (.bool y) rfl;by_cases h:s.size<szF t s
 · obtain rfl:y=true:=hI.1 h;have HY:=Lib.hid (x0e h);clear PR PS hI;refine' qz5f
 obtain⟨hp,hn,hk⟩:=hI.2 h
 obtain⟨rfl,rfl⟩:q=szF t s∧y=false:=by simpa using hp
 clear hI hp;by_cases k:noF t s
 · obtain rfl:=hn k;have HY:=Lib.hid (b0k h k);clear PR PS hk hn;refine' qz1j
 obtain⟨rfl,rfl⟩:=hk k
 have HX:=Lib.hid (show(hdF t s).la=(hdF t s).la from rfl)
 have PR:=Lib.hid (PR.out b (by omega))
 clear hn hk;obtain⟨⟨l,kn,er⟩,ho⟩:∃ p,outS (s.extract (szF t s) s.size)=p:=⟨_,rfl⟩;rw[ho]at PS;refine' qzg;refine(PR.out _ R0.out).mono ?_;rintro e w3 ⟨rfl,hr,hbel⟩;refine' qz8r;have hsz:=HB.out.size
 have HB:=Lib.hid (HB.out.trans (hbel.to (C:=w.heap.size) (by omega) (by omega)))
 clear hr hbel R0 c3 PR;have hg:=XM.out.lt;refine' qz5y;rintro e w4 ⟨sa,sc,rfl,hl,hb⟩;have X0:=Lib.hid (X0.out.below hb);have XM:=Lib.hid (XM.out.below hb);refine' qz6;refine' qz7k;have hs3:=HB.out.size;clear hb hl PS;simp only[]at HL
 have hsw:w.heap.size≤w3.heap.size:=by omega
 generalize w3.heap.size=z at *;by_cases he:er=0;rotate_left
 · have HY:=Lib.hid (i0u h k ho (fun x=>he x.1))
   refine' qz89;clear he ho HX XM;generalize hdF t s=x at *;refine' qz5a
 subst he
 cases kn with
 | false=>
  have HY:=Lib.hid (i0u h k ho (fun x=>by cases x.2))
  clear ho HX XM;generalize hdF t s=x at *;refine' qz1j
 | true=>
  have HY:=Lib.hid (u0a h k ho);clear ho HX h k;generalize hdF t s=x at *;have d:=XM.out.cs.c24;have fd:=XM.out.frozen 24
  go_upto_region 11 with fail
  have XM:=Lib.hid (XM.out.set (i:=24) (v := .slice sa l.length sc) (m':={ x with sa:=sa,sl:=l,sc:=sc}) rfl)
  have X0:=Lib.hid (X0.out.off (p:=⟨g,24,none⟩) (by show w.heap.size+1≠g;omega) (.slice sa l.length sc))
  have HB:=Lib.hid (HB.out.setCell (p:=⟨g,24,none⟩) (by show w.heap.size≤g;omega) (.slice sa l.length sc))
  have HL:=Lib.hid (e0e (u := .slice sa l.length sc) (p:=⟨g,24,none⟩) HL.out hg);clear d fd;generalize w4.setCell ⟨g,24,none⟩ (.slice sa l.length sc)=V5 at *
  go_wp2_with (first|(refine j0a (b:=g) (m:={ x with sa:=sa,sl:=l,sc:=sc}) rfl _ rfl rfl XM.out ?_)|(refine e0a (b:=w.heap.size+1) (m:=M.zero) (m':={ x with sa:=sa,sl:=l,sc:=sc}) rfl _ _ rfl rfl rfl X0.out ?_))
  exact bodyPost_ret (v := .tuple #[.agg (M.cells { x with sa:=sa,sl:=l,sc:=sc}),.bool true,.int .i64 0]) (ret3 rfl _ _ (w.heap.size+1) { x with sa:=sa,sl:=l,sc:=sc} rfl (X0.out.put (m':={ x with sa:=sa,sl:=l,sc:=sc})) (.bool true) rfl (.int .i64 0) rfl) rfl (AnsB.subs HY.out (f0c HL.out (by omega) _) hsw (Box.below_setRow HB.out (by omega) _))
end G6
end Go.Proofs.YtllhobicfclheaaGreatDoor
