/-
  A part of a proof. No conditions.
-/
import Derived.Test.YtllhobicfclheaaGreatDoorY35
import Derived.Test.YtllhobicfclheaaGreatDoorY39
namespace Go.Proofs.YtllhobicfclheaaGreatDoor
open Go.ChangeShapes Go.WideShapes Go.ChangeAt Go.RowKit
set_option linter.unusedVariables false
set_option maxRecDepth 100000
set_option maxHeartbeats 51200000
namespace G4
open Ms Box Nu G1 G2 An Tc Rg
open F1 (bt d0b o0b o0g p0f)
open Cur (numL p0d u0n e0d r0g o0c p0g hasB)
open Bk (Bk Sh shC cur w0a loadVarK d0a f0a a0a o0a b0a q0a m0a)
open Hs
def Took (v:Value)(s:ByteArray)(p:Nat×Bool)(b:Nat)(w:World)(e:Ending)(w':World):Prop:=e = .returned v∧Bk 208 w' b (cu s p)∧Bel w.heap.size b w w'
theorem rdnum (s:ByteArray)(p:Nat×Bool)(k b:Nat)(ki:Int)(hki:ki=k)(hs:s.size≤maxLen)(hp:p.1≤s.size)(h4:1≤k)(h5:k≤7)(w:World)(hb:Bk 208 w b (cu s p)) :
    Calls Tryz.prog 316 #[.pointer (some ⟨b,0,none⟩),.int .i64 ki] w (Took (.int .i64 (rdV s p k)) s (nx s k p) b w):=by
 have P:=Lib.hid (cnum s p k ki hki hs hp h4 h5 w);refine' qz4o;have hlt:=hb.lt;clear hb hki hp;unfold Took;generalize rdV s p k=v at *;generalize nx s k p=q at *;rw[HQ.out];clear HQ;refine' qz3v;refine P.out.mono ?_;refine' qz7t;refine' qz4s;refine' qz88
theorem rdtext (s:ByteArray)(p:Nat×Bool)(k b:Nat)(ki:Int)(hki:ki=k)(hs:s.size≤maxLen)(hp:p.1≤s.size)(w:World)(hb:Bk 208 w b (cu s p)) :
    Calls Tryz.prog 320 #[.pointer (some ⟨b,0,none⟩),.int .i64 ki] w (Took (.string (rdT s p k)) s (nx s k p) b w):=by
 have P:=Lib.hid (ctext s p k ki hki hs hp w);refine' qz4o;have hlt:=hb.lt;clear hb hki hp;unfold Took;generalize rdT s p k=v at *;generalize nx s k p=q at *;rw[HQ.out];clear HQ;refine' qz3v;refine P.out.mono ?_;refine' qz7t;refine' qz4s;refine' qz88
theorem u0q (s:ByteArray)(a b:Nat)(hs:s.size≤maxLen)(ha:a≤s.size)(w:World)(hb:Bk 208 w b (cu s (a,false))) :
    Calls Tryz.prog 294 #[.pointer (some ⟨b,0,none⟩)] w (Took (.string (s.extract a s.size)) s (s.size,false) b w):=by
 have hm:=hs;unfold maxLen at hm;have PL:=Lib.hid (p0g s a s.size w)
 rw[IntWalk.wrap64_in _ ⟨by omega,by omega⟩]at PL
 have PT:=Lib.hid (fun V (h:Bk 208 V b (cu s (a,false)))=>rdtext s (a,false) (s.size - a) b ((s.size:Int) - a) (by omega) hs ha V h)
 refine' qzcm;rw[e1,e2]at PT;refine' qz4n;clear hb hs hm ha e1 e2;refine' qz3v;refine PL.out.mono ?_;refine' qz10;have HB:=Lib.hid (HB.out.below hb1)
 have HL:=Lib.hid (show Bel w.heap.size b w w1 from Bel.of hb1)
 have hsz:=hb1.size;clear hb1 PL;refine' qzg;refine(PT.out _ HB.out).mono ?_;rintro e w2 ⟨rfl,h1,h2⟩;have HX:=Lib.hid h1;have HL:=Lib.hid (HL.out.trans (h2.mono hsz));clear h1 h2;refine' qzj;exact⟨rfl,HX.out,HL.out⟩
structure R (w0 W:World)(b mb:Nat)(s:ByteArray)(m:M)(p:Nat×Bool):Prop where
  msg:Bx W mb m
  rd:Bk 208 W b (cu s p)
  res:Bx W w0.heap.size M.zero
  o1:w0.heap.size<mb
  o2:b<w0.heap.size
  bel:Bel w0.heap.size b w0 W
  le:p.1≤s.size
section
variable {w0 W W':World} {b mb:Nat} {s:ByteArray} {m m':M} {p p':Nat×Bool}
theorem R.step {v:Value}{k:Nat}{e:Ending}(g:R w0 W b mb s m p)(h:Took v s (nx s k p) b W e W'):R w0 W' b mb s m (nx s k p):=
  ⟨h.2.2.bx (by have:=g.o1;have:=g.o2;omega) g.msg,h.2.1,h.2.2.bx (by have:=g.o2;omega) g.res,g.o1,g.o2,g.bel.trans (h.2.2.mono g.bel.size),t1o g.le⟩
theorem R.set (g:R w0 W b mb s m p){i:Nat}{v:Value}(hm:m.cells.setIfInBounds i v=m'.cells):R w0 (W.setCell ⟨mb,i,none⟩ v) b mb s m' p:=
  ⟨g.msg.set hm,g.rd.off (by have:=g.o1;have:=g.o2;show b≠mb;omega) _,g.res.off (by have:=g.o1;show w0.heap.size≠mb;omega) _,g.o1,g.o2,g.bel.cell (p:=⟨mb,i,none⟩) (by have:=g.o1;show w0.heap.size≤mb;omega) _,g.le⟩
theorem R.start (w:World)(s:ByteArray)(m0:M)(hb:Bk 208 w b (cu s p))(hp:p.1≤s.size) :
    R w (((w.alloc (.cells M.zero.cells 29)).alloc (.cells M.zero.cells 29)).setRow (w.heap.size+1) m0.cells) b (w.heap.size+1) s m0 p:=by
 have A:=Bx.new (w.alloc (.cells M.zero.cells 29)) M.zero;rw[b0a]at A;have hl:=hb.lt
 exact⟨A.put,((hb.old _).old _).row (by omega) _,((Bx.new w M.zero).old _).row (by omega) _,by omega,hl,
  (Bel.of (balloc (balloc (Below.refl _ w) _) _)).row (by omega) _,hp⟩
theorem R.ends (g:R w0 W b mb s m p)(r:M):Bx (W.setRow w0.heap.size r.cells) w0.heap.size r∧Bk 208 (W.setRow w0.heap.size r.cells) b (cu s p)∧Bel w0.heap.size b w0 (W.setRow w0.heap.size r.cells):=
  ⟨g.res.put,g.rd.row (by have:=g.o2;omega) _,g.bel.row (Nat.le_refl _) _⟩
end
theorem R.drew {w0 W:World}{b mb:Nat}{s:ByteArray}{m:M}{p:Nat×Bool}(g:R w0 W b mb s m p):R w0 W.drew b mb s m p:=⟨g.msg,g.rd,g.res,g.o1,g.o2,⟨g.bel.os,g.bel.tape,g.bel.output,g.bel.size,g.bel.block⟩,g.le⟩
def Ih (mb i:Nat)(x k:Int)(W:World):Prop:=W.cell? ⟨mb,5,none⟩=some (.int .i64 x)∧W.cell? ⟨0,i,none⟩=some (.int .i64 k)
theorem Ih.of {mb i:Nat}{x k:Int}{m:M}{W:World}(h:Bx W mb m)(e:m.ae=x)(t:W.cell? ⟨0,i,none⟩=some (.int .i64 k)):Ih mb i x k W:=⟨by rw[←e];exact h.cs.c5,t⟩
theorem shM:Sh Tryz.prog 29 25:=⟨_,Tryz.underlying29,by kernel_rfl⟩
def R2 (s:ByteArray):M:={ M.zero with kind:=7,nonce:=rdV s (nx s 2 (0,false)) 2,interval:=rdV s (nx s 2 (nx s 2 (0,false))) 2}
theorem j0u (s:ByteArray)(b:Nat)(hs:s.size≤maxLen)(w:World)(hb:Bk 208 w b (cu s (0,false))) :
    Calls Tryz.prog 315 #[.pointer (some ⟨b,0,none⟩)] w (Took (.agg (R2 s).cells) s (nx s 2 (nx s 2 (nx s 2 (0,false)))) b w):=by
 show Calls _ _ _ _ (Took (.agg (M.cells ({ M.zero with kind:=7,nonce:=(rdV s (nx s 2 (0,false)) 2),interval:=(rdV s (nx s 2 (nx s 2 (0,false))) 2)}:M))) s (nx s 2 (nx s 2 (nx s 2 (0,false)))) b w)
 refine' qzo;refine' qz5x;rw[hz]at A0
 have HG:=Lib.hid (R.start w s ({ M.zero with kind:=7}:M) hb (Nat.zero_le _))
 refine' qzax
 go_upto_region 2 with(first|(refine d0a rfl 29 _ rfl (M.cells ({ M.zero with kind:=7}:M)) (by kernel_rfl) ?_)|(change wpList _ _ _ _ _ (W.alloc (.cells M.zero.cells 29));refine e0a (b:=w.heap.size+1) (m:=M.zero) (m':=({ M.zero with kind:=7}:M)) rfl _ _ rfl (by first|rfl|(rw[←hz];rfl)) rfl A0 ?_))
 try rw[hz]
 clear A0 hz;refine' qz5q;refine' qzg;refine(rdtext s (0,false) 2 b 2 rfl hs HG.out.le _ HG.out.rd).mono ?_;intro e V1 ht;refine' qz6r;have HG:=Lib.hid G0;clear G0;refine' qzg
 refine(rdnum s (nx s 2 (0,false)) 2 b 2 rfl hs HG.out.le (by omega) (by omega) _ HG.out.rd).mono ?_
 intro e V2 ht;refine' qz6r;have d:=G0.msg.cs.c17;have fd:=G0.msg.frozen 17
 have HG:=Lib.hid (show R w (V2.setCell ⟨w.heap.size+1,17,none⟩ (.int .i64 (rdV s (nx s 2 (0,false)) 2))) b (w.heap.size+1) s ({ M.zero with kind:=7,nonce:=(rdV s (nx s 2 (0,false)) 2)}:M) (nx s 2 (nx s 2 (0,false)))from G0.set (m':=({ M.zero with kind:=7,nonce:=(rdV s (nx s 2 (0,false)) 2)}:M)) rfl)
 clear G0;refine' qzco;clear d fd;generalize V2.setCell ⟨w.heap.size+1,17,none⟩ (.int .i64 (rdV s (nx s 2 (0,false)) 2))=W2 at *;refine' qzg
 refine(rdnum s (nx s 2 (nx s 2 (0,false))) 2 b 2 rfl hs HG.out.le (by omega) (by omega) _ HG.out.rd).mono ?_
 intro e V3 ht;refine' qz6r;have d:=G0.msg.cs.c14;have fd:=G0.msg.frozen 14
 have HG:=Lib.hid (show R w (V3.setCell ⟨w.heap.size+1,14,none⟩ (.int .i64 (rdV s (nx s 2 (nx s 2 (0,false))) 2))) b (w.heap.size+1) s ({ M.zero with kind:=7,nonce:=(rdV s (nx s 2 (0,false)) 2),interval:=(rdV s (nx s 2 (nx s 2 (0,false))) 2)}:M) (nx s 2 (nx s 2 (nx s 2 (0,false))))from G0.set (m':=({ M.zero with kind:=7,nonce:=(rdV s (nx s 2 (0,false)) 2),interval:=(rdV s (nx s 2 (nx s 2 (0,false))) 2)}:M)) rfl)
 clear G0;refine' qzcv;clear d fd;generalize V3.setCell ⟨w.heap.size+1,14,none⟩ (.int .i64 (rdV s (nx s 2 (nx s 2 (0,false))) 2))=W3 at *
 have HE:=Lib.hid (HG.out.ends ({ M.zero with kind:=7,nonce:=(rdV s (nx s 2 (0,false)) 2),interval:=(rdV s (nx s 2 (nx s 2 (0,false))) 2)}:M))
 go_wp2_with (first|(refine j0a (b:=w.heap.size+1) (m:=({ M.zero with kind:=7,nonce:=(rdV s (nx s 2 (0,false)) 2),interval:=(rdV s (nx s 2 (nx s 2 (0,false))) 2)}:M)) rfl _ rfl rfl HG.out.msg ?_)|(refine e0a (b:=w.heap.size) (m:=M.zero) (m':=({ M.zero with kind:=7,nonce:=(rdV s (nx s 2 (0,false)) 2),interval:=(rdV s (nx s 2 (nx s 2 (0,false))) 2)}:M)) rfl _ _ rfl rfl rfl HG.out.res ?_))
 exact bodyPost_ret (v := .agg (M.cells ({ M.zero with kind:=7,nonce:=(rdV s (nx s 2 (0,false)) 2),interval:=(rdV s (nx s 2 (nx s 2 (0,false))) 2)}:M))) (q0a rfl _ _ w.heap.size _ rfl shM HE.out.1 rfl) rfl ⟨rfl,HE.out.2.1,HE.out.2.2⟩
def R4 (s:ByteArray):M:={ M.zero with kind:=9,flags:=rdV s (0,false) 2 / 32768,seq:=rdV s (nx s 2 (0,false)) 2,interval:=rdV s (nx s 2 (nx s 2 (0,false))) 2}
theorem y0n (s:ByteArray)(b:Nat)(hs:s.size≤maxLen)(w:World)(hb:Bk 208 w b (cu s (0,false))) :
    Calls Tryz.prog 317 #[.pointer (some ⟨b,0,none⟩)] w (Took (.agg (R4 s).cells) s (nx s 2 (nx s 2 (nx s 2 (0,false)))) b w):=by
 show Calls _ _ _ _ (Took (.agg (M.cells ({ M.zero with kind:=9,flags:=((rdV s (0,false) 2) / 32768),seq:=(rdV s (nx s 2 (0,false)) 2),interval:=(rdV s (nx s 2 (nx s 2 (0,false))) 2)}:M))) s (nx s 2 (nx s 2 (nx s 2 (0,false)))) b w)
 refine' qzo;refine' qz5x;rw[hz]at A0
 have HG:=Lib.hid (R.start w s ({ M.zero with kind:=9}:M) hb (Nat.zero_le _))
 refine' qzax
 go_upto_region 2 with(first|(refine d0a rfl 29 _ rfl (M.cells ({ M.zero with kind:=9}:M)) (by kernel_rfl) ?_)|(change wpList _ _ _ _ _ (W.alloc (.cells M.zero.cells 29));refine e0a (b:=w.heap.size+1) (m:=M.zero) (m':=({ M.zero with kind:=9}:M)) rfl _ _ rfl (by first|rfl|(rw[←hz];rfl)) rfl A0 ?_))
 try rw[hz]
 clear A0 hz;refine' qz5q;refine' qzg
 refine(rdnum s (0,false) 2 b 2 rfl hs HG.out.le (by omega) (by omega) _ HG.out.rd).mono ?_
 intro e V4 ht;refine' qz6r;have d:=G0.msg.cs.c15;have fd:=G0.msg.frozen 15
 have HG:=Lib.hid (show R w (V4.setCell ⟨w.heap.size+1,15,none⟩ (.int .i64 ((rdV s (0,false) 2) / 32768))) b (w.heap.size+1) s ({ M.zero with kind:=9,flags:=((rdV s (0,false) 2) / 32768)}:M) (nx s 2 (0,false))from G0.set (m':=({ M.zero with kind:=9,flags:=((rdV s (0,false) 2) / 32768)}:M)) rfl)
 clear G0
 have hv:=m1c (s:=s) (p:=(0,false)) (k:=2) 65536 (by decide) (by decide)
 refine' qzcn;clear d fd hv;generalize V4.setCell ⟨w.heap.size+1,15,none⟩ (.int .i64 ((rdV s (0,false) 2) / 32768))=W4 at *;refine' qzg
 refine(rdnum s (nx s 2 (0,false)) 2 b 2 rfl hs HG.out.le (by omega) (by omega) _ HG.out.rd).mono ?_
 intro e V5 ht;refine' qz6r;have d:=G0.msg.cs.c12;have fd:=G0.msg.frozen 12
 have HG:=Lib.hid (show R w (V5.setCell ⟨w.heap.size+1,12,none⟩ (.int .i64 (rdV s (nx s 2 (0,false)) 2))) b (w.heap.size+1) s ({ M.zero with kind:=9,flags:=((rdV s (0,false) 2) / 32768),seq:=(rdV s (nx s 2 (0,false)) 2)}:M) (nx s 2 (nx s 2 (0,false)))from G0.set (m':=({ M.zero with kind:=9,flags:=((rdV s (0,false) 2) / 32768),seq:=(rdV s (nx s 2 (0,false)) 2)}:M)) rfl)
 clear G0;refine' qzco;clear d fd;generalize V5.setCell ⟨w.heap.size+1,12,none⟩ (.int .i64 (rdV s (nx s 2 (0,false)) 2))=W5 at *;refine' qzg
 refine(rdnum s (nx s 2 (nx s 2 (0,false))) 2 b 2 rfl hs HG.out.le (by omega) (by omega) _ HG.out.rd).mono ?_
 intro e V6 ht;refine' qz6r;have d:=G0.msg.cs.c14;have fd:=G0.msg.frozen 14
 have HG:=Lib.hid (show R w (V6.setCell ⟨w.heap.size+1,14,none⟩ (.int .i64 (rdV s (nx s 2 (nx s 2 (0,false))) 2))) b (w.heap.size+1) s ({ M.zero with kind:=9,flags:=((rdV s (0,false) 2) / 32768),seq:=(rdV s (nx s 2 (0,false)) 2),interval:=(rdV s (nx s 2 (nx s 2 (0,false))) 2)}:M) (nx s 2 (nx s 2 (nx s 2 (0,false))))from G0.set (m':=({ M.zero with kind:=9,flags:=((rdV s (0,false) 2) / 32768),seq:=(rdV s (nx s 2 (0,false)) 2),interval:=(rdV s (nx s 2 (nx s 2 (0,false))) 2)}:M)) rfl)
 clear G0;refine' qzcv;clear d fd;generalize V6.setCell ⟨w.heap.size+1,14,none⟩ (.int .i64 (rdV s (nx s 2 (nx s 2 (0,false))) 2))=W6 at *
 have HE:=Lib.hid (HG.out.ends ({ M.zero with kind:=9,flags:=((rdV s (0,false) 2) / 32768),seq:=(rdV s (nx s 2 (0,false)) 2),interval:=(rdV s (nx s 2 (nx s 2 (0,false))) 2)}:M))
 go_wp2_with (first|(refine j0a (b:=w.heap.size+1) (m:=({ M.zero with kind:=9,flags:=((rdV s (0,false) 2) / 32768),seq:=(rdV s (nx s 2 (0,false)) 2),interval:=(rdV s (nx s 2 (nx s 2 (0,false))) 2)}:M)) rfl _ rfl rfl HG.out.msg ?_)|(refine e0a (b:=w.heap.size) (m:=M.zero) (m':=({ M.zero with kind:=9,flags:=((rdV s (0,false) 2) / 32768),seq:=(rdV s (nx s 2 (0,false)) 2),interval:=(rdV s (nx s 2 (nx s 2 (0,false))) 2)}:M)) rfl _ _ rfl rfl rfl HG.out.res ?_))
 exact bodyPost_ret (v := .agg (M.cells ({ M.zero with kind:=9,flags:=((rdV s (0,false) 2) / 32768),seq:=(rdV s (nx s 2 (0,false)) 2),interval:=(rdV s (nx s 2 (nx s 2 (0,false))) 2)}:M))) (q0a rfl _ _ w.heap.size _ rfl shM HE.out.1 rfl) rfl ⟨rfl,HE.out.2.1,HE.out.2.2⟩
def I5 (s:ByteArray):M:={ M.zero with kind:=10,ae:=rdV s (0,false) 1,cost:=rdV s (nx s 1 (nx s 1 (0,false))) 2,interval:=rdV s (nx s 2 (nx s 1 (nx s 1 (0,false)))) 2}
def pI (s:ByteArray):Nat×Bool:=(nx s 2 (nx s 2 (nx s 1 (nx s 1 (0,false)))))
def R5 (s:ByteArray):M:=if 3<rdV s (0,false) 1 then M.zero else { I5 s with addr:=lgT (rdV s (0,false) 1) (rdT s (pI s) (sizeA (rdV s (0,false) 1)))}
def b5 (s:ByteArray):Bool:=decide (rdV s (0,false) 1≤3)
def p5 (s:ByteArray):Nat×Bool:=if 3<rdV s (0,false) 1 then pI s else nx s (sizeA (rdV s (0,false) 1)) (pI s)
def TookB (m:M)(c:Bool)(s:ByteArray)(p:Nat×Bool)(b:Nat)(w:World)(e:Ending)(w':World):Prop:=e = .returned (.tuple #[.agg m.cells,.bool c])∧Bk 208 w' b (cu s p)∧Bel w.heap.size b w w'
theorem g0u (s:ByteArray)(b:Nat)(hs:s.size≤maxLen)(w:World)(hb:Bk 208 w b (cu s (0,false)))(ht:Tab w)(hb0:2<b) :
    Calls Tryz.prog 318 #[.pointer (some ⟨b,0,none⟩)] w (TookB (R5 s) (b5 s) s (p5 s) b w):=by
 have HT:=Lib.hid ht;have hw0:=ht.pos;clear ht;refine' qzo;refine' qz5x;rw[hz]at A0
 have HG:=Lib.hid (R.start w s ({ M.zero with kind:=10}:M) hb (Nat.zero_le _))
 refine' qzax
 go_upto_region 2 with(first|(refine d0a rfl 29 _ rfl (M.cells ({ M.zero with kind:=10}:M)) (by kernel_rfl) ?_)|(change wpList _ _ _ _ _ (W.alloc (.cells M.zero.cells 29));refine e0a (b:=w.heap.size+1) (m:=M.zero) (m':=({ M.zero with kind:=10}:M)) rfl _ _ rfl (by first|rfl|(rw[←hz];rfl)) rfl A0 ?_))
 try rw[hz]
 clear A0 hz;refine' qz5q;refine' qz7p;intro e V7 ht;refine' qz6r;have d:=G0.msg.cs.c5;have fd:=G0.msg.frozen 5
 have HG:=Lib.hid (show R w (V7.setCell ⟨w.heap.size+1,5,none⟩ (.int .i64 (rdV s (0,false) 1))) b (w.heap.size+1) s ({ M.zero with kind:=10,ae:=(rdV s (0,false) 1)}:M) (nx s 1 (0,false))from G0.set (m':=({ M.zero with kind:=10,ae:=(rdV s (0,false) 1)}:M)) rfl)
 clear G0;refine' qzcn;clear d fd;generalize V7.setCell ⟨w.heap.size+1,5,none⟩ (.int .i64 (rdV s (0,false) 1))=W7 at *;refine' qzg;refine(rdtext s (nx s 1 (0,false)) 1 b 1 rfl hs HG.out.le _ HG.out.rd).mono ?_;intro e V8 ht;refine' qz6r;have HG:=Lib.hid G0;clear G0;refine' qzg
 refine(rdnum s (nx s 1 (nx s 1 (0,false))) 2 b 2 rfl hs HG.out.le (by omega) (by omega) _ HG.out.rd).mono ?_
 intro e V9 ht;refine' qz6r;have d:=G0.msg.cs.c18;have fd:=G0.msg.frozen 18
 have HG:=Lib.hid (show R w (V9.setCell ⟨w.heap.size+1,18,none⟩ (.int .i64 (rdV s (nx s 1 (nx s 1 (0,false))) 2))) b (w.heap.size+1) s ({ M.zero with kind:=10,ae:=(rdV s (0,false) 1),cost:=(rdV s (nx s 1 (nx s 1 (0,false))) 2)}:M) (nx s 2 (nx s 1 (nx s 1 (0,false))))from G0.set (m':=({ M.zero with kind:=10,ae:=(rdV s (0,false) 1),cost:=(rdV s (nx s 1 (nx s 1 (0,false))) 2)}:M)) rfl)
 clear G0;refine' qzcv;clear d fd;generalize V9.setCell ⟨w.heap.size+1,18,none⟩ (.int .i64 (rdV s (nx s 1 (nx s 1 (0,false))) 2))=W9 at *;refine' qzg
 refine(rdnum s (nx s 2 (nx s 1 (nx s 1 (0,false)))) 2 b 2 rfl hs HG.out.le (by omega) (by omega) _ HG.out.rd).mono ?_
 intro e V10 ht;refine' qz6r;have d:=G0.msg.cs.c14;have fd:=G0.msg.frozen 14
 have HG:=Lib.hid (show R w (V10.setCell ⟨w.heap.size+1,14,none⟩ (.int .i64 (rdV s (nx s 2 (nx s 1 (nx s 1 (0,false)))) 2))) b (w.heap.size+1) s ({ M.zero with kind:=10,ae:=(rdV s (0,false) 1),cost:=(rdV s (nx s 1 (nx s 1 (0,false))) 2),interval:=(rdV s (nx s 2 (nx s 1 (nx s 1 (0,false)))) 2)}:M) (nx s 2 (nx s 2 (nx s 1 (nx s 1 (0,false)))))from G0.set (m':=({ M.zero with kind:=10,ae:=(rdV s (0,false) 1),cost:=(rdV s (nx s 1 (nx s 1 (0,false))) 2),interval:=(rdV s (nx s 2 (nx s 1 (nx s 1 (0,false)))) 2)}:M)) rfl)
 clear G0;refine' qzcp;clear d fd;generalize V10.setCell ⟨w.heap.size+1,14,none⟩ (.int .i64 (rdV s (nx s 2 (nx s 1 (nx s 1 (0,false)))) 2))=W10 at *
 have HG1:=Lib.hid (show R w W10 b (w.heap.size+1) s (I5 s) (pI s)from HG.out)
 clear HG;have HG:=HG1;clear HG1
 have HV:=Lib.hid (show(I5 s).ae=rdV s (0,false) 1 from rfl)
 have PI:=Lib.hid (fun x V=>v0p x V)
 have hv:=m1c (s:=s) (p:=(0,false)) (k:=1) 256 (by decide) (by decide)
 have HR:=Lib.hid (show R5 s=if 3<rdV s (0,false) 1 then M.zero else { I5 s with addr:=lgT (rdV s (0,false) 1) (rdT s (pI s) (sizeA (rdV s (0,false) 1)))} from rfl)
 have HQ:=Lib.hid (show p5 s=if 3<rdV s (0,false) 1 then pI s else nx s (sizeA (rdV s (0,false) 1)) (pI s)from rfl)
 have HC:=Lib.hid (show b5 s=decide (rdV s (0,false) 1≤3)from rfl)
 generalize R5 s=r5 at *;generalize p5 s=q5 at *;generalize b5 s=c5 at *;generalize I5 s=mi at *;generalize pI s=pi at *;generalize rdV s (0,false) 1=x at *;have c5:=HG.out.msg.cs.c5;rw[HV.out]at c5;by_cases h3:3<x
 · rw[if_pos h3]at HR HQ
   rw[decide_eq_false (by omega)]at HC
   have PI:=Lib.hid (fun V=>PI.out x V)
   rw[decide_eq_false (by omega)]at PI
   refine' qzaz;rintro e V' ⟨rfl,rfl⟩;have HE:=Lib.hid (HG.out.ends M.zero)
   go_wp2_with (first|(refine d0a rfl 29 _ rfl (M.cells M.zero) (by kernel_rfl) ?_)|(refine e0a (b:=w.heap.size) (m:=M.zero) (m':=M.zero) rfl _ _ rfl rfl rfl HG.out.res ?_))
   exact bodyPost_ret (v := .tuple #[.agg M.zero.cells,.bool false]) (m0a rfl _ _ w.heap.size _ rfl (loadVarK shM HE.out.1 rfl) _ rfl) rfl ⟨by rw[HR.out,HC.out],by rw[HQ.out];exact HE.out.2.1,HE.out.2.2⟩
 rw[if_neg h3]at HR HQ
 rw[decide_eq_true (by omega)]at HC
 have PI:=Lib.hid (fun V=>PI.out x V)
 rw[decide_eq_true (by omega)]at PI
 rcases(show x=0∨x=1∨x=2∨x=3 by omega)with rfl|rfl|rfl|rfl
 · have HR:=Lib.hid (show r5={ mi with addr:=lgT 0 (rdT s pi 0)} from HR.out)
   have HQ:=Lib.hid (show q5=nx s 0 pi from HQ.out)
   have PT:=Lib.hid (fun V h=>rdtext s pi 0 b 0 rfl hs HG.out.le V h)
   have PL:=Lib.hid (fun V=>n0g 0 (rdT s pi 0) V)
   generalize rdT s pi 0=tx at *;generalize lgT 0 tx=ta at *;refine' qzaz;rintro e V' ⟨rfl,rfl⟩;clear c5;refine' qzcq
   refine wp_region_held_drew (S:=Ih (w.heap.size+1) 0 0 0) (by kernel_rfl) (Ih.of HG.out.drew.msg HV.out (HG.out.drew.bel.tab hw0 hb0 HT.out).a0) (fun hS=>?_)
   have hG:=HG.out.drew;clear HG PI;generalize World.drew _=X0 at *;refine' qzbt;refine H.tk (i:=1) (v := .int .i64 0) ?h1c0 hS ?_
   case h1c0=>exact(fun w hw=>by have c:=hw.1;go_simp)
   refine' qz0;refine H.tk (i:=2) (v:=?v2c0) ?h2c0 hS ?_
   case h2c0=>(intro w hw;go_simp;first|done|(with_reducible rfl))
   refine' qz0;refine H.tk (i:=3) (v:=?v3c0) ?h3c0 hS ?_
   case h3c0=>(intro w hw;go_simp;first|done|(with_reducible rfl))
   refine' qz0;refine H.tk (i:=4) (v := .int .i64 0) ?h4c0 hS ?_
   case h4c0=>exact(fun w hw=>by have c:=hw.1;go_simp)
   refine' qz0;refine H.tk (i:=5) (v := .pointer (some ⟨0,0,none⟩)) ?h5c0 hS ?_
   case h5c0=>exact(fun w hw=>by go_simp)
   refine' qz0;refine H.tk (i:=6) (v := .int .i64 0) ?h6c0 hS ?_
   case h6c0=>exact(fun w hw=>by have c:=hw.2;go_simp)
   refine' qz1s;refine' qzk;refine(PT.out _ hG.rd).mono ?_;intro e V7 ht7;have hG:=hG.step ht7;obtain⟨rfl,ht7⟩:=ht7
   refine hK.out _ _ (Ih.of hG.msg HV.out (hG.bel.tab hw0 hb0 HT.out).a0) (fun hS7=>?_)
   clear hK K hS ht7;have hS:=hS7;clear hS7;refine' qzu;refine' qzk;refine(PL.out _).mono ?_;rintro e V8 ⟨rfl,rfl⟩
   refine hK.out _ _ hS (fun _=>?_)
   refine' qzy;refine H.tk (i:=9) (v:=?v9c0) ?h9c0 hS ?_
   case h9c0=>(intro w hw;go_simp;first|done|(with_reducible rfl))
   refine' qz2v;refine' qz9g;have fx:=hG.msg.frozen 19;refine' qz9h
   refine hK.out _ _ (Ih.of hG.msg HV.out (hG.bel.tab hw0 hb0 HT.out).a0) (fun hS'=>?_)
   refine' qz1
   have HE:=Lib.hid (hG.ends { mi with addr:=ta})
   refine' qz1f
 · have HR:=Lib.hid (show r5={ mi with addr:=lgT 1 (rdT s pi 4)} from HR.out)
   have HQ:=Lib.hid (show q5=nx s 4 pi from HQ.out)
   have PT:=Lib.hid (fun V h=>rdtext s pi 4 b 4 rfl hs HG.out.le V h)
   have PL:=Lib.hid (fun V=>n0g 1 (rdT s pi 4) V)
   generalize rdT s pi 4=tx at *;generalize lgT 1 tx=ta at *;refine' qzaz;rintro e V' ⟨rfl,rfl⟩;clear c5;refine' qzcq
   refine wp_region_held_drew (S:=Ih (w.heap.size+1) 1 1 4) (by kernel_rfl) (Ih.of HG.out.drew.msg HV.out (HG.out.drew.bel.tab hw0 hb0 HT.out).a1) (fun hS=>?_)
   have hG:=HG.out.drew;clear HG PI;generalize World.drew _=X0 at *;refine' qzbu;refine H.tk (i:=1) (v := .int .i64 1) ?h1c1 hS ?_
   case h1c1=>exact(fun w hw=>by have c:=hw.1;go_simp)
   refine' qz0;refine H.tk (i:=2) (v:=?v2c1) ?h2c1 hS ?_
   case h2c1=>(intro w hw;go_simp;first|done|(with_reducible rfl))
   refine' qz0;refine H.tk (i:=3) (v:=?v3c1) ?h3c1 hS ?_
   case h3c1=>(intro w hw;go_simp;first|done|(with_reducible rfl))
   refine' qz0;refine H.tk (i:=4) (v := .int .i64 1) ?h4c1 hS ?_
   case h4c1=>exact(fun w hw=>by have c:=hw.1;go_simp)
   refine' qz0;refine H.tk (i:=5) (v := .pointer (some ⟨0,1,none⟩)) ?h5c1 hS ?_
   case h5c1=>exact(fun w hw=>by go_simp)
   refine' qz0;refine H.tk (i:=6) (v := .int .i64 4) ?h6c1 hS ?_
   case h6c1=>exact(fun w hw=>by have c:=hw.2;go_simp)
   refine' qz1s;refine' qzk;refine(PT.out _ hG.rd).mono ?_;intro e V7 ht7;have hG:=hG.step ht7;obtain⟨rfl,ht7⟩:=ht7
   refine hK.out _ _ (Ih.of hG.msg HV.out (hG.bel.tab hw0 hb0 HT.out).a1) (fun hS7=>?_)
   clear hK K hS ht7;have hS:=hS7;clear hS7;refine' qzu;refine' qzk;refine(PL.out _).mono ?_;rintro e V8 ⟨rfl,rfl⟩
   refine hK.out _ _ hS (fun _=>?_)
   refine' qzy;refine H.tk (i:=9) (v:=?v9c1) ?h9c1 hS ?_
   case h9c1=>(intro w hw;go_simp;first|done|(with_reducible rfl))
   refine' qz2v;refine' qz9g;have fx:=hG.msg.frozen 19;refine' qz9h
   refine hK.out _ _ (Ih.of hG.msg HV.out (hG.bel.tab hw0 hb0 HT.out).a1) (fun hS'=>?_)
   refine' qz1
   have HE:=Lib.hid (hG.ends { mi with addr:=ta})
   refine' qz1f
 · have HR:=Lib.hid (show r5={ mi with addr:=lgT 2 (rdT s pi 16)} from HR.out)
   have HQ:=Lib.hid (show q5=nx s 16 pi from HQ.out)
   have PT:=Lib.hid (fun V h=>rdtext s pi 16 b 16 rfl hs HG.out.le V h)
   have PL:=Lib.hid (fun V=>n0g 2 (rdT s pi 16) V)
   generalize rdT s pi 16=tx at *;generalize lgT 2 tx=ta at *;refine' qzaz;rintro e V' ⟨rfl,rfl⟩;clear c5;refine' qzcq
   refine wp_region_held_drew (S:=Ih (w.heap.size+1) 2 2 16) (by kernel_rfl) (Ih.of HG.out.drew.msg HV.out (HG.out.drew.bel.tab hw0 hb0 HT.out).a2) (fun hS=>?_)
   have hG:=HG.out.drew;clear HG PI;generalize World.drew _=X0 at *;refine' qzbv;refine H.tk (i:=1) (v := .int .i64 2) ?h1c2 hS ?_
   case h1c2=>exact(fun w hw=>by have c:=hw.1;go_simp)
   refine' qz0;refine H.tk (i:=2) (v:=?v2c2) ?h2c2 hS ?_
   case h2c2=>(intro w hw;go_simp;first|done|(with_reducible rfl))
   refine' qz0;refine H.tk (i:=3) (v:=?v3c2) ?h3c2 hS ?_
   case h3c2=>(intro w hw;go_simp;first|done|(with_reducible rfl))
   refine' qz0;refine H.tk (i:=4) (v := .int .i64 2) ?h4c2 hS ?_
   case h4c2=>exact(fun w hw=>by have c:=hw.1;go_simp)
   refine' qz0;refine H.tk (i:=5) (v := .pointer (some ⟨0,2,none⟩)) ?h5c2 hS ?_
   case h5c2=>exact(fun w hw=>by go_simp)
   refine' qz0;refine H.tk (i:=6) (v := .int .i64 16) ?h6c2 hS ?_
   case h6c2=>exact(fun w hw=>by have c:=hw.2;go_simp)
   refine' qz1s;refine' qzk;refine(PT.out _ hG.rd).mono ?_;intro e V7 ht7;have hG:=hG.step ht7;obtain⟨rfl,ht7⟩:=ht7
   refine hK.out _ _ (Ih.of hG.msg HV.out (hG.bel.tab hw0 hb0 HT.out).a2) (fun hS7=>?_)
   clear hK K hS ht7;have hS:=hS7;clear hS7;refine' qzu;refine' qzk;refine(PL.out _).mono ?_;rintro e V8 ⟨rfl,rfl⟩
   refine hK.out _ _ hS (fun _=>?_)
   refine' qzy;refine H.tk (i:=9) (v:=?v9c2) ?h9c2 hS ?_
   case h9c2=>(intro w hw;go_simp;first|done|(with_reducible rfl))
   refine' qz2v;refine' qz9g;have fx:=hG.msg.frozen 19;refine' qz9h
   refine hK.out _ _ (Ih.of hG.msg HV.out (hG.bel.tab hw0 hb0 HT.out).a2) (fun hS'=>?_)
   refine' qz1
   have HE:=Lib.hid (hG.ends { mi with addr:=ta})
   refine' qz1f
 · have HR:=Lib.hid (show r5={ mi with addr:=lgT 3 (rdT s pi 8)} from HR.out)
   have HQ:=Lib.hid (show q5=nx s 8 pi from HQ.out)
   have PT:=Lib.hid (fun V h=>rdtext s pi 8 b 8 rfl hs HG.out.le V h)
   have PL:=Lib.hid (fun V=>n0g 3 (rdT s pi 8) V)
   generalize rdT s pi 8=tx at *;generalize lgT 3 tx=ta at *;refine' qzaz;rintro e V' ⟨rfl,rfl⟩;clear c5;refine' qzcq
   refine wp_region_held_drew (S:=Ih (w.heap.size+1) 3 3 8) (by kernel_rfl) (Ih.of HG.out.drew.msg HV.out (HG.out.drew.bel.tab hw0 hb0 HT.out).a3) (fun hS=>?_)
   have hG:=HG.out.drew;clear HG PI;generalize World.drew _=X0 at *;refine' qzbw;refine H.tk (i:=1) (v := .int .i64 3) ?h1c3 hS ?_
   case h1c3=>exact(fun w hw=>by have c:=hw.1;go_simp)
   refine' qz0;refine H.tk (i:=2) (v:=?v2c3) ?h2c3 hS ?_
   case h2c3=>(intro w hw;go_simp;first|done|(with_reducible rfl))
   refine' qz0;refine H.tk (i:=3) (v:=?v3c3) ?h3c3 hS ?_
   case h3c3=>(intro w hw;go_simp;first|done|(with_reducible rfl))
   refine' qz0;refine H.tk (i:=4) (v := .int .i64 3) ?h4c3 hS ?_
   case h4c3=>exact(fun w hw=>by have c:=hw.1;go_simp)
   refine' qz0;refine H.tk (i:=5) (v := .pointer (some ⟨0,3,none⟩)) ?h5c3 hS ?_
   case h5c3=>exact(fun w hw=>by go_simp)
   refine' qz0;refine H.tk (i:=6) (v := .int .i64 8) ?h6c3 hS ?_
   case h6c3=>exact(fun w hw=>by have c:=hw.2;go_simp)
   refine' qz1s;refine' qzk;refine(PT.out _ hG.rd).mono ?_;intro e V7 ht7;have hG:=hG.step ht7;obtain⟨rfl,ht7⟩:=ht7
   refine hK.out _ _ (Ih.of hG.msg HV.out (hG.bel.tab hw0 hb0 HT.out).a3) (fun hS7=>?_)
   clear hK K hS ht7;have hS:=hS7;clear hS7;refine' qzu;refine' qzk;refine(PL.out _).mono ?_;rintro e V8 ⟨rfl,rfl⟩
   refine hK.out _ _ hS (fun _=>?_)
   refine' qzy;refine H.tk (i:=9) (v:=?v9c3) ?h9c3 hS ?_
   case h9c3=>(intro w hw;go_simp;first|done|(with_reducible rfl))
   refine' qz2v;refine' qz9g;have fx:=hG.msg.frozen 19;refine' qz9h
   refine hK.out _ _ (Ih.of hG.msg HV.out (hG.bel.tab hw0 hb0 HT.out).a3) (fun hS'=>?_)
   refine' qz1
   have HE:=Lib.hid (hG.ends { mi with addr:=ta})
   refine' qz1f
end G4
end Go.Proofs.YtllhobicfclheaaGreatDoor
