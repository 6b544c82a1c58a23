/-
  A part of a proof. No conditions.
-/
import Derived.Test.YtllhobicfclheaaGreatDoorY07
namespace Go.Proofs.YtllhobicfclheaaGreatDoor
open Go.ChangeShapes Go.WideShapes Go.ChangeAt Go.RowKit
set_option linter.unusedVariables false
set_option maxRecDepth 100000
set_option maxHeartbeats 51200000
namespace Ck
open Ms Box Rp Ps PRt Hs
open Bk (E Bk shE q0a loadVarK f0a a0a o0a)
open Go.Proofs.YtllhobicfclheaaGreatDoor.Or (p0a)
structure E4 (e:E):Prop where
  (a:e.addr.size=4) (m:e.mask.size=4) (n:e.next.size=4)
theorem ent4 (s:ByteArray)(h:s.size=20):E4 (Ent.E.of s):=by
 constructor<;>(unfold Ent.E.of;simp;omega)
theorem int_eq {k:IntKind}{a b:Int}(h:a=b):Ending.returned (.int k a) = .returned (.int k b):=by rw[h]
theorem boxE (w:World)(e:E):Bk 59 (w.alloc (.cells e.cells 59)) w.heap.size e.cells∧Below w.heap.size w (w.alloc (.cells e.cells 59)):=⟨Bk.Bk.new _ w _,balloc (Below.refl _ w) _⟩
theorem box2 (w:World)(h:M)(e:E):Bx ((w.alloc (.cells h.cells 29)).alloc (.cells e.cells 59)) w.heap.size h∧Bk 59 ((w.alloc (.cells h.cells 29)).alloc (.cells e.cells 59)) (w.heap.size+1) e.cells∧
    Below w.heap.size w ((w.alloc (.cells h.cells 29)).alloc (.cells e.cells 59)):=by
 refine⟨(Bx.new w h).old _,?_,balloc (balloc (Below.refl _ w) _) _⟩;have:=Bk.Bk.new 59 (w.alloc (.cells h.cells 29)) e.cells;rwa [Bk.b0a]at this
structure Ec (w:World)(b:Nat)(e:E):Prop where
  c0:w.cell? ⟨b,0,none⟩=some (.int .i64 e.fam)
  c1:w.cell? ⟨b,1,none⟩=some (.int .i64 e.tag)
  c2:w.cell? ⟨b,2,none⟩=some (.string e.addr)
  c3:w.cell? ⟨b,3,none⟩=some (.string e.mask)
  c4:w.cell? ⟨b,4,none⟩=some (.string e.next)
  c5:w.cell? ⟨b,5,none⟩=some (.int .i64 e.met)
theorem ec {w:World}{b:Nat}{e:E}(h:Bk 59 w b e.cells):Ec w b e:=by
 constructor<;>exact h.cell _ _ rfl
theorem k1i (e:E)(w:World):Calls Tryz.prog 271 #[.agg e.cells] w fun r w'=>r = .returned (.int .i64 (ckMet e))∧Below w.heap.size w w':=by
 obtain⟨b0,bel⟩:=boxE w e
 have P1:=Lib.hid (fun W=>y0m e.met W)
 refine' qzc2;have c5:=(ec b0).c5;clear b0
 have HA:=Lib.hid (show ckMet e=if isMet e.met then 0 else 6 from rfl)
 generalize isMet e.met=x at *;cases x
 all_goals
  refine' qzh;rintro r w1 ⟨rfl,rfl⟩;refine' qzj;exact⟨int_eq HA.out.symm,bel⟩
theorem n1r (e:E)(w:World):Calls Tryz.prog 217 #[.agg e.cells] w fun r w'=>r = .returned (.int .i64 (ck1 e))∧Below w.heap.size w w':=by
 obtain⟨b0,bel⟩:=boxE w e
 have P1:=Lib.hid (fun W=>k1i e W)
 refine' qzc2;have c1:=(ec b0).c1;have c3:=(ec b0).c3;have c4:=(ec b0).c4;refine' qz6h
 have HA:=Lib.hid (show ck1 e=if e.tag==0&&(isN e.mask&&isN e.next)then ckMet e else 5 from rfl)
 have n1:(e.mask.toList == [0,0,0,0])=isN e.mask:=rfl
 have n2:(e.next.toList == [0,0,0,0])=isN e.next:=rfl
 have n3:(e.mask.toList != [0,0,0,0]) = !isN e.mask:=rfl
 have n4:(e.next.toList != [0,0,0,0]) = !isN e.next:=rfl
 have n5:(e.tag != 0) = !(e.tag==0):=rfl;generalize isN e.mask=x2 at *
 generalize isN e.next=x3 at *
 generalize h1:(e.tag==0)=x1 at *;cases x1
 · have HZ:=Lib.hid (show ck1 e=5 by rw[HA.out];rfl)
   clear HA;refine' qz46
 cases x2
 · have HZ:=Lib.hid (show ck1 e=5 by rw[HA.out];rfl)
   clear HA;refine' qz46
 cases x3
 · have HZ:=Lib.hid (show ck1 e=5 by rw[HA.out];rfl)
   clear HA;refine' qz46
 have HZ:=Lib.hid (show ck1 e=ckMet e by rw[HA.out];rfl)
 clear HA;refine' qzac;rintro r w1 ⟨rfl,hb⟩;have bel:=bcall bel hb;clear hb c1 c3 c4;refine' qz46
theorem u1q (e:E)(w:World)(he:E4 e):Calls Tryz.prog 218 #[.agg e.cells] w fun r w'=>r = .returned (.int .i64 (ck2 e))∧Below w.heap.size w w':=by
 obtain⟨b0,bel⟩:=boxE w e
 have P1:=Lib.hid (fun W=>k1i e W)
 have P2:=Lib.hid (fun W=>Mask.u0w e.mask W (by have:=he.m;omega))
 have P3:=Lib.hid (fun W=>Pre.l0a e.addr ((Mask.plenN e.mask:Nat):Int) W (by have:=he.a;unfold maxLen;omega))
 clear he;refine' qzc2;have c3:=(ec b0).c3;refine' qz6h
 have HA:=Lib.hid (show ck2 e=if Mask.isMask e.mask&&Pre.rightZ e.addr ((Mask.plenN e.mask:Nat):Int)then ckMet e else 7 from rfl)
 generalize Mask.isMask e.mask=x1 at *;generalize Pre.rightZ e.addr ((Mask.plenN e.mask:Nat):Int)=x2 at *;generalize Mask.plenN e.mask=n at *;refine' qzt;rintro r w1 ⟨rfl,hb⟩;have bel:=bcall bel hb;have B0:=Lib.hid (B0.out.below hb);have c2:=(ec B0.out).c2;clear hb c3 P2;cases x1
 · have HZ:=Lib.hid (show ck2 e=7 by rw[HA.out];rfl)
   clear HA;refine' qz46
 cases x2
 · have HZ:=Lib.hid (show ck2 e=7 by rw[HA.out];rfl)
   clear HA;refine' qz25;refine' qz8k;clear hb c2;refine' qz46
 have HZ:=Lib.hid (show ck2 e=ckMet e by rw[HA.out];rfl)
 clear HA;refine' qz25;refine' qz8k;have B0:=Lib.hid (B0.out.below hb);clear hb c2 P3;refine' qzac;rintro r w3 ⟨rfl,hb⟩;have bel:=bcall bel hb;clear hb;refine' qz46
theorem z1l (h:M)(e:E)(w:World)(he:E4 e):Calls Tryz.prog 219 #[.agg h.cells,.agg e.cells] w fun r w'=>r = .returned (.int .i64 (plenE h e))∧Below w.heap.size w w':=by
 obtain⟨b0,b1,bel⟩:=box2 w h e
 have P2:=Lib.hid (fun W=>Mask.u0w e.mask W (by have:=he.m;omega))
 clear he
 have HA:=Lib.hid (show plenE h e=if e.fam=0 then 0 else if h.ver=1 then 32 else((Mask.plenN e.mask:Nat):Int)from rfl)
 generalize Mask.plenN e.mask=n at *;refine' qzi;generalize (w.alloc (.cells h.cells 29)).alloc _=V at *;have c0:=(ec b1).c0;have c3:=(ec b1).c3;have d2:=b0.cs.c2;clear b0 b1;by_cases h0:e.fam=0
 · have HZ:=Lib.hid (show plenE h e=0 by rw[HA.out,if_pos h0])
   have e0:(e.fam==0)=true:=by simpa using h0
   clear HA h0;refine' qz46
 have e0:(e.fam==0)=false:=by simpa using h0
 by_cases h1:h.ver=1
 · have HZ:=Lib.hid (show plenE h e=32 by rw[HA.out,if_neg h0,if_pos h1])
   have e1:(h.ver==1)=true:=by simpa using h1
   clear HA h0 h1;refine' qz46
 have e1:(h.ver==1)=false:=by simpa using h1
 have HZ:=Lib.hid (show plenE h e=(n:Int) by rw[HA.out,if_neg h0,if_neg h1])
 clear HA h0 h1;refine' qzt;refine' qz8k;clear hb c0 c3 d2;refine' qz46
structure R (w0 w:World)(n g:Nat)(h:M)(e:E)(m:M):Prop where
  hd:Bx w n h
  en:Bk 59 w (n+1) e.cells
  res:Bx w (n+1+1) M.zero
  own:Bx w g m
  o:n+1+1<g
  bel:Below n w0 w
theorem R.set {w0 w:World}{n g:Nat}{h:M}{e:E}{m m':M}(r:R w0 w n g h e m){i:Nat}{v:Value}(hm:m.cells.setIfInBounds i v=m'.cells):R w0 (w.setCell ⟨g,i,none⟩ v) n g h e m':=
  ⟨r.hd.off (by have:=r.o;show n≠g;omega) _,r.en.off (by have:=r.o;show n+1≠g;omega) _,r.res.off (by have:=r.o;show n+1+1≠g;omega) _,r.own.set hm,r.o,r.bel.setCell (p:=⟨g,i,none⟩) (by have:=r.o;show n≤g;omega) _⟩
theorem R.call {w0 w w':World}{n g:Nat}{h:M}{e:E}{m:M}(r:R w0 w n g h e m)(hb:Below w.heap.size w w'):R w0 w' n g h e m:=
  ⟨r.hd.below hb,r.en.below hb,r.res.below hb,r.own.below hb,r.o,r.bel.trans (hb.mono (by have:=r.hd.lt;omega))⟩
theorem n0v (h:M)(e:E)(w:World)(he:E4 e):Calls Tryz.prog 156 #[.agg h.cells,.agg e.cells] w fun r w'=>r = .returned (.agg (routeM h e).cells)∧Below w.heap.size w w':=by
 have P1:=Lib.hid (fun W=>z1l h e W he)
 have HA:=Lib.hid (show routeM h e={ h with family:=e.fam,tag:=e.tag,pfx:=e.addr,plen:=plenE h e,next:=e.next,metric:=e.met} from rfl)
 generalize plenE h e=q at *;clear he;refine' qzi;have st:Bx (((w.alloc (.cells h.cells 29)).alloc (.cells e.cells 59)).alloc (.cells M.zero.cells 29)) w.heap.size h∧Bk 59 (((w.alloc (.cells h.cells 29)).alloc (.cells e.cells 59)).alloc (.cells M.zero.cells 29)) (w.heap.size+1) e.cells∧
  Bx (((w.alloc (.cells h.cells 29)).alloc (.cells e.cells 59)).alloc (.cells M.zero.cells 29)) (w.heap.size+1+1) M.zero∧Below w.heap.size w (((w.alloc (.cells h.cells 29)).alloc (.cells e.cells 59)).alloc (.cells M.zero.cells 29)):=by
  obtain⟨b0,b1,bel⟩:=box2 w h e;refine⟨b0.old _,b1.old _,?_,balloc bel _⟩;have:=Bx.new ((w.alloc (.cells h.cells 29)).alloc (.cells e.cells 59)) M.zero;rwa [Bk.b0a,Bk.b0a]at this
 obtain⟨b0,b1,b2,bel⟩:=st;change Code.wp _ _ _ _ (((w.alloc (.cells h.cells 29)).alloc (.cells e.cells 59)).alloc (.cells M.zero.cells 29));generalize ((w.alloc (.cells h.cells 29)).alloc (.cells e.cells 59)).alloc (.cells M.zero.cells 29)=V at *;have B0:=Lib.hid b0
 go_upto_region 2 with(first|(refine j0a (b:=w.heap.size) (m:=h) rfl _ rfl rfl B0.out ?_)|(refine e0a (m:=M.zero) (m':=h) rfl _ _ rfl rfl rfl (heap_alloc_new _ _) ?_))
 change Code.wp _ _ _ _ ((V.alloc (.cells M.zero.cells 29)).setRow V.heap.size h.cells);refine' qz33;have r0:R w (V.alloc (.cells h.cells 29)) w.heap.size V.heap.size h e h:=⟨b0.old _,b1.old _,b2.old _,Bx.new V h,b2.lt,balloc bel _⟩;clear b0 b1 b2 bel B0;generalize V.alloc (.cells h.cells 29)=W at *;generalize V.heap.size=g at *;have d0:=(ec r0.en).c0;have cE:=r0.own.cs.c4;have fE:=r0.own.frozen 4;refine' qzcn
 replace r0:=r0.set (i:=4) (v := .int .i64 e.fam) (m':={ h with family:=e.fam}) rfl
 clear d0 cE fE;generalize World.setCell _ _ _=W at *;have d0:=(ec r0.en).c1;have cE:=r0.own.cs.c8;have fE:=r0.own.frozen 8;refine' qzco
 replace r0:=r0.set (i:=8) (v := .int .i64 e.tag) (m':={ h with family:=e.fam,tag:=e.tag}) rfl
 clear d0 cE fE;generalize World.setCell _ _ _=W at *;have d0:=(ec r0.en).c2;have cE:=r0.own.cs.c6;have fE:=r0.own.frozen 6;refine' qzcv
 replace r0:=r0.set (i:=6) (v := .string e.addr) (m':={ h with family:=e.fam,tag:=e.tag,pfx:=e.addr}) rfl
 clear d0 cE fE;generalize World.setCell _ _ _=W at *
 go_wp2_with (first|(refine j0a (b:=w.heap.size) (m:=h) rfl _ rfl rfl r0.hd ?_)|(refine f0a (b:=w.heap.size+1) shE rfl _ rfl rfl r0.en rfl ?_))
 refine(P1.out _).mono ?_;rintro r w2 ⟨rfl,hb⟩;replace r0:=r0.call hb;clear hb;have cE:=r0.own.cs.c7;have fE:=r0.own.frozen 7;refine' qzcp
 replace r0:=r0.set (i:=7) (v := .int .i64 q) (m':={ h with family:=e.fam,tag:=e.tag,pfx:=e.addr,plen:=q}) rfl
 refine' qzab;have d0:=(ec r0.en).c4;have cE:=r0.own.cs.c9;have fE:=r0.own.frozen 9
 go_upto_region 7 with fail
 replace r0:=r0.set (i:=9) (v := .string e.next) (m':={ h with family:=e.fam,tag:=e.tag,pfx:=e.addr,plen:=q,next:=e.next}) rfl
 clear d0 cE fE;generalize World.setCell _ _ _=W at *;have d0:=(ec r0.en).c5;have cE:=r0.own.cs.c10;have fE:=r0.own.frozen 10;refine' qzcq
 replace r0:=r0.set (i:=10) (v := .int .i64 e.met) (m':=routeM h e) (by rw[HA.out];rfl)
 clear d0 cE fE;generalize World.setCell _ _ _=W at *
 go_wp2_with (first|(refine j0a (b:=g) (m:=routeM h e) rfl _ rfl rfl r0.own ?_)|(refine e0a (b:=w.heap.size+1+1) (m:=M.zero) (m':=routeM h e) rfl _ _ rfl rfl rfl r0.res ?_))
 exact bodyPost_ret (v := .agg (routeM h e).cells) (q0a (n:=25) (ty:=29) rfl _ _ (w.heap.size+1+1) _ rfl ⟨_,Tryz.underlying29,infoM⟩ (r0.res.put (m':=routeM h e)) rfl) rfl ⟨rfl,below_setRow r0.bel (by omega) _⟩
theorem w1j {h:M}(hi:∀ w,h.In w)(e:E)(w:World):(routeM h e).In w:=⟨(hi w).d,(hi w).s,(hi w).dl,(hi w).sl⟩
theorem x1q (h:M)(e:E)(a:Bool)(w:World)(he:E4 e)(hi:∀ w,h.In w):Calls Tryz.prog 216 #[.agg h.cells,.agg e.cells,.bool a] w fun r w'=>r = .returned (.int .i64 (ck0 h e a))∧Below w.heap.size w w':=by
 obtain⟨b0,b1,bel⟩:=box2 w h e
 have P1:=Lib.hid (fun W=>n0v h e W he)
 have P2:=Lib.hid (fun W=>l0f (routeM h e) W (w1j hi e W))
 clear he hi
 have HA:=Lib.hid (show ck0 h e a=if a&&(isN e.mask&&rightB (routeM h e))then 0 else 7 from rfl)
 have n1:(e.mask.toList == [0,0,0,0])=isN e.mask:=rfl;have n3:(e.mask.toList != [0,0,0,0]) = !isN e.mask:=rfl;generalize isN e.mask=x2 at *;generalize rightB (routeM h e)=x3 at *;generalize routeM h e=z at *;refine' qzi;generalize (w.alloc (.cells h.cells 29)).alloc _=V at *;have c3:=(ec b1).c3;have B0:=Lib.hid b0;have B1:=Lib.hid b1;clear b0 b1;cases a
 · have HZ:=Lib.hid (show ck0 h e false=7 by rw[HA.out];rfl)
   clear HA;refine' qz46
 cases x2
 · have HZ:=Lib.hid (show ck0 h e true=7 by rw[HA.out];rfl)
   clear HA;refine' qz46
 cases x3
 all_goals
  go_wp2_with (first|(refine p0a (v := .agg (M.cells h)) (by rfl) rfl (a0b (x := .tmp 3) rfl rfl B0.out) ?_)|(refine p0a (v := .agg e.cells) (by rfl) rfl (o0a (x := .tmp 4) shE rfl rfl B1.out rfl) ?_))
  refine(P1.out _).mono ?_;refine' qz8k;clear hb c3;refine' qzt;rintro r w3 ⟨rfl,hb⟩;have bel:=bcall bel hb;clear hb;refine' qzj
  exact⟨int_eq (by rw[HA.out];rfl),bel⟩
theorem b1k (h:M)(e:E)(a:Bool)(w:World)(he:E4 e)(hi:∀ w,h.In w):Calls Tryz.prog 155 #[.agg h.cells,.agg e.cells,.bool a] w fun r w'=>r = .returned (.int .i64 (ckE h e a))∧Below w.heap.size w w':=by
 obtain⟨b0,b1,bel⟩:=box2 w h e
 have P0:=Lib.hid (fun W=>x1q h e a W he hi)
 have P1:=Lib.hid (fun W=>n1r e W)
 have P2:=Lib.hid (fun W=>u1q e W he)
 clear he hi
 have HA:=Lib.hid (show ckE h e a=if e.fam=0 then ck0 h e a else if e.fam=2 then(if h.ver=1 then ck1 e else ck2 e)else 4 from rfl)
 refine' qzi;generalize (w.alloc (.cells h.cells 29)).alloc _=V at *;have c0:=(ec b1).c0;have d2:=b0.cs.c2;have B0:=Lib.hid b0;have B1:=Lib.hid b1;clear b0 b1;by_cases h0:e.fam=0
 · have HZ:=Lib.hid (show ckE h e a=ck0 h e a by rw[HA.out,if_pos h0])
   have e0:(e.fam==0)=true:=by simpa using h0
   clear HA h0
   go_wp2_with (first|(refine j0a (b:=w.heap.size) (m:=h) rfl _ rfl rfl B0.out ?_)|(refine f0a (b:=w.heap.size+1) shE rfl _ rfl rfl B1.out rfl ?_))
   refine(P0.out _).mono ?_;refine' qz8k;clear hb c0 d2;refine' qz46
 have e0:(e.fam==0)=false:=by simpa using h0
 by_cases h2:e.fam=2;rotate_left
 · have HZ:=Lib.hid (show ckE h e a=4 by rw[HA.out,if_neg h0,if_neg h2])
   have e2:(e.fam==2)=false:=by simpa using h2
   clear HA h0 h2;refine' qz46
 have e2:(e.fam==2)=true:=by simpa using h2
 by_cases h1:h.ver=1
 · have HZ:=Lib.hid (show ckE h e a=ck1 e by rw[HA.out,if_neg h0,if_pos h2,if_pos h1])
   have e1:(h.ver==1)=true:=by simpa using h1
   clear HA h0 h2 h1
   go_wp2_with (first|(refine f0a (b:=w.heap.size+1) shE rfl _ rfl rfl B1.out rfl ?_))
   refine(P1.out _).mono ?_;refine' qz8k;clear hb c0 d2;refine' qz46
 have HZ:=Lib.hid (show ckE h e a=ck2 e by rw[HA.out,if_neg h0,if_pos h2,if_neg h1])
 have e1:(h.ver==1)=false:=by simpa using h1
 clear HA h0 h2 h1
 go_wp2_with (first|(refine f0a (b:=w.heap.size+1) shE rfl _ rfl rfl B1.out rfl ?_))
 refine' qzs;refine' qz8k;clear hb c0 d2;refine' qz46
end Ck
namespace Hd
open Ms Box Rp Ps PRt Hs Ck Hx
theorem t0b {a c:Int}{p:Int×Int}(h:p=(a,c)):Ending.returned (.tuple #[.int .i64 a,.int .i64 c]) = .returned (.tuple #[.int .i64 p.1,.int .i64 p.2]):=by rw[h]
theorem h1n (b:ByteArray)(w:World)(hs:b.size≤1048576):Calls Tryz.prog 80 #[.string b] w fun r w'=>r = .returned (.tuple #[.int .i64 (hdAt b).1,.int .i64 (hdAt b).2])∧w=w':=by
 have HA:=Lib.hid (show hdAt b=if b.size<4 then((b.size:Int),2)else if isCmd (bt b 0)=false then(0,4)else if isCmd (bt b 1)=false then(1,4)else if Oct.zeroB (b.extract 2 4).data.toList=false then(2,5)else(0,0)from rfl)
 by_cases h4:b.size<4
 · have HZ:=Lib.hid (show hdAt b=((b.size:Int),2) by rw[HA.out,if_pos h4])
   clear HA;go_in;refine' qz4e
 have HA:=Lib.hid (show hdAt b=if isCmd (bt b 0)=false then(0,4)else if isCmd (bt b 1)=false then(1,4)else if Oct.zeroB (b.extract 2 4).data.toList=false then(2,5)else(0,0) by rw[HA.out,if_neg h4])
 have k0:0<b.size:=by omega
 have k1:1<b.size:=by omega
 have P0:Hid (∀ W,Calls Tryz.prog 145 #[.int .i64 (b[0].toNat:Int)] W fun e w'=>e = .returned (.bool (isCmd (bt b 0)))∧W=w'):=Lib.hid (fun W=>by rw[←p0h b 0 k0];exact a0n _ W)
 have P1:Hid (∀ W,Calls Tryz.prog 146 #[.int .i64 (b[1].toNat:Int)] W fun e w'=>e = .returned (.bool (isCmd (bt b 1)))∧W=w'):=Lib.hid (fun W=>by rw[←p0h b 1 k1];exact b1b _ W)
 have P2:=Lib.hid (fun W=>Oct.v0v (b.extract 2 4) W (by unfold maxLen;simp;omega))
 generalize isCmd (bt b 0)=x1 at *;generalize isCmd (bt b 1)=x2 at *;generalize Oct.zeroB (b.extract 2 4).data.toList=x3 at *;have u0:=b[0].toNat_lt;have u1:=b[1].toNat_lt;cases x1
 · have HZ:=Lib.hid (show hdAt b=(0,4) by rw[HA.out];rfl)
   clear HA;refine' qz16;refine(P0.out _).mono ?_;refine' qz2p;refine' qz4e
 cases x2
 · have HZ:=Lib.hid (show hdAt b=(1,4) by rw[HA.out];rfl)
   clear HA;refine' qz16;refine(P0.out _).mono ?_;refine' qz2p;refine' qz2q;refine' qz4e
 have HZ:=Lib.hid (show hdAt b=if x3=false then(2,5)else(0,0) by rw[HA.out];rfl)
 clear HA;cases x3
 all_goals
  refine' qz16;refine(P0.out _).mono ?_;refine' qz2p;refine' qz2q;refine' qz7c;refine' qz4e
theorem u1j (b:ByteArray)(w:World)(hs:b.size≤1048576)(h4:4≤b.size):Calls Tryz.prog 81 #[.string b] w fun r w'=>r = .returned (.tuple #[.int .i64 (cnAt b).1,.int .i64 (cnAt b).2])∧w=w':=by
 have HA:=Lib.hid (show cnAt b=if(b.size - 4)%20≠0 then((b.size:Int),2)else if b.size - 4=0 then((b.size:Int),8)else if 500<b.size - 4 then(504,8)else(0,0)from rfl)
 by_cases h1:(b.size - 4)%20≠0
 · have HZ:=Lib.hid (show cnAt b=((b.size:Int),2) by rw[HA.out,if_pos h1])
   have e1:(((b.size:Int) - 4)%20==0)=false:=by rw[beq_eq_false_iff_ne];omega
   have e2:(((b.size:Int) - 4)%20 != 0)=true:=by rw[bne,e1];rfl
   clear HA h1;go_in;refine' qz4e
 have e1:(((b.size:Int) - 4)%20==0)=true:=by rw[beq_iff_eq];omega
 have e2:(((b.size:Int) - 4)%20 != 0)=false:=by rw[bne,e1];rfl
 by_cases h2:b.size - 4=0
 · have HZ:=Lib.hid (show cnAt b=((b.size:Int),8) by rw[HA.out,if_neg h1,if_pos h2])
   have e3:((b.size:Int)==4)=true:=by rw[beq_iff_eq];omega
   have e4:((b.size:Int) - 4==0)=true:=by rw[beq_iff_eq];omega
   clear HA h1 h2;go_in;refine' qz4e
 have e4:((b.size:Int) - 4==0)=false:=by rw[beq_eq_false_iff_ne];omega
 by_cases h3:500<b.size - 4
 · have HZ:=Lib.hid (show cnAt b=(504,8) by rw[HA.out,if_neg h1,if_neg h2,if_pos h3])
   clear HA h1 h2
   have h5:504<b.size:=by omega
   go_in;refine' qz4e
 have HZ:=Lib.hid (show cnAt b=(0,0) by rw[HA.out,if_neg h1,if_neg h2,if_neg h3])
 clear HA h1 h2
 have h5:b.size≤504:=by omega
 go_in;refine' qz4e
theorem idx (b:ByteArray)(k:Nat)(i:Int)(hi:i=k)(h:k<b.size)(W:World):(Instr.index 9 (.string b) (.int .i64 i)).run Tryz.prog W = .ok (.int .u8 (bt b k)) W:=by
 subst hi
 rw[run_index_string W 9 b .i64 (k:Int) Tryz.underlying9,dif_pos ⟨by omega,by omega⟩]
 rw[←p0h b k h];rfl
theorem d1l (b:ByteArray)(w:World)(hs:b.size≤1048576)(h4:24≤b.size):Calls Tryz.prog 82 #[.string b] w fun r w'=>r = .returned (.tuple #[.agg (hdM b).cells,.int .i64 (atN b:Nat)])∧Below w.heap.size w w':=by
 have sl:=Ent.sl_m b 4 24 4 24 rfl rfl (by omega) (by omega)
 have i0:=idx b 0 0 rfl (by omega)
 have i1:=idx b 1 1 rfl (by omega)
 have v0:=i0e (bt b 0) (d0b _ _) (o0b _ _);have v1:=i0e (bt b 1) (d0b _ _) (o0b _ _)
 have P1:=Lib.hid (fun W=>AuR.o0h (b.extract 4 24) W)
 have hb:(P:Program)→True:=fun _=>trivial
 have b0:=Bx.new w M.zero;have bel:=balloc (Below.refl _ w) (.cells M.zero.cells 29);have hlt:=b0.lt;refine' qzo;generalize w.alloc (.cells M.zero.cells 29)=V at *;have VS:=V.drew
 refine wp_region_held_drew (S:=fun _=>True) (by kernel_rfl) trivial (fun hS=>?_)
 have b0:Bx V.drew w.heap.size M.zero:=b0;have bel:=bel.drew;have hlt:w.heap.size<V.drew.heap.size:=hlt;generalize V.drew=W at *;clear VS;refine H.tk (i:=0) (v := .string b) ?h0 hS ?_
 case h0=>exact fun w _=>rfl
 refine' qz0;refine H.tk (i:=1) (v := .int .u8 (bt b 0)) ?h1 hS ?_
 case h1=>(intro w hw;go_simp;first|done|(with_reducible rfl))
 refine' qz0;refine H.tk (i:=2) (v := .int .i64 (bt b 0)) ?h2 hS ?_
 case h2=>(intro w hw;go_simp;first|done|(with_reducible rfl))
 refine' qz0;refine H.tk (i:=3) (v := .string b) ?h3 hS ?_
 case h3=>exact fun w _=>rfl
 refine' qz0;refine H.tk (i:=4) (v := .int .u8 (bt b 1)) ?h4 hS ?_
 case h4=>(intro w hw;go_simp;first|done|(with_reducible rfl))
 refine' qz0;refine H.tk (i:=5) (v := .int .i64 (bt b 1)) ?h5 hS ?_
 case h5=>(intro w hw;go_simp;first|done|(with_reducible rfl))
 refine' qz0;refine H.tk (i:=6) (v := .agg (base b).cells) ?h6 hS ?_
 case h6=>(intro w hw;exact r0c rfl (by kernel_rfl))
 refine' qz1s;refine' qzk
 refine hK.out _ _ trivial (fun _=>?_)
 refine' qzy
 refine Hx.H.storeRow (i:=8) (by simp only[List.getElem?_toArray,List.getElem?_cons_succ,List.getElem?_cons_zero];rfl) (by kernel_rfl) rfl rfl (by kernel_rfl) W.heap.size (base b).cells rfl rfl 29 M.zero.cells (heap_alloc_new _ _) infoM rfl (oneM _) trivial ?_
 refine wpAnyH_done (by kernel_rfl) ?_ _
 have B0:Bx (W.alloc (.cells (base b).cells 29)) w.heap.size M.zero:=b0.old _;have B1:Bx (W.alloc (.cells (base b).cells 29)) W.heap.size (base b):=Bx.new W _;have BL:=balloc bel (.cells (base b).cells 29)
 change Exit.then _ _ Exit.normal _ ((W.alloc (.cells M.zero.cells 29)).setRow W.heap.size (base b).cells)
 refine' qz33;clear b0 bel;generalize W.alloc (.cells (base b).cells 29)=V at *;generalize W.heap.size=g at *
 have HX:Hid (hdM b={ base b with auth:=if bt b 1==2&&AuR.isA (b.extract 4 24)then AuR.getA (b.extract 4 24)else ByteArray.empty}):=Lib.hid rfl
 have HY:Hid (atN b=if bt b 1==2&&AuR.isA (b.extract 4 24)then 24 else 4):=Lib.hid rfl
 have c2:V.cell? ⟨g,2,none⟩=some (.int .i64 (bt b 1)):=B1.cs.c2;have HB0:=Lib.hid B0;have HB1:=Lib.hid B1;clear B0 B1 i0 i1 v0 v1;generalize AuR.isA (b.extract 4 24)=x1 at *;generalize AuR.getA (b.extract 4 24)=t at *;refine' qz2q;cases x1
 · have HZ:Hid (hdM b=base b∧atN b=4):=Lib.hid ⟨by rw[HX.out];simp[base,M.zero],by rw[HY.out];simp⟩
   clear HX HY;refine' qzcj
 by_cases h2:bt b 1=2;rotate_left
 · have e2:(bt b 1==2)=false:=by simpa using h2
   have HZ:Hid (hdM b=base b∧atN b=4):=Lib.hid ⟨by rw[HX.out,e2];simp[base,M.zero],by rw[HY.out,e2];rfl⟩
   have e3:(bt b 1 != 2)=true:=by rw[bne,e2];rfl
   clear HX HY h2;refine' qzcj
 have e2:(bt b 1==2)=true:=by simpa using h2
 have e3:(bt b 1 != 2)=false:=by rw[bne,e2];rfl
 have HZ:Hid (hdM b={ base b with auth:=t}∧atN b=24):=Lib.hid ⟨by rw[HX.out,e2];rfl,by rw[HY.out,e2];rfl⟩
 clear HX HY h2;refine' qzcv;have c3:=HB1.out.cs.c3;have f3:=HB1.out.frozen 3;refine' qzcp
 have HB2:Hid (Bx (w1.setCell ⟨g,3,none⟩ (.string t)) g { base b with auth:=t}):=Lib.hid (HB1.out.set rfl)
 have HB3:Hid (Bx (w1.setCell ⟨g,3,none⟩ (.string t)) w.heap.size M.zero):=Lib.hid (HB0.out.off (by show w.heap.size≠g;omega) _)
 have BL2:=BL.setCell (p:=⟨g,3,none⟩) (by show w.heap.size≤g;omega) (.string t)
 clear HB0 HB1 BL c2 c3 f3;generalize w1.setCell ⟨g,3,none⟩ (.string t)=V2 at *
 go_wp2_with (first|(refine j0a (b:=g) (m:={ base b with auth:=t}) rfl _ rfl rfl HB2.out ?_)|(refine e0a (b:=w.heap.size) (m:=M.zero) (m':={ base b with auth:=t}) rfl _ _ rfl rfl rfl HB3.out ?_))
 rw[HZ.out.1,HZ.out.2]
 exact bodyPost_ret (v := .tuple #[.agg (M.cells { base b with auth:=t}),.int .i64 24]) (Own.m0a (ty:=29) rfl _ _ w.heap.size _ rfl (Own.loadVarM (HB3.out.put (m':={ base b with auth:=t}))) _ rfl) rfl ⟨rfl,below_setRow BL2 (Nat.le_refl _) _⟩
end Hd
namespace Tg
open Ms Box Rp Ps Es Hs Hx All PRt
open Ix (int_eq)
open Bk (E Bk shE q0a)
open Go.Proofs.YtllhobicfclheaaGreatDoor.Or (p0a)
theorem w1r (w:World)(a b:M):Bx ((w.alloc (.cells a.cells 29)).alloc (.cells b.cells 29)) w.heap.size a∧Bx ((w.alloc (.cells a.cells 29)).alloc (.cells b.cells 29)) (w.heap.size+1) b∧
    Below w.heap.size w ((w.alloc (.cells a.cells 29)).alloc (.cells b.cells 29)):=by
 refine⟨(Bx.new w a).old _,?_,balloc (balloc (Below.refl _ w) _) _⟩;have:=Bx.new (w.alloc (.cells a.cells 29)) b;rwa [Bk.b0a]at this
theorem r1m (a b:M)(w:World):Calls Tryz.prog 158 #[.agg a.cells,.agg b.cells] w fun e w'=>e = .returned (.bool (tog a b))∧Below w.heap.size w w':=by
 obtain⟨b0,b1,bel⟩:=w1r w a b
 have HA:=Lib.hid (show tog a b=(a.family != 0&&(b.family != 0&&(a.cmd==b.cmd&&(a.ver==b.ver&&a.auth.toList==b.auth.toList))))from rfl)
 refine' qzi;generalize (w.alloc (.cells a.cells 29)).alloc _=V at *;have c1:=b0.cs.c1;have c2:=b0.cs.c2;have c3:=b0.cs.c3;have c4:=b0.cs.c4;have d1:=b1.cs.c1;have d2:=b1.cs.c2;have d3:=b1.cs.c3;have d4:=b1.cs.c4;clear b0 b1;generalize h1:(a.family != 0)=x1 at *;generalize h2:(b.family != 0)=x2 at *;generalize h3:(a.cmd==b.cmd)=x3 at *;generalize h4:(a.ver==b.ver)=x4 at *;generalize h5:(a.auth.toList==b.auth.toList)=x5 at *;cases x1
 · have HZ:=Lib.hid (show tog a b=false by rw[HA.out];rfl)
   clear HA;refine' qz1o
 cases x2
 · have HZ:=Lib.hid (show tog a b=false by rw[HA.out];rfl)
   clear HA;refine' qz1o
 cases x3
 · have HZ:=Lib.hid (show tog a b=false by rw[HA.out];rfl)
   clear HA;refine' qz1o
 cases x4
 · have HZ:=Lib.hid (show tog a b=false by rw[HA.out];rfl)
   clear HA;refine' qz1o
 have HZ:=Lib.hid (show tog a b=x5 by rw[HA.out];cases x5<;>rfl)
 clear HA;refine' qz1o
theorem t1h (m:M)(w:World):Calls Tryz.prog 157 #[.agg m.cells] w fun e w'=>e = .returned (.int .i64 (most m:Nat))∧Below w.heap.size w w':=by
 obtain⟨b0,bel⟩:=boxed w m
 have HA:=Lib.hid (show most m=if m.auth.size=0 then 25 else 24 from rfl)
 refine' qz2f;have c3:=b0.cs.c3;clear b0;by_cases h0:m.auth.size=0
 · have HZ:=Lib.hid (show most m=25 by rw[HA.out,if_pos h0])
   have he:m.auth=⟨#[]⟩:=ByteArray.ext (Array.eq_empty_of_size_eq_zero h0);rw[he]at c3;clear HA h0 he;refine' qzj
   exact⟨int_eq (by rw[HZ.out];rfl),bel⟩
 have HZ:=Lib.hid (show most m=24 by rw[HA.out,if_neg h0])
 have hn3:¬m.auth.toList = []:=by
  intro h;rw[ByteArray.toList_eq]at h
  exact h0 (by have:=congrArg List.length h;simpa using this)
 have hn:(m.auth.toList == [])=false:=by rw[beq_eq_false_iff_ne];exact hn3
 have hn2:m.auth.toList.isEmpty=false:=by
  cases h:m.auth.toList
  · exact absurd h hn3
  · rfl
 clear HA h0;refine' qzj
 exact⟨int_eq (by rw[HZ.out];rfl),bel⟩
def tgAt (l:List M):Int×Int:=match bad (ckT l) l.length with|some i=>(((i:Nat):Int),ckT l i)|none=>(0,0)
theorem u1c {l:List M}{k:Nat}(hk:k<l.length)(h:∀ i,i<k→ckT l i=0)(hn:ckT l k≠0):tgAt l=(((k:Nat):Int),ckT l k):=by
 unfold tgAt;rw[j0e hk h hn]
theorem q1b {l:List M}(h:∀ i,i<l.length→ckT l i=0):tgAt l=(0,0):=by
 unfold tgAt;rw[d0d h]
theorem d0w {l:List M}{k:Nat}(h:k=most (at0 l 0)):ckT l k=8:=by unfold ckT;rw[if_pos h]
theorem g1e {l:List M}(h:0≠most (at0 l 0)):ckT l 0=0:=by unfold ckT;rw[if_neg h,if_neg (by simp)]
theorem y1m {l:List M}{k:Nat}(h:k≠most (at0 l 0))(hk:0<k):ckT l k=if tog (at0 l 0) (at0 l k)then 0 else 7:=by
 unfold ckT;rw[if_neg h]
 cases tog (at0 l 0) (at0 l k)<;>simp[hk]
structure Tk (w W:World)(a:Option Addr)(l:List M)(g:Nat)(u:M):Prop where
  row:MRow W a l
  own:Bx W g u
  bel:Below w.heap.size w W
theorem Tk.call {w W w':World}{a:Option Addr}{l:List M}{g:Nat}{u:M}(t:Tk w W a l g u)(hb:Below W.heap.size W w'):Tk w w' a l g u:=⟨t.row.below hb,t.own.below hb,t.bel.trans (hb.mono t.bel.size)⟩
theorem heldT {P:Program}{f:Nat}{args:Array Value}{v:Ending}{w W:World}{a:Option Addr}{l:List M}{g:Nat}{u:M}(h:Calls P f args W fun e w'=>e=v∧Below W.heap.size W w')(hS:Tk w W a l g u):Calls P f args W fun e w'=>e=v∧Tk w w' a l g u:=
  h.mono fun _ _ ⟨he,hb⟩=>⟨he,hS.call hb⟩
theorem j0s {W:World}{p:Addr}{l:List M}(h:MRow W (some p) l)(h0:0<l.length):∀ j v,((at0 l 0).cells.toList)[j]?=some v→W.cell? ((p.add (0*25)).add j)=some v:=by
 obtain⟨p2,hp2,_,hc,_,_⟩:=h 0 h0
 obtain rfl:p=p2:=by simpa using hp2
 rw[m0d l 0 h0];exact hc
theorem n0e (a:Option Addr)(c:Nat)(l:List M)(w:World)(hl:MRow w a l)(hn:l.length≤1048576)(h0:0<l.length) :
    Calls Tryz.prog 86 #[.slice a l.length c] w fun e w'=>e = .returned (.tuple #[.int .i64 (tgAt l).1,.int .i64 (tgAt l).2])∧Below w.heap.size w w':=by
 obtain⟨p,rfl,hp,hc0,_,_⟩:=hl 0 h0;have HA0:=Lib.hid (m0d l 0 h0)
 have HC0:=Lib.hid (show ∀ j v,((at0 l 0).cells.toList)[j]?=some v→w.cell? (p.add j)=some v by rw[HA0.out];intro j v hv;have:=hc0 j v hv;rwa [Nat.zero_mul,show p.add 0=p from rfl]at this)
 have PM:=Lib.hid (t1h (at0 l 0) w);have ix0:=indexM p l.length c 0 h0;have HMr:=Lib.hid hl;clear hc0 hl;go_in
 go_wp2_with (first|(refine k0d (m:=at0 l 0) rfl _ rfl rfl HC0.out ?_))
 refine PM.out.mono ?_;refine' qz75;have HR0:=Lib.hid (HMr.out.below hb);have HB0:=Lib.hid hb
 have hm1:most (at0 l 0)≤25:=by unfold most;split<;>omega
 have hm0:0<most (at0 l 0):=by unfold most;split<;>omega
 have HTM:=Lib.hid (fun(k:Nat) (h:k=most (at0 l 0))=>d0w h)
 have HTF:=Lib.hid (fun(h:0≠most (at0 l 0))=>g1e h)
 have HTT:=Lib.hid (fun(k:Nat) (h:k≠most (at0 l 0)) (hk:0<k)=>y1m h hk)
 clear hb PM HC0 HMr ix0 HA0
 have HAT:=Lib.hid (fun(W:World) (h:MRow W (some p) l)=>j0s h h0)
 have HTG:=Lib.hid (fun(u:M) W=>r1m (at0 l 0) u W)
 generalize hf:at0 l 0=f at *;have HF:=Lib.hid hf;clear hf;generalize most f=mo at *;go_wp2
 go_loopw [13] (fun i wr=>∃ k:Nat,k≤l.length∧i = .int .i64 k∧Hid (∀ i,i<k→ckT l i=0)∧Hid (MRow wr (some p) l)∧Hid (Below w.heap.size w wr)) (fun i _=>l.length - (intOf i).toNat)
 case atStart=>exact⟨0,Nat.zero_le _,rfl,Lib.hid (fun i hi=>absurd hi (by omega)),HR0,HB0⟩
 case round=>
  obtain⟨k,hk,rfl,HT,HR,HB⟩:=hrel;by_cases hlt:k<l.length
  · obtain⟨p2,hp2,_,hc,_,_⟩:=HR.out k hlt
    obtain rfl:p=p2:=by simpa using hp2
    clear hp2;have hu:=m0d l k hlt
    have HS:=Lib.hid (fun(h:ckT l k≠0)=>u1c hlt HT.out h)
    have HJ:=Lib.hid (fun(h:ckT l k=0)=>show ∀ i,i<k+1→ckT l i=0 from fun i hi=>by
     by_cases hik:i<k
     ·
      exact HT.out i hik
     ·
      obtain rfl:i=k:=by omega
      exact h)
    have HTT1:=Lib.hid (HTT.out k);have HTM1:=Lib.hid (HTM.out k)
    have HCk:=Lib.hid (show ∀ j v,((at0 l k).cells.toList)[j]?=some v→wr.cell? ((p.add (k*25)).add j)=some v by rw[hu];exact hc)
    have ixk:=indexM p l.length c k hlt;clear hc hu HT HTT HTM;generalize at0 l k=u at *
    go_upto_region 5 with(first|(refine k0d (m:=u) rfl _ rfl rfl HCk.out ?_)|(refine e0a (b:=wr.heap.size) (m:=M.zero) (m':=u) rfl _ _ rfl rfl rfl (heap_alloc_new wr _) ?_))
    refine' qz5b
    have T0:=Lib.hid (show Tk w (wr.alloc (.cells u.cells 29)) (some p) l wr.heap.size u from⟨HR.out.below (balloc (Below.refl _ wr) _),Bx.new wr u,balloc HB.out _⟩)
    clear HCk HR HB ixk HR0 HB0;generalize wr.alloc (.cells u.cells 29)=W2 at *;generalize wr.heap.size=g at *
    rcases(show k=mo∨k≠mo by omega)with hkm|hkm
    · have h8:=HTM1.out hkm
      have HZ:=Lib.hid (show tgAt l=(((k:Nat):Int),8) by rw[HS.out (by rw[h8];decide),h8])
      have e1:((k:Int)==(mo:Int))=true:=by rw[beq_iff_eq];omega
      clear h8 hkm HS HJ HTT1 HTM1 HTF;refine' qz2w;exact⟨Hd.t0b HZ.out,T0.out.bel⟩
    have e1:((k:Int)==(mo:Int))=false:=by rw[beq_eq_false_iff_ne];omega
    rcases(show k=0∨0<k by omega)with rfl|hk0
    · have HK1:=Lib.hid (HJ.out (HTF.out (by omega)))
      clear hkm HS HJ HTT1 HTM1 HTF
      go_upto_region 7 with fail
      clear e1;go_quiet (fail);have HR1:=Lib.hid (T0.out.call (below_drewN (Below.refl _ _) nq));clear T0;go_wp2;go_roundw
      case rel=>exact⟨1,by omega,by go_num,HK1,Lib.hid HR1.out.row,Lib.hid HR1.out.bel⟩
      case measure=>simp[intOf];omega
    have HX:=Lib.hid (HTT1.out hkm hk0);have PT:=Lib.hid (HTG.out u);clear hkm HTT1 HTM1 HTF;generalize tog f u=tg at *
    have hk1:(0:Int)<(k:Int):=by omega
    go_upto_region 7 with fail
    clear e1
    refine wp_region_held_drew (S:=fun W=>Tk w W (some p) l g u) (by kernel_rfl) (T0.out.call (Below.refl _ _).drew) (fun hS=>?_)
    clear T0;generalize W2.drew=w0 at *;have hd:decide ((0:Int)<(k:Int))=true:=decide_eq_true hk1;cases tg
    · have h7:=HX.out
      have HZ:=Lib.hid (show tgAt l=(((k:Nat):Int),7) by rw[HS.out (by rw[h7];decide),h7];rfl)
      clear h7 HS HJ HX;refine H.tk (i:=0) (v := .int .i64 (k:Int)) ?h0 hS ?_
      case h0=>exact fun w _=>rfl
      refine' qzbq;refine' qz0;refine H.tk (i:=2) (v := .bool true) ?h2 hS ?_
      case h2=>exact fun w _=>rfl
      refine' qz0;refine H.tk (i:=3) (v := .slice (some p) l.length c) ?h3 hS ?_
      case h3=>exact fun w _=>rfl
      refine' qz91;refine' qzaw;refine' qzbi;refine' qz1s;refine' qzk;refine(heldT (PT.out _) hS).mono ?_;rintro e w7 ⟨rfl,hS7⟩
      refine hK.out _ _ hS7 (fun _=>?_)
      clear hK K hS;have hS:=hS7;clear hS7;refine' qz0;refine H.tk (i:=8) (v := .bool true) ?h8 hS ?_
      case h8=>exact fun w _=>rfl
      refine' qz0;refine H.tk (i:=9) (v := .bool true) ?h9 hS ?_
      case h9=>exact fun w _=>rfl
      refine' qz0;refine H.tk (i:=10) (v := .bool true) ?h10 hS ?_
      case h10=>exact fun w _=>rfl
      refine' qz1;refine' qz2w;exact⟨Hd.t0b HZ.out,hS.bel⟩
    · have HK1:=Lib.hid (HJ.out HX.out);clear HS HJ HX;refine H.tk (i:=0) (v := .int .i64 (k:Int)) ?h0 hS ?_
      case h0=>exact fun w _=>rfl
      refine' qzbq;refine' qz0;refine H.tk (i:=2) (v := .bool true) ?h2 hS ?_
      case h2=>exact fun w _=>rfl
      refine' qz0;refine H.tk (i:=3) (v := .slice (some p) l.length c) ?h3 hS ?_
      case h3=>exact fun w _=>rfl
      refine' qz91;refine' qzaw;refine' qzbi;refine' qz1s;refine' qzk;refine(heldT (PT.out _) hS).mono ?_;rintro e w7 ⟨rfl,hS7⟩
      refine hK.out _ _ hS7 (fun _=>?_)
      clear hK K hS;have hS:=hS7;clear hS7;refine' qz0;refine H.tk (i:=8) (v := .bool false) ?h8 hS ?_
      case h8=>exact fun w _=>rfl
      refine' qz0;refine H.tk (i:=9) (v := .bool false) ?h9 hS ?_
      case h9=>exact fun w _=>rfl
      refine' qz0;refine H.tk (i:=10) (v := .bool false) ?h10 hS ?_
      case h10=>exact fun w _=>rfl
      refine' qz1;have HR1:=Lib.hid hS;clear hS hd;go_wp2;go_roundw
      case rel=>exact⟨k+1,hlt,by go_num,HK1,Lib.hid HR1.out.row,Lib.hid HR1.out.bel⟩
      case measure=>simp[intOf];omega
  · refine' qz12;have HZ:=Lib.hid (q1b HT.out);refine' qz2w;exact⟨Hd.t0b HZ.out,HB.out⟩
end Tg
namespace Rn
open Ms Box Rp Hs
open PRt (boxed)
open Go.Proofs.YtllhobicfclheaaGreatDoor.Or (p0a)
theorem l0o {m:M}(h:routeB m=true):m.pfx.size=4∧m.next.size=4:=by
 unfold routeB at h;by_cases h0:m.family=0
 · rw[if_pos h0]at h;unfold allB at h;simp only[Bool.and_eq_true]at h;exact⟨q0j h.2.2.2.1,q0j h.2.2.2.2.1⟩
 rw[if_neg h0]at h;by_cases h2:m.family=2
 · rw[if_pos h2,Bool.and_eq_true]at h;by_cases h1:m.ver=1
   · rw[if_pos h1]at h;unfold oneB at h;refine' qzcs;exact⟨h.2.2.2.1,q0j h.2.2.2.2⟩
   · rw[if_neg h1]at h;unfold twoB at h;refine' qzcs;exact⟨h.2.2.1,h.2.2.2.2⟩
 · rw[if_neg h2]at h;cases h
theorem x0r (n:Int):Oct.fitsB n 2=(decide (0≤n)&&decide (n≤65535)):=by
 unfold Oct.fitsB
 have:((Oct.pw (2:Int).toNat:Nat):Int)=65536:=by decide
 rw[this]
 by_cases h1:0≤n<;>by_cases h2:n≤65535<;>simp[h1,h2]<;>omega
end Rn
end Go.Proofs.YtllhobicfclheaaGreatDoor
