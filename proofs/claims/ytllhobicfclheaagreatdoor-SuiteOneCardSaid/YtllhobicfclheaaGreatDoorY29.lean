/-
  A part of a proof. No conditions.
-/
import Derived.Test.YtllhobicfclheaaGreatDoorY16
import Derived.Test.YtllhobicfclheaaGreatDoorY22
namespace Go.Proofs.YtllhobicfclheaaGreatDoor
open Go.ChangeShapes Go.WideShapes Go.ChangeAt Go.RowKit
set_option linter.unusedVariables false
set_option maxRecDepth 100000
set_option maxHeartbeats 51200000
namespace F2
open F1 Nu
open Cur (numL p0d u0n e0d r0g o0c p0g hasB)
open Bk (Bk Sh shC cur w0a loadVarK d0a f0a a0a o0a below_setRow b0a)
open Hs
open Hx (i0e r0c H.storeRow)
theorem bcall {w W w1:World}(h:Below w.heap.size w W)(hb:Below W.heap.size W w1):Below w.heap.size w w1:=h.trans (hb.mono h.size)
theorem balloc {w W:World}(h:Below w.heap.size w W)(o:Obj):Below w.heap.size w (W.alloc o):=h.alloc h.size o
theorem idx (b:ByteArray)(k:Nat)(i:Int)(hi:i=k)(h:k<b.size)(W:World):(Instr.index 9 (.string b) (.int .i64 i)).run Tryz.prog W = .ok (.int .u8 (bt b k)) W:=by
 refine' qzak;rfl
theorem sl_m (s:ByteArray)(i j:Int)(lo hi:Nat)(hi':i=lo)(hj:j=hi)(h1:lo≤hi)(h2:hi≤s.size)(W:World) :
    (Instr.slice 9 (.string s) (some (.int .i64 i)) (some (.int .i64 j)) none).run Tryz.prog W = .ok (.string (s.extract lo hi)) W:=by
 subst hi' hj;refine' qz5m
theorem sl_l (s:ByteArray)(i:Int)(lo hi:Nat)(hi':i=lo)(h1:lo≤s.size)(hs:s.size=hi)(W:World) :
    (Instr.slice 9 (.string s) (some (.int .i64 i)) none none).run Tryz.prog W = .ok (.string (s.extract lo hi)) W:=by
 subst hi' hs;refine' qz8u
theorem x0d {P:Program}{fn:Func}{o p q r:Nat}{ty:TypeId}(h:fn.results = #[.tmp o,.cell p ty,.tmp q,.tmp r])(tmps:Array Value)(w:World)(g:Nat)(u:Value)
    (y:Value) (hy:tmps.getD o undef=y) (hp:tmps.getD p undef = .pointer (some ⟨g,0,none⟩)) (hl:(loadVar ty ⟨g,0,none⟩).run P w = .ok u w) (v:Value) (hv:tmps.getD q undef=v) (x:Value) (hx:tmps.getD r undef=x) :
    (results fn tmps).run P w = .ok (.tuple #[y,u,v,x]) w:=by
 have hy':tmps[o]?.getD undef=y:=by simpa using hy
 refine' qz30
 have hx':tmps[r]?.getD undef=x:=by simpa using hx
 simp[results,h,hy',hp',hv',hx',asAddr,hl]
def noC:Array Value:=cur ⟨#[]⟩ 0 0 false
theorem u0b (s:ByteArray)(p:Nat)(x:Bool)(k:Nat)(hs:s.size≤1048576)(hp:p≤s.size)(h1:1≤k)(h7:k≤7) :
    ∃ (v:Int) (q:Nat) (y:Bool),q≤s.size∧(y=false→x=false∧q=p+k∧p+k≤s.size)∧
      ∀ w,Calls Tryz.prog 270 #[.agg (cur s p s.size x),.int .i64 k] w fun e w'=>e = .returned (.tuple #[.int .i64 v,.agg (cur s q s.size y)])∧Below w.heap.size w w':=by
 refine' qzd2;by_cases h:x=false∧p+k≤s.size
 · obtain⟨rfl,h⟩:=h
   refine⟨((numL ((s.data.toList.drop p).take k):Nat):Int),p+k,false,h,fun _=>⟨rfl,rfl,h⟩,fun w=>?_⟩
   have:=p0d s p s.size k w hm hp (Nat.le_refl _) h h1 h7;unfold cur;push_cast;exact this
 · have hb:hasB p s.size k x=false:=by
    unfold hasB
    cases x with
    | true=>rfl
    | false=>
     have h2:¬p+k≤s.size:=fun hh=>h ⟨rfl,hh⟩
     simp only[Bool.not_false,Bool.true_and,Bool.and_eq_false_iff,decide_eq_false_iff_not];right;omega
   exact⟨0,p,true,hp,(fun h=>nomatch h),fun w=>u0n s p s.size k x w hm hp (Nat.le_refl _) hb (by omega) (by omega)⟩
theorem g0q (s:ByteArray)(p:Nat)(hs:s.size≤1048576)(h:p+1≤s.size)(w:World) :
    Calls Tryz.prog 270 #[.agg (cur s p s.size false),.int .i64 1] w fun e w'=>e = .returned (.tuple #[.int .i64 (bt s p),.agg (cur s (p+1:Nat) s.size false)])∧Below w.heap.size w w':=by
 have:=p0d s p s.size 1 w (by unfold maxLen;omega) (by omega) (Nat.le_refl _) h (by omega) (by omega)
 rw[o0g s p (by omega)]at this
 unfold cur;push_cast;exact this
structure G (w0 w:World)(cb:Nat)(c:Array Value):Prop where
  res:Bk 150 w w0.heap.size noC
  cur:Bk 150 w cb c
  ne:w0.heap.size<cb
  bel:Below w0.heap.size w0 w
theorem G.call {w0 w w':World}{cb:Nat}{c:Array Value}(g:G w0 w cb c)(hb:Below w.heap.size w w'):G w0 w' cb c:=⟨g.res.below hb,g.cur.below hb,g.ne,g.bel.trans (hb.mono g.bel.size)⟩
theorem G.put {w0 w:World}{cb:Nat}{c:Array Value}(g:G w0 w cb c)(c':Array Value):G w0 (w.setRow cb c') cb c':=
  ⟨g.res.row (by have:=g.ne;omega) _,g.cur.put _,g.ne,below_setRow g.bel (Nat.le_of_lt g.ne) _⟩
def HeadIs (n:Int)(c:Array Value)(i x:Int)(w:World)(e:Ending)(w':World):Prop:=e = .returned (.tuple #[.int .i64 n,.agg c,.int .i64 i,.int .i64 x])∧Below w.heap.size w w'
theorem e0t (b:ByteArray)(v1 v2 v3:Int)(p1 p2 p3:Nat)(y1 y2 y3:Bool)(w:World)(hs:b.size≤1048576)(P:Ending→World→Prop)(hP:P=if y3=true then HeadIs 0 noC b.size 2 w else if ¬v1=42 then HeadIs 0 noC 0 4 w else if ¬v2=2 then HeadIs 0 noC 1 4 w else HeadIs v3 (cur b p3 b.size y3) 0 0 w)
    (h1:∀ w,Calls Tryz.prog 270 #[.agg (cur b 0 b.size false),.int .i64 1] w fun e w'=>e = .returned (.tuple #[.int .i64 v1,.agg (cur b p1 b.size y1)])∧Below w.heap.size w w')
    (h2:∀ w,Calls Tryz.prog 270 #[.agg (cur b p1 b.size y1),.int .i64 1] w fun e w'=>e = .returned (.tuple #[.int .i64 v2,.agg (cur b p2 b.size y2)])∧Below w.heap.size w w')
    (h3:∀ w,Calls Tryz.prog 270 #[.agg (cur b p2 b.size y2),.int .i64 2] w fun e w'=>e = .returned (.tuple #[.int .i64 v3,.agg (cur b p3 b.size y3)])∧Below w.heap.size w w') :
    Calls Tryz.prog 246 #[.string b] w P:=by
 have HP:=Lib.hid hP;clear hP
 have HN:=Lib.hid (fun V=>o0c b V (by unfold maxLen;omega))
 have H1:=Lib.hid h1;have H2:=Lib.hid h2;have H3:=Lib.hid h3
 have hbs:(b.size:Int)≤1048576:=by omega
 clear h1 h2 h3 hs;refine' qzi;change Code.wp _ _ _ _ (w.alloc (.cells noC 150));have R0:=Lib.hid (Bk.Bk.new 150 w noC);have B0:=Lib.hid (balloc (Below.refl _ w) (.cells noC 150));generalize w.alloc (.cells noC 150)=W0 at *;refine' qzg;refine(HN.out _).mono ?_;rintro e W1 ⟨rfl,hb⟩;have R1:=Lib.hid (R0.out.below hb);have B1:=Lib.hid (bcall B0.out hb);clear hb HN R0 B0;refine' qzg;refine(H1.out _).mono ?_;refine' qz75;have R1:=Lib.hid (R1.out.below hb);have B1:=Lib.hid (bcall B1.out hb);clear hb H1;have C:=Bk.Bk.new 150 w1 noC
 go_upto_region 2 with(refine a0a (b:=w1.heap.size) shC rfl _ _ rfl rfl rfl C rfl rfl (w0a _ _ _ _) ?_)
 clear C;change Code.wp _ _ _ _ ((w1.alloc (.cells noC 150)).setRow w1.heap.size (cur b p1 b.size y1));refine' qz33;have HG:Hid (G w (w1.alloc (.cells (cur b p1 b.size y1) 150)) w1.heap.size (cur b p1 b.size y1)):=Lib.hid ⟨R1.out.old _,Bk.Bk.new _ _ _,R1.out.lt,balloc B1.out _⟩;clear R1 B1;generalize w1.alloc (.cells (cur b p1 b.size y1) 150)=W2 at *;generalize w1.heap.size=cb at *
 go_wp2_with (first|(refine f0a (b:=cb) shC rfl _ rfl rfl HG.out.cur rfl ?_))
 refine(H2.out _).mono ?_;refine' qz4b;refine' qzd0;clear hb H2
 go_upto_region 3 with(refine a0a (b:=cb) shC rfl _ _ rfl rfl rfl HG.out.cur rfl rfl (w0a b p2 b.size y2) ?_)
 have HG:=Lib.hid (HG.out.put (cur b p2 b.size y2));generalize w2.setRow cb (cur b p2 b.size y2)=W3 at *
 go_wp2_with (first|(refine f0a (b:=cb) shC rfl _ rfl rfl HG.out.cur rfl ?_))
 refine(H3.out _).mono ?_;refine' qzct;refine' qzd0;clear hb H3
 go_upto_region 4 with(refine a0a (b:=cb) shC rfl _ _ rfl rfl rfl HG.out.cur rfl rfl (w0a b p3 b.size y3) ?_)
 have HG:=Lib.hid (HG.out.put (cur b p3 b.size y3));generalize w3.setRow cb (cur b p3 b.size y3)=W4 at *;have c3:=HG.out.cur.cell 3 (.bool y3) rfl;by_cases hy:y3=true
 · subst hy
   have HP:P=HeadIs 0 noC b.size 2 w:=by rw[HP.out,if_pos rfl]
   refine' qz6d;exact bodyPost_ret (v := .tuple #[.int .i64 0,.agg noC,.int .i64 b.size,.int .i64 2]) (x0d (ty:=150) rfl _ _ w.heap.size (.agg noC) (.int .i64 0) rfl rfl (loadVarK shC (HG.out.res.put noC) rfl) (.int .i64 b.size) rfl (.int .i64 2) rfl) rfl ⟨rfl,below_setRow HG.out.bel (Nat.le_refl _) _⟩
 have hy:y3=false:=by simpa using hy
 subst hy
 have HP:=Lib.hid (HP.out.trans (if_neg (by simp)))
 by_cases e1:v1=42;rotate_left
 · have HP:P=HeadIs 0 noC 0 4 w:=HP.out.trans (if_pos e1);refine' qz6d;exact bodyPost_ret (v := .tuple #[.int .i64 0,.agg noC,.int .i64 0,.int .i64 4]) (x0d (ty:=150) rfl _ _ w.heap.size (.agg noC) (.int .i64 0) rfl rfl (loadVarK shC (HG.out.res.put noC) rfl) (.int .i64 0) rfl (.int .i64 4) rfl) rfl ⟨rfl,below_setRow HG.out.bel (Nat.le_refl _) _⟩
 have HP:=Lib.hid (HP.out.trans (if_neg (by simpa using e1)))
 by_cases e2:v2=2;rotate_left
 · have HP:P=HeadIs 0 noC 1 4 w:=HP.out.trans (if_pos e2);refine' qz6d;exact bodyPost_ret (v := .tuple #[.int .i64 0,.agg noC,.int .i64 1,.int .i64 4]) (x0d (ty:=150) rfl _ _ w.heap.size (.agg noC) (.int .i64 0) rfl rfl (loadVarK shC (HG.out.res.put noC) rfl) (.int .i64 1) rfl (.int .i64 4) rfl) rfl ⟨rfl,below_setRow HG.out.bel (Nat.le_refl _) _⟩
 have HP:P=HeadIs v3 (cur b p3 b.size false) 0 0 w:=HP.out.trans (if_neg (by simpa using e2))
 subst HP
 go_upto_region 10 with fail
 refine wp_region_held_drew (S:=fun W=>Bk 150 W cb (cur b p3 b.size false)) (by kernel_rfl) HG.out.cur.drew (fun hS=>?_)
 refine H.tk (i:=0) (v := .int .i64 v3) (fun _ _=>rfl) hS ?_
 refine' qz0
 refine H.tk (i:=1) (v := .agg (cur b p3 b.size false)) (fun W hW=>o0a shC rfl rfl hW rfl) hS ?_
 refine' qz0
 refine H.tk (i:=2) (v := .int .i64 v3) (fun _ _=>rfl) hS ?_
 refine' qz0
 refine H.storeRow (i:=3) (g:=w.heap.size) (cells:=cur b p3 b.size false) (by simp only[List.getElem?_toArray,List.getElem?_cons_succ,List.getElem?_cons_zero];rfl) (by kernel_rfl) rfl rfl (by kernel_rfl) rfl rfl 150 noC HG.out.res.drew (by kernel_rfl) rfl (w0a _ _ _ _) (HG.out.cur.drew.row (by have:=HG.out.ne;omega) _) ?_
 have hS2:=HG.out.cur.drew.row (g:=w.heap.size) (by have:=HG.out.ne;omega) (cur b p3 b.size false)
 refine H.tk (i:=4) (v := .int .i64 0) (fun _ _=>rfl) hS2 ?_
 refine' qz0
 refine H.tk (i:=5) (v := .int .i64 0) (fun _ _=>rfl) hS2 ?_
 refine' qz8v;exact bodyPost_ret (v := .tuple #[.int .i64 v3,.agg (cur b p3 b.size false),.int .i64 0,.int .i64 0]) (x0d (ty:=150) rfl _ _ w.heap.size (.agg (cur b p3 b.size false)) (.int .i64 v3) rfl rfl (loadVarK shC (HG.out.res.drew.put (cur b p3 b.size false)) rfl) (.int .i64 0) rfl (.int .i64 0) rfl) rfl ⟨rfl,below_setRow HG.out.bel.drew (Nat.le_refl _) _⟩
theorem q0c (b:ByteArray)(w:World)(hs:b.size≤1048576)(P:Ending→World→Prop)(hP:P=if b.size<4 then HeadIs 0 noC b.size 2 w else if ¬bt b 0=42 then HeadIs 0 noC 0 4 w else if ¬bt b 1=2 then HeadIs 0 noC 1 4 w else HeadIs (bodyN b) (cur b (4:Nat) b.size false) 0 0 w) :
    Calls Tryz.prog 246 #[.string b] w P:=by
 by_cases h:b.size<4
 · obtain⟨v1,p1,y1,l1,k1,n1⟩:=u0b b 0 false 1 hs (Nat.zero_le _) (by omega) (by omega)
   obtain⟨v2,p2,y2,l2,k2,n2⟩:=u0b b p1 y1 1 hs l1 (by omega) (by omega)
   obtain⟨v3,p3,y3,l3,k3,n3⟩:=u0b b p2 y2 2 hs l2 (by omega) (by omega)
   have hy:y3=true:=by
    cases y3 with
    | true=>rfl
    | false=>
     obtain⟨e2,_,_⟩:=k3 rfl;obtain⟨e1,_,_⟩:=k2 e2;obtain⟨_,_,_⟩:=k1 e1;omega
   exact e0t b v1 v2 v3 p1 p2 p3 y1 y2 y3 w hs P (by rw[hP,if_pos h,if_pos hy]) n1 n2 n3
 · have n3:∀ w,Calls Tryz.prog 270 #[.agg (cur b (2:Nat) b.size false),.int .i64 2] w fun e w'=>e = .returned (.tuple #[.int .i64 (bodyN b),.agg (cur b (4:Nat) b.size false)])∧Below w.heap.size w w':=fun w=>by
    have:=p0d b 2 b.size 2 w (by unfold maxLen;omega) (by omega) (Nat.le_refl _) (by omega) (by omega) (by omega)
    rw[p0f b 2 (by omega),←h0i]at this
    exact this
   exact e0t b (bt b 0) (bt b 1) (bodyN b) 1 2 4 false false false w hs P (by rw[hP,if_neg h];exact(if_neg (by simp:¬(false=true))).symm) (fun w=>g0q b 0 hs (by omega) w) (fun w=>g0q b 1 hs (by omega) w) n3
def BodyIs (o:ByteArray×Int×Int)(w:World)(e:Ending)(w':World):Prop:=e = .returned (.tuple #[.string o.1,.int .i64 o.2.1,.int .i64 o.2.2])∧Below w.heap.size w w'
theorem w0d {b:ByteArray}{i x:Int}(h:head b=some (i,x)):outB b=(⟨#[]⟩,i,x):=by unfold outB;rw[h]
theorem d0f {b:ByteArray}(h:head b=none):outB b=(b.extract 4 (4+bodyN b),0,0):=by unfold outB;rw[h]
theorem c0r (b:ByteArray)(i x:Int)(w:World)(hs:b.size≤65535)(hx:¬x=0)(h:∀ w,Calls Tryz.prog 246 #[.string b] w (HeadIs 0 noC i x w)) :
    Calls Tryz.prog 186 #[.string b] w (BodyIs (⟨#[]⟩,i,x) w):=by
 have PH:=Lib.hid h
 have hbs:(b.size:Int)≤65535:=by omega
 clear h hs;refine' qz16;refine(PH.out _).mono ?_;refine' qz75;have C:=Lib.hid (Bk.Bk.new 150 w1 noC);have HB:=Lib.hid (below_setRow (balloc hb (.cells noC 150)) hb.size noC);clear hb PH
 go_wp2_with (first|(refine a0a (b:=w1.heap.size) shC rfl _ _ rfl rfl rfl C.out rfl rfl (w0a _ _ _ _) ?_))
 go_ret3;exact⟨rfl,HB.out⟩
theorem q0t (b:ByteArray)(s:ByteArray)(q:Int)(y:Bool)(w:World)(hs:b.size≤65535)(h:∀ w,Calls Tryz.prog 246 #[.string b] w (HeadIs (bodyN b) (cur b (4:Nat) b.size false) 0 0 w))
    (ht:∀ w,Calls Tryz.prog 247 #[.agg (cur b (4:Nat) b.size false),.int .i64 (bodyN b)] w fun e w'=>e = .returned (.tuple #[.string s,.agg (cur b q b.size y)])∧Below w.heap.size w w')
    (P:Ending→World→Prop) (hP:P=if y=true then BodyIs (⟨#[]⟩,(b.size:Int),2) w else BodyIs (s,0,0) w) :
    Calls Tryz.prog 186 #[.string b] w P:=by
 have PH:=Lib.hid h;have PT:=Lib.hid ht;have HP:=Lib.hid hP
 have hbs:(b.size:Int)≤65535:=by omega
 clear h ht hs hP;generalize (bodyN b:Int)=n at *;refine' qz16;refine(PH.out _).mono ?_;refine' qz75;have C:=Lib.hid (Bk.Bk.new 150 w1 noC);have C1:=Lib.hid (C.out.put (cur b (4:Nat) b.size false));have HB:=Lib.hid (below_setRow (balloc hb (.cells noC 150)) hb.size (cur b (4:Nat) b.size false));have hg:Hid (w.heap.size≤w1.heap.size):=Lib.hid hb.size;clear hb PH
 go_upto_region 4 with(first|(refine a0a (b:=w1.heap.size) shC rfl _ _ rfl rfl rfl C.out rfl rfl (w0a _ _ _ _) ?_))
 change Code.wp _ _ _ _ ((w1.alloc (.cells noC 150)).setRow w1.heap.size (cur b (4:Nat) b.size false));clear C;generalize (w1.alloc (.cells noC 150)).setRow w1.heap.size (cur b (4:Nat) b.size false)=W at *;refine' qzcr
 go_wp2_with (first|(refine f0a (b:=g) shC rfl _ rfl rfl C1.out rfl ?_))
 refine(PT.out _).mono ?_;refine' qz4b;have C2:=Lib.hid (C1.out.below hb);have C3:=Lib.hid (C2.out.put (cur b q b.size y));have HB:=Lib.hid (below_setRow (bcall HB.out hb) hg.out (cur b q b.size y));have c3:=C3.out.cell 3 (.bool y) rfl;clear hb PT C1
 cases y with
 | true=>
  have HP:P=BodyIs (⟨#[]⟩,(b.size:Int),2) w:=HP.out.trans (if_pos rfl);subst HP
  go_wp2_with (first|(refine a0a (b:=g) shC rfl _ _ rfl rfl rfl C2.out rfl rfl (w0a _ _ _ _) ?_))
  go_ret3;exact⟨rfl,HB.out⟩
 | false=>
  have HP:P=BodyIs (s,0,0) w:=HP.out.trans (if_neg (by simp))
  subst HP
  go_wp2_with (first|(refine a0a (b:=g) shC rfl _ _ rfl rfl rfl C2.out rfl rfl (w0a _ _ _ _) ?_))
  go_ret3;exact⟨rfl,HB.out⟩
theorem r1d {b:ByteArray}(h:65535<b.size):head b=some (65535,10):=by unfold head;rw[if_pos h]
theorem m0j {b:ByteArray}(h:b.size<4):head b=some ((b.size:Int),2):=by unfold head;rw[if_neg (by omega),if_pos h]
theorem a1e {b:ByteArray}(h:¬65535<b.size)(h1:¬b.size<4)(h2:¬bt b 0=42):head b=some (0,4):=by unfold head;rw[if_neg h,if_neg h1,if_pos h2]
theorem m1e {b:ByteArray}(h:¬65535<b.size)(h1:¬b.size<4)(h2:bt b 0=42)(h3:¬bt b 1=2):head b=some (1,4):=by unfold head;rw[if_neg h,if_neg h1,if_neg (by omega),if_pos h3]
theorem l0m {b:ByteArray}(h:¬65535<b.size)(h1:¬b.size<4)(h2:bt b 0=42)(h3:bt b 1=2)(h4:b.size<4+bodyN b):head b=some ((b.size:Int),2):=by
 have:=h0i b
 unfold head;rw[if_neg h,if_neg h1,if_neg (by omega),if_neg (by omega),if_pos (by omega)]
theorem l0k (b:ByteArray)(w:World)(hs:b.size≤maxLen):Calls Tryz.prog 186 #[.string b] w (BodyIs (outB b) w):=by
 by_cases h:65535<b.size
 · rw[w0d (r1d h)]
   have hb:(65535:Int)<b.size:=by omega
   unfold maxLen at hs;clear h;go_in;refine' qz5w;exact⟨rfl,Below.refl _ _⟩
 have hs1:b.size≤1048576:=by omega
 by_cases h1:b.size<4
 · rw[w0d (m0j h1)]
   exact c0r b _ _ w (by omega) (by omega) fun w=>q0c b w hs1 _ (by rw[if_pos h1])
 by_cases h2:bt b 0=42;rotate_left
 · rw[w0d (a1e h h1 h2)]
   exact c0r b _ _ w (by omega) (by omega) fun w=>q0c b w hs1 _ (by rw[if_neg h1,if_pos h2])
 by_cases h3:bt b 1=2;rotate_left
 · rw[w0d (m1e h h1 h2 h3)]
   exact c0r b _ _ w (by omega) (by omega) fun w=>q0c b w hs1 _ (by rw[if_neg h1,if_neg (by omega),if_pos h3])
 have PH:∀ w,Calls Tryz.prog 246 #[.string b] w (HeadIs (bodyN b) (cur b (4:Nat) b.size false) 0 0 w):=fun w=>q0c b w hs1 _ (by rw[if_neg h1,if_neg (by omega),if_neg (by omega)])
 by_cases h4:b.size<4+bodyN b
 · rw[w0d (l0m h h1 h2 h3 h4)]
   exact q0t b ⟨#[]⟩ (4:Nat) true w (by omega) PH (fun w=>r0g b 4 b.size (bodyN b) false w hs (by omega) (Nat.le_refl _) (by unfold hasB;simp;omega)) _ (by rw[if_pos rfl])
 · rw[d0f (v0i (by omega) (by omega) h2 h3 (by omega))]
   exact q0t b _ _ false w (by omega) PH (fun w=>e0d b 4 b.size (bodyN b) w hs (by omega) (Nat.le_refl _) (by omega)) _ (by rw[if_neg (by simp)])
theorem r0o (b:ByteArray)(w:World)(hs:b.size≤maxLen)(h:head b=none):Calls Tryz.prog 188 #[.string b] w fun e w'=>e = .returned (.string (trail b))∧Below w.heap.size w w':=by
 have PB:=Lib.hid (fun V=>l0k b V hs)
 rw[d0f h]at PB;obtain⟨k1,k2,_,_,k5⟩:=r1c h
 have hz:(b.extract 4 (4+bodyN b)).size=bodyN b:=by simp;omega
 have hn:(bodyN b:Int)≤65535:=l1g b
 have HT:=Lib.hid (show b.extract (4+bodyN b) b.size=trail b from rfl)
 have sl:=sl_l b (4+((b.extract 4 (4+bodyN b)).size:Int)) (4+bodyN b) b.size (by rw[hz];push_cast;rfl) k5 rfl
 have hzz:((b.extract 4 (4+bodyN b)).size:Int)≤65535:=by rw[hz];exact hn
 rw[HT.out]at sl;clear h k1 k2 k5 hz hn hs HT;generalize b.extract 4 (4+bodyN b)=s at *;refine' qz16;refine(PB.out _).mono ?_;refine' qz75;refine' qzj;exact⟨rfl,hb⟩
end F2
end Go.Proofs.YtllhobicfclheaaGreatDoor
