/-
  A part of a proof. No conditions.
-/
import Derived.Test.YtllhobicfclheaaGreatDoorY31
namespace Go.Proofs.YtllhobicfclheaaGreatDoor
open Go.ChangeShapes Go.WideShapes Go.ChangeAt Go.RowKit
set_option linter.unusedVariables false
set_option maxRecDepth 100000
set_option maxHeartbeats 51200000
namespace F3
open F1 F2 Nu
open Cur (numL p0d u0n e0d r0g o0c p0g hasB)
open Bk (Bk Sh shC cur w0a loadVarK d0a f0a a0a o0a below_setRow b0a)
open Hs
open Hx (i0e r0c H.storeRow)
open Tl (cellsT oneT shT Lst TRow j0c f0d z0a)
theorem e0r {P:Program}{fn:Func}{p q:Nat}{t1 t2:TypeId}(h:fn.results = #[.cell p t1,.cell q t2])(tmps:Array Value)(w:World)(g k:Nat)(u v:Value)
    (hp:tmps.getD p undef = .pointer (some ⟨g,0,none⟩)) (hl:(loadVar t1 ⟨g,0,none⟩).run P w = .ok u w) (hq:tmps.getD q undef = .pointer (some ⟨k,0,none⟩)) (hk:(loadVar t2 ⟨k,0,none⟩).run P w = .ok v w) :
    (results fn tmps).run P w = .ok (.tuple #[u,v]) w:=by
 have hp':tmps[p]?.getD undef = .pointer (some ⟨g,0,none⟩):=by simpa using hp
 have hq':tmps[q]?.getD undef = .pointer (some ⟨k,0,none⟩):=by simpa using hq
 simp[results,h,hp',hq',asAddr,hl,hk]
def zT:T:=(0,(⟨#[]⟩,0))
structure G (w0 w:World)(c:Array Value):Prop where
  cur:Bk 150 w w0.heap.size c
  tl:Bk 110 w (w0.heap.size+1) (cellsT zT)
  rc:Bk 150 w (w0.heap.size+2) noC
  bel:Below w0.heap.size w0 w
theorem G.start (w:World)(c:Array Value):G w (((w.alloc (.cells c 150)).alloc (.cells (cellsT zT) 110)).alloc (.cells noC 150)) c:=by
 have h1:=Bk.Bk.new 110 (w.alloc (.cells c 150)) (cellsT zT);have h2:=Bk.Bk.new 150 ((w.alloc (.cells c 150)).alloc (.cells (cellsT zT) 110)) noC;rw[b0a]at h1 h2;rw[b0a]at h2;exact⟨((Bk.Bk.new 150 w c).old _).old _,h1.old _,h2,balloc (balloc (balloc (Below.refl _ w) _) _) _⟩
theorem G.call {w0 w w':World}{c:Array Value}(g:G w0 w c)(hb:Below w.heap.size w w'):G w0 w' c:=⟨g.cur.below hb,g.tl.below hb,g.rc.below hb,g.bel.trans (hb.mono g.bel.size)⟩
theorem G.put {w0 w:World}{c:Array Value}(g:G w0 w c)(c':Array Value):G w0 (w.setRow w0.heap.size c') c':=
  ⟨g.cur.put _,g.tl.row (by omega) _,g.rc.row (by omega) _,below_setRow g.bel (Nat.le_refl _) _⟩
def TakeIs (t:T)(c:Array Value)(w:World)(e:Ending)(w':World):Prop:=e = .returned (.tuple #[.agg (cellsT t),.agg c])∧Below w.heap.size w w'
theorem G.ends {w0 w w':World}{c c':Array Value}{t:T}(g:G w0 w c):Below w0.heap.size w0 ((w.drew.setRow (w0.heap.size+1) (cellsT t)).setRow (w0.heap.size+2) c'):=
  below_setRow (below_setRow g.bel.drew (by omega) _) (by omega) _
theorem take_zero (s:ByteArray)(p q:Nat)(y:Bool)(w:World)(h:∀ w,Calls Tryz.prog 270 #[.agg (cur s p s.size false),.int .i64 1] w fun e w'=>e = .returned (.tuple #[.int .i64 0,.agg (cur s q s.size y)])∧Below w.heap.size w w') :
    Calls Tryz.prog 249 #[.agg (cur s p s.size false)] w (TakeIs zT (cur s q s.size y) w):=by
 have H1:=Lib.hid h;clear h;refine' qzi;change Code.wp _ _ _ _ (((w.alloc (.cells (cur s p s.size false) 150)).alloc (.cells (cellsT zT) 110)).alloc (.cells noC 150));have HG:=Lib.hid (G.start w (cur s p s.size false));refine' qzbd;refine(H1.out _).mono ?_;refine' qz75;refine' qzd0;clear hb H1
 go_upto_region 2 with(refine a0a (b:=w.heap.size) shC rfl _ _ rfl rfl rfl HG.out.cur rfl rfl (w0a s q s.size y) ?_)
 have HG:=Lib.hid (HG.out.put (cur s q s.size y));generalize w1.setRow w.heap.size (cur s q s.size y)=W3 at *;refine' qzcn
 refine wp_region_held_drew (S:=fun W=>Bk 150 W w.heap.size (cur s q s.size y)) (by kernel_rfl) HG.out.cur.drew (fun hS=>?_)
 refine H.tk (i:=0) (v := .agg (cellsT zT)) (fun w _=>r0c rfl (by kernel_rfl)) hS ?_
 refine' qz0
 refine H.tk (i:=1) (v := .agg (cur s q s.size y)) (fun W hW=>o0a shC rfl rfl hW rfl) hS ?_
 refine' qz0
 refine H.storeRow (i:=2) (g:=w.heap.size+1) (cells:=cellsT zT) (by simp only[List.getElem?_toArray,List.getElem?_cons_succ,List.getElem?_cons_zero];rfl) (by kernel_rfl) rfl rfl (by kernel_rfl) rfl rfl 110 (cellsT zT) HG.out.tl.drew (by kernel_rfl) rfl (oneT _) (HG.out.cur.drew.row (by omega) _) ?_
 refine H.storeRow (i:=3) (g:=w.heap.size+2) (cells:=cur s q s.size y) (by simp only[List.getElem?_toArray,List.getElem?_cons_succ,List.getElem?_cons_zero];rfl) (by kernel_rfl) rfl rfl (by kernel_rfl) rfl rfl 150 noC (HG.out.rc.drew.row (by omega) _) (by kernel_rfl) rfl (w0a _ _ _ _) ((HG.out.cur.drew.row (by omega) _).row (by omega) _) ?_
 refine wpAnyH_done (by kernel_rfl) ?_ _
 refine' qzg
 exact bodyPost_ret (v := .tuple #[.agg (cellsT zT),.agg (cur s q s.size y)]) (e0r (t1:=110) (t2:=150) rfl _ _ (w.heap.size+1) (w.heap.size+2) (.agg (cellsT zT)) (.agg (cur s q s.size y)) rfl (loadVarK shT ((HG.out.tl.drew.put _).row (by omega) _) rfl) rfl (loadVarK shC ((HG.out.rc.drew.row (by omega) _).put _) rfl)) rfl ⟨rfl,HG.out.ends (w':=w)⟩
theorem c0o (s d:ByteArray)(p q1 q2 q3:Nat)(y1 y2 y3:Bool)(t n:Int)(w:World)(ht:¬t=0)
    (h1:∀ w,Calls Tryz.prog 270 #[.agg (cur s p s.size false),.int .i64 1] w fun e w'=>e = .returned (.tuple #[.int .i64 t,.agg (cur s q1 s.size y1)])∧Below w.heap.size w w')
    (h2:∀ w,Calls Tryz.prog 270 #[.agg (cur s q1 s.size y1),.int .i64 1] w fun e w'=>e = .returned (.tuple #[.int .i64 n,.agg (cur s q2 s.size y2)])∧Below w.heap.size w w')
    (h3:∀ w,Calls Tryz.prog 247 #[.agg (cur s q2 s.size y2),.int .i64 n] w fun e w'=>e = .returned (.tuple #[.string d,.agg (cur s q3 s.size y3)])∧Below w.heap.size w w') :
    Calls Tryz.prog 249 #[.agg (cur s p s.size false)] w (TakeIs (0,(d,t)) (cur s q3 s.size y3) w):=by
 have H1:=Lib.hid h1;have H2:=Lib.hid h2;have H3:=Lib.hid h3;clear h1 h2 h3;refine' qzi;change Code.wp _ _ _ _ (((w.alloc (.cells (cur s p s.size false) 150)).alloc (.cells (cellsT zT) 110)).alloc (.cells noC 150));have HG:=Lib.hid (G.start w (cur s p s.size false));refine' qzbd;refine(H1.out _).mono ?_;refine' qz75;refine' qzd0;clear hb H1
 go_upto_region 2 with(refine a0a (b:=w.heap.size) shC rfl _ _ rfl rfl rfl HG.out.cur rfl rfl (w0a s q1 s.size y1) ?_)
 have HG:=Lib.hid (HG.out.put (cur s q1 s.size y1));generalize w1.setRow w.heap.size (cur s q1 s.size y1)=W2 at *
 go_wp2_with (first|(refine f0a (b:=w.heap.size) shC rfl _ rfl rfl HG.out.cur rfl ?_))
 refine(H2.out _).mono ?_;refine' qz4b;refine' qzd0;clear hb H2
 go_upto_region 5 with(refine a0a (b:=w.heap.size) shC rfl _ _ rfl rfl rfl HG.out.cur rfl rfl (w0a s q2 s.size y2) ?_)
 have HG:=Lib.hid (HG.out.put (cur s q2 s.size y2));generalize w2.setRow w.heap.size (cur s q2 s.size y2)=W3 at *
 go_wp2_with (first|(refine f0a (b:=w.heap.size) shC rfl _ rfl rfl HG.out.cur rfl ?_))
 refine(H3.out _).mono ?_;refine' qzct;refine' qzd0;clear hb H3
 go_upto_region 6 with(refine a0a (b:=w.heap.size) shC rfl _ _ rfl rfl rfl HG.out.cur rfl rfl (w0a s q3 s.size y3) ?_)
 have HG:=Lib.hid (HG.out.put (cur s q3 s.size y3));generalize w3.setRow w.heap.size (cur s q3 s.size y3)=W4 at *
 refine wp_region_held_drew (S:=fun W=>Bk 150 W w.heap.size (cur s q3 s.size y3)) (by kernel_rfl) HG.out.cur.drew (fun hS=>?_)
 refine H.tk (i:=0) (v := .int .i64 t) (fun _ _=>rfl) hS ?_
 refine' qz0
 refine H.tk (i:=1) (v := .string d) (fun _ _=>rfl) hS ?_
 refine' qz0
 refine H.tk (i:=2) (v := .agg (cellsT (0,(d,t)))) (fun w _=>r0c rfl (by kernel_rfl)) hS ?_
 refine' qz0
 refine H.tk (i:=3) (v := .agg (cur s q3 s.size y3)) (fun W hW=>o0a shC rfl rfl hW rfl) hS ?_
 refine' qz0
 refine H.storeRow (i:=4) (g:=w.heap.size+1) (cells:=cellsT (0,(d,t))) (by simp only[List.getElem?_toArray,List.getElem?_cons_succ,List.getElem?_cons_zero];rfl) (by kernel_rfl) rfl rfl (by kernel_rfl) rfl rfl 110 (cellsT zT) HG.out.tl.drew (by kernel_rfl) rfl (oneT _) (HG.out.cur.drew.row (by omega) _) ?_
 refine H.storeRow (i:=5) (g:=w.heap.size+2) (cells:=cur s q3 s.size y3) (by simp only[List.getElem?_toArray,List.getElem?_cons_succ,List.getElem?_cons_zero];rfl) (by kernel_rfl) rfl rfl (by kernel_rfl) rfl rfl 150 noC (HG.out.rc.drew.row (by omega) _) (by kernel_rfl) rfl (w0a _ _ _ _) ((HG.out.cur.drew.row (by omega) _).row (by omega) _) ?_
 refine wpAnyH_done (by kernel_rfl) ?_ _
 refine' qzg
 exact bodyPost_ret (v := .tuple #[.agg (cellsT (0,(d,t))),.agg (cur s q3 s.size y3)]) (e0r (t1:=110) (t2:=150) rfl _ _ (w.heap.size+1) (w.heap.size+2) (.agg (cellsT (0,(d,t)))) (.agg (cur s q3 s.size y3)) rfl (loadVarK shT ((HG.out.tl.drew.put _).row (by omega) _) rfl) rfl (loadVarK shC ((HG.out.rc.drew.row (by omega) _).put _) rfl)) rfl ⟨rfl,HG.out.ends (w':=w)⟩
theorem take_any {s:ByteArray}{a r:List UInt8}{p:Nat}(h:s.data.toList=a++r)(hp:a.length=p)(hr:r≠[])(hs:s.size≤1048576) :
    (∃ x r',cut1 r=some (x,r')∧∀ w,Calls Tryz.prog 249 #[.agg (cur s p s.size false)] w (TakeIs (0,x) (cur s (p+(enc1 x).length:Nat) s.size false) w))∨
    (cut1 r=none∧∃ (t:T) (q:Nat),∀ w,Calls Tryz.prog 249 #[.agg (cur s p s.size false)] w (TakeIs t (cur s q s.size true) w)):=by
 refine' qzd2;obtain⟨k1,k2,k3⟩:=F1.step h hp hr
 have N1:=fun w=>g0q s p hs (by omega) w
 rcases k3 with⟨b0,r',hc⟩|⟨b0,k4,hc⟩|⟨n,b0,k4,b1,kn,⟨k5,hc⟩|⟨k5,x,r',hc,x1,x2,x3⟩⟩
 · rw[b0]at N1
   refine .inl ⟨_,r',hc,fun w=>?_⟩
   exact take_zero s p (p+1) false w N1
 · obtain⟨v2,q2,y2,l2,j2,n2⟩:=u0b s (p+1) false 1 hs (by omega) (by omega) (by omega)
   have hy:y2=true:=by
    cases y2 with
    | true=>rfl
    | false=>
     obtain⟨_,_,_⟩:=j2 rfl;omega
   subst hy
   exact .inr ⟨hc,_,q2,fun w=>c0o s ⟨#[]⟩ p (p+1) q2 q2 false true true (bt s p) v2 w b0 N1 n2 (fun w=>r0g s q2 s.size v2 true w hm l2 (Nat.le_refl _) rfl)⟩
 · have N2:=fun w=>g0q s (p+1) hs (by omega) w
   rw[b1]at N2
   exact .inr ⟨hc,_,p+2,fun w=>c0o s ⟨#[]⟩ p (p+1) (p+2) (p+2) false false true (bt s p) n w b0 N1 N2 (fun w=>r0g s (p+2) s.size n false w hm (by omega) (Nat.le_refl _) (by unfold hasB;simp;omega))⟩
 · have N2:=fun w=>g0q s (p+1) hs (by omega) w
   rw[b1]at N2;have hx:x=(s.extract (p+2) (p+2+n),bt s p):=Prod.ext x2 x1
   have hl:(enc1 x).length=2+n:=by rw[l0b,if_neg (by rw[x1];exact b0),x3]
   refine .inl ⟨x,r',hc,fun w=>?_⟩
   rw[hl,hx]
   have T3:∀ w,Calls Tryz.prog 247 #[.agg (cur s (p+2:Nat) s.size false),.int .i64 n] w fun e w'=>e = .returned (.tuple #[.string (s.extract (p+2) (p+2+n)),.agg (cur s (p+2+n:Nat) s.size false)])∧Below w.heap.size w w':=fun w=>by
    have:=e0d s (p+2) s.size n w hm (by omega) (Nat.le_refl _) k5
    unfold cur;push_cast at this⊢;exact this
   rw[show p+(2+n)=p+2+n by omega]
   exact c0o s _ p (p+1) (p+2) (p+2+n) false false false (bt s p) n w b0 N1 N2 T3
end F3
namespace F4
open F1 F2 F3
open Cur (o0c p0g)
open Bk (Bk Sh shC cur w0a loadVarK d0a f0a a0a o0a below_setRow b0a)
open Hs
open Hx (i0e r0c H.storeRow)
open Tl (cellsT oneT shT Lst TRow j0c f0d z0a)
def AnsT (p:List T×Int×Int)(w:World)(e:Ending)(w':World):Prop:=
  ∃ a c,e = .returned (.tuple #[.slice a p.1.length c,.int .i64 p.2.1,.int .i64 p.2.2])∧Lst w.heap.size w' (.slice a p.1.length c) p.1∧Below w.heap.size w w'
theorem AnsT.no {p:List T×Int×Int}{w w':World}{c d:Int}(h:p=([],c,d))(hb:Below w.heap.size w w'):AnsT p w (.returned (.tuple #[.slice none 0 0,.int .i64 c,.int .i64 d])) w':=by
 subst h;exact⟨none,0,rfl,Lst.nil _ _,hb⟩
theorem AnsT.yes {p:List T×Int×Int}{w w':World}{a:Option Addr}{c n:Nat}{l:List T}(h:p=(l,0,0))(hn:l.length=n)(hl:Lst w.heap.size w' (.slice a n c) l)(hb:Below w.heap.size w w'):AnsT p w (.returned (.tuple #[.slice a n c,.int .i64 0,.int .i64 0])) w':=by
 subst h hn;exact⟨a,c,rfl,hl,hb⟩
def curAt (w:World)(v:Value):Nat:=match v with
  | .pointer (some p)=>match w.cell? (p.add 1)with
    | some (.int _ n)=>n.toNat
    | _=>0
  | _=>0
theorem f0w {w:World}{g:Nat}{s:ByteArray}{a n:Int}{b:Bool}(h:Bk 150 w g (cur s a n b)):curAt w (.pointer (some ⟨g,0,none⟩))=a.toNat:=by
 have h1:=h.cell 1 (.int .i64 a) rfl;unfold curAt;simp only[Tl.add_one,Nat.zero_add,h1]
theorem j1o (s:ByteArray)(p:Nat)(d:Int)(hs:s.size≤1048576)(hp:p≤s.size)(hd:d=(s.size:Int) - p)(w:World) :
    Calls Tryz.prog 248 #[.agg (cur s p s.size false)] w fun e w'=>e = .returned (.int .i64 d)∧Below w.heap.size w w':=by
 have h:=p0g s p s.size w
 rw[IntWalk.wrap64_in ((s.size:Int) - (p:Int)) (by omega)]at h
 rw[hd];exact h
theorem r0i (s:ByteArray)(base:Int)(w:World)(hs:s.size≤100000)(h0:0≤base)(h1:base≤1099511627776):Calls Tryz.prog 187 #[.string s,.int .i64 base] w (AnsT (outT base s) w):=by
 have HS:=Lib.hid hs
 have HN:=Lib.hid (fun V=>o0c s V (by unfold maxLen;omega))
 clear hs;refine' qz16;refine(HN.out _).mono ?_;refine' qz75;have C0:=Lib.hid (Bk.Bk.new 150 w1 noC);have C1:=Lib.hid (C0.out.put (cur s (0:Nat) s.size false));have HB:=Lib.hid (below_setRow (balloc hb (.cells noC 150)) hb.size (cur s (0:Nat) s.size false));have HG1:Hid (w.heap.size≤w1.heap.size):=Lib.hid hb.size;clear hb HN
 go_wp2_with (first|(refine a0a (b:=w1.heap.size) shC rfl _ _ rfl rfl rfl C0.out rfl rfl (w0a _ _ _ _) ?_))
 change Code.wp _ _ _ _ ((w1.alloc (.cells noC 150)).setRow w1.heap.size (cur s (0:Nat) s.size false));clear C0;generalize (w1.alloc (.cells noC 150)).setRow w1.heap.size (cur s (0:Nat) s.size false)=W1 at *;generalize w1.heap.size=g1 at *;change Code.wp _ _ _ (Act.mk _ _) _
 go_loopw [7,8] (fun v pv wr=>∃ (l:List El) (p g:Nat) (r:List UInt8),pv = .pointer (some ⟨g,0,none⟩)∧Hid (Bk 150 wr g (cur s p s.size false))∧Hid (w.heap.size≤g)∧Hid ((encT l).length=p)∧Hid (Lst w.heap.size wr v (placed base l))∧Hid (okT l)∧Hid (s.data.toList=encT l++r)∧Hid (Below w.heap.size w wr)) (fun _ pv wr=>s.size - curAt wr pv)
 case atStart=>exact⟨[],0,g1,s.data.toList,rfl,C1,HG1,Lib.hid rfl,Lib.hid (Lst.nil _ _),Lib.hid l0d,Lib.hid rfl,HB⟩
 case round=>
  obtain⟨l,p,g,r,rfl,HC,HGB,HP,HL,HO,HE,HB⟩:=hrel;clear C1 HG1
  have HZ:Hid (s.size=p+r.length):=Lib.hid (by rw[size_of HE.out,List.length_append,HP.out])
  have HC0:=HC;have hc1:=HC.out.cell 1 (.int .i64 p) rfl;have hp0:0≤(p:Int):=Int.natCast_nonneg _
  have hp1:(p:Int)≤100000:=by have:=HZ.out;have:=HS.out;omega
  obtain⟨d,hd⟩:∃ d,d=(s.size:Int) - p:=⟨_,rfl⟩
  have PL:=Lib.hid (fun V=>j1o s p d (by have:=HS.out;omega) (by have:=HZ.out;omega) hd V)
  by_cases hu:r = []
  · subst hu
    have HY:=Lib.hid (u0a (base:=base) HO.out (by rw[HE.out,List.append_nil]))
    have e1:¬0<d:=by have:=HZ.out;simp only[List.length_nil]at this;omega
    obtain⟨a,c,rfl⟩:=HL.out.slice;have HW:=Lib.hid HL.out;clear HL HP HZ HE hd hc1;generalize (p:Int)=pi at *;refine' qzbn;refine' qz4b;have HW:=Lib.hid (HW.out.below hb);refine' qz6;clear hb PL HC;refine' qz5w;exact AnsT.yes HY.out rfl HW.out HB.out
  · have hr:0<r.length:=by
     cases r with
     | nil=>exact absurd rfl hu
     | cons _ _=>simp
    have e1:0<d:=by have:=HZ.out;omega
    clear hr
    rcases take_any HE.out HP.out hu (by have:=HS.out;omega)with⟨x,r',hc,ht⟩|⟨hc,t,q,ht⟩
    · have PT:=Lib.hid ht;obtain⟨ho,he⟩:=w0g hc;have HO:=Lib.hid (e0n HO.out ho)
      have HE:Hid (s.data.toList=encT (l ++ [x])++r'):=Lib.hid (by rw[HE.out,he,u0i,List.append_assoc])
      have HCC:Hid ((placed base l).length≤100000):=Lib.hid (by rw[j0f];have:=HS.out;have:=HP.out;have:=HZ.out;have:=j0j l;omega)
      have HPL:Hid (placed base (l ++ [x])=placed base l ++ [(base+(p:Int),x)]):=Lib.hid (by rw[u0x,HP.out])
      have HP2:Hid ((encT (l ++ [x])).length=p+(enc1 x).length):=Lib.hid (by rw[u0i,List.length_append,HP.out])
      have HM:Hid (s.size - (p+(enc1 x).length)<s.size - p):=Lib.hid (by
       have:=HZ.out;have h1:=congrArg List.length he;rw[List.length_append]at h1;have:=a0r x
       omega)
      clear hu hc ht ho he HZ hd;generalize p+(enc1 x).length=p' at *;generalize placed base l=lp at *;refine' qzbn;refine' qz4b;refine' qz8;have HC:=Lib.hid (HC.out.below hb);clear hb PL hc1
      go_wp2_with (first|(refine f0a (b:=g) shC rfl _ rfl rfl HC.out rfl ?_))
      refine(PT.out _).mono ?_;refine' qzct;refine' qz8;have HC:=Lib.hid (HC.out.below hb);clear hb PT;have hg:Hid (g<w3.heap.size):=Lib.hid HC.out.lt;have hgB:Hid (w.heap.size≤w3.heap.size):=Lib.hid HB.out.size;have T0:Hid (Bk 110 ((w3.alloc (.cells (cellsT zT) 110)).alloc (.cells noC 150)) w3.heap.size (cellsT zT)):=Lib.hid ((Bk.Bk.new _ _ _).old _)
      have U0:Hid (Bk 150 (((w3.alloc (.cells (cellsT zT) 110)).alloc (.cells noC 150)).setRow w3.heap.size (cellsT (0,x))) (w3.heap.size+1) noC):=Lib.hid (by
       have:=Bk.Bk.new 150 (w3.alloc (.cells (cellsT zT) 110)) noC;rw[b0a]at this
       exact this.row (by omega) _)
      have T1:=Lib.hid ((T0.out.put (cellsT (0,x))).row (g:=w3.heap.size+1) (by omega) (cur s p' s.size false))
      have U1:=Lib.hid (U0.out.put (cur s p' s.size false));have HBB:=Lib.hid (below_setRow (below_setRow (balloc (balloc (Below.refl _ w3) (.cells (cellsT zT) 110)) (.cells noC 150)) (Nat.le_refl _) (cellsT (0,x))) (Nat.le_succ _) (cur s p' s.size false))
      go_upto_region 5 with(first|(refine a0a (b:=w3.heap.size) shT rfl _ _ rfl rfl rfl T0.out rfl rfl (oneT (0,x)) ?_)|(refine a0a (b:=w3.heap.size+1) shC rfl _ _ rfl rfl rfl U0.out rfl rfl (w0a _ _ _ _) ?_))
      clear T0 U0;change Code.wp _ _ _ _ ((((w3.alloc (.cells (cellsT zT) 110)).alloc (.cells noC 150)).setRow w3.heap.size (cellsT (0,x))).setRow (w3.heap.size+1) (cur s p' s.size false));generalize (((w3.alloc (.cells (cellsT zT) 110)).alloc (.cells noC 150)).setRow w3.heap.size (cellsT (0,x))).setRow (w3.heap.size+1) (cur s p' s.size false)=W4 at *;have HC:=Lib.hid (HC.out.below HBB.out);have c3:=U1.out.cell 3 (.bool false) rfl;have c1:=HC.out.cell 1 (.int .i64 p) rfl;have f1:=T1.out.frozen 1;have d1:=T1.out.cell 1 (.int .i64 0) rfl
      have hbp:IntKind.i64.wrap (base+(p:Int))=base+(p:Int):=IntWalk.i64_in _ (by omega)
      have hbq:wrap64 (base+(p:Int))=base+(p:Int):=IntWalk.wrap64_in _ (by omega)
      refine' qzcq;have T1:=Lib.hid (T1.out.set (i:=1) (v := .int .i64 (base+(p:Int))) (cs':=cellsT (base+(p:Int),x)) rfl)
      have U1:=Lib.hid (U1.out.off (p:=⟨w3.heap.size,1,none⟩) (by show w3.heap.size+1≠w3.heap.size;omega) (.int .i64 (base+(p:Int))))
      have HC:=Lib.hid (HC.out.off (p:=⟨w3.heap.size,1,none⟩) (by show g≠w3.heap.size;have:=hg.out;omega) (.int .i64 (base+(p:Int))))
      have HBB:=Lib.hid (HBB.out.setCell (p:=⟨w3.heap.size,1,none⟩) (Nat.le_refl _) (.int .i64 (base+(p:Int))));have HL:=Lib.hid (HL.out.below HBB.out);have HB:=Lib.hid (bcall HB.out HBB.out);clear HBB;generalize W4.setCell ⟨w3.heap.size,1,none⟩ (.int .i64 (base+(p:Int)))=W5 at *;generalize w3.heap.size=g9 at *;clear c3 c1 f1 d1 hbp hbq;have HLA:=Lib.hid (HL.out.below (balloc (Below.refl _ W5) (.cells (cellsT (base+(p:Int),x)) 110)));have HBA:=Lib.hid (balloc HB.out (.cells (cellsT (base+(p:Int),x)) 110));clear HL HB hg hgB HBB
      go_upto_region 9 with(first|(refine f0a (b:=g9) shT rfl _ rfl rfl T1.out rfl ?_)|(refine j0c rfl _ rfl (m:=(base+(p:Int),x)) rfl ?_)|(at_builtin;refine f0d rfl _ _ rfl w.heap.size _ lp (base+(p:Int),x) W5.heap.size 1 rfl HLA.out rfl (z0a (base+(p:Int),x) W5) HCC.out HBA.out.size ?_))
      intro v' w' hl hgr hb
      have HC:=Lib.hid (HLA.out.keeps hgr (HC.out.old _) (by decide))
      have U1:=Lib.hid (HLA.out.keeps hgr (U1.out.old _) (by decide))
      refine' qz7k;have HB:=Lib.hid (HBA.out.trans hb);rw[←HPL.out]at HL;clear hl hgr hb HLA HBA T1 HPL HCC
      go_upto_region 10 with(first|(refine f0a (b:=g9+1) shC rfl _ rfl rfl U1.out rfl ?_)|(refine a0a (b:=g) shC rfl _ _ rfl rfl rfl HC.out rfl rfl (w0a _ _ _ _) ?_))
      have HL:=Lib.hid (HL.out.off_row HC.out (by decide) (cur s p' s.size false))
      have HB:=Lib.hid (below_setRow HB.out HGB.out (cur s p' s.size false));have HC:=Lib.hid (HC.out.put (cur s p' s.size false));generalize w'.setRow g (cur s p' s.size false)=X at *;have C0:=Lib.hid (Bk.Bk.new 150 X noC)
      go_wp2_with (first|(refine f0a (b:=g) shC rfl _ rfl rfl HC.out rfl ?_)|(refine a0a (b:=X.heap.size) shC rfl _ _ rfl rfl rfl C0.out rfl rfl (w0a _ _ _ _) ?_))
      have hmm:s.size - curAt ((X.alloc (.cells noC 150)).setRow X.heap.size (cur s p' s.size false)) (.pointer (some ⟨X.heap.size,0,none⟩))<s.size - curAt wr (.pointer (some ⟨g,0,none⟩)):=by
       rw[f0w (C0.out.put (cur s p' s.size false)),f0w HC0.out];simpa using HM.out
      have HMM:=Lib.hid hmm;have HB1:=Lib.hid (below_setRow (balloc (Below.refl _ X) (.cells noC 150)) (Nat.le_refl _) (cur s p' s.size false));clear hmm;simp only[Act.put];go_roundw
      case rel=>exact⟨l ++ [x],p',X.heap.size,r',rfl,Lib.hid (C0.out.put _),Lib.hid HB.out.size,HP2,Lib.hid (HL.out.below HB1.out),HO,HE,Lib.hid (bcall HB.out HB1.out)⟩
      case measure=>exact HMM.out
    · have PT:=Lib.hid ht;have HY:=Lib.hid (u0e (base:=base) HO.out HE.out hc hu);rw[HP.out]at HY;clear hu hc ht HZ hd HP HE HO;refine' qzbn;refine' qz50;have HC:=Lib.hid (HC.out.below hb);clear hb PL hc1
      go_wp2_with (first|(refine f0a (b:=g) shC rfl _ rfl rfl HC.out rfl ?_))
      refine(PT.out _).mono ?_;refine' qzct;refine' qz6;have HC:=Lib.hid (HC.out.below hb);clear hb PT;have T0:Hid (Bk 110 ((w3.alloc (.cells (cellsT zT) 110)).alloc (.cells noC 150)) w3.heap.size (cellsT zT)):=Lib.hid ((Bk.Bk.new _ _ _).old _)
      have U0:Hid (Bk 150 (((w3.alloc (.cells (cellsT zT) 110)).alloc (.cells noC 150)).setRow w3.heap.size (cellsT t)) (w3.heap.size+1) noC):=Lib.hid (by
       have:=Bk.Bk.new 150 (w3.alloc (.cells (cellsT zT) 110)) noC;rw[b0a]at this
       exact this.row (by omega) _)
      have U1:=Lib.hid (U0.out.put (cur s q s.size true));have HBB:=Lib.hid (below_setRow (below_setRow (balloc (balloc (Below.refl _ w3) (.cells (cellsT zT) 110)) (.cells noC 150)) (Nat.le_refl _) (cellsT t)) (Nat.le_succ _) (cur s q s.size true))
      go_upto_region 5 with(first|(refine a0a (b:=w3.heap.size) shT rfl _ _ rfl rfl rfl T0.out rfl rfl (oneT t) ?_)|(refine a0a (b:=w3.heap.size+1) shC rfl _ _ rfl rfl rfl U0.out rfl rfl (w0a _ _ _ _) ?_))
      clear T0 U0;change Code.wp _ _ _ _ ((((w3.alloc (.cells (cellsT zT) 110)).alloc (.cells noC 150)).setRow w3.heap.size (cellsT t)).setRow (w3.heap.size+1) (cur s q s.size true));generalize (((w3.alloc (.cells (cellsT zT) 110)).alloc (.cells noC 150)).setRow w3.heap.size (cellsT t)).setRow (w3.heap.size+1) (cur s q s.size true)=W4 at *;have HC:=Lib.hid (HC.out.below HBB.out);have HB:=Lib.hid (bcall HB.out HBB.out);clear HBB;have c3:=U1.out.cell 3 (.bool true) rfl;have c1:=HC.out.cell 1 (.int .i64 p) rfl
      have hbp:IntKind.i64.wrap (base+(p:Int))=base+(p:Int):=IntWalk.i64_in _ (by omega)
      have hbq:wrap64 (base+(p:Int))=base+(p:Int):=IntWalk.wrap64_in _ (by omega)
      generalize (p:Int)=pi at *;go_wp2;go_quiet (fail);refine' qz5w;exact AnsT.no HY.out (Tl.below_drewN HB.out _)
end F4
namespace S5
open Ms Cnt S1 S2
open F1 (enc1 encT outT placed j0f okT size_of j0j)
open F4 (AnsT r0i)
open Tl (TRow cellsT indexT y1b)
open Sx (cellsS Lst j0c f0d z0a)
open Bk (Bk Sh d0a)
def els (l:List F1.T)(k:Nat):List El:=(l.take k).map Prod.snd
theorem h0x (l:List F1.T):els l 0 = []:=by unfold els;simp
theorem u1i (l:List F1.T)(k:Nat)(h:k<l.length):els l (k+1)=els l k ++ [l[k].2]:=by
 unfold els;rw[List.take_succ_eq_append_getElem h,List.map_append];rfl
theorem t1a (l:List F1.T):els l l.length=l.map Prod.snd:=by unfold els;rw[List.take_length]
theorem x1m (l:List F1.T)(k:Nat):(els l k).length≤k:=by unfold els;rw[List.length_map,List.length_take];omega
theorem s0e {B B':Nat}{w:World}{v:Value}{l:List El}(h:Lst B w v l)(hB:B'≤B):Lst B' w v l:=by
 refine' qz3f
def AnsF (l:List El)(w:World)(e:Ending)(w':World):Prop:=
  ∃ a c,e = .returned (.tuple #[.slice a (keep l).length c,.bool (knownB l)])∧Lst w.heap.size w' (.slice a (keep l).length c) (keep l)∧Below w.heap.size w w'
theorem AnsF.of {l:List El}{w w':World}{v:Value}{k:Bool}(hk:k=knownB l)(hl:Lst w.heap.size w' v (keep l))(hb:Below w.heap.size w w'):AnsF l w (.returned (.tuple #[v,.bool k])) w':=by
 obtain⟨a,c,rfl⟩:=hl.slice
 exact⟨a,c,by rw[hk],hl,hb⟩
theorem h1g {a b:Bool}(h:a=b):Value.bool a=Value.bool b:=by rw[h]
theorem q1i (a:Option Addr)(c:Nat)(l:List F1.T)(w:World)(hl:TRow w a l)(ln:l.length≤100000) :
    Calls Tryz.prog 319 #[.slice a l.length c] w (AnsF (l.map Prod.snd) w):=by
 have HLn:=Lib.hid ln;clear ln;go_in;go_wp2
 go_loopw [4,5,10] (fun v kn i wr=>∃ k:Nat,k≤l.length∧i = .int .i64 k∧kn = .bool (knownB (els l k))∧Hid (Lst w.heap.size wr v (keep (els l k)))∧Hid (Below w.heap.size w wr)) (fun _ _ i _=>l.length - (intOf i).toNat)
 case atStart=>exact⟨0,Nat.zero_le _,rfl,by rw[h0x];rfl,Lib.hid (by rw[h0x];exact Lst.nil _ _),Lib.hid (Below.refl _ _)⟩
 case round=>
  obtain⟨k,hk,rfl,rfl,HV,HB⟩:=hrel;by_cases hlt:k<l.length
  · obtain⟨p,rfl,hp,c0,c1,c2⟩:=(hl.below HB.out) k hlt
    have ix:=fun W=>indexT p l.length c k hlt W
    have HT:=Lib.hid (u1i l k hlt)
    have hk2:(k:Int)≤100000:=by have:=HLn.out;omega
    have HC:Hid ((keep (els l k)).length≤100000):=Lib.hid (by have:=HLn.out;have:=h0w (els l k);have:=x1m l k;omega)
    rw[add_one]at c1;rw[y1b]at c2;refine' qz11;generalize els l k=lk at *;obtain⟨at0,d,n⟩:=u;simp only[]at c0 c1 c2 HT;have HX:=Lib.hid (Bk.Bk.new 110 wr (cellsT (at0,d,n)));have HV:=Lib.hid (HV.out.below (balloc (Below.refl _ wr) (.cells (cellsT (at0,d,n)) 110)));have HB:=Lib.hid (balloc HB.out (.cells (cellsT (at0,d,n)) 110));refine' qzcp;change Code.wp _ _ _ _ (wr.alloc (.cells (cellsT (at0,d,n)) 110));generalize wr.alloc (.cells (cellsT (at0,d,n)) 110)=W at *;generalize wr.heap.size=q at *;clear c0 c1 c2 hp ix;have c0:=HX.out.cell 0 (.int .i64 n) rfl;have c2:=HX.out.cell 2 (.string d) rfl;by_cases h1:n<2
    · have hk0:keepB (d,n)=false:=by unfold keepB;simp;omega
      have e1:=e1c hk0 lk
      have e2:knownB (lk ++ [(d,n)])=knownB lk:=by rw[y0l];simp;omega
      rw[←HT.out]at e1 e2;rw[←e1]at HV;have E2:=Lib.hid e2;clear e1 e2 hk0 HX;refine' qz90
    by_cases h2:127<n
    · have hk0:keepB (d,n)=false:=by unfold keepB;simp;omega
      have e1:=e1c hk0 lk
      have e2:knownB (lk ++ [(d,n)])=false:=by rw[y0l];simp;omega
      rw[←HT.out]at e1 e2;rw[←e1]at HV;have E2:=Lib.hid e2;clear e1 e2 hk0 HX;refine' qz90
    have hk0:keepB (d,n)=true:=by unfold keepB;simp;omega
    have e1:=p1k hk0 lk
    have e2:knownB (lk ++ [(d,n)])=knownB lk:=by rw[y0l];simp;omega
    rw[←HT.out]at e1 e2;have E1:=Lib.hid e1;have E2:=Lib.hid e2;clear e1 e2 hk0;generalize keep lk=kl at *;have HLA:=Lib.hid (HV.out.below (balloc (Below.refl _ W) (.cells (cellsS (d,n)) 50)));have HBA:=Lib.hid (balloc HB.out (.cells (cellsS (d,n)) 50))
    go_upto_region 10 with(first|(refine d0a rfl 50 _ rfl (cellsS (d,n)) (by kernel_rfl) ?_)|(refine j0c rfl _ rfl (m:=(d,n)) rfl ?_)|(at_builtin;refine f0d rfl _ _ rfl w.heap.size _ kl (d,n) W.heap.size 1 rfl HLA.out rfl (z0a (d,n) W) HC.out HBA.out.size ?_))
    intro v' w' hl2 hb _
    have HV:Hid (Lst w.heap.size w' v' (keep (els l (k+1)))):=Lib.hid (by rw[E1.out];exact hl2)
    have HB:=Lib.hid (HBA.out.trans hb);clear hl2 hb HLA HBA HX c0 c2;refine' qz90
  · refine' qz12;rw[t1a]at HV;refine' qz2w
    exact AnsF.of (by rw[t1a]) HV.out HB.out
def AnsS (p:List El×Bool×Int)(w:World)(e:Ending)(w':World):Prop:=
  ∃ a c,e = .returned (.tuple #[.slice a p.1.length c,.bool p.2.1,.int .i64 p.2.2])∧Lst w.heap.size w' (.slice a p.1.length c) p.1∧Below w.heap.size w w'
theorem AnsS.no {p:List El×Bool×Int}{w w':World}{d:Int}(h:p=([],false,d))(hb:Below w.heap.size w w'):AnsS p w (.returned (.tuple #[.slice none 0 0,.bool false,.int .i64 d])) w':=by
 subst h;exact⟨none,0,rfl,Lst.nil _ _,hb⟩
theorem AnsS.yes {p:List El×Bool×Int}{w w':World}{a:Option Addr}{c n:Nat}{l:List El}{k:Bool}(h:p=(l,k,0))(hn:l.length=n)(hl:Lst w.heap.size w' (.slice a n c) l)(hb:Below w.heap.size w w'):AnsS p w (.returned (.tuple #[.slice a n c,.bool k,.int .i64 0])) w':=by
 subst h hn;exact⟨a,c,rfl,hl,hb⟩
theorem c0e (s:ByteArray)(w:World)(hs:s.size≤100000):Calls Tryz.prog 293 #[.string s] w (AnsS (outS s) w):=by
 have P1:=Lib.hid (r0i s 0 w hs (by omega) (by omega))
 rcases outS_cases s with⟨l,ho,he,e,hk⟩|⟨p,e,hk⟩
 rotate_left
 · have HY:=Lib.hid hk;rw[e]at P1;clear e hk hs;refine' qz16;refine P1.out.mono ?_;rintro r w1 ⟨a1,c1,rfl,h1,hb⟩;refine' qz4n;clear h1 hb P1;dsimp only[List.length_nil];refine' qz5w;exact AnsS.no HY.out HB.out
 have HZ:=size_of he;have hls:=j0j l
 have HS:=Lib.hid (show l.length≤100000 by omega)
 have HQ:=Lib.hid (show bytesN (keep l)≤100000 by have:=u0s l;omega)
 have HK:=Lib.hid (show(keep l).length≤100000 by have:=h0w l;omega)
 have HP:=Lib.hid (show(placed 0 l).length≤100000 by rw[j0f];omega)
 have HD:=Lib.hid (x0l l 0);have HY:=Lib.hid hk;rw[e]at P1;clear e hk hs ho he HZ hls;refine' qz16;refine P1.out.mono ?_;rintro r w1 ⟨a1,c1,rfl,h1,hb⟩;have P2:=Lib.hid (q1i a1 c1 (placed 0 l) w1 h1.row HP.out);rw[HD.out]at P2;refine' qz4n;clear h1 hb P1;dsimp only;generalize (placed 0 l).length=np at *;refine' qzg;refine P2.out.mono ?_;rintro r w2 ⟨a2,c2,rfl,h2,hb⟩;have HL:=Lib.hid (s0e h2 HB.out.size);refine' qz6
 have P3:=Lib.hid (w0k a2 c2 (keep l) w2 h2.row (by have:=HK.out;omega) (by have:=HQ.out;omega))
 clear h2 hb P2;have HE:=HY.out;clear HY
 rcases HE with⟨hq,e⟩|⟨hq,e⟩
 · have HY:=Lib.hid e
   have hq2:((bytesN (keep l):Nat):Int)≤200:=by omega
   clear hq e;generalize ((bytesN (keep l):Nat):Int)=n at *;generalize hg:keep l=kl at *;clear hg;refine' qzg;refine P3.out.mono ?_;rintro r w3 ⟨rfl,hb⟩;refine' qz8;clear hb P3;refine' qz5w;exact AnsS.yes HY.out rfl HL.out HB.out
 · have HY:=Lib.hid e
   have hq2:200<((bytesN (keep l):Nat):Int):=by omega
   clear hq e;generalize ((bytesN (keep l):Nat):Int)=n at *;generalize hg:keep l=kl at *;clear hg;refine' qzg;refine P3.out.mono ?_;rintro r w3 ⟨rfl,hb⟩;refine' qz6;clear hb P3 HL;refine' qz5w;exact AnsS.no HY.out HB.out
end S5
end Go.Proofs.YtllhobicfclheaaGreatDoor
