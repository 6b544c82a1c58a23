/-
  A part of a proof. No conditions.
-/
import Derived.Test.YtllhobicfclheaaGreatDoorY02
namespace Go.Proofs.YtllhobicfclheaaGreatDoor
open Go.ChangeShapes Go.WideShapes Go.ChangeAt Go.RowKit
set_option linter.unusedVariables false
set_option maxRecDepth 100000
set_option maxHeartbeats 51200000
namespace Own
open Ms Box Same Go.Proofs.YtllhobicfclheaaGreatDoor.Or
theorem x1r (m:M)(w:World)(hk:m.kind=1):OwnS m w (k1 m):=by refine' oB
theorem k1s (m:M)(w:World)(hk:m.kind=2):OwnS m w (k2 m):=by refine' oB
theorem z1r (m:M)(w:World)(hk:m.kind=3):OwnS m w (k3 m):=by refine' oB
theorem t1s (m:M)(w:World)(hk:m.kind=4):OwnS m w (k4 m):=by refine' oB
end Own
namespace Own
open Ms Box Same Go.Proofs.YtllhobicfclheaaGreatDoor.Or
theorem o1s (m:M)(w:World)(hk:m.kind=5):OwnS m w (k5 m):=by refine' oB
theorem u1r (m:M)(w:World)(hk:m.kind=6):OwnS m w (k6 m):=by refine' oB
theorem g1s (m:M)(w:World)(hk:m.kind=7):OwnS m w (k7 m):=by refine' oB
theorem m1s (m:M)(w:World)(hk:m.kind=8):OwnS m w (k8 m):=by refine' oB
theorem z1s (m:M)(w:World)(hk:m.kind=9):OwnS m w (k9 m):=by refine' oB
end Own
namespace Own
open Ms Box Same Go.Proofs.YtllhobicfclheaaGreatDoor.Or
theorem k1r (m:M)(w:World)(hk:m.kind=10):OwnS m w (k10 m):=by refine' oB
theorem h1r (m:M)(w:World)(hk:m.kind=11):OwnS m w (k11 m):=by refine' oB
theorem v1p (m:M)(w:World)(hk:m.kind=12):OwnS m w (k12 m):=by refine' oB
end Own
namespace Own
open Ms Box Same Go.Proofs.YtllhobicfclheaaGreatDoor.Or
theorem d1q (m:M)(w:World)(hk:m.kind=13):OwnS m w (k13 m):=by refine' oB
theorem h1q (m:M)(w:World)(hk:m.kind=14):OwnS m w (k14 m):=by refine' oB
theorem f1l (m:M)(w:World)(hk:m.kind<1) :
    Calls Tryz.prog 143 #[.agg m.cells] w fun e w'=>e = .returned (.tuple #[.agg M.zero.cells,.bool false])∧Below w.heap.size w w':=by
 obtain⟨b1,b2,b3,bel⟩:=z0z w m;refine' qzb8;refine' qz52;have c0:=b1.cs.c0;have B2:=Lib.hid b2;clear b1 b2 b3;refine' qz5p
theorem j1g (m:M)(w:World)(hk:14<m.kind) :
    Calls Tryz.prog 143 #[.agg m.cells] w fun e w'=>e = .returned (.tuple #[.agg M.zero.cells,.bool false])∧Below w.heap.size w w':=by
 obtain⟨b1,b2,b3,bel⟩:=z0z w m;refine' qzb8;refine' qz52;have c0:=b1.cs.c0;have B2:=Lib.hid b2;clear b1 b2 b3;refine' qz5p
end Own
namespace Bare
open Ms Box Same SameP Hs RSame Own Go.Proofs.YtllhobicfclheaaGreatDoor.Or
theorem is_1 {m:M}(h:m.kind=1):isKind m=true∧ownM m={ k1 m with kind:=m.kind}:=by
 refine' qzp
theorem is_2 {m:M}(h:m.kind=2):isKind m=true∧ownM m={ k2 m with kind:=m.kind}:=by
 refine' qzp
theorem is_3 {m:M}(h:m.kind=3):isKind m=true∧ownM m={ k3 m with kind:=m.kind}:=by
 refine' qzp
theorem is_4 {m:M}(h:m.kind=4):isKind m=true∧ownM m={ k4 m with kind:=m.kind}:=by
 refine' qzp
theorem is_5 {m:M}(h:m.kind=5):isKind m=true∧ownM m={ k5 m with kind:=m.kind}:=by
 refine' qzp
theorem is_6 {m:M}(h:m.kind=6):isKind m=true∧ownM m={ k6 m with kind:=m.kind}:=by
 refine' qzp
theorem is_7 {m:M}(h:m.kind=7):isKind m=true∧ownM m={ k7 m with kind:=m.kind}:=by
 refine' qzp
theorem is_8 {m:M}(h:m.kind=8):isKind m=true∧ownM m={ k8 m with kind:=m.kind}:=by
 refine' qzp
theorem is_9 {m:M}(h:m.kind=9):isKind m=true∧ownM m={ k9 m with kind:=m.kind}:=by
 refine' qzp
theorem f0m {m:M}(h:m.kind=10):isKind m=true∧ownM m={ k10 m with kind:=m.kind}:=by
 refine' qzp
theorem g0o {m:M}(h:m.kind=11):isKind m=true∧ownM m={ k11 m with kind:=m.kind}:=by
 refine' qzp
theorem j0o {m:M}(h:m.kind=12):isKind m=true∧ownM m={ k12 m with kind:=m.kind}:=by
 refine' qzp
theorem s0o {m:M}(h:m.kind=13):isKind m=true∧ownM m={ k13 m with kind:=m.kind}:=by
 refine' qzp
theorem k0n {m:M}(h:m.kind=14):isKind m=true∧ownM m={ k14 m with kind:=m.kind}:=by
 refine' qzp
theorem d0z {m:M}(h:m.kind<1):isKind m=false:=by unfold isKind;exact decide_eq_false (by omega)
theorem a0v {m:M}(h:14<m.kind):isKind m=false:=by unfold isKind;exact decide_eq_false (by omega)
theorem o0u {m:M}(h:isKind m=false):ownM m=M.zero:=by simp[ownM,h]
theorem n1q {m:M}{w:World}(hm:m.In w):(ownM m).In w:=by
 rcases(show m.kind<1∨m.kind=1∨m.kind=2∨m.kind=3∨m.kind=4∨m.kind=5∨m.kind=6∨m.kind=7∨m.kind=8∨m.kind=9∨m.kind=10∨m.kind=11∨m.kind=12∨m.kind=13∨m.kind=14∨14<m.kind by omega)with h|h|h|h|h|h|h|h|h|h|h|h|h|h|h|h
 · rw[o0u (d0z h)];exact⟨DRow.nil _ _,SRow.nil _ _,Nat.zero_le _,Nat.zero_le _⟩
 · rw[(is_1 h).2];exact⟨DRow.nil _ _,SRow.nil _ _,Nat.zero_le _,Nat.zero_le _⟩
 · rw[(is_2 h).2];exact⟨DRow.nil _ _,SRow.nil _ _,Nat.zero_le _,Nat.zero_le _⟩
 · rw[(is_3 h).2];exact⟨DRow.nil _ _,hm.s,Nat.zero_le _,hm.sl⟩
 · rw[(is_4 h).2];exact⟨DRow.nil _ _,hm.s,Nat.zero_le _,hm.sl⟩
 · rw[(is_5 h).2];exact⟨hm.d,hm.s,hm.dl,hm.sl⟩
 · rw[(is_6 h).2];exact⟨DRow.nil _ _,hm.s,Nat.zero_le _,hm.sl⟩
 · rw[(is_7 h).2];exact⟨DRow.nil _ _,hm.s,Nat.zero_le _,hm.sl⟩
 · rw[(is_8 h).2];exact⟨DRow.nil _ _,hm.s,Nat.zero_le _,hm.sl⟩
 · rw[(is_9 h).2];exact⟨DRow.nil _ _,hm.s,Nat.zero_le _,hm.sl⟩
 · rw[(f0m h).2];exact⟨DRow.nil _ _,hm.s,Nat.zero_le _,hm.sl⟩
 · rw[(g0o h).2];exact⟨DRow.nil _ _,hm.s,Nat.zero_le _,hm.sl⟩
 · rw[(j0o h).2];exact⟨DRow.nil _ _,hm.s,Nat.zero_le _,hm.sl⟩
 · rw[(s0o h).2];exact⟨DRow.nil _ _,hm.s,Nat.zero_le _,hm.sl⟩
 · rw[(k0n h).2];exact⟨DRow.nil _ _,SRow.nil _ _,Nat.zero_le _,Nat.zero_le _⟩
 · rw[o0u (a0v h)];exact⟨DRow.nil _ _,SRow.nil _ _,Nat.zero_le _,Nat.zero_le _⟩
theorem n1m (m:M)(w:World):Calls Tryz.prog 143 #[.agg m.cells] w fun e w'=>e = .returned (.tuple #[.agg (ownM m).cells,.bool (isKind m)])∧Below w.heap.size w w':=by
 rcases(show m.kind<1∨m.kind=1∨m.kind=2∨m.kind=3∨m.kind=4∨m.kind=5∨m.kind=6∨m.kind=7∨m.kind=8∨m.kind=9∨m.kind=10∨m.kind=11∨m.kind=12∨m.kind=13∨m.kind=14∨14<m.kind by omega)with h|h|h|h|h|h|h|h|h|h|h|h|h|h|h|h
 · rw[o0u (d0z h),d0z h];exact f1l m w h
 · rw[(is_1 h).1,(is_1 h).2];exact x1r m w h _ rfl
 · rw[(is_2 h).1,(is_2 h).2];exact k1s m w h _ rfl
 · rw[(is_3 h).1,(is_3 h).2];exact z1r m w h _ rfl
 · rw[(is_4 h).1,(is_4 h).2];exact t1s m w h _ rfl
 · rw[(is_5 h).1,(is_5 h).2];exact o1s m w h _ rfl
 · rw[(is_6 h).1,(is_6 h).2];exact u1r m w h _ rfl
 · rw[(is_7 h).1,(is_7 h).2];exact g1s m w h _ rfl
 · rw[(is_8 h).1,(is_8 h).2];exact m1s m w h _ rfl
 · rw[(is_9 h).1,(is_9 h).2];exact z1s m w h _ rfl
 · rw[(f0m h).1,(f0m h).2];exact k1r m w h _ rfl
 · rw[(g0o h).1,(g0o h).2];exact h1r m w h _ rfl
 · rw[(j0o h).1,(j0o h).2];exact v1p m w h _ rfl
 · rw[(s0o h).1,(s0o h).2];exact d1q m w h _ rfl
 · rw[(k0n h).1,(k0n h).2];exact h1q m w h _ rfl
 · rw[o0u (a0v h),a0v h];exact j1g m w h
def bareN (m:M):Bool:=isKind m&&M.same m (ownM m)
theorem z0c (m:M)(w:World)(hm:m.In w) :
    Calls Tryz.prog 77 #[.agg m.cells] w fun e w'=>e = .returned (.bool (bareN m))∧Below w.heap.size w w':=by
 have HB:=Lib.hid (show bareN m=(isKind m&&M.same m (ownM m))from rfl)
 have P:=Lib.hid (fun w=>n1m m w)
 have PS:=Lib.hid (fun w (hm:m.In w)=>i1k m (ownM m) w hm (n1q hm))
 generalize ownM m=o at *;have hb:=Lib.hid (Bx.new w m);have bel:=balloc (Below.refl _ w) (.cells m.cells 29);have hm1:=hm.below bel;clear hm;cases hk:isKind m
 all_goals
  rw[hk]at P HB;have HK:=Lib.hid hk;clear hk;refine' qz2f
  go_wp2_with (first|(refine j0a (b:=w.heap.size) (m:=m) rfl _ rfl rfl hb.out ?_))
  refine(P.out _).mono ?_;rintro e V ⟨rfl,hb1⟩;have bel:=bcall bel hb1;have hb:=Lib.hid (hb.out.below hb1);have hm1:=hm1.below hb1;clear hb1 P
  go_upto_region 2 with(first|(refine e0a (m:=M.zero) (m':=o) rfl _ _ rfl rfl rfl (heap_alloc_new _ _) ?_))
  change Code.wp _ _ _ _ ((V.alloc (.cells M.zero.cells 29)).setRow V.heap.size o.cells);refine' qz33;have B1:=Lib.hid (hb.out.old (.cells o.cells 29));have B2:=Lib.hid (Bx.new V o);have HB2:=Lib.hid (balloc bel (.cells o.cells 29));have HM:=Lib.hid (hm1.below (balloc (Below.refl _ V) (.cells o.cells 29)));clear hb bel hm1;generalize V.alloc (.cells o.cells 29)=V1 at *
 · refine' qzj
   exact⟨g0a (by rw[HB.out];rfl),HB2.out⟩
 · go_wp2_with (first|(refine p0a (v := .agg (M.cells m)) (by rfl) rfl (a0b (x := .tmp 1) rfl rfl B1.out) ?_)|(refine p0a (v := .agg (M.cells o)) (by rfl) rfl (a0b (x := .tmp 3) rfl rfl B2.out) ?_))
   refine(PS.out _ HM.out).mono ?_;rintro e w3 ⟨rfl,hb3⟩;have HB3:=Lib.hid (bcall HB2.out hb3);clear hb3;refine' qzj
   exact⟨g0a (by rw[HB.out];simp),HB3.out⟩
end Bare
namespace B1
open Ms Own
def s0l (m:M):Bool:=M.same m { k1 m with kind:=m.kind}
theorem l0g {m:M}(hk:m.kind=1):Bare.bareN m=s0l m:=by
 unfold Bare.bareN s0l;rw[(Bare.is_1 hk).1,(Bare.is_1 hk).2];rfl
theorem z0c (m:M)(w:World)(hk:m.kind=1)(hm:m.In w) :
    Calls Tryz.prog 77 #[.agg m.cells] w fun e w'=>e = .returned (.bool (s0l m))∧Below w.heap.size w w':=by
 rw[←l0g hk];exact Bare.z0c m w hm
end B1
namespace Cur
def rightB (s:ByteArray)(a n:Int):Bool:=decide (0≤a)&&decide (a≤n)&&decide (n≤s.size)
theorem g0a {a b:Bool}(h:a=b):Ending.returned (.bool a) = .returned (.bool b):=by rw[h]
theorem o0c (s:ByteArray)(w:World)(hs:s.size≤maxLen) :
    Calls Tryz.prog 213 #[.string s] w fun e w'=>e = .returned (.agg #[.string s,.int .i64 0,.int .i64 s.size,.bool false])∧Below w.heap.size w w':=by
 unfold maxLen at hs;go_in;go_wp2
 exact bodyPost_ret (v := .agg #[.string s,.int .i64 0,.int .i64 s.size,.bool false]) (by simp[results,Tryz.results213,go_sem]) rfl ⟨rfl,(Below.refl _ _).alloc (Nat.le_refl _) _⟩
theorem p0g (s:ByteArray)(a n:Int)(w:World) :
    Calls Tryz.prog 248 #[.agg #[.string s,.int .i64 a,.int .i64 n,.bool false]] w fun e w'=>e = .returned (.int .i64 (wrap64 (n - a)))∧Below w.heap.size w w':=by
 refine' qz67;exact⟨rfl,(Below.refl _ _).alloc (Nat.le_refl _) _⟩
theorem z1d (s:ByteArray)(a n:Int)(b:Bool)(w:World) :
    Calls Tryz.prog 290 #[.agg #[.string s,.int .i64 a,.int .i64 n,.bool b]] w fun e w'=>e = .returned (.agg #[.string s,.int .i64 a,.int .i64 n,.bool true])∧Below w.heap.size w w':=by
 go_in;go_wp2
 exact bodyPost_ret (v := .agg #[.string s,.int .i64 a,.int .i64 n,.bool true]) (by simp[results,Tryz.results290,go_sem]) rfl ⟨rfl,((Below.refl _ _).alloc (Nat.le_refl _) _).alloc (by simp) _⟩
theorem t1k (s:ByteArray)(a n k:Int)(b:Bool)(w:World) :
    Calls Tryz.prog 291 #[.agg #[.string s,.int .i64 a,.int .i64 n,.bool b],.int .i64 k] w fun e w'=>e = .returned (.agg #[.string s,.int .i64 (wrap64 (a+k)),.int .i64 n,.bool b])∧Below w.heap.size w w':=by
 go_in;go_wp2
 exact bodyPost_ret (v := .agg #[.string s,.int .i64 (wrap64 (a+k)),.int .i64 n,.bool b]) (by simp[results,Tryz.results291,go_sem]) rfl ⟨rfl,((Below.refl _ _).alloc (Nat.le_refl _) _).alloc (by simp) _⟩
theorem l0a (s:ByteArray)(a n:Int)(b:Bool)(w:World)(hs:s.size≤maxLen) :
    Calls Tryz.prog 314 #[.agg #[.string s,.int .i64 a,.int .i64 n,.bool b]] w fun e w'=>e = .returned (.bool (rightB s a n))∧Below w.heap.size w w':=by
 unfold maxLen at hs;by_cases h1:0≤a
 · by_cases h2:a≤n
   · by_cases h3:n≤s.size
     all_goals
      refine' qz67
      exact⟨g0a (by unfold rightB;simp;omega),(Below.refl _ _).alloc (Nat.le_refl _) _⟩
   · refine' qz67
     exact⟨g0a (by unfold rightB;simp;omega),(Below.refl _ _).alloc (Nat.le_refl _) _⟩
 · refine' qz67
   exact⟨g0a (by unfold rightB;simp;omega),(Below.refl _ _).alloc (Nat.le_refl _) _⟩
theorem bcell {W w1:World}(hb:Below W.heap.size W w1):(∀ b o,b<W.heap.size→w1.cell? ⟨b,o,none⟩=W.cell? ⟨b,o,none⟩)∧(∀ b o,b<W.heap.size→w1.frozen? ⟨b,o,none⟩=W.frozen? ⟨b,o,none⟩):=
  ⟨fun b o h=>hb.cell (p:=⟨b,o,none⟩) h,fun b o h=>hb.frozen (p:=⟨b,o,none⟩) h⟩
theorem bcall {w W w1:World}(h:Below w.heap.size w W)(hb:Below W.heap.size W w1):Below w.heap.size w w1:=h.trans (hb.mono h.size)
theorem balloc {w W:World}(h:Below w.heap.size w W)(o:Obj):Below w.heap.size w (W.alloc o):=h.alloc h.size o
def Box (w:World)(k:Nat)(s:ByteArray)(a n:Int)(b:Bool):Prop:=
  (w.cell? ⟨k,0,none⟩=some (.string s)∧w.cell? ⟨k,1,none⟩=some (.int .i64 a)∧w.cell? ⟨k,2,none⟩=some (.int .i64 n)∧w.cell? ⟨k,3,none⟩=some (.bool b))∧(∀ o,w.frozen? ⟨k,o,none⟩=false)∧k<w.heap.size
theorem k0e {W w1:World}{k:Nat}{s:ByteArray}{a n:Int}{b:Bool}(h:Box W k s a n b)(hb:Below W.heap.size W w1):Box w1 k s a n b:=by
 obtain⟨⟨h0,h1,h2,h3⟩,hf,hl⟩:=h;obtain⟨hc,hfz⟩:=bcell hb
 refine⟨⟨?_,?_,?_,?_⟩,fun o=>?_,Nat.lt_of_lt_of_le hl hb.size⟩
 · rw[hc _ _ hl];exact h0
 · rw[hc _ _ hl];exact h1
 · rw[hc _ _ hl];exact h2
 · rw[hc _ _ hl];exact h3
 · rw[hfz _ _ hl];exact hf o
theorem z0k {W:World}{k:Nat}{s:ByteArray}{a n:Int}{b:Bool}(h:Box W k s a n b)(o:Obj):Box (W.alloc o) k s a n b:=
  k0e h ((Below.refl _ _).alloc (Nat.le_refl _) _)
theorem j0h (w:World)(s:ByteArray)(a n:Int)(b:Bool):Box (w.alloc (.cells #[.string s,.int .i64 a,.int .i64 n,.bool b] 150)) w.heap.size s a n b:=by
 refine⟨⟨?_,?_,?_,?_⟩,fun o=>?_,?_⟩<;>simp[go_sem]
def hasB (a n k:Int)(b:Bool):Bool:=!b&&decide (0≤k)&&decide (k≤n - a)
theorem q1a (s:ByteArray)(a n:Nat)(k:Int)(b:Bool)(w:World)(hs:s.size≤maxLen)(h1:a≤n)(h2:n≤s.size) :
    Calls Tryz.prog 289 #[.agg #[.string s,.int .i64 a,.int .i64 n,.bool b],.int .i64 k] w fun e w'=>e = .returned (.bool (hasB a n k b))∧Below w.heap.size w w':=by
 have hr:rightB s a n=true:=by unfold rightB;simp;omega
 have hm:=hs;unfold maxLen at hm
 have hw:wrap64 ((n:Int) - (a:Int))=(n:Int) - (a:Int):=IntWalk.wrap64_in _ (by omega)
 cases b
 · by_cases h3:0≤k
   · by_cases h4:k≤(n:Int) - a
     all_goals
      refine' qz16;refine(l0a _ _ _ _ _ hs).mono ?_;refine' qz10;obtain⟨hc1,hf1⟩:=bcell hb1;refine' qzg;refine(p0g _ _ _ _).mono ?_;rintro e w2 ⟨rfl,hb2⟩;refine' qzg;go_ret
      refine⟨g0a (by unfold hasB;simp;omega),?_⟩
      exact bcall (bcall (balloc (Below.refl _ _) _) hb1) hb2
   · refine' qz16;refine(l0a _ _ _ _ _ hs).mono ?_;refine' qz10;refine' qzg;go_ret
     refine⟨g0a (by unfold hasB;simp;omega),?_⟩
     exact bcall (balloc (Below.refl _ _) _) hb1
 · refine' qz16;go_ret
   exact⟨g0a (by unfold hasB;simp),(Below.refl _ _).alloc (Nat.le_refl _) _⟩
end Cur
namespace Cur
def numL (l:List UInt8):Nat:=l.foldl (fun n c=>n*256+c.toNat) 0
theorem r0n (l:List UInt8)(c:UInt8):numL (l ++ [c])=numL l*256+c.toNat:=by
 unfold numL;rw[List.foldl_append];rfl
theorem r0h (l:List UInt8):numL l<256 ^ l.length:=by
 suffices h:∀ (m:Nat) (l:List UInt8),l.length=m→numL l<256 ^ m from h _ l rfl
 intro m
 induction m with
 | zero=>intro l h;have:=List.length_eq_zero_iff.1 h;subst this;decide
 | succ m ih=>
  intro l h
  have hl:l≠[]:=by intro e;subst e;simp at h
  have e:=List.dropLast_concat_getLast hl;rw[←e,r0n]
  have:=ih l.dropLast (by simp;omega)
  have hc:=(l.getLast hl).toNat_lt;rw[Nat.pow_succ];omega
theorem n0f (s:ByteArray)(k:Nat)(h:k<s.size):s.data.toList.take (k+1)=s.data.toList.take k ++ [s[k]]:=by
 rw[List.take_succ_eq_append_getElem (by simpa using h)];rfl
theorem int_eq {k:IntKind}{a b:Int}(h:a=b):Ending.returned (.int k a) = .returned (.int k b):=by rw[h]
theorem h1f (n:Int)(h₀:0≤n)(h₁:n<2 ^ 63):IntKind.i64.wrap n=n:=by rw[IntKind.wrap_i64];omega
theorem or8 (x c:Nat)(hx:x<281474976710656)(hc:c<256):bits BinOp.or IntKind.i64 (wrap64 ((x:Int)*256)) (wrap64 (c:Int))=((x*256+c:Nat):Int):=by
 rw[IntWalk.wrap64_in _ (by omega),IntWalk.wrap64_in _ (by omega)]
 rw[bits_join .i64 63 (by decide) h1f 8 _ _ (by omega) (by omega) (by omega) (by omega) (by omega) (by omega)]
 omega
theorem c1c (s:ByteArray)(k:Nat)(h:k≤6)(hk:k≤s.size):numL (s.data.toList.take k)<281474976710656:=by
 have:=r0h (s.data.toList.take k);refine Nat.lt_of_lt_of_le this ?_
 have e:(s.data.toList.take k).length≤6:=by simp;omega
 exact Nat.le_trans (Nat.pow_le_pow_right (by decide) e) (by decide)
theorem v0w (s:ByteArray)(k:Nat)(h:k≤6)(hk:k<s.size) :
    bits BinOp.or IntKind.i64 (wrap64 ((numL (s.data.toList.take k):Nat)*256)) (wrap64 (s[k].toNat:Nat))=((numL (s.data.toList.take (k+1)):Nat):Int):=by
 rw[n0f s k hk,r0n]
 exact or8 _ _ (c1c s k h (by omega)) s[k].toNat_lt
theorem k0j (s:ByteArray)(w:World)(hs:s.size≤7) :
    Calls Tryz.prog 306 #[.string s] w fun e w'=>e = .returned (.int .i64 (numL s.data.toList))∧w=w':=by
 go_in;go_wp2
 go_loop [3,4] (fun n i=>∃ k:Nat,k≤s.size∧i = .int .i64 k∧n = .int .i64 (numL (s.data.toList.take k))) (fun _ i=>s.size - (intOf i).toNat)
 case atStart=>exact⟨0,Nat.zero_le _,rfl,rfl⟩
 case round=>
  obtain⟨k,hk,rfl,rfl⟩:=hrel;by_cases hlt:k<s.size
  · go_wp2;go_round
    case rel=>exact⟨k+1,by omega,by go_num,congrArg (Value.int IntKind.i64) (v0w s k (by omega) hlt)⟩
    case measure=>simp[intOf];omega
  · refine' qzj
    exact⟨int_eq (by rw[List.take_of_length_le (by simp;omega)]),rfl⟩
theorem e0d (s:ByteArray)(a n k:Nat)(w:World)(hs:s.size≤maxLen)(h1:a≤n)(h2:n≤s.size)(h3:a+k≤n) :
    Calls Tryz.prog 247 #[.agg #[.string s,.int .i64 a,.int .i64 n,.bool false],.int .i64 k] w fun e w'=>e = .returned (.tuple #[.string (s.extract a (a+k)),.agg #[.string s,.int .i64 ((a:Int)+k),.int .i64 n,.bool false]])∧Below w.heap.size w w':=by
 have hr:hasB a n k false=true:=by unfold hasB;simp;omega
 have hm:=hs;unfold maxLen at hm
 have he:wrap64 ((a:Int)+(k:Int))=(a:Int)+k:=IntWalk.wrap64_in _ (by omega)
 have hsl:∀ wx,Sem.run Tryz.prog (Instr.slice 9 (Value.string s) (some (Value.int IntKind.i64 (a:Int))) (some (Value.int IntKind.i64 ((a:Int)+(k:Int)))) none) wx = .ok (.string (s.extract a (a+k))) wx:=by
  intro wx
  have:=run_slice_string (P:=Tryz.prog) wx 9 s .i64 .i64 (a:Int) ((a:Int)+(k:Int)) Tryz.underlying9 (by omega) (by omega) (by omega)
  rw[show((a:Int)+(k:Int)).toNat=a+k from by omega,show(a:Int).toNat=a from by omega]at this
  exact this
 refine' qz16;refine(q1a _ _ _ _ _ _ hs h1 h2).mono ?_;refine' qz10
 obtain⟨B0,B1,bel1⟩:Box w1 w.heap.size s a n false∧Box w1 (w.heap.size+1) { data:=#[]} 0 0 false∧Below w.heap.size w w1:=
  ⟨k0e (z0k (j0h _ _ _ _ _) _) hb1,by have:=k0e (j0h _ _ _ _ _) hb1;simpa using this,bcall (balloc (balloc (Below.refl _ _) _) _) hb1⟩
 clear hb1;obtain⟨⟨c00,c01,c02,c03⟩,f0,l0⟩:=id B0;refine' qzg;refine(t1k _ _ _ _ _ _).mono ?_;rintro e w2 ⟨rfl,hb2⟩;clear c00 c01 c02 c03 f0 l0;refine' qzg;generalize hW:w2.alloc _=W3
 have C0:Box W3 w.heap.size s a n false:=by rw[←hW];exact z0k (k0e B0 hb2) _
 have C1:Box W3 (w.heap.size+1) { data:=#[]} 0 0 false:=by rw[←hW];exact z0k (k0e B1 hb2) _
 have C2:Box W3 w2.heap.size s (a+k) n false:=by rw[←hW];exact j0h _ _ _ _ _
 have bel3:Below w.heap.size w W3:=by rw[←hW];exact balloc (bcall bel1 hb2) _
 generalize w2.heap.size=k2 at *;clear hW B0 B1 hb2 bel1;obtain⟨⟨c00,c01,c02,c03⟩,f0,l0⟩:=C0;obtain⟨⟨c10,c11,c12,c13⟩,f1,l1⟩:=C1;obtain⟨⟨c20,c21,c22,c23⟩,f2,l2⟩:=C2;go_region;go_wp2
 refine bodyPost_ret (v := .tuple #[.string (s.extract a (a+k)),.agg #[.string s,.int .i64 ((a:Int)+k),.int .i64 n,.bool false]]) (by simp[results,Tryz.results247,go_sem,c10,c11,c12,c13]) rfl ⟨rfl,?_⟩
 refine' qzd9
theorem r0g (s:ByteArray)(a n:Nat)(k:Int)(b:Bool)(w:World)(hs:s.size≤maxLen)(h1:a≤n)(h2:n≤s.size)(h3:hasB a n k b=false) :
    Calls Tryz.prog 247 #[.agg #[.string s,.int .i64 a,.int .i64 n,.bool b],.int .i64 k] w fun e w'=>e = .returned (.tuple #[.string { data:=#[]},.agg #[.string s,.int .i64 a,.int .i64 n,.bool true]])∧Below w.heap.size w w':=by
 refine' qz16;refine(q1a _ _ _ _ _ _ hs h1 h2).mono ?_;refine' qz10
 obtain⟨B0,B1,bel1⟩:Box w1 w.heap.size s a n b∧Box w1 (w.heap.size+1) { data:=#[]} 0 0 false∧Below w.heap.size w w1:=
  ⟨k0e (z0k (j0h _ _ _ _ _) _) hb1,by have:=k0e (j0h _ _ _ _ _) hb1;simpa using this,bcall (balloc (balloc (Below.refl _ _) _) _) hb1⟩
 clear hb1;obtain⟨⟨c00,c01,c02,c03⟩,f0,l0⟩:=id B0;refine' qzg;refine(z1d _ _ _ _ _).mono ?_;rintro e w2 ⟨rfl,hb2⟩;clear c00 c01 c02 c03 f0 l0;have C1:Box w2 (w.heap.size+1) { data:=#[]} 0 0 false:=k0e B1 hb2;have bel2:Below w.heap.size w w2:=bcall bel1 hb2;clear B0 B1 bel1 hb2;obtain⟨⟨c10,c11,c12,c13⟩,f1,l1⟩:=C1;go_wp2
 refine bodyPost_ret (v := .tuple #[.string { data:=#[]},.agg #[.string s,.int .i64 a,.int .i64 n,.bool true]]) (by simp[results,Tryz.results247,go_sem,c10,c11,c12,c13]) rfl ⟨rfl,?_⟩
 exact((((bel2.setCell (by simp) _).setCell (by simp) _).setCell (by simp) _).setCell (by simp) _)
end Cur
namespace Cur
theorem f1i:numL []=0:=rfl
theorem x0y (s:ByteArray)(a k:Nat)(h:a+k≤s.size)(hk:k≤7):(s.extract a (a+k)).size≤7:=by
 simp;omega
theorem p0d (s:ByteArray)(a n k:Nat)(w:World)(hs:s.size≤maxLen)(h1:a≤n)(h2:n≤s.size)(h3:a+k≤n)(h4:1≤k)(h5:k≤7) :
    Calls Tryz.prog 270 #[.agg #[.string s,.int .i64 a,.int .i64 n,.bool false],.int .i64 k] w fun e w'=>e = .returned (.tuple #[.int .i64 (numL ((s.data.toList.drop a).take k)),.agg #[.string s,.int .i64 ((a:Int)+k),.int .i64 n,.bool false]])∧Below w.heap.size w w':=by
 refine' qz16;refine(e0d _ _ _ _ _ hs h1 h2 h3).mono ?_;refine' qz9i;clear hb1;refine' qzg;generalize hW:w1.alloc _=W3
 have D1:Box W3 (w.heap.size+1) { data:=#[]} 0 0 false:=by rw[←hW];exact z0k B1 _
 have D2:Box W3 w1.heap.size s (a+k) n false:=by rw[←hW];exact j0h _ _ _ _ _
 have bel3:Below w.heap.size w W3:=by rw[←hW];exact balloc bel1 _
 have hlt:w.heap.size+1<w1.heap.size:=B1.2.2;generalize w1.heap.size=k2 at *;clear hW B1 bel1;obtain⟨⟨c10,c11,c12,c13⟩,f1,l1⟩:=D1;obtain⟨⟨c20,c21,c22,c23⟩,f2,l2⟩:=D2
 have hx:=x0y s a k (by omega) h5
 go_region_with (go_at_call 306;refine(k0j _ _ hx).mono ?_;rintro e w' ⟨rfl,rfl⟩)
 all_goals
  go_wp2
  refine bodyPost_ret (v := .tuple #[.int .i64 (numL ((s.data.toList.drop a).take k)),.agg #[.string s,.int .i64 ((a:Int)+k),.int .i64 n,.bool false]]) (by simp[results,Tryz.results270,go_sem,c10,c11,c12,c13]) rfl ⟨rfl,?_⟩
  refine' qzd9
theorem u0n (s:ByteArray)(a n:Nat)(k:Int)(b:Bool)(w:World)(hs:s.size≤maxLen)(h1:a≤n)(h2:n≤s.size)(h3:hasB a n k b=false)(h4:1≤k)(h5:k≤7) :
    Calls Tryz.prog 270 #[.agg #[.string s,.int .i64 a,.int .i64 n,.bool b],.int .i64 k] w fun e w'=>e = .returned (.tuple #[.int .i64 0,.agg #[.string s,.int .i64 a,.int .i64 n,.bool true]])∧Below w.heap.size w w':=by
 refine' qz16;refine(r0g _ _ _ _ _ _ hs h1 h2 h3).mono ?_;refine' qz9i;clear hb1;refine' qzg;generalize hW:w1.alloc _=W3
 have D1:Box W3 (w.heap.size+1) { data:=#[]} 0 0 false:=by rw[←hW];exact z0k B1 _
 have D2:Box W3 w1.heap.size s a n true:=by rw[←hW];exact j0h _ _ _ _ _
 have bel3:Below w.heap.size w W3:=by rw[←hW];exact balloc bel1 _
 have hlt:w.heap.size+1<w1.heap.size:=B1.2.2;generalize w1.heap.size=k2 at *;clear hW B1 bel1;obtain⟨⟨c10,c11,c12,c13⟩,f1,l1⟩:=D1;obtain⟨⟨c20,c21,c22,c23⟩,f2,l2⟩:=D2
 have hx:(ByteArray.mk #[]).size≤7:=by decide
 go_region_with (go_at_call 306;refine(k0j _ _ hx).mono ?_;rintro e w' ⟨rfl,rfl⟩)
 all_goals
  go_wp2
  refine bodyPost_ret (v := .tuple #[.int .i64 0,.agg #[.string s,.int .i64 a,.int .i64 n,.bool true]]) (by simp[results,Tryz.results270,go_sem,c10,c11,c12,c13,f1i]) rfl ⟨rfl,?_⟩
  refine' qzd9
end Cur
namespace Oct
theorem g0a {a b:Bool}(h:a=b):Ending.returned (.bool a) = .returned (.bool b):=by rw[h]
def pw (k:Nat):Nat:=256 ^ k
theorem y1c (k:Nat):pw (k+1)=pw k*256:=by unfold pw;rw[Nat.pow_succ]
theorem x1c:pw 0=1:=rfl
theorem c1t (k:Nat)(h:k≤7):pw k≤72057594037927936:=by
 unfold pw;exact Nat.le_trans (Nat.pow_le_pow_right (by decide) h) (by decide)
def fitsB (n k:Int):Bool:=decide (1≤k)&&decide (k≤7)&&decide (0≤n)&&decide (n<(pw k.toNat:Nat))
theorem e0b (n k:Int):fitsB n k=true↔1≤k∧k≤7∧0≤n∧n<(pw k.toNat:Nat):=by
 unfold fitsB;simp[and_assoc]
def be (n:Nat):Nat→List UInt8
  | 0=>[]
  | k+1=>UInt8.ofNat (n / pw k)::be n k
theorem j0d (n k:Nat):(be n k).length=k:=by
 induction k with
 | zero=>rfl
 | succ k ih=>simp[be,ih]
theorem k0b (n k:Int)(w:World) :
    Calls Tryz.prog 89 #[.int .i64 n,.int .i64 k] w fun e w'=>e = .returned (.bool (fitsB n k))∧w=w':=by
 by_cases h1:k<1
 · refine' qz67
   exact⟨g0a (by unfold fitsB;simp;omega),rfl⟩
 · by_cases h2:7<k
   · refine' qz67
     exact⟨g0a (by unfold fitsB;simp;omega),rfl⟩
   · by_cases h3:0≤n
     · have hk:k=1∨k=2∨k=3∨k=4∨k=5∨k=6∨k=7:=by omega
       clear h1 h2
       rcases hk with rfl|rfl|rfl|rfl|rfl|rfl|rfl
       all_goals
        refine' qz67
        exact⟨g0a (by rw[Bool.eq_iff_iff,e0b];simp[pw];omega),rfl⟩
     · have hk:k=1∨k=2∨k=3∨k=4∨k=5∨k=6∨k=7:=by omega
       refine' qz67
       exact⟨g0a (by unfold fitsB;simp;omega),rfl⟩
def zeroB (l:List UInt8):Bool:=l.all (· == 0)
theorem n0f (s:ByteArray)(k:Nat)(h:k<s.size):s.data.toList.take (k+1)=s.data.toList.take k ++ [s[k]]:=by
 rw[List.take_succ_eq_append_getElem (by simpa using h)];rfl
theorem r0y (l:List UInt8)(c:UInt8):zeroB (l ++ [c])=(zeroB l&&c==0):=by
 unfold zeroB;simp[List.all_append]
theorem n1e (s:ByteArray)(k:Nat)(h:k<s.size)(h0:¬s[k].toNat=0):zeroB s.data.toList=false:=by
 unfold zeroB;rw[List.all_eq_false];refine⟨s[k],?_,?_⟩
 · have:s[k]=s.data[k]'(by simpa using h):=rfl
   rw[this];simp
 · intro e
   have:s[k]=0:=by simpa using e
   rw[this]at h0;exact h0 rfl
theorem v0v (s:ByteArray)(w:World)(hs:s.size≤maxLen) :
    Calls Tryz.prog 152 #[.string s] w fun e w'=>e = .returned (.bool (zeroB s.data.toList))∧w=w':=by
 unfold maxLen at hs;go_in;go_wp2
 go_loop [3] (fun i=>∃ k:Nat,k≤s.size∧i = .int .i64 k∧zeroB (s.data.toList.take k)=true) (fun i=>s.size - (intOf i).toNat)
 case atStart=>exact⟨0,Nat.zero_le _,rfl,rfl⟩
 case round=>
  obtain⟨k,hk,rfl,hz⟩:=hrel;have HZ:=Lib.hid hz;clear hz;by_cases hlt:k<s.size
  · have hts:=Lib.hid (n0f s k hlt);by_cases h0:s[k].toNat=0
    · have HC:Hid (zeroB (s.data.toList.take (k+1))=true):=by
       have:s[k]=0:=by apply UInt8.toNat_inj.1;simpa using h0
       show _=_
       rw[hts.out,r0y,HZ.out,this];rfl
      clear hts;go_wp2;go_round
      case rel=>exact⟨k+1,by omega,by go_num,HC.out⟩
      case measure=>simp[intOf];omega
    · have HN:=Lib.hid (n1e s k hlt h0);clear hts;refine' qzj;exact⟨g0a HN.out.symm,rfl⟩
  · refine' qzj
    exact⟨g0a (by have:=HZ.out;rw[List.take_of_length_le (by simp;omega)]at this;exact this.symm),rfl⟩
end Oct
namespace Oct
theorem l0w:(Tryz.prog.info? 5).map (fun i=>(i.zero,i.size,i.bytes))=some (some (.int .u8 0),1,1):=by kernel_rfl
def cellsL (l:List UInt8):List Value:=l.map fun b=>Value.int .u8 b.toNat
theorem a0e (w:World)(g c:Nat)(base:Nat)(l:List UInt8)(n:Nat)(hn:l.length=n)(h:w.ownsRow base 5 1 (.slice (some ⟨g,0,none⟩) n c) n (cellsL l)) :
    (convert 96 9 (.slice (some ⟨g,0,none⟩) n c)).run Tryz.prog w = .ok (.string ⟨l.toArray⟩) w:=by
 subst hn
 refine run_convert_bytes_back w 96 9 5 ⟨g,0,none⟩ c l Tryz.underlying96 Tryz.underlying5 Tryz.underlying9 fun j hj=>?_
 have:=h.cellAt j (by omega)
 simp[Addr.add_lit];rw[this];simp[cellsL,hj]
theorem y0e (n:Nat)(w:World)(hn:n≤1048576) :
    Calls Tryz.prog 159 #[.int .i64 n] w fun e w'=>e = .returned (.string ⟨(List.replicate n (0:UInt8)).toArray⟩)∧Below w.heap.size w w':=by
 refine' qz4l;go_in
 go_wp2_with (at_make;refine wpList_make_full _ rfl _ _ 96 rfl w.heap.size 5 i0 (.int .u8 0) 1 Tryz.underlying96 hi hz0 hz1 _ _ _ _ n rfl rfl rfl rfl (by rw[hz2];omega) (by unfold maxLen;omega) (by simp) ?_)
 intro w1 hown hgrow
 have hc:=a0e w1 w.heap.size n w.heap.size (List.replicate n 0) n (by simp) (by
  have e:cellsL (List.replicate n (0:UInt8))=(madeCells #[Value.int .u8 0] n).toList:=by
   rw[toList_madeCells_one];simp[cellsL]
  rw[e];exact hown)
 clear hi hz0 hz1 hz2 hown;have HG:=Lib.hid hgrow;clear hgrow;refine' qzj
 exact⟨rfl,(Below.refl _ _).grown HG.out (Nat.le_refl _) (fun k hk=>by cases hk)⟩
def sh (n j:Nat):Nat:=n / pw j
theorem k1l (n:Nat):sh n 0=n:=by unfold sh;rw[x1c];simp
theorem c1o (n j:Nat):sh n (j+1)=sh n j / 256:=by unfold sh;rw[y1c,Nat.div_div_eq_div_mul]
theorem y1s (n j:Nat):sh n j≤n:=by unfold sh;exact Nat.div_le_self _ _
theorem f1n (n k:Nat):be n (k+1)=UInt8.ofNat (sh n k)::be n k:=rfl
def rowJ (n k j:Nat):List Value:=List.replicate (k - j) (.int .u8 0)++cellsL (be n j)
theorem k1e (n k:Nat):rowJ n k 0=(madeCells #[Value.int .u8 0] k).toList:=by
 rw[toList_madeCells_one];simp[rowJ,be,cellsL]
theorem n1f (n k:Nat):rowJ n k k=cellsL (be n k):=by simp[rowJ]
theorem o1o {α:Type}(v x:α)(r:List α)(m:Nat):(List.replicate m v++v::r).set m x=List.replicate m v++x::r:=by
 induction m with
 | zero=>rfl
 | succ m ih=>simp[List.replicate_succ,ih]
theorem h0f (q:Nat):Value.int .u8 ((q:Int)%256)=Value.int .u8 ((UInt8.ofNat q).toNat:Int):=by
 congr 1
theorem a1g (n k j:Nat)(h:j<k):(rowJ n k j).set (k - 1 - j) (.int .u8 ((sh n j:Int)%256))=rowJ n k (j+1):=by
 obtain⟨m,rfl⟩:∃ m,k=j+1+m:=⟨k - (j+1),by omega⟩
 unfold rowJ
 rw[show j+1+m - j=m+1 from by omega,show j+1+m - 1 - j=m from by omega,show j+1+m - (j+1)=m from by omega]
 rw[List.replicate_succ',List.append_assoc,f1n,h0f];exact o1o _ _ _ _
theorem r0z {a b:ByteArray}{p q:Bool}(h:a=b)(h':p=q):Ending.returned (.tuple #[.string a,.bool p]) = .returned (.tuple #[.string b,.bool q]):=by rw[h,h']
theorem i0m (n k:Nat)(w:World)(h1:1≤k)(h7:k≤7)(hn:n<pw k) :
    Calls Tryz.prog 195 #[.int .i64 n,.int .i64 k] w fun e w'=>e = .returned (.tuple #[.string ⟨(be n k).toArray⟩,.bool true])∧Below w.heap.size w w':=by
 refine' qz4l
 have hf:fitsB n k=true:=by rw[e0b];simp;omega
 have hn':n≤72057594037927936:=by have:=c1t k h7;omega
 clear hn;go_in
 go_wp2_with (first
  | (go_at_call 89;refine(k0b _ _ _).mono ?_;rintro e w' ⟨rfl,rfl⟩)
  | (at_make;refine wpList_make_full _ rfl _ _ 96 rfl w.heap.size 5 i0 (.int .u8 0) 1 Tryz.underlying96 hi hz0 hz1 _ _ _ _ k rfl rfl rfl rfl (by rw[hz2];omega) (by unfold maxLen;omega) (by simp) ?_))
 intro w1 hown hgrow
 have HB:Hid (Below w.heap.size w w1):=Lib.hid ((Below.refl _ _).grown hgrow (Nat.le_refl _) (fun k hk=>by cases hk))
 have HO:Hid (w1.ownsRow w.heap.size 5 1 (.slice (some ⟨w.heap.size,0,none⟩) k k) k (rowJ n k 0)):=by rw[k1e];exact Lib.hid hown
 clear hown hgrow hi hz0 hz1 hz2 hf;go_wp2
 go_loopw [0,7] (fun q i wr=>∃ j:Nat,j≤k∧q = .int .i64 (sh n j:Nat)∧i = .int .i64 ((k:Int) - 1 - j)∧Hid (wr.ownsRow w.heap.size 5 1 (.slice (some ⟨w.heap.size,0,none⟩) k k) k (rowJ n k j))∧Hid (Below w.heap.size w wr))
  (fun _ i _=>(intOf i+1).toNat)
 case atStart=>exact⟨0,Nat.zero_le _,by rw[k1l],by simp,HO,HB⟩
 case round=>
  obtain⟨j,hj,rfl,rfl,HO1,HB1⟩:=hrel;clear HO HB;by_cases hlt:j<k
  · have hq:=y1s n j;have hfr:=(HO1.out).frozenAt (k - 1 - j)
    obtain⟨u,hcl⟩:∃ u,wr.cell? ⟨w.heap.size,k - 1 - j,none⟩=some u:=by
     rw[HO1.out.cellAt _ (by omega)]
     exact⟨_,List.getElem?_eq_getElem (by have:=HO1.out.1;omega)⟩
    go_wp2;go_roundw
    case rel=>
     refine⟨j+1,by omega,?_,?_,Lib.hid ?_,Lib.hid ?_⟩
     · rw[c1o];go_num
     · go_num
     · have:=(HO1.out.stored (k - 1 - j) (.int .u8 ((sh n j:Int)%256))).1;rw[a1g n k j hlt]at this;exact this
     · exact HB1.out.setCell (Nat.le_refl _) _
    case measure=>simp[intOf];omega
  · obtain rfl:j=k:=by omega
    have hc:=a0e wr w.heap.size j w.heap.size (be n j) j (j0d n j) (by rw[←n1f];exact HO1.out)
    refine' qz2w;exact⟨rfl,HB1.out⟩
theorem q0n (n k:Int)(w:World)(hf:fitsB n k=false) :
    Calls Tryz.prog 195 #[.int .i64 n,.int .i64 k] w fun e w'=>e = .returned (.tuple #[.string ⟨#[]⟩,.bool false])∧Below w.heap.size w w':=by
 go_in;go_wp2_with (go_at_call 89;refine(k0b _ _ _).mono ?_;rintro e w' ⟨rfl,rfl⟩);go_ret2;exact⟨rfl,Below.refl _ _⟩
end Oct
end Go.Proofs.YtllhobicfclheaaGreatDoor
