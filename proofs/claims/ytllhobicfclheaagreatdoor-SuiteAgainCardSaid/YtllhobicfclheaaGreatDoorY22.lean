/-
  A part of a proof. No conditions.
-/
import Derived.Test.YtllhobicfclheaaGreatDoorY14
namespace Go.Proofs.YtllhobicfclheaaGreatDoor
open Go.ChangeShapes Go.WideShapes Go.ChangeAt Go.RowKit
set_option linter.unusedVariables false
set_option maxRecDepth 100000
set_option maxHeartbeats 51200000
namespace F1
open Cur (numL)
open Nu
def bt (b:ByteArray)(i:Nat):Int:=((b.data.toList.getD i 0).toNat:Int)
theorem p0h (b:ByteArray)(i:Nat)(h:i<b.size):(b[i].toNat:Int)=bt b i:=by
 refine' qz9y;rfl
theorem d0b (b:ByteArray)(i:Nat):0≤bt b i:=Int.natCast_nonneg _
theorem o0b (b:ByteArray)(i:Nat):bt b i<256:=by
 unfold bt;have:=UInt8.toNat_lt (b.data.toList.getD i 0);omega
theorem p0o {s:ByteArray}{a b:List UInt8}{t:UInt8}{p:Nat}(h:s.data.toList=a++t::b)(hp:a.length=p):bt s p=(t.toNat:Int):=by
 subst hp;unfold bt;rw[h,List.getD_eq_getElem?_getD,List.getElem?_append_right (Nat.le_refl _),Nat.sub_self];rfl
theorem size_of {s:ByteArray}{t:List UInt8}(h:s.data.toList=t):s.size=t.length:=by rw[←h];simp
theorem o0g (s:ByteArray)(p:Nat)(h:p<s.size):((numL ((s.data.toList.drop p).take 1):Nat):Int)=bt s p:=by
 have hp:p<s.data.toList.length:=by simpa using h
 rw[←p0h s p h,List.drop_eq_getElem_cons hp]
 show((0*256+(s.data.toList[p]).toNat:Nat):Int)=_
 rw[Nat.zero_mul,Nat.zero_add];rfl
theorem p0f (s:ByteArray)(p:Nat)(h:p+1<s.size):((numL ((s.data.toList.drop p).take 2):Nat):Int)=256*bt s p+bt s (p+1):=by
 have hp:p<s.data.toList.length:=by simp;omega
 have hq:p+1<s.data.toList.length:=by simpa using h
 rw[←p0h s p (by omega),←p0h s (p+1) h,List.drop_eq_getElem_cons hp,List.drop_eq_getElem_cons hq]
 show(((0*256+(s.data.toList[p]).toNat)*256+(s.data.toList[p+1]).toNat:Nat):Int)=_
 rw[Nat.zero_mul,Nat.zero_add];have e1:s.data.toList[p]=s[p]:=rfl;have e2:s.data.toList[p+1]=s[p+1]:=rfl;rw[e1,e2];push_cast;omega
abbrev El:=ByteArray×Int
abbrev T:=Int×El
def enc1 (x:El):List UInt8:=if x.2=0 then [0]else UInt8.ofNat x.2.toNat::UInt8.ofNat x.1.size::x.1.data.toList
def encT (l:List El):List UInt8:=l.flatMap enc1
def ok1 (x:El):Prop:=0≤x.2∧x.2≤255∧x.1.size≤255∧(x.2=0→x.1=⟨#[]⟩)
def okT (l:List El):Prop:=∀ x∈l,ok1 x
theorem l0d:okT []:=fun x hx=>absurd hx (by simp)
theorem e0n {l:List El}{x:El}(h:okT l)(hx:ok1 x):okT (l ++ [x]):=fun y hy=>by
  rcases List.mem_append.1 hy with h1|h1
  · exact h y h1
  · rw[List.mem_singleton.1 h1];exact hx
theorem c0d {a b:List El}(h:okT a)(hb:okT b):okT (a++b):=fun y hy=>by
  rcases List.mem_append.1 hy with h1|h1
  · exact h y h1
  · exact hb y h1
theorem i0h {l:List El}{x:El}(h:okT (x::l)):ok1 x∧okT l:=⟨h x (by simp),fun y hy=>h y (by simp[hy])⟩
theorem h0e:encT [] = []:=rfl
theorem c0c (x:El)(l:List El):encT (x::l)=enc1 x++encT l:=by simp[encT]
theorem m0b (a b:List El):encT (a++b)=encT a++encT b:=by simp[encT]
theorem u0i (l:List El)(x:El):encT (l ++ [x])=encT l++enc1 x:=by simp[encT]
theorem l0b (x:El):(enc1 x).length=if x.2=0 then 1 else 2+x.1.size:=by
 unfold enc1;split
 · rfl
 · simp;omega
theorem a0r (x:El):1≤(enc1 x).length:=by rw[l0b];split<;>omega
theorem j0j (l:List El):l.length≤(encT l).length:=by
 induction l with
 | nil=>exact Nat.le_refl _
 | cons x l ih=>rw[c0c,List.length_append,List.length_cons];have:=a0r x;omega
def cut1:List UInt8→Option (El×List UInt8)
  | []=>none
  | t::r=>if t.toNat=0 then some ((⟨#[]⟩,0),r)else
    match r with
    | []=>none
    | n::r=>if n.toNat≤r.length then some ((⟨(r.take n.toNat).toArray⟩,(t.toNat:Int)),r.drop n.toNat)else none
theorem v0s (t:UInt8)(r:List UInt8)(h:t.toNat=0):cut1 (t::r)=some ((⟨#[]⟩,0),r):=by unfold cut1;simp[h]
theorem m0s (t:UInt8)(h:¬t.toNat=0):cut1 [t]=none:=by unfold cut1;simp[h]
theorem d0g (t n:UInt8)(r:List UInt8)(h:¬t.toNat=0):cut1 (t::n::r)=if n.toNat≤r.length then some ((⟨(r.take n.toNat).toArray⟩,(t.toNat:Int)),r.drop n.toNat)else none:=by
 unfold cut1;simp only[h,if_false]
theorem w0g {r r':List UInt8}{x:El}(h:cut1 r=some (x,r')):ok1 x∧r=enc1 x++r':=by
 match r,h with
 | t::r,h=>
  by_cases ht:t.toNat=0
  · rw[v0s t r ht]at h;simp only[Option.some.injEq,Prod.mk.injEq]at h;obtain⟨rfl,rfl⟩:=h;have:t=0:=UInt8.toNat_inj.1 ht;subst this
    exact⟨⟨by simp,by simp,by show(0:Nat)≤255;omega,fun _=>rfl⟩,rfl⟩
  · match r,h with
    | [],h=>rw[m0s t ht]at h;cases h
    | n::r,h=>
     rw[d0g t n r ht]at h;by_cases hn:n.toNat≤r.length
     · rw[if_pos hn]at h;simp only[Option.some.injEq,Prod.mk.injEq]at h;obtain⟨rfl,rfl⟩:=h
       have hs:(⟨(r.take n.toNat).toArray⟩:ByteArray).size=n.toNat:=by show(r.take n.toNat).toArray.size=_;rw[List.size_toArray,List.length_take];omega
       have ht':=UInt8.toNat_lt t;have hn':=UInt8.toNat_lt n
       refine⟨⟨by simp only[];omega,by simp only[];omega,by simp only[];rw[hs];omega,by simp only[];omega⟩,?_⟩
       unfold enc1;simp only[hs]
       rw[if_neg (by omega)]
       simp
     · rw[if_neg hn]at h;cases h
theorem i0i {x:El}(h:ok1 x)(r:List UInt8):cut1 (enc1 x++r)=some (x,r):=by
 obtain⟨⟨d⟩,t⟩:=x;obtain⟨h0,h1,h2,h3⟩:=h;change d.size≤255 at h2;simp only[]at h0 h1 h3;unfold enc1;by_cases ht:t=0
 · subst ht;rw[if_pos rfl,h3 rfl];rfl
 · rw[if_neg ht];refine' qz7e
   show cut1 (UInt8.ofNat t.toNat::UInt8.ofNat d.size::(d.toList++r))=_
   rw[d0g _ _ _ (by rw[e1];omega),e2,if_pos (by simp),e1]
   have:((t.toNat:Nat):Int)=t:=by omega
   rw[this,List.take_left' (by simp),List.drop_left' (by simp)]
theorem step {s:ByteArray}{a r:List UInt8}{p:Nat}(h:s.data.toList=a++r)(hp:a.length=p)(hr:r≠[]):p<s.size∧s.size=p+r.length∧
    ((bt s p=0∧∃ r',cut1 r=some ((⟨#[]⟩,0),r'))∨(¬bt s p=0∧s.size<p+2∧cut1 r=none)∨
     ∃ n:Nat,¬bt s p=0∧p+2≤s.size∧bt s (p+1)=n∧n≤255∧((s.size<p+2+n∧cut1 r=none)∨(p+2+n≤s.size∧∃ x r',cut1 r=some (x,r')∧x.2=bt s p∧x.1=s.extract (p+2) (p+2+n)∧x.1.size=n))):=by
 subst hp
 have hz:s.size=a.length+r.length:=by rw[size_of h,List.length_append]
 match r,hr,h,hz with
 | t::r,_,h,hz=>
  rw[List.length_cons]at hz
  refine⟨by omega,hz,?_⟩
  have hb:=p0o h rfl;by_cases ht:t.toNat=0
  · exact .inl ⟨by rw[hb,ht];rfl,r,v0s t r ht⟩
  have hb0:¬bt s a.length=0:=by rw[hb];omega
  match r,h,hz with
  | [],h,hz=>exact .inr (.inl ⟨hb0,by rw[hz];simp,m0s t ht⟩)
  | n::r,h,hz=>
   rw[List.length_cons]at hz;have hn':=UInt8.toNat_lt n
   have h':s.data.toList=(a ++ [t])++n::r:=by rw[h];simp
   have hb1:bt s (a.length+1)=_:=p0o h' (by simp)
   refine .inr (.inr ⟨n.toNat,hb0,by omega,hb1,by omega,?_⟩)
   by_cases hn:n.toNat≤r.length
   · refine .inr ⟨by omega,_,_,by rw[d0g t n r ht,if_pos hn],hb.symm,?_,?_⟩
     · have h2:s.data.toList=(a ++ [t,n])++r:=by rw[h];simp
       refine k0a ?_
       rw[n0a,h2,show a.length+2=(a ++ [t,n]).length by simp,List.drop_left,Nat.add_sub_cancel_left]
     · show(r.take n.toNat).toArray.size=_
       rw[List.size_toArray,List.length_take];omega
   · exact .inl ⟨by omega,by rw[d0g t n r ht,if_neg hn]⟩
theorem l0i:∀ (n:Nat) (s:List UInt8),s.length≤n→∃ l r,okT l∧s=encT l++r∧cut1 r=none
  | 0,s,h=>⟨[],s,l0d,rfl,by rw[List.length_eq_zero_iff.1 (Nat.le_zero.1 h)];rfl⟩
  | n+1,s,h=>by
    cases hc:cut1 s with
    | none=>exact⟨[],s,l0d,rfl,hc⟩
    | some p=>
      obtain⟨x,r'⟩:=p
      obtain⟨ho,he⟩:=w0g hc
      have hl:r'.length≤n:=by
        have:=congrArg List.length he
        rw[List.length_append]at this
        have:=a0r x
        omega
      obtain⟨l,r,h1,h2,h3⟩:=l0i n r' hl
      refine⟨x::l,r,fun y hy=>?_,by rw[he,c0c,h2,List.append_assoc],h3⟩
      rcases List.mem_cons.1 hy with rfl|hy
      · exact ho
      · exact h1 y hy
theorem j1c {r r':List UInt8}(hr:cut1 r=none)(hr':cut1 r'=none):∀ {l l':List El},okT l→okT l'→encT l++r=encT l'++r'→l=l'∧r=r'
  | [],[],_,_,h=>⟨rfl,by simpa[encT]using h⟩
  | [],x::l',_,h',h=>by
    rw[h0e,List.nil_append,c0c,List.append_assoc]at h
    rw[h,i0i (i0h h').1]at hr
    cases hr
  | x::l,[],h',_,h=>by
    rw[h0e,List.nil_append,c0c,List.append_assoc]at h
    rw[←h,i0i (i0h h').1]at hr'
    cases hr'
  | x::l,y::l',h1,h2,h=>by
    rw[c0c,c0c,List.append_assoc,List.append_assoc]at h
    have e:=congrArg cut1 h
    rw[i0i (i0h h1).1,i0i (i0h h2).1]at e
    simp only[Option.some.injEq,Prod.mk.injEq]at e
    obtain⟨rfl,e⟩:=e
    obtain⟨rfl,rfl⟩:=j1c hr hr' (i0h h1).2 (i0h h2).2 e
    exact⟨rfl,rfl⟩
def placed (p:Int):List El→List T
  | []=>[]
  | x::l=>(p,x)::placed (p+((enc1 x).length:Int)) l
theorem j0f:∀ (l:List El) (p:Int),(placed p l).length=l.length
  | [],_=>rfl
  | x::l,p=>by rw[placed,List.length_cons,List.length_cons,j0f]
theorem w0c:∀ (a b:List El) (p:Int),placed p (a++b)=placed p a++placed (p+((encT a).length:Int)) b
  | [],b,p=>by simp[placed,encT]
  | x::a,b,p=>by
    rw[List.cons_append,placed,placed,w0c,c0c,List.length_append,List.cons_append]
    congr 3
    push_cast
    omega
theorem u0x (l:List El)(x:El)(p:Int):placed p (l ++ [x])=placed p l ++ [(p+((encT l).length:Int),x)]:=by
 rw[w0c];rfl
def IsT (base:Int)(s:ByteArray)(o:List T×Int×Int):Prop:=
  ∃ l r,okT l∧s.data.toList=encT l++r∧cut1 r=none∧o=if r = []then(placed base l,0,0)else([],base+((encT l).length:Int),2)
theorem j0y (base:Int)(s:ByteArray):∃ o,IsT base s o:=by
 obtain⟨l,r,h1,h2,h3⟩:=l0i _ s.data.toList (Nat.le_refl _);exact⟨_,l,r,h1,h2,h3,rfl⟩
theorem q1o {base:Int}{s:ByteArray}{o o':List T×Int×Int}(h:IsT base s o)(h':IsT base s o'):o=o':=by
 obtain⟨l,r,h1,h2,h3,rfl⟩:=h;obtain⟨l',r',h1',h2',h3',rfl⟩:=h';rw[h2]at h2';obtain⟨rfl,rfl⟩:=j1c h3 h3' h1 h1' h2';rfl
noncomputable def outT (base:Int)(s:ByteArray):List T×Int×Int:=(j0y base s).choose
theorem l1p (base:Int)(s:ByteArray):IsT base s (outT base s):=(j0y base s).choose_spec
theorem e0u {base:Int}{s:ByteArray}{o:List T×Int×Int}(h:IsT base s o):outT base s=o:=q1o (l1p base s) h
theorem u0a {base:Int}{s:ByteArray}{l:List El}(ho:okT l)(hs:s.data.toList=encT l):outT base s=(placed base l,0,0):=
  e0u ⟨l,[],ho,by rw[hs,List.append_nil],rfl,by rw[if_pos rfl]⟩
theorem u0e {base:Int}{s:ByteArray}{l:List El}{r:List UInt8}(ho:okT l)(hs:s.data.toList=encT l++r)(hr:cut1 r=none)(hn:r≠[]):outT base s=([],base+((encT l).length:Int),2):=
  e0u ⟨l,r,ho,hs,hr,by rw[if_neg hn]⟩
theorem out_cases (base:Int)(s:ByteArray):(∃ l,okT l∧s.data.toList=encT l∧outT base s=(placed base l,0,0))∨∃ l r,okT l∧s.data.toList=encT l++r∧cut1 r=none∧r≠[]∧outT base s=([],base+((encT l).length:Int),2):=by
 refine' qz9c
theorem j1k (base:Int)(s:ByteArray):(outT base s).1.length≤s.size:=by
 rcases out_cases base s with⟨l,_,h,e⟩|⟨l,r,_,_,_,_,e⟩
 · rw[e,size_of h];have:=j0j l;simp only[j0f];omega
 · rw[e];exact Nat.zero_le _
def head (b:ByteArray):Option (Int×Int):=
  if 65535<b.size then some (65535,10)else if b.size<4 then some ((b.size:Int),2)else if ¬bt b 0=42 then some (0,4)else if ¬bt b 1=2 then some (1,4)
  else if(b.size:Int)<4+(256*bt b 2+bt b 3)then some ((b.size:Int),2)else none
def bodyN (b:ByteArray):Nat:=(256*bt b 2+bt b 3).toNat
theorem h0i (b:ByteArray):(bodyN b:Int)=256*bt b 2+bt b 3:=by
 unfold bodyN;have:=d0b b 2;have:=d0b b 3;omega
theorem l1g (b:ByteArray):(bodyN b:Int)≤65535:=by
 rw[h0i];have:=o0b b 2;have:=o0b b 3;omega
def outB (b:ByteArray):ByteArray×Int×Int:=match head b with
  | some (i,e)=>(⟨#[]⟩,i,e)
  | none=>(b.extract 4 (4+bodyN b),0,0)
def trail (b:ByteArray):ByteArray:=b.extract (4+bodyN b) b.size
def wrapL (s:ByteArray):List UInt8:=42::2::(layN (s.size:Int) 2++s.data.toList)
def wrap (s:ByteArray):ByteArray:=if s.size≤65531 then⟨(wrapL s).toArray⟩else⟨#[]⟩
theorem x0r {n:Nat}(h:n≤65535):Oct.fitsB (n:Int) 2=true:=by
 rw[Oct.e0b]
 refine⟨by omega,by omega,by omega,?_⟩
 show(n:Int)<((256 ^ 2:Nat):Int)
 omega
theorem r1c {b:ByteArray}(h:head b=none):b.size≤65535∧4≤b.size∧bt b 0=42∧bt b 1=2∧4+bodyN b≤b.size:=by
 have e:=h0i b;unfold head at h;split at h
 · cases h
 split at h
 · cases h
 split at h
 · cases h
 split at h
 · cases h
 split at h
 · cases h
 simp only[Decidable.not_not]at *
 refine⟨by omega,by omega,by assumption,by assumption,by omega⟩
theorem v0i {b:ByteArray}(h1:b.size≤65535)(h2:4≤b.size)(h3:bt b 0=42)(h4:bt b 1=2)(h5:4+bodyN b≤b.size):head b=none:=by
 have e:=h0i b;unfold head
 rw[if_neg (by omega),if_neg (by omega),if_neg (by omega),if_neg (by omega),if_neg (by omega)]
theorem o0n {s:ByteArray}(h:s.size≤65531):(wrap s).size=4+s.size:=by
 unfold wrap;rw[if_pos h]
 show(wrapL s).toArray.size=_
 unfold wrapL;rw[List.size_toArray]
 simp only[List.length_cons,List.length_append,s0a (x0r (n:=s.size) (by omega))]
 have:s.data.toList.length=s.size:=by simp
 omega
theorem n0t {s t:ByteArray}(h:4+s.size+t.size≤65535):outB (wrap s++t)=(s,0,0)∧trail (wrap s++t)=t∧head (wrap s++t)=none:=by
 have hs:s.size≤65531:=by omega
 have hz:(wrap s++t).size=4+s.size+t.size:=by rw[ByteArray.size_append,o0n hs]
 have hl:(wrap s++t).data.toList=42::2::(layN (s.size:Int) 2++(s.data.toList++t.data.toList)):=by
  rw[ByteArray.data_append,Array.toList_append];unfold wrap;rw[if_pos hs];simp[wrapL]
 have hf:=x0r (n:=s.size) (by omega)
 have hlay:=s0a hf;have h0:bt (wrap s++t) 0=42:=p0o (a:=[]) hl rfl;have h1:bt (wrap s++t) 1=2:=p0o (a:=[42]) hl rfl
 have hb:bodyN (wrap s++t)=s.size:=by
  have e:=h0i (wrap s++t)
  have n:=p0f (wrap s++t) 2 (by omega)
  have e2:((wrap s++t).data.toList.drop 2).take 2=layN (s.size:Int) 2:=by
   rw[hl]
   show(layN (s.size:Int) 2++(s.data.toList++t.data.toList)).take 2=_
   exact List.take_left' hlay
  rw[e2,c0f hf]at n
  simp only[show 2+1=3 from rfl]at n
  omega
 have hh:=v0i (b:=wrap s++t) (by omega) (by omega) h0 h1 (by omega)
 have hw:(wrap s++t).data.toList=(42::2::layN (s.size:Int) 2)++(s.data.toList++t.data.toList):=by rw[hl];simp
 have h4:(42::2::layN (s.size:Int) 2).length=4:=by rw[List.length_cons,List.length_cons,hlay]
 refine⟨?_,?_,hh⟩
 · unfold outB;rw[hh,hb];simp only[];rw[k0a (a:=(wrap s++t).extract 4 (4+s.size)) (b:=s) ?_];rw[n0a,hw,List.drop_left' h4,Nat.add_sub_cancel_left]
   exact List.take_left' (by simp)
 · unfold trail;rw[hb,hz];refine k0a ?_
   rw[n0a,hw,←List.append_assoc,List.drop_left' (by rw[List.length_append,h4];simp),List.take_of_length_le (by simp)]
def putB (t:Int)(d:ByteArray):Bool:=decide (1≤t)&&decide (t≤255)&&decide (d.size≤255)
def putO (t:Int)(d:ByteArray):ByteArray:=if putB t d=true then⟨(UInt8.ofNat t.toNat::UInt8.ofNat d.size::d.data.toList).toArray⟩else⟨#[]⟩
theorem w0e {x:El}(h:ok1 x)(h0:¬x.2=0):putB x.2 x.1=true∧putO x.2 x.1=⟨(enc1 x).toArray⟩:=by
 obtain⟨a,b,c,_⟩:=h
 have e:putB x.2 x.1=true:=by unfold putB;simp;omega
 refine⟨e,?_⟩;unfold putO enc1;rw[if_pos e,if_neg h0]
end F1
namespace S1
open Ms (El)
open Cnt (bytesN mayB)
open F1 (enc1 encT ok1 okT outT placed cut1 h0e c0c m0b u0i l0b l0d e0n c0d i0h u0a u0e out_cases size_of j0j j0f)
def keepB (x:El):Bool:=decide (2≤x.2)&&decide (x.2≤127)
def keep (l:List El):List El:=l.filter keepB
def knownB (l:List El):Bool:=l.all fun x=>decide (x.2≤127)
def okS (l:List El):Bool:=mayB l 2 127&&decide (bytesN l≤200)
def putS (l:List El):ByteArray:=if okS l then⟨(encT l).toArray⟩else⟨#[]⟩
theorem q0d {l:List El}(h:okS l=true):putS l=⟨(encT l).toArray⟩:=by unfold putS;rw[if_pos h]
theorem d0p {l:List El}(h:okS l=false):putS l=⟨#[]⟩:=by unfold putS;rw[if_neg (by rw[h];exact Bool.false_ne_true)]
theorem w0h {l:List El}{lo hi:Int}(h:mayB l lo hi=true):∀ x∈l,lo≤x.2∧x.2≤hi∧x.1.size≤255:=by
 unfold mayB at h;rw[List.all_eq_true]at h;intro x hx;simpa using h x hx
theorem k1h {l:List El}{lo hi:Int}(h:∀ x∈l,lo≤x.2∧x.2≤hi∧x.1.size≤255):mayB l lo hi=true:=by
 unfold mayB;rw[List.all_eq_true];intro x hx;simpa using h x hx
theorem d0l {l:List El}(h:okS l=true):mayB l 2 127=true:=by unfold okS at h;rw[Bool.and_eq_true]at h;exact h.1
theorem s0i {l:List El}(h:okS l=true):bytesN l≤200:=by unfold okS at h;rw[Bool.and_eq_true,decide_eq_true_eq]at h;exact h.2
theorem s1g {l:List El}(h:mayB l 2 127=true)(h2:bytesN l≤200):okS l=true:=by unfold okS;rw[h,decide_eq_true h2];rfl
theorem g0e (x:El)(l:List El):bytesN (x::l)=2+x.1.size+bytesN l:=by simp[bytesN]
theorem a1a (l:List El):2*l.length≤bytesN l:=by
 induction l with
 | nil=>exact Nat.le_refl _
 | cons x l ih=>rw[g0e,List.length_cons];omega
theorem l0v {l:List El}{lo hi:Int}(h:mayB l lo hi=true):bytesN l≤257*l.length:=by
 have hm:=w0h h;clear h
 induction l with
 | nil=>exact Nat.le_refl _
 | cons x l ih=>
  have:=ih (fun y hy=>hm y (by simp[hy]))
  have:=(hm x (by simp)).2.2
  rw[g0e,List.length_cons];omega
theorem d0r {l:List El}{lo hi:Int}(h:mayB l lo hi=true)(k:Nat):mayB (l.take k) lo hi=true:=k1h fun x hx=>w0h h x (List.mem_of_mem_take hx)
theorem m1m {l:List El}(h:mayB l 2 127=true):okT l:=fun x hx=>by
  obtain⟨a,b,c⟩:=w0h h x hx
  exact⟨by omega,by omega,c,fun h=>by omega⟩
theorem k0t {l:List El}(h:mayB l 2 127=true):keep l=l:=List.filter_eq_self.2 fun x hx=>by
  obtain⟨a,b,c⟩:=w0h h x hx
  unfold keepB
  simp[a,b]
theorem s0y {l:List El}(h:mayB l 2 127=true):knownB l=true:=List.all_eq_true.2 fun x hx=>by
  obtain⟨a,b,c⟩:=w0h h x hx
  simpa using b
theorem u1k {l:List El}(h:okT l):mayB (keep l) 2 127=true:=k1h fun x hx=>by
  obtain⟨h1,h2⟩:=List.mem_filter.1 hx
  unfold keepB at h2
  rw[Bool.and_eq_true,decide_eq_true_eq,decide_eq_true_eq]at h2
  exact⟨h2.1,h2.2,(h x h1).2.2.1⟩
theorem m0h (a b:List El):keep (a++b)=keep a++keep b:=List.filter_append ..
theorem p1k {x:El}(h:keepB x=true)(l:List El):keep (l ++ [x])=keep l ++ [x]:=by rw[m0h];unfold keep;simp[h]
theorem e1c {x:El}(h:keepB x=false)(l:List El):keep (l ++ [x])=keep l:=by rw[m0h];unfold keep;simp[h]
theorem w0u (a b:List El):knownB (a++b)=(knownB a&&knownB b):=List.all_append ..
theorem m1f (x:El):knownB [x]=decide (x.2≤127):=by unfold knownB;simp
theorem y0l (l:List El)(x:El):knownB (l ++ [x])=(knownB l&&decide (x.2≤127)):=by rw[w0u,m1f]
theorem g1b {l:List El}(h:mayB l 2 127=true):(encT l).length=bytesN l:=by
 have hm:=w0h h;clear h
 induction l with
 | nil=>rfl
 | cons x l ih=>
  have h1:=hm x (by simp)
  rw[c0c,List.length_append,l0b,if_neg (by omega),ih (fun y hy=>hm y (by simp[hy])),g0e]
theorem u0s (l:List El):bytesN (keep l)≤(encT l).length:=by
 induction l with
 | nil=>exact Nat.le_refl _
 | cons x l ih=>
  rw[c0c,List.length_append,l0b];unfold keep at *;rw[List.filter_cons];cases hk:keepB x
  · simp only[Bool.false_eq_true,if_false]
    split<;>omega
  · have:¬x.2=0:=by unfold keepB at hk;simp at hk;omega
    rw[if_pos rfl,g0e,if_neg this];omega
theorem h0w (l:List El):(keep l).length≤l.length:=List.length_filter_le ..
theorem m1i {l:List El}(h:okS l=true)(k:Nat):okS (l.take k)=true:=
  s1g (d0r (d0l h) k) (Nat.le_trans (Cnt.f0q l k) (s0i h))
theorem h0u {l:List El}(h:okS l=true):∀ x∈l,x.1.size≤1099511627776:=fun x hx=>by
  have:=(w0h (d0l h) x hx).2.2
  omega
theorem u0u {l:List El}(h:okS l=true):l.length≤100:=by
 have:=s0i h;have:=a1a l;omega
theorem s0t {l:List El}(h:okS l=true):(putS l).size=bytesN l:=by
 rw[q0d h,←g1b (d0l h)];exact List.size_toArray ..
theorem m0g (l:List El):(putS l).size≤200:=by
 cases h:okS l
 · rw[d0p h];exact Nat.zero_le _
 · rw[s0t h];exact s0i h
noncomputable def outS (s:ByteArray):List El×Bool×Int:=
  if(outT 0 s).2.2=0 then(if bytesN (keep ((outT 0 s).1.map Prod.snd))≤200 then(keep ((outT 0 s).1.map Prod.snd),knownB ((outT 0 s).1.map Prod.snd),0)else([],false,10))else([],false,(outT 0 s).2.2)
theorem x0l:∀ (l:List El) (p:Int),(placed p l).map Prod.snd=l
  | [],_=>rfl
  | x::l,p=>by rw[placed,List.map_cons,x0l]
theorem k1b {s:ByteArray}{l:List El}(h:outT 0 s=(placed 0 l,0,0)):outS s=if bytesN (keep l)≤200 then(keep l,knownB l,0)else([],false,10):=by
 unfold outS;rw[h,x0l,if_pos rfl]
theorem q1g {s:ByteArray}{p:Int}(h:outT 0 s=([],p,2)):outS s=([],false,2):=by
 unfold outS
 rw[h,if_neg (show ¬(2:Int)=0 by decide)]
theorem i0n {s:ByteArray}{l:List El}(ho:okT l)(hs:s.data.toList=encT l)(hb:bytesN (keep l)≤200):outS s=(keep l,knownB l,0):=by
 rw[k1b (u0a ho hs),if_pos hb]
theorem outS_cases (s:ByteArray):(∃ l,okT l∧s.data.toList=encT l∧outT 0 s=(placed 0 l,0,0)∧((bytesN (keep l)≤200∧outS s=(keep l,knownB l,0))∨(200<bytesN (keep l)∧outS s=([],false,10))))∨
    ∃ p,outT 0 s=([],p,2)∧outS s=([],false,2):=by
 rcases out_cases 0 s with⟨l,ho,hs,e⟩|⟨l,r,_,_,_,_,e⟩
 · refine .inl ⟨l,ho,hs,e,?_⟩;by_cases hb:bytesN (keep l)≤200
   · exact .inl ⟨hb,i0n ho hs hb⟩
   · exact .inr ⟨by omega,by rw[k1b e,if_neg hb]⟩
 · exact .inr ⟨_,e,q1g e⟩
theorem q0f {l:List El}(h:okS l=true):outS (putS l)=(l,true,0):=by
 have hm:=d0l h
 rw[q0d h,i0n (m1m hm) rfl (by rw[k0t hm];exact s0i h),k0t hm,s0y hm]
theorem t1c (s:ByteArray):okS (outS s).1=true∧(putS (outS s).1).size≤s.size:=by
 rcases outS_cases s with⟨l,ho,hs,_,⟨hb,e⟩|⟨_,e⟩⟩|⟨p,_,e⟩
 · rw[e];have hk:=s1g (u1k ho) hb;refine⟨hk,?_⟩;rw[s0t hk,size_of hs];exact u0s l
 · rw[e];exact⟨rfl,by rw[q0d rfl];exact Nat.zero_le _⟩
 · rw[e];exact⟨rfl,by rw[q0d rfl];exact Nat.zero_le _⟩
end S1
namespace Lk
open Nu (k0a)
def lkH:ByteArray:=⟨#[254,128,0,0,0,0,0,0]⟩
def lkB (s:ByteArray):Bool:=(s.extract 0 8).toList == [254,128,0,0,0,0,0,0]
def link (s:ByteArray):Bool:=decide (s.size=16)&&lkB s
theorem p0j {s:ByteArray}(h:s.size=16):link s=lkB s:=by unfold link;rw[decide_eq_true h];rfl
theorem y0o {s:ByteArray}(h:s.size≠16):link s=false:=by unfold link;rw[decide_eq_false h];rfl
def shA (a:ByteArray):ByteArray:=if link a then a.extract 8 a.size else⟨#[]⟩
def lgO (a:ByteArray):Bool:=decide (a.size=8)
def lgA (a:ByteArray):ByteArray:=if a.size=8 then lkH++a else⟨#[]⟩
theorem i0d {a:ByteArray}(h:link a=true):a.size=16:=by unfold link at h;simp at h;exact h.1
theorem l0s {a:ByteArray}(h:link a=true):a.extract 0 8=lkH:=by
 unfold link lkB at h;simp only[Bool.and_eq_true,beq_iff_eq]at h;refine k0a ?_;rw[←ByteArray.toList_eq,h.2];rfl
theorem d0m {a:ByteArray}(h:link a=true):shA a=a.extract 8 a.size:=by unfold shA;rw[if_pos h]
theorem q0u {a:ByteArray}(h:link a=true):(shA a).size=8:=by
 have:=i0d h;rw[d0m h];simp;omega
theorem f1p {a:ByteArray}(h:link a=true):lgA (shA a)=a:=by
 unfold lgA;rw[if_pos (q0u h),d0m h,←l0s h];have:=i0d h;rw[ByteArray.extract_append_extract];refine k0a ?_;simp
theorem v1b {s:ByteArray}(h:s.size=8):link (lgA s)=true∧shA (lgA s)=s:=by
 have e:lgA s=lkH++s:=by unfold lgA;rw[if_pos h]
 have hz:(lkH++s).size=16:=by rw[ByteArray.size_append,h];rfl
 have h1:link (lkH++s)=true:=by
  rw[p0j hz];unfold lkB
  rw[show(lkH++s).extract 0 8=lkH from ByteArray.extract_append_eq_left rfl]
  rw[ByteArray.toList_eq];rfl
 rw[e];refine⟨h1,?_⟩;rw[d0m h1]
 exact ByteArray.extract_append_eq_right rfl (by rw[ByteArray.size_append])
theorem b0i (s:ByteArray)(h:s.size=16)(w:World) :
    Calls Tryz.prog 276 #[.string s,.string ⟨#[254,128,0,0,0,0,0,0]⟩] w fun e w'=>e = .returned (.bool (lkB s))∧w'=w:=by
 unfold lkB;refine' qz93
theorem l0p (s:ByteArray)(h:s.size=16)(w:World) :
    Calls Tryz.prog 226 #[.string s,.string ⟨#[254,128,0,0,0,0,0,0]⟩] w fun e w'=>e = .returned (.bool (lkB s))∧w'=w:=by
 have P1:=Lib.hid (fun w=>b0i s h w)
 go_in;refine' qz7b;refine' qz2x
theorem z0r (s:ByteArray)(h:s.size=16)(w:World) :
    Calls Tryz.prog 225 #[.string s] w fun e w'=>e = .returned (.int .i64 1)∧w'=w:=by
 refine' qz68;refine' qzd5;clear h;refine' qz93
theorem r0t (s:ByteArray)(h:s.size≠16)(w:World) :
    Calls Tryz.prog 225 #[.string s] w fun e w'=>(e = .returned (.int .i64 0)∨e = .returned (.int .i64 (-1)))∧w'=w:=by
 refine' qz6a
theorem z0f (s:ByteArray)(w:World) :
    Calls Tryz.prog 164 #[.string s] w fun e w'=>e = .returned (.bool (link s))∧w'=w:=by
 refine' qzdh
theorem r0k (a:ByteArray)(w:World) :
    Calls Tryz.prog 286 #[.string a] w fun e w'=>e = .returned (.tuple #[.string (shA a),.bool (link a)])∧w=w':=by
 have P1:=Lib.hid (fun w=>z0f a w)
 cases hl:link a with
 | false=>
  have e:shA a=⟨#[]⟩:=by unfold shA;rw[hl];rfl
  rw[e];rw[hl]at P1;clear hl e;go_in;refine' qz7b;refine' qz8q
 | true=>
  have e:shA a=a.extract 8 a.size:=d0m hl
  have hs:(8:Int)≤(a.size:Int):=by have:=i0d hl;omega
  rw[e];rw[hl]at P1;clear hl e;go_in;refine' qz7b;refine' qz8q
theorem a0g (a:ByteArray)(w:World) :
    Calls Tryz.prog 331 #[.string a] w fun e w'=>e = .returned (.tuple #[.string (lgA a),.bool (lgO a)])∧w=w':=by
 by_cases h:a.size=8
 · have e1:lgA a=lkH++a:=if_pos h;have e2:lgO a=true:=decide_eq_true h
   have hne:((a.size:Int) != 8)=false:=by rw[h];rfl
   rw[e1,e2];clear e1 e2;go_in;refine' qz8q
 · have e1:lgA a=⟨#[]⟩:=if_neg h;have e2:lgO a=false:=decide_eq_false h
   have hne:((a.size:Int) != 8)=true:=by rw[bne_iff_ne];omega
   rw[e1,e2];clear e1 e2;go_in;refine' qz8q
end Lk
end Go.Proofs.YtllhobicfclheaaGreatDoor
