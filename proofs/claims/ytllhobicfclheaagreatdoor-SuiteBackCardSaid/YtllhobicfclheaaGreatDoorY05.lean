/-
  A part of a proof. No conditions.
-/
import Derived.Test.YtllhobicfclheaaGreatDoorY00
namespace Go.Proofs.YtllhobicfclheaaGreatDoor
open Go.ChangeShapes Go.WideShapes Go.ChangeAt Go.RowKit
set_option linter.unusedVariables false
set_option maxRecDepth 100000
set_option maxHeartbeats 51200000
namespace Bits
def bitN (b p:Nat):Bool:=b.testBit (7 - p)
theorem o1b (b p:Nat):bitN b p=(b / 2 ^ (7 - p)%2==1):=by
 unfold bitN;rw[Nat.testBit_eq_decide_div_mod_eq]
 by_cases h:b / 2 ^ (7 - p)%2=1<;>simp[h]
theorem getD_in (l:List UInt8)(k:Nat)(h:k<l.length):l.getD k 0=l[k]:=by simp[List.getD,h]
theorem y1i (l:List UInt8)(k:Nat)(h:l.length≤k):l.getD k 0=0:=by simp[List.getD,h]
def bitL (l:List UInt8)(i:Nat):Bool:=bitN (l.getD (i / 8) 0).toNat (i%8)
theorem u0p (l:List UInt8)(i:Nat)(h:8*l.length≤i):bitL l i=false:=by
 unfold bitL
 rw[y1i _ _ (by omega)]
 simp[bitN]
def mask (b m:Nat):Nat:=(b >>> (8 - m)) <<< (8 - m)
theorem i0p (b m:Nat):mask b m=b / 2 ^ (8 - m)*2 ^ (8 - m):=by
 unfold mask;rw[Nat.shiftLeft_eq,Nat.shiftRight_eq_div_pow]
theorem u1l (b m:Nat):mask b m≤b:=by rw[i0p];exact Nat.div_mul_le_self _ _
theorem y0w (b m:Nat)(h:8≤m):mask b m=b:=by
 rw[i0p,show 8 - m=0 by omega];simp
theorem x0n (b:Nat)(h:b<256):mask b 0=0:=by
 rw[i0p];omega
theorem w1d (b m p:Nat)(hp:p<8):bitN (mask b m) p=(decide (p<m)&&bitN b p):=by
 unfold bitN mask;rw[Nat.testBit_shiftLeft,Nat.testBit_shiftRight];by_cases h:p<m
 · have e:7 - p≥8 - m:=by omega
   simp[h,e]
 · have e:¬7 - p≥8 - m:=by omega
   simp[h,e]
theorem w0v (a b p:Nat):bitN (a ^^^ b) p=(bitN a p ^^ bitN b p):=by
 unfold bitN;rw[Nat.testBit_xor]
theorem g0x {a b:Nat}(ha:a<256)(hb:b<256)(h:∀ p,p<8→bitN a p=bitN b p):a=b:=by
 apply Nat.eq_of_testBit_eq;intro j;by_cases hj:j<8
 · have:=h (7 - j) (by omega)
   unfold bitN at this
   rw[show 7 - (7 - j)=j by omega]at this
   exact this
 · rw[Nat.testBit_lt_two_pow (Nat.lt_of_lt_of_le ha (show 256≤2 ^ j from Nat.pow_le_pow_right (n:=2) (by decide) (show 8≤j by omega))),
    Nat.testBit_lt_two_pow (Nat.lt_of_lt_of_le hb (show 256≤2 ^ j from Nat.pow_le_pow_right (n:=2) (by decide) (show 8≤j by omega)))]
theorem r0e {a b:List UInt8}(hl:a.length=b.length)(h:∀ i,i<8*a.length→bitL a i=bitL b i):a=b:=by
 apply List.ext_getElem hl;intro k h1 h2;apply UInt8.toNat_inj.1;apply g0x (UInt8.toNat_lt _) (UInt8.toNat_lt _);intro p hp
 have:=h (8*k+p) (by omega)
 unfold bitL at this
 rw[show(8*k+p) / 8=k by omega,show(8*k+p)%8=p by omega]at this
 rw[getD_in _ _ h1,getD_in _ _ h2]at this;exact this
def keepL (l:List UInt8)(n:Nat):List UInt8:=l.mapIdx fun j b=>UInt8.ofNat (mask b.toNat (n - 8*j))
theorem r0a (l:List UInt8)(n:Nat):(keepL l n).length=l.length:=by simp[keepL]
theorem z0l (b:UInt8)(m:Nat):(UInt8.ofNat (mask b.toNat m)).toNat=mask b.toNat m:=by
 have h:=u1l b.toNat m;have:=UInt8.toNat_lt b;rw[UInt8.toNat_ofNat'];omega
theorem v0g (l:List UInt8)(n j:Nat)(h:j<(keepL l n).length):((keepL l n)[j]).toNat=mask (l[j]'(by simpa[r0a]using h)).toNat (n - 8*j):=by
 simp only[keepL,List.getElem_mapIdx];exact z0l _ _
theorem x0g (l:List UInt8)(n i:Nat):bitL (keepL l n) i=(decide (i<n)&&bitL l i):=by
 by_cases h:i<8*l.length
 · unfold bitL
   rw[getD_in _ _ (show i / 8<(keepL l n).length by rw[r0a];omega),getD_in _ _ (show i / 8<l.length by omega),v0g,w1d _ _ _ (by omega)]
   congr 1;by_cases hn:i<n
   · simp[hn];omega
   · simp[hn];omega
 · rw[u0p _ _ (by rw[r0a];omega),u0p l i (by omega)];simp
theorem c0m (l:List UInt8)(n m:Nat):keepL (keepL l n) m=keepL l (min n m):=by
 apply r0e (by simp[r0a])
 intro i _;rw[x0g,x0g,x0g,←Bool.and_assoc];congr 1
 by_cases h1:i<n<;>by_cases h2:i<m<;>simp[h1,h2]<;>omega
theorem f0l (l:List UInt8)(n:Nat)(h:8*l.length≤n):keepL l n=l:=by
 apply r0e (by simp[r0a])
 intro i hi;rw[r0a]at hi;rw[x0g];simp;omega
theorem z1e (l:List UInt8)(n:Nat):keepL l (min n (8*l.length))=keepL l n:=by
 apply r0e (by simp[r0a])
 intro i hi;rw[r0a]at hi;rw[x0g,x0g];congr 1
 by_cases h:i<n<;>simp[h]<;>omega
def lead (p:Nat→Bool):Nat→Nat
  | 0=>0
  | m+1=>if lead p m=m∧p m=true then m+1 else lead p m
theorem k0h (p:Nat→Bool)(m:Nat):lead p m≤m:=by
 induction m with
 | zero=>exact Nat.le_refl _
 | succ m ih=>unfold lead;split<;>omega
theorem t0l (p:Nat→Bool)(m i:Nat)(h:i<lead p m):p i=true:=by
 induction m with
 | zero=>simp[lead]at h
 | succ m ih=>
  unfold lead at h;split at h
  · rename_i hc;by_cases e:i=m
    · rw[e];exact hc.2
    · exact ih (by omega)
  · exact ih h
theorem d1b (p:Nat→Bool)(m:Nat)(h:lead p m<m):p (lead p m)=false:=by
 induction m with
 | zero=>omega
 | succ m ih=>
  have hle:=k0h p m;unfold lead at h⊢;split at h
  · omega
  · rename_i hc;rw[if_neg hc];by_cases e:lead p m=m
    · rw[e];by_cases hp:p m=true
      · exact absurd ⟨e,hp⟩ hc
      · simpa using hp
    · exact ih (by omega)
theorem f0v (p:Nat→Bool)(m k:Nat)(hk:k≤m)(h1:∀ i,i<k→p i=true)(h2:k<m→p k=false):lead p m=k:=by
 have hle:=k0h p m;by_cases h:lead p m<k
 · have:=d1b p m (by omega)
   rw[h1 _ h]at this;cases this
 · by_cases h':k<lead p m
   · have:=t0l p m k h'
     rw[h2 (by omega)]at this
     cases this
   · omega
def alikeN (a b:List UInt8):Nat:=lead (fun i=>bitL a i==bitL b i) (8*min a.length b.length)
def noughts (b:Nat):Nat:=lead (fun p=>!bitN b p) 8
theorem a0s (b k:Nat)(hk:k≤8)(h1:b<2 ^ (8 - k))(h2:k<8→2 ^ (7 - k)≤b):noughts b=k:=by
 apply f0v _ _ _ hk
 · intro p hp
   have:b.testBit (7 - p)=false:=Nat.testBit_lt_two_pow (Nat.lt_of_lt_of_le h1 (Nat.pow_le_pow_right (by decide) (by omega)))
   simp[bitN,this]
 · intro h;have h2:=h2 h
   have e:b / 2 ^ (7 - k)=1:=by
    have hp:0<2 ^ (7 - k):=Nat.two_pow_pos _
    have hh:b<2*2 ^ (7 - k):=by
     have:2 ^ (8 - k)=2*2 ^ (7 - k):=by rw[show 8 - k=(7 - k)+1 by omega,Nat.pow_succ];omega
     omega
    have:=(Nat.div_lt_iff_lt_mul hp).2 hh
    have:=(Nat.le_div_iff_mul_le hp).2 (show 1*2 ^ (7 - k)≤b by omega)
    omega
   show(!bitN b k)=false
   rw[o1b,e];rfl
theorem f0s (b p:Nat)(h:p<noughts b):bitN b p=false:=by
 have:=t0l (fun p=>!bitN b p) 8 p h
 simpa using this
theorem b0z (b:Nat)(h:noughts b<8):bitN b (noughts b)=true:=by
 have:(!bitN b (noughts b))=false:=d1b (fun p=>!bitN b p) 8 h
 simpa using this
theorem l0r (b:Nat):noughts b≤8:=k0h _ _
theorem z0w (a b:Nat)(ha:a<256)(hb:b<256)(hne:a≠b) :
    ∃ z,noughts (a ^^^ b)=z∧z<8∧(∀ p,p<z→bitN a p=bitN b p)∧bitN a z≠bitN b z:=by
 have hsame:∀ p,p<noughts (a ^^^ b)→bitN a p=bitN b p:=by
  intro p hp;have:=f0s _ p hp;rw[w0v]at this;revert this
  cases bitN a p<;>cases bitN b p<;>simp
 have hz:noughts (a ^^^ b)<8:=by
  have hle:=l0r (a ^^^ b);by_cases h:noughts (a ^^^ b)<8
  · exact h
  · exact absurd (g0x ha hb fun p hp=>hsame p (by omega)) hne
 refine⟨_,rfl,hz,hsame,?_⟩;have:=b0z _ hz;rw[w0v]at this;revert this
 cases bitN a (noughts (a ^^^ b))<;>cases bitN b (noughts (a ^^^ b))<;>simp
theorem k0x (a b:List UInt8)(i k:Nat)(h:a.take i=b.take i)(hk:k<i):a.getD k 0=b.getD k 0:=by
 have h1:(a.take i)[k]?=(b.take i)[k]?:=by rw[h]
 rw[List.getElem?_take_of_lt hk,List.getElem?_take_of_lt hk]at h1;simp[List.getD,h1]
theorem m0u (a b:List UInt8)(i:Nat)(ha:i<a.length)(hb:i<b.length)(hsame:a.take i=b.take i)(hne:a[i].toNat≠b[i].toNat) :
    alikeN a b=8*i+noughts (a[i].toNat ^^^ b[i].toNat):=by
 obtain⟨z,hz,hz8,hzs,hzd⟩:=z0w a[i].toNat b[i].toNat (UInt8.toNat_lt _) (UInt8.toNat_lt _) hne;rw[hz];unfold alikeN;apply f0v
 · have:i+1≤min a.length b.length:=by omega
   omega
 · intro j hj;simp only[bitL];by_cases hji:j / 8<i
   · rw[k0x a b i (j / 8) hsame hji];simp
   · have e:j / 8=i:=by omega
     rw[e,getD_in _ _ ha,getD_in _ _ hb,hzs (j%8) (by omega)]
     simp
 · intro _;simp only[bitL]
   rw[show(8*i+z) / 8=i by omega,show(8*i+z)%8=z by omega,getD_in _ _ ha,getD_in _ _ hb]
   simpa using hzd
theorem y0q (a b:List UInt8)(h:a.take (min a.length b.length)=b.take (min a.length b.length)):alikeN a b=8*min a.length b.length:=by
 unfold alikeN;apply f0v _ _ _ (Nat.le_refl _)
 · intro j hj;simp only[bitL]
   rw[k0x a b _ (j / 8) h (by omega)]
   simp
 · intro h;omega
theorem c0q (a b:List UInt8):alikeN a b≤8*min a.length b.length:=k0h _ _
theorem l0x (a b:List UInt8)(i:Nat)(h:i<alikeN a b):bitL a i=bitL b i:=by
 have:=t0l (fun i=>bitL a i==bitL b i) _ i h
 simpa using this
theorem i0w (l:List UInt8)(n:Nat)(h:n≤8*l.length) :
    keepL l n=if n%8=0 then l.take (n / 8)++List.replicate (l.length - n / 8) 0
      else(l.take (n / 8)++List.replicate (l.length - n / 8) 0).set (n / 8) (UInt8.ofNat (mask (l.getD (n / 8) 0).toNat (n%8))):=by
 have hbase:∀ k (h1:k<l.length),k≠n / 8∨n%8=0→(keepL l n)[k]'(by simpa[r0a]using h1)=(l.take (n / 8)++List.replicate (l.length - n / 8) 0)[k]'(by simp;omega):=by
  intro k hk hc;apply UInt8.toNat_inj.1;rw[v0g,List.getElem_append];split
  · rename_i hlt;simp at hlt
    rw[y0w _ _ (by omega),List.getElem_take]
  · rename_i hlt;simp at hlt
    rw[show n - 8*k=0 by omega,x0n _ (UInt8.toNat_lt _),List.getElem_replicate]
    rfl
 have hlen:(l.take (n / 8)++List.replicate (l.length - n / 8) (0:UInt8)).length=l.length:=by simp;omega
 split
 · rename_i h0
   apply List.ext_getElem (by rw[hlen,r0a])
   intro k h1 h2;rw[r0a]at h1;exact hbase k h1 (.inr h0)
 · rename_i h0
   apply List.ext_getElem (by rw[List.length_set,hlen,r0a])
   intro k h1 h2;rw[r0a]at h1;rw[List.getElem_set];split
   · rename_i e;subst e;apply UInt8.toNat_inj.1;rw[v0g,z0l,getD_in _ _ h1];congr 1;omega
   · rename_i e
     exact hbase k h1 (.inl fun he=>e he.symm)
end Bits
namespace Bits
theorem g0a {a b:Bool}(h:a=b):Ending.returned (.bool a) = .returned (.bool b):=by rw[h]
theorem int_eq {k:IntKind}{a b:Int}(h:a=b):Ending.returned (.int k a) = .returned (.int k b):=by rw[h]
def bitZ (s:ByteArray)(i:Int):Bool:=decide (0≤i)&&bitL s.data.toList i.toNat
theorem g0c (s:ByteArray):s.data.toList.length=s.size:=by simp
theorem t0t (s:ByteArray)(k:Nat)(h:k<s.size):s.data.toList.getD k 0=s[k]:=by
 rw[getD_in _ _ (by simpa using h)];rfl
theorem f1m (s:ByteArray)(i:Nat)(h:i<8*s.size):bitZ s i=(s[i / 8].toNat / 2 ^ (7 - i%8)%2==1):=by
 unfold bitZ bitL
 rw[Int.toNat_natCast,t0t s (i / 8) (by omega),o1b]
 simp
theorem s1j (s:ByteArray)(i:Int)(h:i<0):bitZ s i=false:=by unfold bitZ;simp;omega
theorem d1i (s:ByteArray)(i:Int)(h:8*(s.size:Int)≤i):bitZ s i=false:=by
 unfold bitZ;rw[u0p _ _ (by rw[g0c];omega)];simp
theorem d1t (b k:Nat)(hb:b<256):(bits BinOp.and IntKind.u8 ((b:Int) / 2 ^ k) 1==1)=(b / 2 ^ k%2==1):=by
 have h1:(b:Int) / 2 ^ k=((b / 2 ^ k:Nat):Int):=by simp
 have h2:b / 2 ^ k≤b:=Nat.div_le_self _ _;rw[h1];generalize b / 2 ^ k=m at h2⊢
 rw[u8_and _ _ (by omega) (by omega) (by omega) (by omega)]
 rw[Int.toNat_natCast,show(1:Int).toNat=1 from rfl,Nat.and_one_is_mod]
 rw[Bool.eq_iff_iff];simp;omega
theorem l1n (b k:Nat)(hb:b<256):((wrap64 (b:Int) / 2 ^ k).tmod 2==1)=(b / 2 ^ k%2==1):=by
 rw[IntWalk.wrap64_in _ (by omega)]
 have h1:(b:Int) / 2 ^ k=((b / 2 ^ k:Nat):Int):=by simp
 rw[h1];generalize b / 2 ^ k=m
 rw[Int.tmod_eq_emod_of_nonneg (by omega)]
 rw[Bool.eq_iff_iff];simp;omega
theorem y0c (s:ByteArray)(w:World)(hs:s.size≤1048576) :
    Calls Tryz.prog 338 #[.string s] w fun e w'=>e = .returned (.int .i64 (8*(s.size:Nat):Int))∧w=w':=by
 refine' qz93
theorem b1s (s:ByteArray)(i:Int)(w:World)(hs:s.size≤1048576) :
    Calls Tryz.prog 258 #[.string s,.int .i64 i] w fun e w'=>e = .returned (.bool (bitZ s i))∧w=w':=by
 by_cases h0:i<0
 · refine' qz67;exact⟨g0a (s1j s i h0).symm,rfl⟩
 · by_cases h1:i<8*(s.size:Int)
   · obtain⟨i,rfl⟩:=Int.eq_ofNat_of_zero_le (show 0≤i by omega)
     have h2:i<8*s.size:=by omega
     clear h0 h1;refine' qz67
     exact⟨g0a (by rw[f1m s i h2];exact l1n _ _ (UInt8.toNat_lt _)),rfl⟩
   · refine' qz67
     exact⟨g0a (d1i s i (by omega)).symm,rfl⟩
def inZ (s:ByteArray)(n:Int):Nat:=min n.toNat (8*s.size)
theorem v0z (s:ByteArray)(n:Int)(w:World)(hs:s.size≤1048576) :
    Calls Tryz.prog 310 #[.string s,.int .i64 n] w fun e w'=>e = .returned (.int .i64 (inZ s n:Nat))∧w=w':=by
 by_cases h0:n<0
 · refine' qz67
   exact⟨int_eq (by unfold inZ;omega),rfl⟩
 · by_cases h1:8*(s.size:Int)<n
   · refine' qz16;refine(y0c _ _ hs).mono ?_;refine' qz2p;refine' qzg;refine(y0c _ _ hs).mono ?_;refine' qz2p;refine' qzj
     exact⟨int_eq (by unfold inZ;omega),rfl⟩
   · refine' qz16;refine(y0c _ _ hs).mono ?_;refine' qz2p;refine' qzj
     exact⟨int_eq (by unfold inZ;omega),rfl⟩
theorem g1n (r:Nat)(w:World)(h:r≤8) :
    Calls Tryz.prog 311 #[.int .i64 r] w fun e w'=>e = .returned (.int .u8 ((255*2 ^ (8 - r)%256:Nat):Int))∧w=w':=by
 refine' qz67
 exact⟨int_eq (by simp),rfl⟩
theorem w1e (b:Nat)(w:World)(h:b<256) :
    Calls Tryz.prog 337 #[.int .u8 b] w fun e w'=>e = .returned (.int .i64 (noughts b:Nat))∧w=w':=by
 go_in;go_wp2
 go_loop [3] (fun i=>∃ k:Nat,k≤8∧i = .int .i64 k∧b<2 ^ (8 - k)) (fun i=>8 - (intOf i).toNat)
 case atStart=>exact⟨0,by omega,rfl,by omega⟩
 case round=>
  obtain⟨k,hk,rfl,hb⟩:=hrel;refine' qz4n;clear hb;by_cases hlt:k<8
  · have hd:((b:Int) / 2 ^ (7 - k)==0)=decide (b<2 ^ (7 - k)):=by
     have h1:(b:Int) / 2 ^ (7 - k)=((b / 2 ^ (7 - k):Nat):Int):=by simp
     rw[h1,Bool.eq_iff_iff];simp only[beq_iff_eq,decide_eq_true_eq]
     rw[show(((b / 2 ^ (7 - k):Nat):Int)=0)↔b / 2 ^ (7 - k)=0 by omega,Nat.div_eq_zero_iff_lt (Nat.two_pow_pos _)]
    by_cases hc:b<2 ^ (7 - k)
    · rw[decide_eq_true hc]at hd;have HC:=Lib.hid hc;clear hc;go_wp2;go_round
      case rel=>exact⟨k+1,by omega,by go_num,by rw[show 8 - (k+1)=7 - k by omega];exact HC.out⟩
      case measure=>simp[intOf];omega
    · rw[decide_eq_false hc]at hd
      have HN:=Lib.hid (a0s b k hk HB.out (fun _=>by omega))
      clear hc;refine' qzj
      exact⟨int_eq (by rw[HN.out]),rfl⟩
  · obtain rfl:k=8:=by omega
    have HN:=Lib.hid (a0s b 8 hk HB.out (fun h=>by omega))
    refine' qzj
    exact⟨int_eq (by rw[HN.out];rfl),rfl⟩
theorem d1j (a b:UInt8):bits BinOp.xor IntKind.u8 (a.toNat:Int) (b.toNat:Int)=((a.toNat ^^^ b.toNat:Nat):Int):=
  u8_xor_nat _ _ (UInt8.toNat_lt _) (UInt8.toNat_lt _)
theorem n0f (s:ByteArray)(k:Nat)(h:k<s.size):s.data.toList.take (k+1)=s.data.toList.take k ++ [s[k]]:=by
 rw[List.take_succ_eq_append_getElem (by simpa using h)];rfl
theorem d0t (a b:ByteArray)(w:World)(ha:a.size≤1048576)(hb:b.size≤1048576) :
    Calls Tryz.prog 307 #[.string a,.string b] w fun e w'=>e = .returned (.int .i64 (alikeN a.data.toList b.data.toList:Nat))∧Below w.heap.size w w':=by
 go_in;go_wp2
 go_loopw [5] (fun i wr=>∃ k:Nat,k≤a.size∧k≤b.size∧i = .int .i64 k∧a.data.toList.take k=b.data.toList.take k∧Hid (Below w.heap.size w wr)) (fun i _=>a.size - (intOf i).toNat)
 case atStart=>exact⟨0,Nat.zero_le _,Nat.zero_le _,rfl,rfl,Lib.hid (Below.refl _ _)⟩
 case round=>
  obtain⟨k,hka,hkb,rfl,ht,HB⟩:=hrel;refine' qz6v;by_cases hla:k<a.size
  · by_cases hlb:k<b.size
    · have hta:=Lib.hid (n0f a k hla);have htb:=Lib.hid (n0f b k hlb);by_cases heq:a[k].toNat=b[k].toNat
      · have HN:Hid (a.data.toList.take (k+1)=b.data.toList.take (k+1)):=by
         have:a[k]=b[k]:=UInt8.toNat_inj.1 heq
         exact Lib.hid (by rw[hta.out,htb.out,HT.out,this])
        clear hta htb
        have hne:((a[k].toNat:Int) != (b[k].toNat:Int))=false:=by simp[heq]
        go_wp2;go_quiet (fail);go_wp2;go_roundw
        case rel=>exact⟨k+1,hla,hlb,by go_num,HN.out,Lib.hid (below_drewN HB.out _)⟩
        case measure=>simp[intOf];omega
      · have HD:=Lib.hid (m0u a.data.toList b.data.toList k (by simpa using hla) (by simpa using hlb) HT.out heq)
        have hx:=d1j a[k] b[k];have hxl:a[k].toNat ^^^ b[k].toNat<256:=Nat.xor_lt_two_pow (n:=8) (UInt8.toNat_lt _) (UInt8.toNat_lt _)
        have hne:((a[k].toNat:Int) != (b[k].toNat:Int))=true:=by simp;omega
        have hn8:=l0r (a[k].toNat ^^^ b[k].toNat)
        have HA:=Lib.hid (fun w:World=>(w1e (a[k].toNat ^^^ b[k].toNat) w hxl).mono fun e w' (h:e = .returned (.int .i64 (noughts (a[k].toNat ^^^ b[k].toNat):Nat))∧w=w')=>And.intro h.1 h.2.symm)
        clear hta htb heq hxl;go_wp2;go_quiet (fail);have HB2:=Lib.hid (below_drewN HB.out nq);generalize wr.drewN nq=wq at *;go_wp2
        go_quiet (first|(go_at_call 337;refine Calls.quiet_of_same (HA.out _)))
        refine' qzj
        exact⟨int_eq (by rw[HD.out];simp;rfl),below_drewN HB2.out _⟩
    · obtain rfl:k=b.size:=by omega
      have HF:=Lib.hid (y0q a.data.toList b.data.toList (by rw[show min a.data.toList.length b.data.toList.length=b.size by simp;omega];exact HT.out))
      by_cases hlt:a.size<b.size
      · omega
      · refine' qzg;refine(y0c _ _ hb).mono ?_;refine' qz2p;refine' qzj
        exact⟨int_eq (by rw[HF.out];simp;omega),HB.out⟩
  · obtain rfl:k=a.size:=by omega
    have HF:=Lib.hid (y0q a.data.toList b.data.toList (by rw[show min a.data.toList.length b.data.toList.length=a.size by simp;omega];exact HT.out))
    by_cases hlt:a.size<b.size
    · refine' qzg;refine(y0c _ _ ha).mono ?_;refine' qz2p;refine' qzj
      exact⟨int_eq (by rw[HF.out];simp;omega),HB.out⟩
    · refine' qzg;refine(y0c _ _ hb).mono ?_;refine' qz2p;refine' qzj
      exact⟨int_eq (by rw[HF.out];simp;omega),HB.out⟩
end Bits
namespace Bits
theorem l0w:(Tryz.prog.info? 5).map (fun i=>(i.zero,i.size,i.bytes))=some (some (.int .u8 0),1,1):=by kernel_rfl
def cellsL (l:List UInt8):List Value:=l.map fun b=>Value.int .u8 b.toNat
theorem x0h (l:List UInt8):(cellsL l).length=l.length:=by simp[cellsL]
theorem a0e (w:World)(g c:Nat)(base:Nat)(l:List UInt8)(n:Nat)(hn:l.length=n)(h:w.ownsRow base 5 1 (.slice (some ⟨g,0,none⟩) n c) n (cellsL l)) :
    (convert 96 9 (.slice (some ⟨g,0,none⟩) n c)).run Tryz.prog w = .ok (.string ⟨l.toArray⟩) w:=by
 subst hn
 refine run_convert_bytes_back w 96 9 5 ⟨g,0,none⟩ c l Tryz.underlying96 Tryz.underlying5 Tryz.underlying9 fun j hj=>?_
 have:=h.cellAt j (by omega)
 simp[Addr.add_lit];rw[this];simp[cellsL,hj]
theorem p0r {a b:ByteArray}(h:a=b):Ending.returned (.string a) = .returned (.string b):=by rw[h]
theorem o0j {P:Program}{w:World}{ops:Array Oper}{rest:List Oper}{o:Oper}{a:Act}{Q:Exit→Act→World→Prop}(hgd:o.guard=none)(d s:Operand)(dT sT:TypeId)
    (ho:o.op = .call { callee := .builtin .copy,args:=#[d,s],argTypes:=#[dT,sT]}) (elem:TypeId) (hu:P.underlying dT=some (.slice elem)) (hsz:(P.info? elem).map (·.size)=some 1)
    (g n:Nat) (hd:a.eval d = .slice (some ⟨g,0,none⟩) n n) (t:ByteArray) (hs:a.eval s = .string t)
    (base:Nat) (xs:List Value) (hrow:w.ownsRow base elem 1 (.slice (some ⟨g,0,none⟩) n n) n xs) (hle:t.size≤n)
    (h:∀ w',w'.ownsRow base elem 1 (.slice (some ⟨g,0,none⟩) n n) n (cellsL t.data.toList++xs.drop t.size)→w.grownBy w' (some g)→wpList P ops Q rest (a.put o.dst (goInt t.size)) w') :
    wpList P ops Q (o::rest) a w:=by
 obtain⟨hlen,hrow⟩:=hrow
 rcases hrow with⟨h',_⟩|⟨g',cap',cur,h',hb,hg,hnc,hcm,hcs,htake⟩
 · simp at h'
 · simp only[Value.slice.injEq,Option.some.injEq,Addr.mk.injEq,and_true,true_and]at h';obtain⟨rfl,rfl⟩:=h';simp only[Nat.mul_one]at hlen hcs htake
   have hrun:=Lib.run_copy_row_string (P:=P) w dT sT o.type elem g 0 n n t cur elem hu hsz hg hle (by omega)
   have hxs:cur.toList=xs:=by rw[←htake,List.take_of_length_le (by simp;omega)]
   have hnew:List.take 0 cur.toList++Lib.byteCells t.data.toList++List.drop (0+t.size) cur.toList=cellsL t.data.toList++xs.drop t.size:=by
    rw[hxs];simp[Lib.byteCells,cellsL]
   rw[hnew]at hrun
   refine wpList_plain hgd fun K hK=>?_
   unfold Oper.wp;simp[execOp,ho,resolve,invoke,builtin,hd,hs,hrun,Result.andThen]
   refine hK _ _ (h _ ⟨?_,.inr ⟨g,n,_,rfl,hb,setRow_heap w g _ _ elem _ hg,Nat.le_refl _,hcm,?_,?_⟩⟩ ⟨rfl,rfl,rfl,by simp[World.setRow],fun k _ hk=>setRow_other w g k _ (fun e=>hk (by rw[e]))⟩)
   · simp[x0h];omega
   · simp[x0h];omega
   · rw[Nat.mul_one];exact List.take_of_length_le (by simp[x0h];omega)
theorem g1g (b r:Nat)(hb:b<256)(h:r≤8):bits BinOp.and IntKind.u8 (b:Int) ((255*2 ^ (8 - r)%256:Nat):Int)=((mask b r:Nat):Int):=by
 rw[u8_and_nat _ _ hb (by omega),i0p]
 congr 1
 have:r=0∨r=1∨r=2∨r=3∨r=4∨r=5∨r=6∨r=7∨r=8:=by omega
 revert b
 rcases this with rfl|rfl|rfl|rfl|rfl|rfl|rfl|rfl|rfl<;>decide +kernel
theorem i0r (s:ByteArray)(n:Int)(w:World)(hs:s.size≤1048576) :
    Calls Tryz.prog 275 #[.string s,.int .i64 n] w fun e w'=>e = .returned (.string ⟨(keepL s.data.toList n.toNat).toArray⟩)∧Below w.heap.size w w':=by
 refine' qz4l
 have HK:Hid (keepL s.data.toList n.toNat=keepL s.data.toList (inZ s n)):=by
  have:=z1e s.data.toList n.toNat;rw[g0c]at this;exact Lib.hid this.symm
 have hm:inZ s n≤8*s.size:=by unfold inZ;omega
 have HW:=Lib.hid (fun w=>v0z s n w hs)
 generalize inZ s n=m at *;refine' qz16;refine(HW.out _).mono ?_;refine' qz2p;clear HW
 go_wp2_with (at_make;refine wpList_make_full _ rfl _ _ 96 rfl w.heap.size 5 i0 (.int .u8 0) 1 Tryz.underlying96 hi hz0 hz1 _ _ _ _ s.size rfl rfl rfl rfl (by rw[hz2];omega) (by unfold maxLen;omega) (by simp) ?_)
 intro w1 hown hgrow;have HG:=Lib.hid hgrow;have HO:=Lib.hid hown;clear hgrow hown
 have hsz:(Tryz.prog.info? 5).map (·.size)=some 1:=by rw[hi];simp[hz1]
 go_wp2_with (with_reducible refine o0j rfl (.tmp 12) (.tmp 16) 96 9 rfl 5 Tryz.underlying96 hsz w.heap.size s.size rfl _ rfl w.heap.size _ HO.out ?_ ?_)
 · simp;omega
 refine' qzbe
 have HO2:Hid (w2.ownsRow w.heap.size 5 1 (.slice (some ⟨w.heap.size,0,none⟩) s.size s.size) s.size (cellsL (s.data.toList.take (m / 8)++List.replicate (s.size - m / 8) 0))):=by
  have e:cellsL (s.data.toList.take (m / 8)++List.replicate (s.size - m / 8) 0)=cellsL (List.take (m / 8) s.data.toList)++List.drop (min (m / 8) s.size) (madeCells #[Value.int IntKind.u8 0] s.size).toList:=by
   rw[toList_madeCells_one,Nat.min_eq_left (by omega)]
   simp[cellsL]
  exact Lib.hid (by rw[e];exact hown2)
 clear hown2 hgrow2 HG HO hi hz0 hz1 hz2 hsz
 have HP:=Lib.hid (i0w s.data.toList m (by rw[g0c];exact hm))
 rw[g0c]at HP;by_cases h0:m%8=0
 · have HC:Hid (w2.ownsRow w.heap.size 5 1 (.slice (some ⟨w.heap.size,0,none⟩) s.size s.size) s.size (cellsL (keepL s.data.toList n.toNat))):=by
    have:=HP.out;rw[if_pos h0]at this
    exact Lib.hid (by rw[HK.out,this];exact HO2.out)
   have hc:=a0e w2 w.heap.size s.size w.heap.size (keepL s.data.toList n.toNat) s.size (by rw[r0a,g0c]) HC.out
   clear HC HO2 HP;refine' qzj;exact⟨rfl,HB2.out⟩
 · have hk:m / 8<s.size:=by omega
   have ho:((m:Int) / 8).toNat=m / 8:=by omega
   have hfr:=HO2.out.frozenAt ((m:Int) / 8).toNat
   obtain⟨u,hcl⟩:∃ u,w2.cell? ⟨w.heap.size,((m:Int) / 8).toNat,none⟩=some u:=by
    rw[HO2.out.cellAt _ (by omega)]
    exact⟨_,List.getElem?_eq_getElem (by have:=HO2.out.1;omega)⟩
   have HR:Hid (cellsL (keepL s.data.toList m)=(cellsL (s.data.toList.take (m / 8)++List.replicate (s.size - m / 8) 0)).set ((m:Int) / 8).toNat (.int .u8 ((mask s[m / 8].toNat (m%8):Nat):Int))):=by
    have:=HP.out;rw[if_neg h0,t0t s (m / 8) hk]at this;refine Lib.hid ?_;rw[this,ho];unfold cellsL;rw[List.map_set,z0l]
   have hand:bits BinOp.and IntKind.u8 (s[((m:Int) / 8).toNat].toNat:Int) ((255*2 ^ (8 - m%8)%256:Nat):Int)=((mask s[m / 8].toNat (m%8):Nat):Int):=by
    have:=g1g s[m / 8].toNat (m%8) (UInt8.toNat_lt _) (by omega)
    simp only[ho];exact this
   have HO':=Lib.hid ho;clear ho;generalize mask s[m / 8].toNat (m%8)=mv at *
   have HH:Hid (∀ w,Calls Tryz.prog 311 #[.int .i64 ((m:Int)%8)] w fun e w'=>e = .returned (.int .u8 ((255*2 ^ (8 - m%8)%256:Nat):Int))∧w=w'):=by
    have:=fun w=>g1n (m%8) w (by omega)
    rw[show((m%8:Nat):Int)=(m:Int)%8 by omega]at this
    exact Lib.hid this
   generalize 255*2 ^ (8 - m%8)%256=hv at *
   have hbd:(0:Int)≤(m:Int) / 8∧(m:Int) / 8<(s.size:Int):=by omega
   have hq1:IntKind.i64.wrap ((m:Int).tdiv 8)=(m:Int) / 8:=IntWalk.i64_quo _ _ (by omega)
   have hq2:wrap64 ((m:Int).tdiv 8)=(m:Int) / 8:=by rw[←IntWalk.i64_left];exact hq1
   have hq3:IntKind.i64.wrap ((m:Int) / 8)=(m:Int) / 8:=IntWalk.i64_in _ (by omega)
   have hq4:(m:Int).tdiv 8=(m:Int) / 8:=Int.tdiv_eq_ediv_of_nonneg (by omega)
   have hq5:(m:Int).tmod 8=(m:Int)%8:=Int.tmod_eq_emod_of_nonneg (by omega)
   have hq6:IntKind.i64.wrap ((m:Int)%8)=(m:Int)%8:=IntWalk.i64_in _ (by omega)
   go_wp2;go_region_with (go_at_call 311;refine(HH.out _).mono ?_;rintro e w9 ⟨rfl,rfl⟩)
   all_goals
    have HC:Hid ((w2.setCell ⟨w.heap.size,((m:Int) / 8).toNat,none⟩ (.int .u8 (mv:Int))).drew.ownsRow w.heap.size 5 1 (.slice (some ⟨w.heap.size,0,none⟩) s.size s.size) s.size (cellsL (keepL s.data.toList n.toNat))):=by
     have h3:=(HO2.out).stored ((m:Int) / 8).toNat (.int .u8 (mv:Int));refine Lib.hid ?_;rw[HK.out,HR.out];exact World.ownsRow.drew h3.1
    have HB3:Hid (Below w.heap.size w (w2.setCell ⟨w.heap.size,((m:Int) / 8).toNat,none⟩ (.int .u8 (mv:Int))).drew):=Lib.hid ((HB2.out.setCell (Nat.le_refl _) _).drew);clear HO2 HP hcl hfr hand HB2 HR HK HO' hq1 hq2 hq3 hq4 hq5 hq6 HH;generalize (w2.setCell ⟨w.heap.size,((m:Int) / 8).toNat,none⟩ (.int .u8 (mv:Int))).drew=w3 at *
    have hc:=a0e w3 w.heap.size s.size w.heap.size (keepL s.data.toList n.toNat) s.size (by rw[r0a,g0c]) HC.out
    clear HC;refine' qzj;exact⟨rfl,HB3.out⟩
def cleanZ (s:ByteArray)(n:Int):Bool:=decide (keepL s.data.toList n.toNat=s.data.toList)
theorem p1f (s:ByteArray)(n:Int)(w:World)(hs:s.size≤1048576) :
    Calls Tryz.prog 224 #[.string s,.int .i64 n] w fun e w'=>e = .returned (.bool (cleanZ s n))∧Below w.heap.size w w':=by
 refine' qz16;refine(i0r _ _ _ hs).mono ?_;refine' qz10;refine' qzj
 exact⟨g0a (by unfold cleanZ;rw[Bool.eq_iff_iff];simp only[beq_iff_eq,decide_eq_true_eq];rw[ByteArray.toList_eq]),hb1⟩
end Bits
namespace Bits
theorem bcall {w W w1:World}(h:Below w.heap.size w W)(hb:Below W.heap.size W w1):Below w.heap.size w w1:=h.trans (hb.mono h.size)
end Bits
namespace Mask
open Bits
def ffs:List UInt8:=[255,255,255,255]
def onesN (n:Nat):Nat:=4294967295*2 ^ (32 - n)%4294967296
def fourL (m:Nat):List UInt8:=[UInt8.ofNat (m / 2 ^ 24),UInt8.ofNat (m / 2 ^ 16),UInt8.ofNat (m / 2 ^ 8),UInt8.ofNat m]
theorem s1e:∀ n,n≤32→fourL (onesN n)=keepL ffs n:=by decide +kernel
theorem o1k:fourL 4294967295=ffs:=by decide
theorem k1a:∀ n,n≤32→alikeN (keepL ffs n) ffs=n:=by decide +kernel
theorem j1m (n:Nat):onesN n<4294967296:=Nat.mod_lt _ (by decide)
theorem h0f (q:Nat):Value.int .u8 ((q:Int)%256)=Value.int .u8 ((UInt8.ofNat q).toNat:Int):=by
 congr 1
theorem b1o (n:Nat)(w:World)(h:n≤32) :
    Calls Tryz.prog 309 #[.int .i64 n] w fun e w'=>e = .returned (.int .u32 (onesN n:Nat))∧w=w':=by
 refine' qz67
 exact⟨int_eq (by unfold onesN;simp),rfl⟩
theorem g0f (w:World)(m:Nat)(h:m<4294967296) :
    (convert 96 9 (.slice (some ⟨w.heap.size,0,none⟩) 4 4)).run Tryz.prog (w.alloc (.cells #[.int .u8 ((m:Int) / 16777216),.int .u8 ((m:Int) / 65536%256),.int .u8 ((m:Int) / 256%256),.int .u8 ((m:Int)%256)] 5)) = .ok (.string ⟨(fourL m).toArray⟩) (w.alloc (.cells #[.int .u8 ((m:Int) / 16777216),.int .u8 ((m:Int) / 65536%256),.int .u8 ((m:Int) / 256%256),.int .u8 ((m:Int)%256)] 5)):=by
 have h:=World.ownsRow_lit (base:=w.heap.size) (e:=5) (size:=1) w #[.int .u8 ((m:Int) / 16777216),.int .u8 ((m:Int) / 65536%256),.int .u8 ((m:Int) / 256%256),.int .u8 ((m:Int)%256)] 4 (Nat.le_refl _) (by unfold maxLen;omega) rfl
 have e1:(m:Int) / 16777216=((m / 2 ^ 24:Nat):Int)%256:=by omega
 have e2:(m:Int) / 65536=((m / 2 ^ 16:Nat):Int):=by omega
 have e3:(m:Int) / 256=((m / 2 ^ 8:Nat):Int):=by omega
 rw[e1,e2,e3,h0f,h0f,h0f,h0f]at h⊢;exact a0e _ _ 4 _ (fourL m) 4 rfl h
theorem x0b (m:Nat)(w:World)(h:m<4294967296) :
    Calls Tryz.prog 308 #[.int .u32 m] w fun e w'=>e = .returned (.string ⟨(fourL m).toArray⟩)∧Below w.heap.size w w':=by
 have hc:=g0f w m h;refine' qz67;exact⟨rfl,(Below.refl _ _).alloc (Nat.le_refl _) _⟩
def maskB (n:Nat):ByteArray:=⟨(keepL ffs n).toArray⟩
def isLen (n:Int):Bool:=decide (0≤n)&&decide (n≤32)
def ofB (n:Int):ByteArray:=if isLen n=true then maskB n.toNat else⟨#[]⟩
theorem j1h (n:Int)(w:World) :
    Calls Tryz.prog 274 #[.int .i64 n] w fun e w'=>e = .returned (.tuple #[.string (ofB n),.bool (isLen n)])∧Below w.heap.size w w':=by
 by_cases h:0≤n∧n≤32
 · have hl:isLen n=true:=by unfold isLen;simp;omega
   have hb:ofB n=maskB n.toNat:=by unfold ofB;rw[if_pos hl]
   rw[hl,hb];clear hl hb;obtain⟨n,rfl⟩:=Int.eq_ofNat_of_zero_le h.1
   have h32:n≤32:=by omega
   have P1:=Lib.hid (fun w=>b1o n w h32)
   have P2:=Lib.hid (fun w=>x0b (onesN n) w (j1m n))
   rw[s1e n h32]at P2;have e:(ByteArray.mk (keepL ffs n).toArray)=maskB (n:Int).toNat:=rfl;rw[e]at P2;generalize maskB (n:Int).toNat=x at *;generalize onesN n=k at *;clear e h;go_in;refine' qz2q;refine' qzt;refine' qz10;refine' qz2w;exact⟨rfl,hb1⟩
 · have hl:isLen n=false:=by unfold isLen;simp;omega
   have hb:ofB n=⟨#[]⟩:=by unfold ofB;rw[hl];rfl
   rw[hl,hb];clear hl hb;go_in;by_cases h0:n<0
   · refine' qz2w;exact⟨rfl,Below.refl _ _⟩
   · have h32:32<n:=by omega
     refine' qz2w;exact⟨rfl,Below.refl _ _⟩
end Mask
namespace Mask
open Bits
theorem y0x {a b:ByteArray}(h:¬a=b):(a.toList==b.toList)=false:=by
 rw[ByteArray.toList_eq,ByteArray.toList_eq];simp;intro e
 exact h (by cases a;cases b;simp_all)
def lenOf (s:ByteArray):Nat:=alikeN s.data.toList ffs
def isMask (s:ByteArray):Bool:=decide (maskB (lenOf s)=s)
def plenN (s:ByteArray):Nat:=if isMask s=true then lenOf s else 0
theorem a0w (s:ByteArray):lenOf s≤32:=by
 have h:=c0q s.data.toList ffs;have h4:ffs.length=4:=rfl;rw[h4]at h;unfold lenOf;omega
theorem v0r (n:Nat)(h:n≤32):lenOf (maskB n)=n:=k1a n h
theorem x0o (n:Nat)(h:n≤32):isMask (maskB n)=true:=by
 unfold isMask;rw[v0r n h];simp
theorem q1e (n:Nat)(h:n≤32):plenN (maskB n)=n:=by
 unfold plenN;rw[x0o n h,if_pos rfl,v0r n h]
theorem x0t (n:Nat)(h:n≤32):ofB (n:Int)=maskB n∧isLen (n:Int)=true:=by
 have hl:isLen (n:Int)=true:=by unfold isLen;simp;omega
 exact⟨by unfold ofB;rw[if_pos hl,Int.toNat_natCast],hl⟩
theorem q1s (n:Nat)(h:n≤32)(w:World) :
    Calls Tryz.prog 274 #[.int .i64 (n:Int)] w fun e w'=>e = .returned (.tuple #[.string (maskB n),.bool true])∧Below w.heap.size w w':=by
 have:=j1h (n:Int) w;rw[(x0t n h).1,(x0t n h).2]at this;exact this
theorem u0w (s:ByteArray)(w:World)(hs:s.size≤1048576) :
    Calls Tryz.prog 272 #[.string s] w fun e w'=>e = .returned (.tuple #[.int .i64 (plenN s:Nat),.bool (isMask s)])∧Below w.heap.size w w':=by
 have P1:=Lib.hid (fun w=>x0b 4294967295 w (by decide))
 rw[o1k]at P1
 have P2:=Lib.hid (fun w=>d0t s ⟨ffs.toArray⟩ w hs (by decide))
 have e:alikeN s.data.toList (ByteArray.mk ffs.toArray).data.toList=lenOf s:=rfl;rw[e]at P2;have hle:=a0w s
 have P3:=Lib.hid (fun w=>q1s (lenOf s) hle w)
 clear e;by_cases hm:maskB (lenOf s)=s
 · have h1:isMask s=true:=by unfold isMask;simp[hm]
   have h2:plenN s=lenOf s:=by unfold plenN;rw[if_pos h1]
   rw[h1,h2];rw[hm]at P3;clear h1 h2 hm;generalize lenOf s=k at *;go_in;refine' qzh;refine' qz10;refine' qzt;rintro e w2 ⟨rfl,hb2⟩;replace hb2:=bcall hb1 hb2;clear hb1;refine' qz25;rintro e w3 ⟨rfl,hb3⟩;replace hb3:=bcall hb2 hb3;clear hb2;refine' qz2w;exact⟨rfl,hb3⟩
 · have h1:isMask s=false:=by unfold isMask;simp[hm]
   have h2:plenN s=0:=by unfold plenN;rw[h1];rfl
   rw[h1,h2];clear h1 h2;generalize maskB (lenOf s)=x at *;generalize lenOf s=k at *;have hx:=y0x hm;go_in;refine' qzh;refine' qz10;refine' qzt;rintro e w2 ⟨rfl,hb2⟩;replace hb2:=bcall hb1 hb2;clear hb1;refine' qz25;rintro e w3 ⟨rfl,hb3⟩;replace hb3:=bcall hb2 hb3;clear hb2;refine' qz2w;exact⟨rfl,hb3⟩
end Mask
end Go.Proofs.YtllhobicfclheaaGreatDoor
