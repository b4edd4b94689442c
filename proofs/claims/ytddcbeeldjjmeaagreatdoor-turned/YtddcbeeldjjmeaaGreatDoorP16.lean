/- Bytes, as plain lists:. -/
import Derived.WalkKit
open BitVec renaming ofInt->xw,ofInt_natCast->Z0,toNat_ofNat->Z1
open Go.IntWalk renaming wrap64_in->MR
namespace Go.Proofs.YtddcbeeldjjmeaaGreatDoor.bp
set_option linter.unusedVariables false
set_option linter.unusedSimpArgs false
theorem uV(a:Nat)(ha:a<9223372036854775808):(xw 64 (a:Int)).toNat=a:=by rw[Z0,Z1];exact Nat.mod_eq_of_lt (by omega)
theorem Pg(a b:Nat)(ha:a<9223372036854775808)(hb:b<9223372036854775808):Go.bits .or .i64 (a:Int) (b:Int)=((a|||b:Nat):Int):=by have hx:a|||b<2^63:=Nat.or_lt_two_pow (by omega) (by omega);show IntKind.i64.wrap ((xw 64 (a:Int)|||xw 64 (b:Int)).toNat:Int)=_;rw[BitVec.toNat_or,uV a ha,uV b hb,IntKind.wrap_i64];omega
def dG(n:Nat):UInt8:=UInt8.ofNat n
theorem oo(n:Nat)(h:n<256):(dG n).toNat=n:=by simp[dG];omega
def iU:Nat->Nat->List UInt8|0,_=>[]|f+1,n=>if n<128 then[dG n]else dG (128+n%128)::iU f (n/128)
def cU(n:Nat):List UInt8:=iU 10 n
def e4(n:Nat):List UInt8:=[dG (n/16777216%256),dG (n/65536%256),dG (n/256%256),dG (n%256)]
def bit(s:List UInt8)(i:Nat):Nat:=if s[i]?=some 49 then 1 else 0
theorem jF(s:List UInt8)(i:Nat):bit s i<=1:=by unfold bit;split<;>omega
def jh(s:List UInt8)(j:Nat):Nat:=bit s (8*j)*128+bit s (8*j+1)*64+bit s (8*j+2)*32+bit s (8*j+3)*16+bit s (8*j+4)*8+bit s (8*j+5)*4+bit s (8*j+6)*2+bit s (8*j+7)
theorem B2(s:List UInt8)(j:Nat):jh s j<256:=by unfold jh;have h0:=jF s (8*j);have h1:=jF s (8*j+1);have h2:=jF s (8*j+2);have h3:=jF s (8*j+3);have h4:=jF s (8*j+4);have h5:=jF s (8*j+5);have h6:=jF s (8*j+6);have h7:=jF s (8*j+7);omega
def pack(s:List UInt8):List UInt8:=(List.range ((s.length+7)/8)).map fun j=>dG (jh s j)
def uW(s:List UInt8):Prop:=(∀c,c∈s->c=48\/c=49)/\s.length<=37
def j0(s:List UInt8):List UInt8:=cU s.length++pack s
theorem yx(s:List UInt8)(n i:Nat):bit (s.take n) i=if i<n then bit s i else 0:=by unfold bit;rw[List.getElem?_take];by_cases h:i<n;{rw[if_pos h,if_pos h]};.rw[if_neg h,if_neg h,if_neg (by intro h';cases h')]
theorem B5(s:List UInt8):(pack s).length=(s.length+7)/8:=by simp[pack]
def uX(v:List UInt8):List UInt8:=cU v.length++v
structure bG where
 kind:Int
 path:List UInt8
 value:List UInt8
 left:Int
 right:Int
 deriving DecidableEq
def ji(s:List UInt8):Bool:=s.all (fun c=>c==48||c==49)&&decide (s.length<=37)
theorem uY(s:List UInt8):ji s=true↔uW s:=by simp[ji,uW]
def j4(n:Int):Bool:=decide (0<=n/\n<4294967296)
def empty:bG:=⟨2,[],[],0,0⟩
def iV(n:bG):Option (List UInt8):=if n=empty then some [2]else if n.kind=0/\ji n.path=true/\n.value.length<=20/\n.left=0/\n.right=0 then some (0::(j0 n.path++uX n.value))else if n.kind=1/\ji n.path=true/\n.value=[]/\j4 n.left=true/\j4 n.right=true then some (1::(j0 n.path++(e4 n.left.toNat++e4 n.right.toNat)))else none
end Go.Proofs.YtddcbeeldjjmeaaGreatDoor.bp
namespace Go.Proofs.YtddcbeeldjjmeaaGreatDoor.fD
open Go.RowKit
def oU(h c:Nat):Nat:=((h^^^c)*16777619)%4294967296
def qW(a:Nat)(l:List UInt8):Nat:=l.foldl (fun h c=>oU h c.toNat) a
theorem B6(a:Nat):qW a []=a:=rfl
theorem B7(a:Nat)(c:UInt8)(l:List UInt8):qW a (c::l)=qW (oU a c.toNat) l:=rfl
theorem Ph(a:Nat)(l:List UInt8)(c:UInt8):qW a (l++[c])=oU (qW a l) c.toNat:=by induction l generalizing a with|nil=>rw[List.nil_append,B7,B6,B6]|cons d l ih=>rw[List.cons_append,B7,B7,ih]
theorem Pj(h c:Nat):oU h c<4294967296:=by unfold oU;omega
theorem Pk(l:List UInt8):∀a,a<4294967296->qW a l<4294967296:=by induction l with|nil=>intro a ha;exact ha|cons c l ih=>intro a _;exact ih _ (Pj _ _)
def start:Nat:=2166136261
theorem Hn:start=2166136261:=by unfold start;exact Eq.refl _
def lx(l:List UInt8):Nat:=qW start l
def b3(w:Nat)(l:List UInt8):Nat:=(lx l^^^lx l/32768)%2^w
theorem Pl(l:List UInt8):lx l<4294967296:=Pk l _ (by rw[Hn];omega)
theorem Pm:lx []=2166136261:=by unfold lx;rw[B6,Hn]
theorem Pn(l:List UInt8)(c:UInt8):lx (l++[c])=oU (lx l) c.toNat:=Ph start l c
theorem Po(s:ByteArray)(k:Nat)(h:k<s.size):s.data.toList.take (k+1)=s.data.toList.take k++[s[k]]:=by rw[List.take_succ_eq_append_getElem (by simpa using h)];rfl
theorem Pp(s:ByteArray)(k:Nat)(h:k<s.size):lx (s.data.toList.take (k+1))=oU (lx (s.data.toList.take k)) s[k].toNat:=by rw[Po s k h,Pn]
theorem Ho(s:ByteArray):s.data.toList.take s.size=s.data.toList:=List.take_of_length_le (by simp)
theorem Pq(a b:Nat)(ha:a<4294967296)(hb:b<4294967296):a^^^b<4294967296:=by have:=Nat.xor_lt_two_pow (n:=32) (by simpa using ha) (by simpa using hb);simpa using this
theorem uV(a:Nat)(ha:a<9223372036854775808):(xw 64 (a:Int)).toNat=a:=by rw[Z0,Z1];exact Nat.mod_eq_of_lt (by omega)
theorem Pr(a b:Nat)(ha:a<9223372036854775808)(hb:b<9223372036854775808):bits .and .i64 (a:Int) (b:Int)=((a&&&b:Nat):Int):=by have hx:a&&&b<2^63:=Nat.and_lt_two_pow _ (by omega);show IntKind.i64.wrap ((xw 64 (a:Int)&&&xw 64 (b:Int)).toNat:Int)=_;rw[BitVec.toNat_and,uV a ha,uV b hb,IntKind.wrap_i64];omega
theorem Hp(n:Nat)(h:n<=32):2^n<=4294967296:=by have:=Nat.pow_le_pow_right (n:=2) (by decide) h;simpa using this
theorem Hq(n:Nat):1<=2^n:=Nat.one_le_two_pow
theorem Ps(n h:Nat)(hn:n<=32)(hh:h<4294967296):bits .and .i64 (wrap64 (bits .xor .u32 (h:Int) ((h:Int)/32768))) (wrap64 (wrap64 (2^n)-1))=(((h^^^h/32768)%2^n:Nat):Int):=by
 have e1:bits .xor .u32 (h:Int) ((h:Int)/32768)=((h^^^h/32768:Nat):Int):=by rw[show((h:Int)/32768)=((h/32768:Nat):Int)from by omega];exact u32_xor_nat h (h/32768) hh (by omega)
 have hx:=Pq h (h/32768) hh (by omega);have hp:=Hp n hn;have hp1:=Hq n;have e2:((2:Int)^n)=((2^n:Nat):Int):=by simp
 rw[e1,e2];generalize h^^^h/32768=x at hx⊢;generalize hP:2^n=P at hp hp1⊢;have e3:wrap64 (x:Int)=(x:Int):=MR _ ⟨by omega,by omega⟩;have e4:wrap64 (wrap64 (P:Int)-1)=((P-1:Nat):Int):=by rw[MR (P:Int) ⟨by omega,by omega⟩,MR _ ⟨by omega,by omega⟩];omega
 rw[e3,e4,Pr x (P-1) (by omega) (by omega),<-hP,Nat.and_two_pow_sub_one_eq_mod]
theorem Pt(h c:Nat)(hh:h<4294967296)(hc:c<256):bits .xor .u32 (h:Int) ((c:Int)%4294967296)*16777619%4294967296=((oU h c:Nat):Int):=by rw[show((c:Int)%4294967296)=((c:Nat):Int)from by omega,u32_xor_nat h c hh (by omega)];unfold oU;omega
