/- The contracts of the. -/
import Derived.Test.YtddcbeeldjjmeaaGreatDoorProg
import Derived.Test.YtddcbeeldjjmeaaGreatDoorP16
import Derived.Handy
import Derived.BigQuiet
import Derived.Lib.MinMax
set_option linter.unusedVariables false
namespace Go.Proofs.YtddcbeeldjjmeaaGreatDoor.fD
open Go.RowKit
theorem yF{k:IntKind}{a b:Int}(h:a=b):Ending.returned (.int k a)= .returned (.int k b):=by rw[h]
theorem HF(n:Nat)(s:ByteArray)(w:World)(h2:n<=32)(hs:s.size<=maxLen):Calls Tryz.prog 85 #[.int .i64 n, .string s] w fun e w'=>e= .returned (.int .i64 (b3 n s.data.toList:Int))/\w'=w:=by unfold maxLen at hs;go_enter Tryz.func85,Tryz.ntmps85;go_wp2;go_loop[5,9](fun h i=>∃k:Nat,k<=s.size/\i= .int .i64 k/\h= .int .u32 (lx (s.data.toList.take k):Int))(fun _ i=>s.size-(intOf i).toNat);(case atStart=>exact⟨0,Nat.zero_le _,rfl,by rw[List.take_zero,Pm];rfl⟩);case round=>obtain⟨k,hk,rfl,rfl⟩:=hrel;have hl:=Pl (s.data.toList.take k);by_cases hlt:k<s.size;{have hr:=Pt (lx (s.data.toList.take k)) s[k].toNat hl s[k].toNat_lt;rw[<-Pp s k hlt]at hr;have HR:Hid _:=hr;clear hr;go_wp2;go_round;(case rel=>exact⟨k+1,by omega,by go_num,by rw[HR.out]⟩);case measure=>simp[intOf];omega};.have hr:=Ps n (lx (s.data.toList.take k)) h2 hl;have HR:Hid _:=hr;clear hr;go_wp2;go_ret;refine⟨yF ?_,rfl⟩;(have e:k=s.size:=by omega);subst e;unfold b3;have H:=HR.out;rw[Ho s]at H;rw[Ho s];exact H
