/- WHICH FUNCTIONS RUN ALONE, WHICH ARE THE OUTER ONES:. -/
import Derived.Test.YtddcbeeldjjmeaaGreatChecked
import Derived.Test.YtddcbeeldjjmeaaGreatPart10
import Derived.KernelRfl
namespace Go.Proofs.YtddcbeeldjjmeaaGreat
open Go Go.Eq
def fnsM : List Nat:= [6, 7, 8, 9, 10, 11, 12, 13, 14, 15, 16, 17, 18, 20, 21, 22, 23, 24, 25, 26, 27, 28, 29, 30, 31, 32, 33, 34, 35, 36, 38, 39, 40, 41, 42, 43, 44, 45, 46, 47, 48, 49, 51, 52, 53, 54, 55, 56, 57, 58, 59, 60, 61, 62, 64, 65, 66, 67, 68, 69, 70, 71, 72, 73, 74, 75, 76, 77, 78, 79, 84, 85, 86, 87, 88, 89, 90, 91, 92, 93, 112, 113]
def outsM : List Nat:= [3, 4, 5, 19]
def orcsM : List Nat:= [3, 4, 5, 19, 37]
theorem fnsM_fit : fnsM.all (bodyR Tryz.prog true true fnsM) = true:= by kernel_rfl
theorem zerosM_fit : zerosB Tryz.prog = true:= by kernel_rfl
theorem globsM_fit : Tryz.prog.globals.size = 0:= by kernel_rfl
theorem outsM_fit : outsM.all (bodyO Tryz.prog fnsM orcsM) = true:= by kernel_rfl
end Go.Proofs.YtddcbeeldjjmeaaGreat
