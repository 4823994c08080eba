/- Closed facts on the types of this program. -/
import Derived.Test.YtnoegkhkeeameaaProg
import Derived.Test.YtnoegkhkeeameaaAmP
namespace Go.Proofs.Ytnoegkhkeeameaa.AM
open Go.RowKit
@[push_cast] theorem tsz_1 : tsz Try.prog 1 = some 1 := by kernel_rfl
@[push_cast] theorem aggD_1 : aggD Try.prog 1 = some false := by kernel_rfl
@[push_cast] theorem tzero_1 : tzero Try.prog 1 = some [.nilFunc] := by kernel_rfl
@[push_cast] theorem elInfo_1 : elInfo Try.prog 1 = some (1, 8) := by kernel_rfl
@[push_cast] theorem tsz_2 : tsz Try.prog 2 = some 1 := by kernel_rfl
@[push_cast] theorem aggD_2 : aggD Try.prog 2 = some false := by kernel_rfl
@[push_cast] theorem tzero_2 : tzero Try.prog 2 = some [(.int .i64 0)] := by kernel_rfl
@[push_cast] theorem elInfo_2 : elInfo Try.prog 2 = some (1, 8) := by kernel_rfl
@[push_cast] theorem tsz_3 : tsz Try.prog 3 = some 1 := by kernel_rfl
@[push_cast] theorem aggD_3 : aggD Try.prog 3 = some false := by kernel_rfl
@[push_cast] theorem tzero_3 : tzero Try.prog 3 = some [(.int .i64 0)] := by kernel_rfl
@[push_cast] theorem elInfo_3 : elInfo Try.prog 3 = some (1, 8) := by kernel_rfl
@[push_cast] theorem tsz_4 : tsz Try.prog 4 = some 1 := by kernel_rfl
@[push_cast] theorem aggD_4 : aggD Try.prog 4 = some false := by kernel_rfl
@[push_cast] theorem tzero_4 : tzero Try.prog 4 = some [(.bool false)] := by kernel_rfl
@[push_cast] theorem elInfo_4 : elInfo Try.prog 4 = some (1, 1) := by kernel_rfl
@[push_cast] theorem tsz_5 : tsz Try.prog 5 = some 1 := by kernel_rfl
@[push_cast] theorem aggD_5 : aggD Try.prog 5 = some false := by kernel_rfl
@[push_cast] theorem tzero_5 : tzero Try.prog 5 = some [(.int .u8 0)] := by kernel_rfl
@[push_cast] theorem elInfo_5 : elInfo Try.prog 5 = some (1, 1) := by kernel_rfl
@[push_cast] theorem tsz_6 : tsz Try.prog 6 = some 1 := by kernel_rfl
@[push_cast] theorem aggD_6 : aggD Try.prog 6 = some false := by kernel_rfl
@[push_cast] theorem tzero_6 : tzero Try.prog 6 = some [(.int .u8 0)] := by kernel_rfl
@[push_cast] theorem elInfo_6 : elInfo Try.prog 6 = some (1, 1) := by kernel_rfl
@[push_cast] theorem tsz_9 : tsz Try.prog 9 = some 1 := by kernel_rfl
@[push_cast] theorem aggD_9 : aggD Try.prog 9 = some false := by kernel_rfl
@[push_cast] theorem tzero_9 : tzero Try.prog 9 = some [(.string ⟨#[]⟩)] := by kernel_rfl
@[push_cast] theorem elInfo_9 : elInfo Try.prog 9 = some (1, 16) := by kernel_rfl
@[push_cast] theorem tsz_10 : tsz Try.prog 10 = some 1 := by kernel_rfl
@[push_cast] theorem aggD_10 : aggD Try.prog 10 = some false := by kernel_rfl
@[push_cast] theorem tzero_10 : tzero Try.prog 10 = some [(.string ⟨#[]⟩)] := by kernel_rfl
@[push_cast] theorem elInfo_10 : elInfo Try.prog 10 = some (1, 16) := by kernel_rfl
@[push_cast] theorem tsz_11 : tsz Try.prog 11 = some 1 := by kernel_rfl
@[push_cast] theorem aggD_11 : aggD Try.prog 11 = some false := by kernel_rfl
@[push_cast] theorem tzero_11 : tzero Try.prog 11 = some [(.string ⟨#[]⟩)] := by kernel_rfl
@[push_cast] theorem elInfo_11 : elInfo Try.prog 11 = some (1, 16) := by kernel_rfl
@[push_cast] theorem tsz_12 : tsz Try.prog 12 = some 1 := by kernel_rfl
@[push_cast] theorem aggD_12 : aggD Try.prog 12 = some false := by kernel_rfl
@[push_cast] theorem tzero_12 : tzero Try.prog 12 = some [(.int .u64 0)] := by kernel_rfl
@[push_cast] theorem elInfo_12 : elInfo Try.prog 12 = some (1, 8) := by kernel_rfl
@[push_cast] theorem tsz_13 : tsz Try.prog 13 = some 2 := by kernel_rfl
@[push_cast] theorem aggD_13 : aggD Try.prog 13 = some true := by kernel_rfl
@[push_cast] theorem tzero_13 : tzero Try.prog 13 = some [(.string ⟨#[]⟩), (.int .u64 0)] := by kernel_rfl
@[push_cast] theorem elInfo_13 : elInfo Try.prog 13 = some (2, 24) := by kernel_rfl
@[push_cast] theorem fieldP_13_0 : fieldP Try.prog 13 0 = some (0, 9) := by kernel_rfl
@[push_cast] theorem fieldP_13_1 : fieldP Try.prog 13 1 = some (1, 12) := by kernel_rfl
@[push_cast] theorem tsz_21 : tsz Try.prog 21 = some 1 := by kernel_rfl
@[push_cast] theorem aggD_21 : aggD Try.prog 21 = some false := by kernel_rfl
@[push_cast] theorem tzero_21 : tzero Try.prog 21 = some [(.int .i32 0)] := by kernel_rfl
@[push_cast] theorem elInfo_21 : elInfo Try.prog 21 = some (1, 4) := by kernel_rfl
@[push_cast] theorem tsz_22 : tsz Try.prog 22 = some 1 := by kernel_rfl
@[push_cast] theorem aggD_22 : aggD Try.prog 22 = some false := by kernel_rfl
@[push_cast] theorem tzero_22 : tzero Try.prog 22 = some [(.slice none 0 0)] := by kernel_rfl
@[push_cast] theorem elInfo_22 : elInfo Try.prog 22 = some (1, 24) := by kernel_rfl
@[push_cast] theorem tsz_23 : tsz Try.prog 23 = some 1 := by kernel_rfl
@[push_cast] theorem aggD_23 : aggD Try.prog 23 = some false := by kernel_rfl
@[push_cast] theorem tzero_23 : tzero Try.prog 23 = some [(.slice none 0 0)] := by kernel_rfl
@[push_cast] theorem elInfo_23 : elInfo Try.prog 23 = some (1, 24) := by kernel_rfl
@[push_cast] theorem tsz_24 : tsz Try.prog 24 = some 2 := by kernel_rfl
@[push_cast] theorem aggD_24 : aggD Try.prog 24 = some true := by kernel_rfl
@[push_cast] theorem tzero_24 : tzero Try.prog 24 = some [(.slice none 0 0), (.slice none 0 0)] := by kernel_rfl
@[push_cast] theorem elInfo_24 : elInfo Try.prog 24 = some (2, 48) := by kernel_rfl
@[push_cast] theorem fieldP_24_0 : fieldP Try.prog 24 0 = some (0, 22) := by kernel_rfl
@[push_cast] theorem fieldP_24_1 : fieldP Try.prog 24 1 = some (1, 23) := by kernel_rfl
@[push_cast] theorem tsz_25 : tsz Try.prog 25 = some 2 := by kernel_rfl
@[push_cast] theorem aggD_25 : aggD Try.prog 25 = some true := by kernel_rfl
@[push_cast] theorem tzero_25 : tzero Try.prog 25 = some [(.slice none 0 0), (.slice none 0 0)] := by kernel_rfl
@[push_cast] theorem elInfo_25 : elInfo Try.prog 25 = some (2, 48) := by kernel_rfl
@[push_cast] theorem fieldP_25_0 : fieldP Try.prog 25 0 = some (0, 22) := by kernel_rfl
@[push_cast] theorem fieldP_25_1 : fieldP Try.prog 25 1 = some (1, 23) := by kernel_rfl
@[push_cast] theorem tsz_26 : tsz Try.prog 26 = some 2 := by kernel_rfl
@[push_cast] theorem aggD_26 : aggD Try.prog 26 = some true := by kernel_rfl
@[push_cast] theorem tzero_26 : tzero Try.prog 26 = some [(.int .i64 0), (.int .i64 0)] := by kernel_rfl
@[push_cast] theorem elInfo_26 : elInfo Try.prog 26 = some (2, 16) := by kernel_rfl
@[push_cast] theorem fieldP_26_0 : fieldP Try.prog 26 0 = some (0, 3) := by kernel_rfl
@[push_cast] theorem fieldP_26_1 : fieldP Try.prog 26 1 = some (1, 3) := by kernel_rfl
@[push_cast] theorem tsz_27 : tsz Try.prog 27 = some 2 := by kernel_rfl
@[push_cast] theorem aggD_27 : aggD Try.prog 27 = some true := by kernel_rfl
@[push_cast] theorem tzero_27 : tzero Try.prog 27 = some [(.int .i64 0), (.int .i64 0)] := by kernel_rfl
@[push_cast] theorem elInfo_27 : elInfo Try.prog 27 = some (2, 16) := by kernel_rfl
@[push_cast] theorem fieldP_27_0 : fieldP Try.prog 27 0 = some (0, 3) := by kernel_rfl
@[push_cast] theorem fieldP_27_1 : fieldP Try.prog 27 1 = some (1, 3) := by kernel_rfl
@[push_cast] theorem tsz_28 : tsz Try.prog 28 = some 1 := by kernel_rfl
@[push_cast] theorem aggD_28 : aggD Try.prog 28 = some false := by kernel_rfl
@[push_cast] theorem tzero_28 : tzero Try.prog 28 = some [(.slice none 0 0)] := by kernel_rfl
@[push_cast] theorem elInfo_28 : elInfo Try.prog 28 = some (1, 24) := by kernel_rfl
@[push_cast] theorem tsz_29 : tsz Try.prog 29 = some 7 := by kernel_rfl
@[push_cast] theorem aggD_29 : aggD Try.prog 29 = some true := by kernel_rfl
@[push_cast] theorem tzero_29 : tzero Try.prog 29 = some [(.slice none 0 0), (.slice none 0 0), (.int .i64 0), (.int .i64 0), (.string ⟨#[]⟩), (.int .i64 0), (.slice none 0 0)] := by kernel_rfl
@[push_cast] theorem elInfo_29 : elInfo Try.prog 29 = some (7, 112) := by kernel_rfl
@[push_cast] theorem fieldP_29_0 : fieldP Try.prog 29 0 = some (0, 25) := by kernel_rfl
@[push_cast] theorem fieldP_29_1 : fieldP Try.prog 29 1 = some (2, 27) := by kernel_rfl
@[push_cast] theorem fieldP_29_2 : fieldP Try.prog 29 2 = some (4, 9) := by kernel_rfl
@[push_cast] theorem fieldP_29_3 : fieldP Try.prog 29 3 = some (5, 3) := by kernel_rfl
@[push_cast] theorem fieldP_29_4 : fieldP Try.prog 29 4 = some (6, 28) := by kernel_rfl
@[push_cast] theorem tsz_30 : tsz Try.prog 30 = some 7 := by kernel_rfl
@[push_cast] theorem aggD_30 : aggD Try.prog 30 = some true := by kernel_rfl
@[push_cast] theorem tzero_30 : tzero Try.prog 30 = some [(.slice none 0 0), (.slice none 0 0), (.int .i64 0), (.int .i64 0), (.string ⟨#[]⟩), (.int .i64 0), (.slice none 0 0)] := by kernel_rfl
@[push_cast] theorem elInfo_30 : elInfo Try.prog 30 = some (7, 112) := by kernel_rfl
@[push_cast] theorem fieldP_30_0 : fieldP Try.prog 30 0 = some (0, 25) := by kernel_rfl
@[push_cast] theorem fieldP_30_1 : fieldP Try.prog 30 1 = some (2, 27) := by kernel_rfl
@[push_cast] theorem fieldP_30_2 : fieldP Try.prog 30 2 = some (4, 9) := by kernel_rfl
@[push_cast] theorem fieldP_30_3 : fieldP Try.prog 30 3 = some (5, 3) := by kernel_rfl
@[push_cast] theorem fieldP_30_4 : fieldP Try.prog 30 4 = some (6, 28) := by kernel_rfl
@[push_cast] theorem tsz_31 : tsz Try.prog 31 = some 1 := by kernel_rfl
@[push_cast] theorem aggD_31 : aggD Try.prog 31 = some false := by kernel_rfl
@[push_cast] theorem tzero_31 : tzero Try.prog 31 = some [.nilFunc] := by kernel_rfl
@[push_cast] theorem elInfo_31 : elInfo Try.prog 31 = some (1, 8) := by kernel_rfl
@[push_cast] theorem tsz_32 : tsz Try.prog 32 = some 1 := by kernel_rfl
@[push_cast] theorem aggD_32 : aggD Try.prog 32 = some false := by kernel_rfl
@[push_cast] theorem tzero_32 : tzero Try.prog 32 = some [.nilFunc] := by kernel_rfl
@[push_cast] theorem elInfo_32 : elInfo Try.prog 32 = some (1, 8) := by kernel_rfl
@[push_cast] theorem tsz_33 : tsz Try.prog 33 = some 2 := by kernel_rfl
@[push_cast] theorem aggD_33 : aggD Try.prog 33 = some true := by kernel_rfl
@[push_cast] theorem tzero_33 : tzero Try.prog 33 = some [(.int .i64 0), (.int .i64 0)] := by kernel_rfl
@[push_cast] theorem elInfo_33 : elInfo Try.prog 33 = some (2, 16) := by kernel_rfl
@[push_cast] theorem fieldP_33_0 : fieldP Try.prog 33 0 = some (0, 3) := by kernel_rfl
@[push_cast] theorem fieldP_33_1 : fieldP Try.prog 33 1 = some (1, 3) := by kernel_rfl
@[push_cast] theorem tsz_34 : tsz Try.prog 34 = some 3 := by kernel_rfl
@[push_cast] theorem aggD_34 : aggD Try.prog 34 = some true := by kernel_rfl
@[push_cast] theorem tzero_34 : tzero Try.prog 34 = some [(.int .i64 0), (.slice none 0 0), (.int .i64 0)] := by kernel_rfl
@[push_cast] theorem elInfo_34 : elInfo Try.prog 34 = some (3, 40) := by kernel_rfl
@[push_cast] theorem fieldP_34_0 : fieldP Try.prog 34 0 = some (0, 3) := by kernel_rfl
@[push_cast] theorem fieldP_34_1 : fieldP Try.prog 34 1 = some (1, 22) := by kernel_rfl
@[push_cast] theorem fieldP_34_2 : fieldP Try.prog 34 2 = some (2, 3) := by kernel_rfl
@[push_cast] theorem tsz_35 : tsz Try.prog 35 = some 3 := by kernel_rfl
@[push_cast] theorem aggD_35 : aggD Try.prog 35 = some true := by kernel_rfl
@[push_cast] theorem tzero_35 : tzero Try.prog 35 = some [(.int .i64 0), (.slice none 0 0), (.int .i64 0)] := by kernel_rfl
@[push_cast] theorem elInfo_35 : elInfo Try.prog 35 = some (3, 40) := by kernel_rfl
@[push_cast] theorem fieldP_35_0 : fieldP Try.prog 35 0 = some (0, 3) := by kernel_rfl
@[push_cast] theorem fieldP_35_1 : fieldP Try.prog 35 1 = some (1, 22) := by kernel_rfl
@[push_cast] theorem fieldP_35_2 : fieldP Try.prog 35 2 = some (2, 3) := by kernel_rfl
@[push_cast] theorem tsz_36 : tsz Try.prog 36 = some 1 := by kernel_rfl
@[push_cast] theorem aggD_36 : aggD Try.prog 36 = some false := by kernel_rfl
@[push_cast] theorem tzero_36 : tzero Try.prog 36 = some [(.int .i64 0)] := by kernel_rfl
@[push_cast] theorem elInfo_36 : elInfo Try.prog 36 = some (1, 8) := by kernel_rfl
@[push_cast] theorem tsz_38 : tsz Try.prog 38 = some 1 := by kernel_rfl
@[push_cast] theorem aggD_38 : aggD Try.prog 38 = some false := by kernel_rfl
@[push_cast] theorem tzero_38 : tzero Try.prog 38 = some [.nilFunc] := by kernel_rfl
@[push_cast] theorem elInfo_38 : elInfo Try.prog 38 = some (1, 8) := by kernel_rfl
@[push_cast] theorem tsz_39 : tsz Try.prog 39 = some 1 := by kernel_rfl
@[push_cast] theorem aggD_39 : aggD Try.prog 39 = some false := by kernel_rfl
@[push_cast] theorem tzero_39 : tzero Try.prog 39 = some [.nilFunc] := by kernel_rfl
@[push_cast] theorem elInfo_39 : elInfo Try.prog 39 = some (1, 8) := by kernel_rfl
@[push_cast] theorem tsz_40 : tsz Try.prog 40 = some 1 := by kernel_rfl
@[push_cast] theorem aggD_40 : aggD Try.prog 40 = some false := by kernel_rfl
@[push_cast] theorem tzero_40 : tzero Try.prog 40 = some [(.slice none 0 0)] := by kernel_rfl
@[push_cast] theorem elInfo_40 : elInfo Try.prog 40 = some (1, 24) := by kernel_rfl
@[push_cast] theorem tsz_42 : tsz Try.prog 42 = some 1 := by kernel_rfl
@[push_cast] theorem aggD_42 : aggD Try.prog 42 = some false := by kernel_rfl
@[push_cast] theorem tzero_42 : tzero Try.prog 42 = some [.nilFunc] := by kernel_rfl
@[push_cast] theorem elInfo_42 : elInfo Try.prog 42 = some (1, 8) := by kernel_rfl
@[push_cast] theorem tsz_44 : tsz Try.prog 44 = some 1 := by kernel_rfl
@[push_cast] theorem aggD_44 : aggD Try.prog 44 = some false := by kernel_rfl
@[push_cast] theorem tzero_44 : tzero Try.prog 44 = some [.nilFunc] := by kernel_rfl
@[push_cast] theorem elInfo_44 : elInfo Try.prog 44 = some (1, 8) := by kernel_rfl
@[push_cast] theorem tsz_45 : tsz Try.prog 45 = some 1 := by kernel_rfl
@[push_cast] theorem aggD_45 : aggD Try.prog 45 = some false := by kernel_rfl
@[push_cast] theorem tzero_45 : tzero Try.prog 45 = some [.nilFunc] := by kernel_rfl
@[push_cast] theorem elInfo_45 : elInfo Try.prog 45 = some (1, 8) := by kernel_rfl
@[push_cast] theorem tsz_46 : tsz Try.prog 46 = some 1 := by kernel_rfl
@[push_cast] theorem aggD_46 : aggD Try.prog 46 = some false := by kernel_rfl
@[push_cast] theorem tzero_46 : tzero Try.prog 46 = some [.nilFunc] := by kernel_rfl
@[push_cast] theorem elInfo_46 : elInfo Try.prog 46 = some (1, 8) := by kernel_rfl
@[push_cast] theorem tsz_47 : tsz Try.prog 47 = some 1 := by kernel_rfl
@[push_cast] theorem aggD_47 : aggD Try.prog 47 = some false := by kernel_rfl
@[push_cast] theorem tzero_47 : tzero Try.prog 47 = some [.nilFunc] := by kernel_rfl
@[push_cast] theorem elInfo_47 : elInfo Try.prog 47 = some (1, 8) := by kernel_rfl
@[push_cast] theorem tsz_48 : tsz Try.prog 48 = some 1 := by kernel_rfl
@[push_cast] theorem aggD_48 : aggD Try.prog 48 = some false := by kernel_rfl
@[push_cast] theorem tzero_48 : tzero Try.prog 48 = some [.nilFunc] := by kernel_rfl
@[push_cast] theorem elInfo_48 : elInfo Try.prog 48 = some (1, 8) := by kernel_rfl
@[push_cast] theorem tsz_49 : tsz Try.prog 49 = some 1 := by kernel_rfl
@[push_cast] theorem aggD_49 : aggD Try.prog 49 = some false := by kernel_rfl
@[push_cast] theorem tzero_49 : tzero Try.prog 49 = some [.nilFunc] := by kernel_rfl
@[push_cast] theorem elInfo_49 : elInfo Try.prog 49 = some (1, 8) := by kernel_rfl
@[push_cast] theorem tsz_51 : tsz Try.prog 51 = some 1 := by kernel_rfl
@[push_cast] theorem aggD_51 : aggD Try.prog 51 = some false := by kernel_rfl
@[push_cast] theorem tzero_51 : tzero Try.prog 51 = some [.nilFunc] := by kernel_rfl
@[push_cast] theorem elInfo_51 : elInfo Try.prog 51 = some (1, 8) := by kernel_rfl
@[push_cast] theorem tsz_52 : tsz Try.prog 52 = some 5 := by kernel_rfl
@[push_cast] theorem aggD_52 : aggD Try.prog 52 = some true := by kernel_rfl
@[push_cast] theorem tzero_52 : tzero Try.prog 52 = some [(.int .i64 0), (.int .i64 0), (.int .i64 0), (.int .i64 0), (.int .i64 0)] := by kernel_rfl
@[push_cast] theorem elInfo_52 : elInfo Try.prog 52 = some (5, 40) := by kernel_rfl
@[push_cast] theorem fieldP_52_0 : fieldP Try.prog 52 0 = some (0, 3) := by kernel_rfl
@[push_cast] theorem fieldP_52_1 : fieldP Try.prog 52 1 = some (1, 3) := by kernel_rfl
@[push_cast] theorem fieldP_52_2 : fieldP Try.prog 52 2 = some (2, 3) := by kernel_rfl
@[push_cast] theorem fieldP_52_3 : fieldP Try.prog 52 3 = some (3, 3) := by kernel_rfl
@[push_cast] theorem fieldP_52_4 : fieldP Try.prog 52 4 = some (4, 3) := by kernel_rfl
@[push_cast] theorem tsz_53 : tsz Try.prog 53 = some 5 := by kernel_rfl
@[push_cast] theorem aggD_53 : aggD Try.prog 53 = some true := by kernel_rfl
@[push_cast] theorem tzero_53 : tzero Try.prog 53 = some [(.int .i64 0), (.int .i64 0), (.int .i64 0), (.int .i64 0), (.int .i64 0)] := by kernel_rfl
@[push_cast] theorem elInfo_53 : elInfo Try.prog 53 = some (5, 40) := by kernel_rfl
@[push_cast] theorem fieldP_53_0 : fieldP Try.prog 53 0 = some (0, 3) := by kernel_rfl
@[push_cast] theorem fieldP_53_1 : fieldP Try.prog 53 1 = some (1, 3) := by kernel_rfl
@[push_cast] theorem fieldP_53_2 : fieldP Try.prog 53 2 = some (2, 3) := by kernel_rfl
@[push_cast] theorem fieldP_53_3 : fieldP Try.prog 53 3 = some (3, 3) := by kernel_rfl
@[push_cast] theorem fieldP_53_4 : fieldP Try.prog 53 4 = some (4, 3) := by kernel_rfl
@[push_cast] theorem tsz_55 : tsz Try.prog 55 = some 1 := by kernel_rfl
@[push_cast] theorem aggD_55 : aggD Try.prog 55 = some false := by kernel_rfl
@[push_cast] theorem tzero_55 : tzero Try.prog 55 = some [.nilFunc] := by kernel_rfl
@[push_cast] theorem elInfo_55 : elInfo Try.prog 55 = some (1, 8) := by kernel_rfl
@[push_cast] theorem tsz_56 : tsz Try.prog 56 = some 1 := by kernel_rfl
@[push_cast] theorem aggD_56 : aggD Try.prog 56 = some false := by kernel_rfl
@[push_cast] theorem tzero_56 : tzero Try.prog 56 = some [.nilFunc] := by kernel_rfl
@[push_cast] theorem elInfo_56 : elInfo Try.prog 56 = some (1, 8) := by kernel_rfl
@[push_cast] theorem tsz_58 : tsz Try.prog 58 = some 1 := by kernel_rfl
@[push_cast] theorem aggD_58 : aggD Try.prog 58 = some false := by kernel_rfl
@[push_cast] theorem tzero_58 : tzero Try.prog 58 = some [.nilFunc] := by kernel_rfl
@[push_cast] theorem elInfo_58 : elInfo Try.prog 58 = some (1, 8) := by kernel_rfl
@[push_cast] theorem tsz_59 : tsz Try.prog 59 = some 1 := by kernel_rfl
@[push_cast] theorem aggD_59 : aggD Try.prog 59 = some false := by kernel_rfl
@[push_cast] theorem tzero_59 : tzero Try.prog 59 = some [.nilFunc] := by kernel_rfl
@[push_cast] theorem elInfo_59 : elInfo Try.prog 59 = some (1, 8) := by kernel_rfl
@[push_cast] theorem tsz_60 : tsz Try.prog 60 = some 1 := by kernel_rfl
@[push_cast] theorem aggD_60 : aggD Try.prog 60 = some false := by kernel_rfl
@[push_cast] theorem tzero_60 : tzero Try.prog 60 = some [.nilFunc] := by kernel_rfl
@[push_cast] theorem elInfo_60 : elInfo Try.prog 60 = some (1, 8) := by kernel_rfl
@[push_cast] theorem tsz_61 : tsz Try.prog 61 = some 2 := by kernel_rfl
@[push_cast] theorem aggD_61 : aggD Try.prog 61 = some true := by kernel_rfl
@[push_cast] theorem tzero_61 : tzero Try.prog 61 = some [(.int .i64 0), (.string ⟨#[]⟩)] := by kernel_rfl
@[push_cast] theorem elInfo_61 : elInfo Try.prog 61 = some (2, 24) := by kernel_rfl
@[push_cast] theorem fieldP_61_0 : fieldP Try.prog 61 0 = some (0, 3) := by kernel_rfl
@[push_cast] theorem fieldP_61_1 : fieldP Try.prog 61 1 = some (1, 9) := by kernel_rfl
@[push_cast] theorem tsz_62 : tsz Try.prog 62 = some 2 := by kernel_rfl
@[push_cast] theorem aggD_62 : aggD Try.prog 62 = some true := by kernel_rfl
@[push_cast] theorem tzero_62 : tzero Try.prog 62 = some [(.int .i64 0), (.string ⟨#[]⟩)] := by kernel_rfl
@[push_cast] theorem elInfo_62 : elInfo Try.prog 62 = some (2, 24) := by kernel_rfl
@[push_cast] theorem fieldP_62_0 : fieldP Try.prog 62 0 = some (0, 3) := by kernel_rfl
@[push_cast] theorem fieldP_62_1 : fieldP Try.prog 62 1 = some (1, 9) := by kernel_rfl
@[push_cast] theorem tsz_63 : tsz Try.prog 63 = some 1 := by kernel_rfl
@[push_cast] theorem aggD_63 : aggD Try.prog 63 = some false := by kernel_rfl
@[push_cast] theorem tzero_63 : tzero Try.prog 63 = some [.nilFunc] := by kernel_rfl
@[push_cast] theorem elInfo_63 : elInfo Try.prog 63 = some (1, 8) := by kernel_rfl
@[push_cast] theorem tsz_64 : tsz Try.prog 64 = some 1 := by kernel_rfl
@[push_cast] theorem aggD_64 : aggD Try.prog 64 = some false := by kernel_rfl
@[push_cast] theorem tzero_64 : tzero Try.prog 64 = some [.nilFunc] := by kernel_rfl
@[push_cast] theorem elInfo_64 : elInfo Try.prog 64 = some (1, 8) := by kernel_rfl
@[push_cast] theorem tsz_65 : tsz Try.prog 65 = some 3 := by kernel_rfl
@[push_cast] theorem aggD_65 : aggD Try.prog 65 = some true := by kernel_rfl
@[push_cast] theorem tzero_65 : tzero Try.prog 65 = some [(.int .i64 0), (.slice none 0 0), (.int .i64 0)] := by kernel_rfl
@[push_cast] theorem elInfo_65 : elInfo Try.prog 65 = some (3, 40) := by kernel_rfl
@[push_cast] theorem fieldP_65_0 : fieldP Try.prog 65 0 = some (0, 3) := by kernel_rfl
@[push_cast] theorem fieldP_65_1 : fieldP Try.prog 65 1 = some (1, 22) := by kernel_rfl
@[push_cast] theorem fieldP_65_2 : fieldP Try.prog 65 2 = some (2, 3) := by kernel_rfl
@[push_cast] theorem tsz_66 : tsz Try.prog 66 = some 1 := by kernel_rfl
@[push_cast] theorem aggD_66 : aggD Try.prog 66 = some false := by kernel_rfl
@[push_cast] theorem tzero_66 : tzero Try.prog 66 = some [.nilFunc] := by kernel_rfl
@[push_cast] theorem elInfo_66 : elInfo Try.prog 66 = some (1, 8) := by kernel_rfl
@[push_cast] theorem tsz_67 : tsz Try.prog 67 = some 1 := by kernel_rfl
@[push_cast] theorem aggD_67 : aggD Try.prog 67 = some false := by kernel_rfl
@[push_cast] theorem tzero_67 : tzero Try.prog 67 = some [.nilFunc] := by kernel_rfl
@[push_cast] theorem elInfo_67 : elInfo Try.prog 67 = some (1, 8) := by kernel_rfl
@[push_cast] theorem tsz_68 : tsz Try.prog 68 = some 1 := by kernel_rfl
@[push_cast] theorem aggD_68 : aggD Try.prog 68 = some false := by kernel_rfl
@[push_cast] theorem tzero_68 : tzero Try.prog 68 = some [.nilFunc] := by kernel_rfl
@[push_cast] theorem elInfo_68 : elInfo Try.prog 68 = some (1, 8) := by kernel_rfl
@[push_cast] theorem tsz_69 : tsz Try.prog 69 = some 1 := by kernel_rfl
@[push_cast] theorem aggD_69 : aggD Try.prog 69 = some false := by kernel_rfl
@[push_cast] theorem tzero_69 : tzero Try.prog 69 = some [.nilFunc] := by kernel_rfl
@[push_cast] theorem elInfo_69 : elInfo Try.prog 69 = some (1, 8) := by kernel_rfl
@[push_cast] theorem tsz_70 : tsz Try.prog 70 = some 1 := by kernel_rfl
@[push_cast] theorem aggD_70 : aggD Try.prog 70 = some false := by kernel_rfl
@[push_cast] theorem tzero_70 : tzero Try.prog 70 = some [.nilFunc] := by kernel_rfl
@[push_cast] theorem elInfo_70 : elInfo Try.prog 70 = some (1, 8) := by kernel_rfl
@[push_cast] theorem tsz_71 : tsz Try.prog 71 = some 1 := by kernel_rfl
@[push_cast] theorem aggD_71 : aggD Try.prog 71 = some false := by kernel_rfl
@[push_cast] theorem tzero_71 : tzero Try.prog 71 = some [.nilFunc] := by kernel_rfl
@[push_cast] theorem elInfo_71 : elInfo Try.prog 71 = some (1, 8) := by kernel_rfl
@[push_cast] theorem tsz_73 : tsz Try.prog 73 = some 1 := by kernel_rfl
@[push_cast] theorem aggD_73 : aggD Try.prog 73 = some false := by kernel_rfl
@[push_cast] theorem tzero_73 : tzero Try.prog 73 = some [.nilFunc] := by kernel_rfl
@[push_cast] theorem elInfo_73 : elInfo Try.prog 73 = some (1, 8) := by kernel_rfl
@[push_cast] theorem tsz_74 : tsz Try.prog 74 = some 5 := by kernel_rfl
@[push_cast] theorem aggD_74 : aggD Try.prog 74 = some true := by kernel_rfl
@[push_cast] theorem tzero_74 : tzero Try.prog 74 = some [(.int .i64 0), (.int .i64 0), (.int .i64 0), (.int .i64 0), (.int .i64 0)] := by kernel_rfl
@[push_cast] theorem elInfo_74 : elInfo Try.prog 74 = some (5, 40) := by kernel_rfl
@[push_cast] theorem fieldP_74_0 : fieldP Try.prog 74 0 = some (0, 3) := by kernel_rfl
@[push_cast] theorem fieldP_74_1 : fieldP Try.prog 74 1 = some (1, 3) := by kernel_rfl
@[push_cast] theorem fieldP_74_2 : fieldP Try.prog 74 2 = some (2, 3) := by kernel_rfl
@[push_cast] theorem fieldP_74_3 : fieldP Try.prog 74 3 = some (3, 3) := by kernel_rfl
@[push_cast] theorem fieldP_74_4 : fieldP Try.prog 74 4 = some (4, 3) := by kernel_rfl
@[push_cast] theorem tsz_76 : tsz Try.prog 76 = some 1 := by kernel_rfl
@[push_cast] theorem aggD_76 : aggD Try.prog 76 = some false := by kernel_rfl
@[push_cast] theorem tzero_76 : tzero Try.prog 76 = some [.nilFunc] := by kernel_rfl
@[push_cast] theorem elInfo_76 : elInfo Try.prog 76 = some (1, 8) := by kernel_rfl
@[push_cast] theorem tsz_78 : tsz Try.prog 78 = some 1 := by kernel_rfl
@[push_cast] theorem aggD_78 : aggD Try.prog 78 = some false := by kernel_rfl
@[push_cast] theorem tzero_78 : tzero Try.prog 78 = some [.nilFunc] := by kernel_rfl
@[push_cast] theorem elInfo_78 : elInfo Try.prog 78 = some (1, 8) := by kernel_rfl
@[push_cast] theorem tsz_79 : tsz Try.prog 79 = some 3 := by kernel_rfl
@[push_cast] theorem aggD_79 : aggD Try.prog 79 = some true := by kernel_rfl
@[push_cast] theorem tzero_79 : tzero Try.prog 79 = some [(.int .i64 0), (.int .i64 0), (.int .i64 0)] := by kernel_rfl
@[push_cast] theorem elInfo_79 : elInfo Try.prog 79 = some (3, 24) := by kernel_rfl
@[push_cast] theorem fieldP_79_0 : fieldP Try.prog 79 0 = some (0, 33) := by kernel_rfl
@[push_cast] theorem fieldP_79_1 : fieldP Try.prog 79 1 = some (2, 3) := by kernel_rfl
@[push_cast] theorem tsz_80 : tsz Try.prog 80 = some 3 := by kernel_rfl
@[push_cast] theorem aggD_80 : aggD Try.prog 80 = some true := by kernel_rfl
@[push_cast] theorem tzero_80 : tzero Try.prog 80 = some [(.int .i64 0), (.int .i64 0), (.int .i64 0)] := by kernel_rfl
@[push_cast] theorem elInfo_80 : elInfo Try.prog 80 = some (3, 24) := by kernel_rfl
@[push_cast] theorem fieldP_80_0 : fieldP Try.prog 80 0 = some (0, 33) := by kernel_rfl
@[push_cast] theorem fieldP_80_1 : fieldP Try.prog 80 1 = some (2, 3) := by kernel_rfl
@[push_cast] theorem tsz_81 : tsz Try.prog 81 = some 1 := by kernel_rfl
@[push_cast] theorem aggD_81 : aggD Try.prog 81 = some false := by kernel_rfl
@[push_cast] theorem tzero_81 : tzero Try.prog 81 = some [.nilFunc] := by kernel_rfl
@[push_cast] theorem elInfo_81 : elInfo Try.prog 81 = some (1, 8) := by kernel_rfl
@[push_cast] theorem tsz_82 : tsz Try.prog 82 = some 1 := by kernel_rfl
@[push_cast] theorem aggD_82 : aggD Try.prog 82 = some false := by kernel_rfl
@[push_cast] theorem tzero_82 : tzero Try.prog 82 = some [.nilFunc] := by kernel_rfl
@[push_cast] theorem elInfo_82 : elInfo Try.prog 82 = some (1, 8) := by kernel_rfl
@[push_cast] theorem tsz_83 : tsz Try.prog 83 = some 1 := by kernel_rfl
@[push_cast] theorem aggD_83 : aggD Try.prog 83 = some false := by kernel_rfl
@[push_cast] theorem tzero_83 : tzero Try.prog 83 = some [.nilFunc] := by kernel_rfl
@[push_cast] theorem elInfo_83 : elInfo Try.prog 83 = some (1, 8) := by kernel_rfl
@[push_cast] theorem tsz_84 : tsz Try.prog 84 = some 1 := by kernel_rfl
@[push_cast] theorem aggD_84 : aggD Try.prog 84 = some false := by kernel_rfl
@[push_cast] theorem tzero_84 : tzero Try.prog 84 = some [.nilFunc] := by kernel_rfl
@[push_cast] theorem elInfo_84 : elInfo Try.prog 84 = some (1, 8) := by kernel_rfl
@[push_cast] theorem tsz_85 : tsz Try.prog 85 = some 3 := by kernel_rfl
@[push_cast] theorem aggD_85 : aggD Try.prog 85 = some true := by kernel_rfl
@[push_cast] theorem tzero_85 : tzero Try.prog 85 = some [(.bool false), (.int .i64 0), (.string ⟨#[]⟩)] := by kernel_rfl
@[push_cast] theorem elInfo_85 : elInfo Try.prog 85 = some (3, 32) := by kernel_rfl
@[push_cast] theorem fieldP_85_0 : fieldP Try.prog 85 0 = some (0, 4) := by kernel_rfl
@[push_cast] theorem fieldP_85_1 : fieldP Try.prog 85 1 = some (1, 3) := by kernel_rfl
@[push_cast] theorem fieldP_85_2 : fieldP Try.prog 85 2 = some (2, 9) := by kernel_rfl
@[push_cast] theorem tsz_86 : tsz Try.prog 86 = some 3 := by kernel_rfl
@[push_cast] theorem aggD_86 : aggD Try.prog 86 = some true := by kernel_rfl
@[push_cast] theorem tzero_86 : tzero Try.prog 86 = some [(.bool false), (.int .i64 0), (.string ⟨#[]⟩)] := by kernel_rfl
@[push_cast] theorem elInfo_86 : elInfo Try.prog 86 = some (3, 32) := by kernel_rfl
@[push_cast] theorem fieldP_86_0 : fieldP Try.prog 86 0 = some (0, 4) := by kernel_rfl
@[push_cast] theorem fieldP_86_1 : fieldP Try.prog 86 1 = some (1, 3) := by kernel_rfl
@[push_cast] theorem fieldP_86_2 : fieldP Try.prog 86 2 = some (2, 9) := by kernel_rfl
@[push_cast] theorem tsz_87 : tsz Try.prog 87 = some 1 := by kernel_rfl
@[push_cast] theorem aggD_87 : aggD Try.prog 87 = some false := by kernel_rfl
@[push_cast] theorem tzero_87 : tzero Try.prog 87 = some [.nilFunc] := by kernel_rfl
@[push_cast] theorem elInfo_87 : elInfo Try.prog 87 = some (1, 8) := by kernel_rfl
@[push_cast] theorem tsz_88 : tsz Try.prog 88 = some 1 := by kernel_rfl
@[push_cast] theorem aggD_88 : aggD Try.prog 88 = some false := by kernel_rfl
@[push_cast] theorem tzero_88 : tzero Try.prog 88 = some [.nilFunc] := by kernel_rfl
@[push_cast] theorem elInfo_88 : elInfo Try.prog 88 = some (1, 8) := by kernel_rfl
@[push_cast] theorem tsz_89 : tsz Try.prog 89 = some 1 := by kernel_rfl
@[push_cast] theorem aggD_89 : aggD Try.prog 89 = some false := by kernel_rfl
@[push_cast] theorem tzero_89 : tzero Try.prog 89 = some [.nilFunc] := by kernel_rfl
@[push_cast] theorem elInfo_89 : elInfo Try.prog 89 = some (1, 8) := by kernel_rfl
@[push_cast] theorem tsz_90 : tsz Try.prog 90 = some 1 := by kernel_rfl
@[push_cast] theorem aggD_90 : aggD Try.prog 90 = some false := by kernel_rfl
@[push_cast] theorem tzero_90 : tzero Try.prog 90 = some [.nilFunc] := by kernel_rfl
@[push_cast] theorem elInfo_90 : elInfo Try.prog 90 = some (1, 8) := by kernel_rfl
@[push_cast] theorem tsz_91 : tsz Try.prog 91 = some 1 := by kernel_rfl
@[push_cast] theorem aggD_91 : aggD Try.prog 91 = some false := by kernel_rfl
@[push_cast] theorem tzero_91 : tzero Try.prog 91 = some [.nilFunc] := by kernel_rfl
@[push_cast] theorem elInfo_91 : elInfo Try.prog 91 = some (1, 8) := by kernel_rfl
@[push_cast] theorem tsz_92 : tsz Try.prog 92 = some 1 := by kernel_rfl
@[push_cast] theorem aggD_92 : aggD Try.prog 92 = some false := by kernel_rfl
@[push_cast] theorem tzero_92 : tzero Try.prog 92 = some [.nilFunc] := by kernel_rfl
@[push_cast] theorem elInfo_92 : elInfo Try.prog 92 = some (1, 8) := by kernel_rfl
@[push_cast] theorem tsz_93 : tsz Try.prog 93 = some 1 := by kernel_rfl
@[push_cast] theorem aggD_93 : aggD Try.prog 93 = some false := by kernel_rfl
@[push_cast] theorem tzero_93 : tzero Try.prog 93 = some [.nilFunc] := by kernel_rfl
@[push_cast] theorem elInfo_93 : elInfo Try.prog 93 = some (1, 8) := by kernel_rfl
@[push_cast] theorem tsz_94 : tsz Try.prog 94 = some 1 := by kernel_rfl
@[push_cast] theorem aggD_94 : aggD Try.prog 94 = some false := by kernel_rfl
@[push_cast] theorem tzero_94 : tzero Try.prog 94 = some [.nilFunc] := by kernel_rfl
@[push_cast] theorem elInfo_94 : elInfo Try.prog 94 = some (1, 8) := by kernel_rfl
@[push_cast] theorem tsz_95 : tsz Try.prog 95 = some 1 := by kernel_rfl
@[push_cast] theorem aggD_95 : aggD Try.prog 95 = some false := by kernel_rfl
@[push_cast] theorem tzero_95 : tzero Try.prog 95 = some [.nilFunc] := by kernel_rfl
@[push_cast] theorem elInfo_95 : elInfo Try.prog 95 = some (1, 8) := by kernel_rfl
@[push_cast] theorem tsz_96 : tsz Try.prog 96 = some 1 := by kernel_rfl
@[push_cast] theorem aggD_96 : aggD Try.prog 96 = some false := by kernel_rfl
@[push_cast] theorem tzero_96 : tzero Try.prog 96 = some [.nilFunc] := by kernel_rfl
@[push_cast] theorem elInfo_96 : elInfo Try.prog 96 = some (1, 8) := by kernel_rfl
@[push_cast] theorem tsz_97 : tsz Try.prog 97 = some 1 := by kernel_rfl
@[push_cast] theorem aggD_97 : aggD Try.prog 97 = some false := by kernel_rfl
@[push_cast] theorem tzero_97 : tzero Try.prog 97 = some [.nilFunc] := by kernel_rfl
@[push_cast] theorem elInfo_97 : elInfo Try.prog 97 = some (1, 8) := by kernel_rfl
@[push_cast] theorem tsz_98 : tsz Try.prog 98 = some 1 := by kernel_rfl
@[push_cast] theorem aggD_98 : aggD Try.prog 98 = some false := by kernel_rfl
@[push_cast] theorem tzero_98 : tzero Try.prog 98 = some [.nilFunc] := by kernel_rfl
@[push_cast] theorem elInfo_98 : elInfo Try.prog 98 = some (1, 8) := by kernel_rfl
@[push_cast] theorem tsz_99 : tsz Try.prog 99 = some 1 := by kernel_rfl
@[push_cast] theorem aggD_99 : aggD Try.prog 99 = some false := by kernel_rfl
@[push_cast] theorem tzero_99 : tzero Try.prog 99 = some [.nilFunc] := by kernel_rfl
@[push_cast] theorem elInfo_99 : elInfo Try.prog 99 = some (1, 8) := by kernel_rfl
@[push_cast] theorem tsz_100 : tsz Try.prog 100 = some 1 := by kernel_rfl
@[push_cast] theorem aggD_100 : aggD Try.prog 100 = some false := by kernel_rfl
@[push_cast] theorem tzero_100 : tzero Try.prog 100 = some [.nilFunc] := by kernel_rfl
@[push_cast] theorem elInfo_100 : elInfo Try.prog 100 = some (1, 8) := by kernel_rfl
@[push_cast] theorem tsz_101 : tsz Try.prog 101 = some 1 := by kernel_rfl
@[push_cast] theorem aggD_101 : aggD Try.prog 101 = some false := by kernel_rfl
@[push_cast] theorem tzero_101 : tzero Try.prog 101 = some [.nilFunc] := by kernel_rfl
@[push_cast] theorem elInfo_101 : elInfo Try.prog 101 = some (1, 8) := by kernel_rfl
@[push_cast] theorem tsz_102 : tsz Try.prog 102 = some 1 := by kernel_rfl
@[push_cast] theorem aggD_102 : aggD Try.prog 102 = some false := by kernel_rfl
@[push_cast] theorem tzero_102 : tzero Try.prog 102 = some [(.slice none 0 0)] := by kernel_rfl
@[push_cast] theorem elInfo_102 : elInfo Try.prog 102 = some (1, 24) := by kernel_rfl
@[push_cast] theorem tsz_103 : tsz Try.prog 103 = some 1 := by kernel_rfl
@[push_cast] theorem aggD_103 : aggD Try.prog 103 = some false := by kernel_rfl
@[push_cast] theorem tzero_103 : tzero Try.prog 103 = some [.nilFunc] := by kernel_rfl
@[push_cast] theorem elInfo_103 : elInfo Try.prog 103 = some (1, 8) := by kernel_rfl
@[push_cast] theorem tsz_104 : tsz Try.prog 104 = some 1 := by kernel_rfl
@[push_cast] theorem aggD_104 : aggD Try.prog 104 = some false := by kernel_rfl
@[push_cast] theorem tzero_104 : tzero Try.prog 104 = some [.nilFunc] := by kernel_rfl
@[push_cast] theorem elInfo_104 : elInfo Try.prog 104 = some (1, 8) := by kernel_rfl
@[push_cast] theorem tsz_105 : tsz Try.prog 105 = some 1 := by kernel_rfl
@[push_cast] theorem aggD_105 : aggD Try.prog 105 = some false := by kernel_rfl
@[push_cast] theorem tzero_105 : tzero Try.prog 105 = some [(.int .u64 0)] := by kernel_rfl
@[push_cast] theorem elInfo_105 : elInfo Try.prog 105 = some (1, 8) := by kernel_rfl
@[push_cast] theorem tsz_113 : tsz Try.prog 113 = some 1 := by kernel_rfl
@[push_cast] theorem aggD_113 : aggD Try.prog 113 = some false := by kernel_rfl
@[push_cast] theorem tzero_113 : tzero Try.prog 113 = some [.nilFunc] := by kernel_rfl
@[push_cast] theorem elInfo_113 : elInfo Try.prog 113 = some (1, 8) := by kernel_rfl
@[push_cast] theorem tsz_114 : tsz Try.prog 114 = some 1 := by kernel_rfl
@[push_cast] theorem aggD_114 : aggD Try.prog 114 = some false := by kernel_rfl
@[push_cast] theorem tzero_114 : tzero Try.prog 114 = some [.nilFunc] := by kernel_rfl
@[push_cast] theorem elInfo_114 : elInfo Try.prog 114 = some (1, 8) := by kernel_rfl
@[push_cast] theorem tsz_115 : tsz Try.prog 115 = some 1 := by kernel_rfl
@[push_cast] theorem aggD_115 : aggD Try.prog 115 = some false := by kernel_rfl
@[push_cast] theorem tzero_115 : tzero Try.prog 115 = some [.nilFunc] := by kernel_rfl
@[push_cast] theorem elInfo_115 : elInfo Try.prog 115 = some (1, 8) := by kernel_rfl
@[push_cast] theorem tsz_117 : tsz Try.prog 117 = some 1 := by kernel_rfl
@[push_cast] theorem aggD_117 : aggD Try.prog 117 = some false := by kernel_rfl
@[push_cast] theorem tzero_117 : tzero Try.prog 117 = some [.nilFunc] := by kernel_rfl
@[push_cast] theorem elInfo_117 : elInfo Try.prog 117 = some (1, 8) := by kernel_rfl
@[push_cast] theorem tsz_118 : tsz Try.prog 118 = some 1 := by kernel_rfl
@[push_cast] theorem aggD_118 : aggD Try.prog 118 = some false := by kernel_rfl
@[push_cast] theorem tzero_118 : tzero Try.prog 118 = some [.nilFunc] := by kernel_rfl
@[push_cast] theorem elInfo_118 : elInfo Try.prog 118 = some (1, 8) := by kernel_rfl
@[push_cast] theorem tsz_119 : tsz Try.prog 119 = some 1 := by kernel_rfl
@[push_cast] theorem aggD_119 : aggD Try.prog 119 = some false := by kernel_rfl
@[push_cast] theorem tzero_119 : tzero Try.prog 119 = some [.nilFunc] := by kernel_rfl
@[push_cast] theorem elInfo_119 : elInfo Try.prog 119 = some (1, 8) := by kernel_rfl
@[push_cast] theorem tsz_120 : tsz Try.prog 120 = some 1 := by kernel_rfl
@[push_cast] theorem aggD_120 : aggD Try.prog 120 = some false := by kernel_rfl
@[push_cast] theorem tzero_120 : tzero Try.prog 120 = some [(.slice none 0 0)] := by kernel_rfl
@[push_cast] theorem elInfo_120 : elInfo Try.prog 120 = some (1, 24) := by kernel_rfl
@[push_cast] theorem tsz_121 : tsz Try.prog 121 = some 1 := by kernel_rfl
@[push_cast] theorem aggD_121 : aggD Try.prog 121 = some false := by kernel_rfl
@[push_cast] theorem tzero_121 : tzero Try.prog 121 = some [(.pointer none)] := by kernel_rfl
@[push_cast] theorem elInfo_121 : elInfo Try.prog 121 = some (1, 8) := by kernel_rfl
@[push_cast] theorem tsz_123 : tsz Try.prog 123 = some 1 := by kernel_rfl
@[push_cast] theorem aggD_123 : aggD Try.prog 123 = some false := by kernel_rfl
@[push_cast] theorem tzero_123 : tzero Try.prog 123 = some [.nilFunc] := by kernel_rfl
@[push_cast] theorem elInfo_123 : elInfo Try.prog 123 = some (1, 8) := by kernel_rfl
@[push_cast] theorem tsz_124 : tsz Try.prog 124 = some 1 := by kernel_rfl
@[push_cast] theorem aggD_124 : aggD Try.prog 124 = some false := by kernel_rfl
@[push_cast] theorem tzero_124 : tzero Try.prog 124 = some [.nilFunc] := by kernel_rfl
@[push_cast] theorem elInfo_124 : elInfo Try.prog 124 = some (1, 8) := by kernel_rfl
@[push_cast] theorem tsz_125 : tsz Try.prog 125 = some 1 := by kernel_rfl
@[push_cast] theorem aggD_125 : aggD Try.prog 125 = some false := by kernel_rfl
@[push_cast] theorem tzero_125 : tzero Try.prog 125 = some [(.int .u32 0)] := by kernel_rfl
@[push_cast] theorem elInfo_125 : elInfo Try.prog 125 = some (1, 4) := by kernel_rfl
@[push_cast] theorem tsz_127 : tsz Try.prog 127 = some 1 := by kernel_rfl
@[push_cast] theorem aggD_127 : aggD Try.prog 127 = some false := by kernel_rfl
@[push_cast] theorem tzero_127 : tzero Try.prog 127 = some [.nilFunc] := by kernel_rfl
@[push_cast] theorem elInfo_127 : elInfo Try.prog 127 = some (1, 8) := by kernel_rfl
@[push_cast] theorem tsz_128 : tsz Try.prog 128 = some 1 := by kernel_rfl
@[push_cast] theorem aggD_128 : aggD Try.prog 128 = some false := by kernel_rfl
@[push_cast] theorem tzero_128 : tzero Try.prog 128 = some [(.int .u64 0)] := by kernel_rfl
@[push_cast] theorem elInfo_128 : elInfo Try.prog 128 = some (1, 8) := by kernel_rfl
@[push_cast] theorem tsz_130 : tsz Try.prog 130 = some 1 := by kernel_rfl
@[push_cast] theorem aggD_130 : aggD Try.prog 130 = some false := by kernel_rfl
@[push_cast] theorem tzero_130 : tzero Try.prog 130 = some [.nilFunc] := by kernel_rfl
@[push_cast] theorem elInfo_130 : elInfo Try.prog 130 = some (1, 8) := by kernel_rfl
@[push_cast] theorem tsz_133 : tsz Try.prog 133 = some 1 := by kernel_rfl
@[push_cast] theorem aggD_133 : aggD Try.prog 133 = some false := by kernel_rfl
@[push_cast] theorem tzero_133 : tzero Try.prog 133 = some [.nilFunc] := by kernel_rfl
@[push_cast] theorem elInfo_133 : elInfo Try.prog 133 = some (1, 8) := by kernel_rfl
@[push_cast] theorem tsz_139 : tsz Try.prog 139 = some 1 := by kernel_rfl
@[push_cast] theorem aggD_139 : aggD Try.prog 139 = some false := by kernel_rfl
@[push_cast] theorem tzero_139 : tzero Try.prog 139 = some [(.int .u8 0)] := by kernel_rfl
@[push_cast] theorem elInfo_139 : elInfo Try.prog 139 = some (1, 1) := by kernel_rfl
@[push_cast] theorem tsz_140 : tsz Try.prog 140 = some 1 := by kernel_rfl
@[push_cast] theorem aggD_140 : aggD Try.prog 140 = some false := by kernel_rfl
@[push_cast] theorem tzero_140 : tzero Try.prog 140 = some [(.int .u8 0)] := by kernel_rfl
@[push_cast] theorem elInfo_140 : elInfo Try.prog 140 = some (1, 1) := by kernel_rfl
@[push_cast] theorem tsz_142 : tsz Try.prog 142 = some 1 := by kernel_rfl
@[push_cast] theorem aggD_142 : aggD Try.prog 142 = some false := by kernel_rfl
@[push_cast] theorem tzero_142 : tzero Try.prog 142 = some [(.int .i32 0)] := by kernel_rfl
@[push_cast] theorem elInfo_142 : elInfo Try.prog 142 = some (1, 4) := by kernel_rfl
@[push_cast] theorem tsz_143 : tsz Try.prog 143 = some 1 := by kernel_rfl
@[push_cast] theorem aggD_143 : aggD Try.prog 143 = some false := by kernel_rfl
@[push_cast] theorem tzero_143 : tzero Try.prog 143 = some [(.int .i32 0)] := by kernel_rfl
@[push_cast] theorem elInfo_143 : elInfo Try.prog 143 = some (1, 4) := by kernel_rfl
@[push_cast] theorem layT_13 : layT Try.prog 13 = some [(0, 1), (1, 1)] := by kernel_rfl
@[push_cast] theorem layT_24 : layT Try.prog 24 = some [(0, 1), (1, 1)] := by kernel_rfl
@[push_cast] theorem layT_25 : layT Try.prog 25 = some [(0, 1), (1, 1)] := by kernel_rfl
@[push_cast] theorem layT_26 : layT Try.prog 26 = some [(0, 1), (1, 1)] := by kernel_rfl
@[push_cast] theorem layT_27 : layT Try.prog 27 = some [(0, 1), (1, 1)] := by kernel_rfl
@[push_cast] theorem layT_29 : layT Try.prog 29 = some [(0, 2), (2, 2), (4, 1), (5, 1), (6, 1)] := by kernel_rfl
@[push_cast] theorem layT_30 : layT Try.prog 30 = some [(0, 2), (2, 2), (4, 1), (5, 1), (6, 1)] := by kernel_rfl
@[push_cast] theorem layT_33 : layT Try.prog 33 = some [(0, 1), (1, 1)] := by kernel_rfl
@[push_cast] theorem layT_34 : layT Try.prog 34 = some [(0, 1), (1, 1), (2, 1)] := by kernel_rfl
@[push_cast] theorem layT_35 : layT Try.prog 35 = some [(0, 1), (1, 1), (2, 1)] := by kernel_rfl
@[push_cast] theorem layT_52 : layT Try.prog 52 = some [(0, 1), (1, 1), (2, 1), (3, 1), (4, 1)] := by kernel_rfl
@[push_cast] theorem layT_53 : layT Try.prog 53 = some [(0, 1), (1, 1), (2, 1), (3, 1), (4, 1)] := by kernel_rfl
@[push_cast] theorem layT_61 : layT Try.prog 61 = some [(0, 1), (1, 1)] := by kernel_rfl
@[push_cast] theorem layT_62 : layT Try.prog 62 = some [(0, 1), (1, 1)] := by kernel_rfl
@[push_cast] theorem layT_65 : layT Try.prog 65 = some [(0, 1), (1, 1), (2, 1)] := by kernel_rfl
@[push_cast] theorem layT_74 : layT Try.prog 74 = some [(0, 1), (1, 1), (2, 1), (3, 1), (4, 1)] := by kernel_rfl
@[push_cast] theorem layT_79 : layT Try.prog 79 = some [(0, 2), (2, 1)] := by kernel_rfl
@[push_cast] theorem layT_80 : layT Try.prog 80 = some [(0, 2), (2, 1)] := by kernel_rfl
@[push_cast] theorem layT_85 : layT Try.prog 85 = some [(0, 1), (1, 1), (2, 1)] := by kernel_rfl
@[push_cast] theorem layT_86 : layT Try.prog 86 = some [(0, 1), (1, 1), (2, 1)] := by kernel_rfl
attribute [push_cast] Try.underlying1 Try.underlying2 Try.underlying3 Try.underlying4 Try.underlying5 Try.underlying6 Try.underlying9 Try.underlying10 Try.underlying11 Try.underlying12 Try.underlying13 Try.underlying21 Try.underlying22 Try.underlying23 Try.underlying24 Try.underlying25 Try.underlying26 Try.underlying27 Try.underlying28 Try.underlying29 Try.underlying30 Try.underlying31 Try.underlying32 Try.underlying33 Try.underlying34 Try.underlying35 Try.underlying36 Try.underlying38 Try.underlying39 Try.underlying40 Try.underlying42 Try.underlying44 Try.underlying45 Try.underlying46 Try.underlying47 Try.underlying48 Try.underlying49 Try.underlying51 Try.underlying52 Try.underlying53 Try.underlying55 Try.underlying56 Try.underlying58 Try.underlying59 Try.underlying60 Try.underlying61 Try.underlying62 Try.underlying63 Try.underlying64 Try.underlying65 Try.underlying66 Try.underlying67 Try.underlying68 Try.underlying69 Try.underlying70 Try.underlying71 Try.underlying73 Try.underlying74 Try.underlying76 Try.underlying78 Try.underlying79 Try.underlying80 Try.underlying81 Try.underlying82 Try.underlying83 Try.underlying84 Try.underlying85 Try.underlying86 Try.underlying87 Try.underlying88 Try.underlying89 Try.underlying90 Try.underlying91 Try.underlying92 Try.underlying93 Try.underlying94 Try.underlying95 Try.underlying96 Try.underlying97 Try.underlying98 Try.underlying99 Try.underlying100 Try.underlying101 Try.underlying102 Try.underlying103 Try.underlying104 Try.underlying105 Try.underlying113 Try.underlying114 Try.underlying115 Try.underlying117 Try.underlying118 Try.underlying119 Try.underlying120 Try.underlying121 Try.underlying123 Try.underlying124 Try.underlying125 Try.underlying127 Try.underlying128 Try.underlying130 Try.underlying133 Try.underlying139 Try.underlying140 Try.underlying142 Try.underlying143
end Go.Proofs.Ytnoegkhkeeameaa.AM
