/- Closed facts on the types of this program. -/
import Derived.Test.YtlideclkieadbaaProg
import Derived.Test.YtlideclkieadbaaAmP
namespace Go.Proofs.Ytlideclkieadbaa.AM
open Go.RowKit
@[push_cast] theorem tsz_1 : tsz Try.prog 1 = some 1 := by kernel_rfl
@[push_cast] theorem aggD_1 : aggD Try.prog 1 = some false := by kernel_rfl
@[push_cast] theorem tzero_1 : tzero Try.prog 1 = some [.nilFunc] := by kernel_rfl
@[push_cast] theorem elInfo_1 : elInfo Try.prog 1 = some (1, 8) := by kernel_rfl
@[push_cast] theorem tsz_2 : tsz Try.prog 2 = some 1 := by kernel_rfl
@[push_cast] theorem aggD_2 : aggD Try.prog 2 = some false := by kernel_rfl
@[push_cast] theorem tzero_2 : tzero Try.prog 2 = some [(.int .i64 0)] := by kernel_rfl
@[push_cast] theorem elInfo_2 : elInfo Try.prog 2 = some (1, 8) := by kernel_rfl
@[push_cast] theorem tsz_3 : tsz Try.prog 3 = some 1 := by kernel_rfl
@[push_cast] theorem aggD_3 : aggD Try.prog 3 = some false := by kernel_rfl
@[push_cast] theorem tzero_3 : tzero Try.prog 3 = some [(.int .i64 0)] := by kernel_rfl
@[push_cast] theorem elInfo_3 : elInfo Try.prog 3 = some (1, 8) := by kernel_rfl
@[push_cast] theorem tsz_4 : tsz Try.prog 4 = some 1 := by kernel_rfl
@[push_cast] theorem aggD_4 : aggD Try.prog 4 = some false := by kernel_rfl
@[push_cast] theorem tzero_4 : tzero Try.prog 4 = some [(.bool false)] := by kernel_rfl
@[push_cast] theorem elInfo_4 : elInfo Try.prog 4 = some (1, 1) := by kernel_rfl
@[push_cast] theorem tsz_5 : tsz Try.prog 5 = some 1 := by kernel_rfl
@[push_cast] theorem aggD_5 : aggD Try.prog 5 = some false := by kernel_rfl
@[push_cast] theorem tzero_5 : tzero Try.prog 5 = some [(.int .u8 0)] := by kernel_rfl
@[push_cast] theorem elInfo_5 : elInfo Try.prog 5 = some (1, 1) := by kernel_rfl
@[push_cast] theorem tsz_6 : tsz Try.prog 6 = some 1 := by kernel_rfl
@[push_cast] theorem aggD_6 : aggD Try.prog 6 = some false := by kernel_rfl
@[push_cast] theorem tzero_6 : tzero Try.prog 6 = some [(.int .u8 0)] := by kernel_rfl
@[push_cast] theorem elInfo_6 : elInfo Try.prog 6 = some (1, 1) := by kernel_rfl
@[push_cast] theorem tsz_9 : tsz Try.prog 9 = some 1 := by kernel_rfl
@[push_cast] theorem aggD_9 : aggD Try.prog 9 = some false := by kernel_rfl
@[push_cast] theorem tzero_9 : tzero Try.prog 9 = some [(.string ⟨#[]⟩)] := by kernel_rfl
@[push_cast] theorem elInfo_9 : elInfo Try.prog 9 = some (1, 16) := by kernel_rfl
@[push_cast] theorem tsz_10 : tsz Try.prog 10 = some 1 := by kernel_rfl
@[push_cast] theorem aggD_10 : aggD Try.prog 10 = some false := by kernel_rfl
@[push_cast] theorem tzero_10 : tzero Try.prog 10 = some [(.string ⟨#[]⟩)] := by kernel_rfl
@[push_cast] theorem elInfo_10 : elInfo Try.prog 10 = some (1, 16) := by kernel_rfl
@[push_cast] theorem tsz_11 : tsz Try.prog 11 = some 1 := by kernel_rfl
@[push_cast] theorem aggD_11 : aggD Try.prog 11 = some false := by kernel_rfl
@[push_cast] theorem tzero_11 : tzero Try.prog 11 = some [(.string ⟨#[]⟩)] := by kernel_rfl
@[push_cast] theorem elInfo_11 : elInfo Try.prog 11 = some (1, 16) := by kernel_rfl
@[push_cast] theorem tsz_12 : tsz Try.prog 12 = some 1 := by kernel_rfl
@[push_cast] theorem aggD_12 : aggD Try.prog 12 = some false := by kernel_rfl
@[push_cast] theorem tzero_12 : tzero Try.prog 12 = some [(.int .u64 0)] := by kernel_rfl
@[push_cast] theorem elInfo_12 : elInfo Try.prog 12 = some (1, 8) := by kernel_rfl
@[push_cast] theorem tsz_13 : tsz Try.prog 13 = some 2 := by kernel_rfl
@[push_cast] theorem aggD_13 : aggD Try.prog 13 = some true := by kernel_rfl
@[push_cast] theorem tzero_13 : tzero Try.prog 13 = some [(.string ⟨#[]⟩), (.int .u64 0)] := by kernel_rfl
@[push_cast] theorem elInfo_13 : elInfo Try.prog 13 = some (2, 24) := by kernel_rfl
@[push_cast] theorem fieldP_13_0 : fieldP Try.prog 13 0 = some (0, 9) := by kernel_rfl
@[push_cast] theorem fieldP_13_1 : fieldP Try.prog 13 1 = some (1, 12) := by kernel_rfl
@[push_cast] theorem tsz_21 : tsz Try.prog 21 = some 1 := by kernel_rfl
@[push_cast] theorem aggD_21 : aggD Try.prog 21 = some false := by kernel_rfl
@[push_cast] theorem tzero_21 : tzero Try.prog 21 = some [(.int .i32 0)] := by kernel_rfl
@[push_cast] theorem elInfo_21 : elInfo Try.prog 21 = some (1, 4) := by kernel_rfl
@[push_cast] theorem tsz_22 : tsz Try.prog 22 = some 5 := by kernel_rfl
@[push_cast] theorem aggD_22 : aggD Try.prog 22 = some true := by kernel_rfl
@[push_cast] theorem tzero_22 : tzero Try.prog 22 = some [(.int .i64 0), (.int .i64 0), (.int .i64 0), (.int .i64 0), (.int .i64 0)] := by kernel_rfl
@[push_cast] theorem elInfo_22 : elInfo Try.prog 22 = some (5, 40) := by kernel_rfl
@[push_cast] theorem fieldP_22_0 : fieldP Try.prog 22 0 = some (0, 3) := by kernel_rfl
@[push_cast] theorem fieldP_22_1 : fieldP Try.prog 22 1 = some (1, 3) := by kernel_rfl
@[push_cast] theorem fieldP_22_2 : fieldP Try.prog 22 2 = some (2, 3) := by kernel_rfl
@[push_cast] theorem fieldP_22_3 : fieldP Try.prog 22 3 = some (3, 3) := by kernel_rfl
@[push_cast] theorem fieldP_22_4 : fieldP Try.prog 22 4 = some (4, 3) := by kernel_rfl
@[push_cast] theorem tsz_23 : tsz Try.prog 23 = some 5 := by kernel_rfl
@[push_cast] theorem aggD_23 : aggD Try.prog 23 = some true := by kernel_rfl
@[push_cast] theorem tzero_23 : tzero Try.prog 23 = some [(.int .i64 0), (.int .i64 0), (.int .i64 0), (.int .i64 0), (.int .i64 0)] := by kernel_rfl
@[push_cast] theorem elInfo_23 : elInfo Try.prog 23 = some (5, 40) := by kernel_rfl
@[push_cast] theorem fieldP_23_0 : fieldP Try.prog 23 0 = some (0, 3) := by kernel_rfl
@[push_cast] theorem fieldP_23_1 : fieldP Try.prog 23 1 = some (1, 3) := by kernel_rfl
@[push_cast] theorem fieldP_23_2 : fieldP Try.prog 23 2 = some (2, 3) := by kernel_rfl
@[push_cast] theorem fieldP_23_3 : fieldP Try.prog 23 3 = some (3, 3) := by kernel_rfl
@[push_cast] theorem fieldP_23_4 : fieldP Try.prog 23 4 = some (4, 3) := by kernel_rfl
@[push_cast] theorem tsz_24 : tsz Try.prog 24 = some 1 := by kernel_rfl
@[push_cast] theorem aggD_24 : aggD Try.prog 24 = some false := by kernel_rfl
@[push_cast] theorem tzero_24 : tzero Try.prog 24 = some [.nilFunc] := by kernel_rfl
@[push_cast] theorem elInfo_24 : elInfo Try.prog 24 = some (1, 8) := by kernel_rfl
@[push_cast] theorem tsz_25 : tsz Try.prog 25 = some 1 := by kernel_rfl
@[push_cast] theorem aggD_25 : aggD Try.prog 25 = some false := by kernel_rfl
@[push_cast] theorem tzero_25 : tzero Try.prog 25 = some [(.slice none 0 0)] := by kernel_rfl
@[push_cast] theorem elInfo_25 : elInfo Try.prog 25 = some (1, 24) := by kernel_rfl
@[push_cast] theorem tsz_26 : tsz Try.prog 26 = some 1 := by kernel_rfl
@[push_cast] theorem aggD_26 : aggD Try.prog 26 = some false := by kernel_rfl
@[push_cast] theorem tzero_26 : tzero Try.prog 26 = some [.nilFunc] := by kernel_rfl
@[push_cast] theorem elInfo_26 : elInfo Try.prog 26 = some (1, 8) := by kernel_rfl
@[push_cast] theorem tsz_27 : tsz Try.prog 27 = some 1 := by kernel_rfl
@[push_cast] theorem aggD_27 : aggD Try.prog 27 = some false := by kernel_rfl
@[push_cast] theorem tzero_27 : tzero Try.prog 27 = some [.nilFunc] := by kernel_rfl
@[push_cast] theorem elInfo_27 : elInfo Try.prog 27 = some (1, 8) := by kernel_rfl
@[push_cast] theorem tsz_29 : tsz Try.prog 29 = some 1 := by kernel_rfl
@[push_cast] theorem aggD_29 : aggD Try.prog 29 = some false := by kernel_rfl
@[push_cast] theorem tzero_29 : tzero Try.prog 29 = some [.nilFunc] := by kernel_rfl
@[push_cast] theorem elInfo_29 : elInfo Try.prog 29 = some (1, 8) := by kernel_rfl
@[push_cast] theorem tsz_30 : tsz Try.prog 30 = some 5 := by kernel_rfl
@[push_cast] theorem aggD_30 : aggD Try.prog 30 = some true := by kernel_rfl
@[push_cast] theorem tzero_30 : tzero Try.prog 30 = some [(.int .i64 0), (.int .i64 0), (.int .i64 0), (.int .i64 0), (.int .i64 0)] := by kernel_rfl
@[push_cast] theorem elInfo_30 : elInfo Try.prog 30 = some (5, 40) := by kernel_rfl
@[push_cast] theorem fieldP_30_0 : fieldP Try.prog 30 0 = some (0, 3) := by kernel_rfl
@[push_cast] theorem fieldP_30_1 : fieldP Try.prog 30 1 = some (1, 3) := by kernel_rfl
@[push_cast] theorem fieldP_30_2 : fieldP Try.prog 30 2 = some (2, 3) := by kernel_rfl
@[push_cast] theorem fieldP_30_3 : fieldP Try.prog 30 3 = some (3, 3) := by kernel_rfl
@[push_cast] theorem fieldP_30_4 : fieldP Try.prog 30 4 = some (4, 3) := by kernel_rfl
@[push_cast] theorem tsz_32 : tsz Try.prog 32 = some 1 := by kernel_rfl
@[push_cast] theorem aggD_32 : aggD Try.prog 32 = some false := by kernel_rfl
@[push_cast] theorem tzero_32 : tzero Try.prog 32 = some [.nilFunc] := by kernel_rfl
@[push_cast] theorem elInfo_32 : elInfo Try.prog 32 = some (1, 8) := by kernel_rfl
@[push_cast] theorem tsz_33 : tsz Try.prog 33 = some 1 := by kernel_rfl
@[push_cast] theorem aggD_33 : aggD Try.prog 33 = some false := by kernel_rfl
@[push_cast] theorem tzero_33 : tzero Try.prog 33 = some [.nilFunc] := by kernel_rfl
@[push_cast] theorem elInfo_33 : elInfo Try.prog 33 = some (1, 8) := by kernel_rfl
@[push_cast] theorem tsz_34 : tsz Try.prog 34 = some 1 := by kernel_rfl
@[push_cast] theorem aggD_34 : aggD Try.prog 34 = some false := by kernel_rfl
@[push_cast] theorem tzero_34 : tzero Try.prog 34 = some [.nilFunc] := by kernel_rfl
@[push_cast] theorem elInfo_34 : elInfo Try.prog 34 = some (1, 8) := by kernel_rfl
@[push_cast] theorem tsz_35 : tsz Try.prog 35 = some 2 := by kernel_rfl
@[push_cast] theorem aggD_35 : aggD Try.prog 35 = some true := by kernel_rfl
@[push_cast] theorem tzero_35 : tzero Try.prog 35 = some [(.int .i64 0), (.int .i64 0)] := by kernel_rfl
@[push_cast] theorem elInfo_35 : elInfo Try.prog 35 = some (2, 16) := by kernel_rfl
@[push_cast] theorem tsz_36 : tsz Try.prog 36 = some 1 := by kernel_rfl
@[push_cast] theorem aggD_36 : aggD Try.prog 36 = some false := by kernel_rfl
@[push_cast] theorem tzero_36 : tzero Try.prog 36 = some [(.slice none 0 0)] := by kernel_rfl
@[push_cast] theorem elInfo_36 : elInfo Try.prog 36 = some (1, 24) := by kernel_rfl
@[push_cast] theorem tsz_37 : tsz Try.prog 37 = some 1 := by kernel_rfl
@[push_cast] theorem aggD_37 : aggD Try.prog 37 = some false := by kernel_rfl
@[push_cast] theorem tzero_37 : tzero Try.prog 37 = some [.nilFunc] := by kernel_rfl
@[push_cast] theorem elInfo_37 : elInfo Try.prog 37 = some (1, 8) := by kernel_rfl
@[push_cast] theorem tsz_38 : tsz Try.prog 38 = some 1 := by kernel_rfl
@[push_cast] theorem aggD_38 : aggD Try.prog 38 = some false := by kernel_rfl
@[push_cast] theorem tzero_38 : tzero Try.prog 38 = some [(.slice none 0 0)] := by kernel_rfl
@[push_cast] theorem elInfo_38 : elInfo Try.prog 38 = some (1, 24) := by kernel_rfl
@[push_cast] theorem tsz_39 : tsz Try.prog 39 = some 2 := by kernel_rfl
@[push_cast] theorem aggD_39 : aggD Try.prog 39 = some true := by kernel_rfl
@[push_cast] theorem tzero_39 : tzero Try.prog 39 = some [(.slice none 0 0), (.slice none 0 0)] := by kernel_rfl
@[push_cast] theorem elInfo_39 : elInfo Try.prog 39 = some (2, 48) := by kernel_rfl
@[push_cast] theorem fieldP_39_0 : fieldP Try.prog 39 0 = some (0, 25) := by kernel_rfl
@[push_cast] theorem fieldP_39_1 : fieldP Try.prog 39 1 = some (1, 38) := by kernel_rfl
@[push_cast] theorem tsz_40 : tsz Try.prog 40 = some 2 := by kernel_rfl
@[push_cast] theorem aggD_40 : aggD Try.prog 40 = some true := by kernel_rfl
@[push_cast] theorem tzero_40 : tzero Try.prog 40 = some [(.slice none 0 0), (.slice none 0 0)] := by kernel_rfl
@[push_cast] theorem elInfo_40 : elInfo Try.prog 40 = some (2, 48) := by kernel_rfl
@[push_cast] theorem fieldP_40_0 : fieldP Try.prog 40 0 = some (0, 25) := by kernel_rfl
@[push_cast] theorem fieldP_40_1 : fieldP Try.prog 40 1 = some (1, 38) := by kernel_rfl
@[push_cast] theorem tsz_41 : tsz Try.prog 41 = some 2 := by kernel_rfl
@[push_cast] theorem aggD_41 : aggD Try.prog 41 = some true := by kernel_rfl
@[push_cast] theorem tzero_41 : tzero Try.prog 41 = some [(.int .i64 0), (.int .i64 0)] := by kernel_rfl
@[push_cast] theorem elInfo_41 : elInfo Try.prog 41 = some (2, 16) := by kernel_rfl
@[push_cast] theorem fieldP_41_0 : fieldP Try.prog 41 0 = some (0, 3) := by kernel_rfl
@[push_cast] theorem fieldP_41_1 : fieldP Try.prog 41 1 = some (1, 3) := by kernel_rfl
@[push_cast] theorem tsz_42 : tsz Try.prog 42 = some 2 := by kernel_rfl
@[push_cast] theorem aggD_42 : aggD Try.prog 42 = some true := by kernel_rfl
@[push_cast] theorem tzero_42 : tzero Try.prog 42 = some [(.int .i64 0), (.int .i64 0)] := by kernel_rfl
@[push_cast] theorem elInfo_42 : elInfo Try.prog 42 = some (2, 16) := by kernel_rfl
@[push_cast] theorem fieldP_42_0 : fieldP Try.prog 42 0 = some (0, 3) := by kernel_rfl
@[push_cast] theorem fieldP_42_1 : fieldP Try.prog 42 1 = some (1, 3) := by kernel_rfl
@[push_cast] theorem tsz_43 : tsz Try.prog 43 = some 1 := by kernel_rfl
@[push_cast] theorem aggD_43 : aggD Try.prog 43 = some false := by kernel_rfl
@[push_cast] theorem tzero_43 : tzero Try.prog 43 = some [(.slice none 0 0)] := by kernel_rfl
@[push_cast] theorem elInfo_43 : elInfo Try.prog 43 = some (1, 24) := by kernel_rfl
@[push_cast] theorem tsz_44 : tsz Try.prog 44 = some 7 := by kernel_rfl
@[push_cast] theorem aggD_44 : aggD Try.prog 44 = some true := by kernel_rfl
@[push_cast] theorem tzero_44 : tzero Try.prog 44 = some [(.slice none 0 0), (.slice none 0 0), (.int .i64 0), (.int .i64 0), (.string ⟨#[]⟩), (.int .i64 0), (.slice none 0 0)] := by kernel_rfl
@[push_cast] theorem elInfo_44 : elInfo Try.prog 44 = some (7, 112) := by kernel_rfl
@[push_cast] theorem fieldP_44_0 : fieldP Try.prog 44 0 = some (0, 40) := by kernel_rfl
@[push_cast] theorem fieldP_44_1 : fieldP Try.prog 44 1 = some (2, 42) := by kernel_rfl
@[push_cast] theorem fieldP_44_2 : fieldP Try.prog 44 2 = some (4, 9) := by kernel_rfl
@[push_cast] theorem fieldP_44_3 : fieldP Try.prog 44 3 = some (5, 3) := by kernel_rfl
@[push_cast] theorem fieldP_44_4 : fieldP Try.prog 44 4 = some (6, 43) := by kernel_rfl
@[push_cast] theorem tsz_45 : tsz Try.prog 45 = some 7 := by kernel_rfl
@[push_cast] theorem aggD_45 : aggD Try.prog 45 = some true := by kernel_rfl
@[push_cast] theorem tzero_45 : tzero Try.prog 45 = some [(.slice none 0 0), (.slice none 0 0), (.int .i64 0), (.int .i64 0), (.string ⟨#[]⟩), (.int .i64 0), (.slice none 0 0)] := by kernel_rfl
@[push_cast] theorem elInfo_45 : elInfo Try.prog 45 = some (7, 112) := by kernel_rfl
@[push_cast] theorem fieldP_45_0 : fieldP Try.prog 45 0 = some (0, 40) := by kernel_rfl
@[push_cast] theorem fieldP_45_1 : fieldP Try.prog 45 1 = some (2, 42) := by kernel_rfl
@[push_cast] theorem fieldP_45_2 : fieldP Try.prog 45 2 = some (4, 9) := by kernel_rfl
@[push_cast] theorem fieldP_45_3 : fieldP Try.prog 45 3 = some (5, 3) := by kernel_rfl
@[push_cast] theorem fieldP_45_4 : fieldP Try.prog 45 4 = some (6, 43) := by kernel_rfl
@[push_cast] theorem tsz_46 : tsz Try.prog 46 = some 1 := by kernel_rfl
@[push_cast] theorem aggD_46 : aggD Try.prog 46 = some false := by kernel_rfl
@[push_cast] theorem tzero_46 : tzero Try.prog 46 = some [.nilFunc] := by kernel_rfl
@[push_cast] theorem elInfo_46 : elInfo Try.prog 46 = some (1, 8) := by kernel_rfl
@[push_cast] theorem tsz_47 : tsz Try.prog 47 = some 2 := by kernel_rfl
@[push_cast] theorem aggD_47 : aggD Try.prog 47 = some true := by kernel_rfl
@[push_cast] theorem tzero_47 : tzero Try.prog 47 = some [(.int .i64 0), (.int .i64 0)] := by kernel_rfl
@[push_cast] theorem elInfo_47 : elInfo Try.prog 47 = some (2, 16) := by kernel_rfl
@[push_cast] theorem fieldP_47_0 : fieldP Try.prog 47 0 = some (0, 3) := by kernel_rfl
@[push_cast] theorem fieldP_47_1 : fieldP Try.prog 47 1 = some (1, 3) := by kernel_rfl
@[push_cast] theorem tsz_48 : tsz Try.prog 48 = some 3 := by kernel_rfl
@[push_cast] theorem aggD_48 : aggD Try.prog 48 = some true := by kernel_rfl
@[push_cast] theorem tzero_48 : tzero Try.prog 48 = some [(.int .i64 0), (.slice none 0 0), (.int .i64 0)] := by kernel_rfl
@[push_cast] theorem elInfo_48 : elInfo Try.prog 48 = some (3, 40) := by kernel_rfl
@[push_cast] theorem fieldP_48_0 : fieldP Try.prog 48 0 = some (0, 3) := by kernel_rfl
@[push_cast] theorem fieldP_48_1 : fieldP Try.prog 48 1 = some (1, 25) := by kernel_rfl
@[push_cast] theorem fieldP_48_2 : fieldP Try.prog 48 2 = some (2, 3) := by kernel_rfl
@[push_cast] theorem tsz_49 : tsz Try.prog 49 = some 3 := by kernel_rfl
@[push_cast] theorem aggD_49 : aggD Try.prog 49 = some true := by kernel_rfl
@[push_cast] theorem tzero_49 : tzero Try.prog 49 = some [(.int .i64 0), (.slice none 0 0), (.int .i64 0)] := by kernel_rfl
@[push_cast] theorem elInfo_49 : elInfo Try.prog 49 = some (3, 40) := by kernel_rfl
@[push_cast] theorem fieldP_49_0 : fieldP Try.prog 49 0 = some (0, 3) := by kernel_rfl
@[push_cast] theorem fieldP_49_1 : fieldP Try.prog 49 1 = some (1, 25) := by kernel_rfl
@[push_cast] theorem fieldP_49_2 : fieldP Try.prog 49 2 = some (2, 3) := by kernel_rfl
@[push_cast] theorem tsz_50 : tsz Try.prog 50 = some 1 := by kernel_rfl
@[push_cast] theorem aggD_50 : aggD Try.prog 50 = some false := by kernel_rfl
@[push_cast] theorem tzero_50 : tzero Try.prog 50 = some [(.int .i64 0)] := by kernel_rfl
@[push_cast] theorem elInfo_50 : elInfo Try.prog 50 = some (1, 8) := by kernel_rfl
@[push_cast] theorem tsz_52 : tsz Try.prog 52 = some 1 := by kernel_rfl
@[push_cast] theorem aggD_52 : aggD Try.prog 52 = some false := by kernel_rfl
@[push_cast] theorem tzero_52 : tzero Try.prog 52 = some [.nilFunc] := by kernel_rfl
@[push_cast] theorem elInfo_52 : elInfo Try.prog 52 = some (1, 8) := by kernel_rfl
@[push_cast] theorem tsz_53 : tsz Try.prog 53 = some 1 := by kernel_rfl
@[push_cast] theorem aggD_53 : aggD Try.prog 53 = some false := by kernel_rfl
@[push_cast] theorem tzero_53 : tzero Try.prog 53 = some [.nilFunc] := by kernel_rfl
@[push_cast] theorem elInfo_53 : elInfo Try.prog 53 = some (1, 8) := by kernel_rfl
@[push_cast] theorem tsz_54 : tsz Try.prog 54 = some 1 := by kernel_rfl
@[push_cast] theorem aggD_54 : aggD Try.prog 54 = some false := by kernel_rfl
@[push_cast] theorem tzero_54 : tzero Try.prog 54 = some [(.slice none 0 0)] := by kernel_rfl
@[push_cast] theorem elInfo_54 : elInfo Try.prog 54 = some (1, 24) := by kernel_rfl
@[push_cast] theorem tsz_56 : tsz Try.prog 56 = some 1 := by kernel_rfl
@[push_cast] theorem aggD_56 : aggD Try.prog 56 = some false := by kernel_rfl
@[push_cast] theorem tzero_56 : tzero Try.prog 56 = some [.nilFunc] := by kernel_rfl
@[push_cast] theorem elInfo_56 : elInfo Try.prog 56 = some (1, 8) := by kernel_rfl
@[push_cast] theorem tsz_58 : tsz Try.prog 58 = some 1 := by kernel_rfl
@[push_cast] theorem aggD_58 : aggD Try.prog 58 = some false := by kernel_rfl
@[push_cast] theorem tzero_58 : tzero Try.prog 58 = some [.nilFunc] := by kernel_rfl
@[push_cast] theorem elInfo_58 : elInfo Try.prog 58 = some (1, 8) := by kernel_rfl
@[push_cast] theorem tsz_59 : tsz Try.prog 59 = some 1 := by kernel_rfl
@[push_cast] theorem aggD_59 : aggD Try.prog 59 = some false := by kernel_rfl
@[push_cast] theorem tzero_59 : tzero Try.prog 59 = some [.nilFunc] := by kernel_rfl
@[push_cast] theorem elInfo_59 : elInfo Try.prog 59 = some (1, 8) := by kernel_rfl
@[push_cast] theorem tsz_60 : tsz Try.prog 60 = some 1 := by kernel_rfl
@[push_cast] theorem aggD_60 : aggD Try.prog 60 = some false := by kernel_rfl
@[push_cast] theorem tzero_60 : tzero Try.prog 60 = some [.nilFunc] := by kernel_rfl
@[push_cast] theorem elInfo_60 : elInfo Try.prog 60 = some (1, 8) := by kernel_rfl
@[push_cast] theorem tsz_61 : tsz Try.prog 61 = some 1 := by kernel_rfl
@[push_cast] theorem aggD_61 : aggD Try.prog 61 = some false := by kernel_rfl
@[push_cast] theorem tzero_61 : tzero Try.prog 61 = some [.nilFunc] := by kernel_rfl
@[push_cast] theorem elInfo_61 : elInfo Try.prog 61 = some (1, 8) := by kernel_rfl
@[push_cast] theorem tsz_62 : tsz Try.prog 62 = some 1 := by kernel_rfl
@[push_cast] theorem aggD_62 : aggD Try.prog 62 = some false := by kernel_rfl
@[push_cast] theorem tzero_62 : tzero Try.prog 62 = some [.nilFunc] := by kernel_rfl
@[push_cast] theorem elInfo_62 : elInfo Try.prog 62 = some (1, 8) := by kernel_rfl
@[push_cast] theorem tsz_63 : tsz Try.prog 63 = some 1 := by kernel_rfl
@[push_cast] theorem aggD_63 : aggD Try.prog 63 = some false := by kernel_rfl
@[push_cast] theorem tzero_63 : tzero Try.prog 63 = some [.nilFunc] := by kernel_rfl
@[push_cast] theorem elInfo_63 : elInfo Try.prog 63 = some (1, 8) := by kernel_rfl
@[push_cast] theorem tsz_65 : tsz Try.prog 65 = some 1 := by kernel_rfl
@[push_cast] theorem aggD_65 : aggD Try.prog 65 = some false := by kernel_rfl
@[push_cast] theorem tzero_65 : tzero Try.prog 65 = some [.nilFunc] := by kernel_rfl
@[push_cast] theorem elInfo_65 : elInfo Try.prog 65 = some (1, 8) := by kernel_rfl
@[push_cast] theorem tsz_67 : tsz Try.prog 67 = some 1 := by kernel_rfl
@[push_cast] theorem aggD_67 : aggD Try.prog 67 = some false := by kernel_rfl
@[push_cast] theorem tzero_67 : tzero Try.prog 67 = some [.nilFunc] := by kernel_rfl
@[push_cast] theorem elInfo_67 : elInfo Try.prog 67 = some (1, 8) := by kernel_rfl
@[push_cast] theorem tsz_68 : tsz Try.prog 68 = some 1 := by kernel_rfl
@[push_cast] theorem aggD_68 : aggD Try.prog 68 = some false := by kernel_rfl
@[push_cast] theorem tzero_68 : tzero Try.prog 68 = some [.nilFunc] := by kernel_rfl
@[push_cast] theorem elInfo_68 : elInfo Try.prog 68 = some (1, 8) := by kernel_rfl
@[push_cast] theorem tsz_70 : tsz Try.prog 70 = some 1 := by kernel_rfl
@[push_cast] theorem aggD_70 : aggD Try.prog 70 = some false := by kernel_rfl
@[push_cast] theorem tzero_70 : tzero Try.prog 70 = some [.nilFunc] := by kernel_rfl
@[push_cast] theorem elInfo_70 : elInfo Try.prog 70 = some (1, 8) := by kernel_rfl
@[push_cast] theorem tsz_71 : tsz Try.prog 71 = some 1 := by kernel_rfl
@[push_cast] theorem aggD_71 : aggD Try.prog 71 = some false := by kernel_rfl
@[push_cast] theorem tzero_71 : tzero Try.prog 71 = some [.nilFunc] := by kernel_rfl
@[push_cast] theorem elInfo_71 : elInfo Try.prog 71 = some (1, 8) := by kernel_rfl
@[push_cast] theorem tsz_72 : tsz Try.prog 72 = some 2 := by kernel_rfl
@[push_cast] theorem aggD_72 : aggD Try.prog 72 = some true := by kernel_rfl
@[push_cast] theorem tzero_72 : tzero Try.prog 72 = some [(.int .i64 0), (.string ⟨#[]⟩)] := by kernel_rfl
@[push_cast] theorem elInfo_72 : elInfo Try.prog 72 = some (2, 24) := by kernel_rfl
@[push_cast] theorem fieldP_72_0 : fieldP Try.prog 72 0 = some (0, 3) := by kernel_rfl
@[push_cast] theorem fieldP_72_1 : fieldP Try.prog 72 1 = some (1, 9) := by kernel_rfl
@[push_cast] theorem tsz_73 : tsz Try.prog 73 = some 2 := by kernel_rfl
@[push_cast] theorem aggD_73 : aggD Try.prog 73 = some true := by kernel_rfl
@[push_cast] theorem tzero_73 : tzero Try.prog 73 = some [(.int .i64 0), (.string ⟨#[]⟩)] := by kernel_rfl
@[push_cast] theorem elInfo_73 : elInfo Try.prog 73 = some (2, 24) := by kernel_rfl
@[push_cast] theorem fieldP_73_0 : fieldP Try.prog 73 0 = some (0, 3) := by kernel_rfl
@[push_cast] theorem fieldP_73_1 : fieldP Try.prog 73 1 = some (1, 9) := by kernel_rfl
@[push_cast] theorem tsz_74 : tsz Try.prog 74 = some 1 := by kernel_rfl
@[push_cast] theorem aggD_74 : aggD Try.prog 74 = some false := by kernel_rfl
@[push_cast] theorem tzero_74 : tzero Try.prog 74 = some [.nilFunc] := by kernel_rfl
@[push_cast] theorem elInfo_74 : elInfo Try.prog 74 = some (1, 8) := by kernel_rfl
@[push_cast] theorem tsz_75 : tsz Try.prog 75 = some 1 := by kernel_rfl
@[push_cast] theorem aggD_75 : aggD Try.prog 75 = some false := by kernel_rfl
@[push_cast] theorem tzero_75 : tzero Try.prog 75 = some [.nilFunc] := by kernel_rfl
@[push_cast] theorem elInfo_75 : elInfo Try.prog 75 = some (1, 8) := by kernel_rfl
@[push_cast] theorem tsz_76 : tsz Try.prog 76 = some 3 := by kernel_rfl
@[push_cast] theorem aggD_76 : aggD Try.prog 76 = some true := by kernel_rfl
@[push_cast] theorem tzero_76 : tzero Try.prog 76 = some [(.int .i64 0), (.slice none 0 0), (.int .i64 0)] := by kernel_rfl
@[push_cast] theorem elInfo_76 : elInfo Try.prog 76 = some (3, 40) := by kernel_rfl
@[push_cast] theorem fieldP_76_0 : fieldP Try.prog 76 0 = some (0, 3) := by kernel_rfl
@[push_cast] theorem fieldP_76_1 : fieldP Try.prog 76 1 = some (1, 25) := by kernel_rfl
@[push_cast] theorem fieldP_76_2 : fieldP Try.prog 76 2 = some (2, 3) := by kernel_rfl
@[push_cast] theorem tsz_77 : tsz Try.prog 77 = some 1 := by kernel_rfl
@[push_cast] theorem aggD_77 : aggD Try.prog 77 = some false := by kernel_rfl
@[push_cast] theorem tzero_77 : tzero Try.prog 77 = some [.nilFunc] := by kernel_rfl
@[push_cast] theorem elInfo_77 : elInfo Try.prog 77 = some (1, 8) := by kernel_rfl
@[push_cast] theorem tsz_78 : tsz Try.prog 78 = some 1 := by kernel_rfl
@[push_cast] theorem aggD_78 : aggD Try.prog 78 = some false := by kernel_rfl
@[push_cast] theorem tzero_78 : tzero Try.prog 78 = some [.nilFunc] := by kernel_rfl
@[push_cast] theorem elInfo_78 : elInfo Try.prog 78 = some (1, 8) := by kernel_rfl
@[push_cast] theorem tsz_79 : tsz Try.prog 79 = some 1 := by kernel_rfl
@[push_cast] theorem aggD_79 : aggD Try.prog 79 = some false := by kernel_rfl
@[push_cast] theorem tzero_79 : tzero Try.prog 79 = some [.nilFunc] := by kernel_rfl
@[push_cast] theorem elInfo_79 : elInfo Try.prog 79 = some (1, 8) := by kernel_rfl
@[push_cast] theorem tsz_80 : tsz Try.prog 80 = some 1 := by kernel_rfl
@[push_cast] theorem aggD_80 : aggD Try.prog 80 = some false := by kernel_rfl
@[push_cast] theorem tzero_80 : tzero Try.prog 80 = some [.nilFunc] := by kernel_rfl
@[push_cast] theorem elInfo_80 : elInfo Try.prog 80 = some (1, 8) := by kernel_rfl
@[push_cast] theorem tsz_81 : tsz Try.prog 81 = some 1 := by kernel_rfl
@[push_cast] theorem aggD_81 : aggD Try.prog 81 = some false := by kernel_rfl
@[push_cast] theorem tzero_81 : tzero Try.prog 81 = some [.nilFunc] := by kernel_rfl
@[push_cast] theorem elInfo_81 : elInfo Try.prog 81 = some (1, 8) := by kernel_rfl
@[push_cast] theorem tsz_82 : tsz Try.prog 82 = some 1 := by kernel_rfl
@[push_cast] theorem aggD_82 : aggD Try.prog 82 = some false := by kernel_rfl
@[push_cast] theorem tzero_82 : tzero Try.prog 82 = some [.nilFunc] := by kernel_rfl
@[push_cast] theorem elInfo_82 : elInfo Try.prog 82 = some (1, 8) := by kernel_rfl
@[push_cast] theorem tsz_83 : tsz Try.prog 83 = some 1 := by kernel_rfl
@[push_cast] theorem aggD_83 : aggD Try.prog 83 = some false := by kernel_rfl
@[push_cast] theorem tzero_83 : tzero Try.prog 83 = some [.nilFunc] := by kernel_rfl
@[push_cast] theorem elInfo_83 : elInfo Try.prog 83 = some (1, 8) := by kernel_rfl
@[push_cast] theorem tsz_84 : tsz Try.prog 84 = some 1 := by kernel_rfl
@[push_cast] theorem aggD_84 : aggD Try.prog 84 = some false := by kernel_rfl
@[push_cast] theorem tzero_84 : tzero Try.prog 84 = some [.nilFunc] := by kernel_rfl
@[push_cast] theorem elInfo_84 : elInfo Try.prog 84 = some (1, 8) := by kernel_rfl
@[push_cast] theorem tsz_85 : tsz Try.prog 85 = some 1 := by kernel_rfl
@[push_cast] theorem aggD_85 : aggD Try.prog 85 = some false := by kernel_rfl
@[push_cast] theorem tzero_85 : tzero Try.prog 85 = some [.nilFunc] := by kernel_rfl
@[push_cast] theorem elInfo_85 : elInfo Try.prog 85 = some (1, 8) := by kernel_rfl
@[push_cast] theorem tsz_86 : tsz Try.prog 86 = some 3 := by kernel_rfl
@[push_cast] theorem aggD_86 : aggD Try.prog 86 = some true := by kernel_rfl
@[push_cast] theorem tzero_86 : tzero Try.prog 86 = some [(.bool false), (.int .i64 0), (.string ⟨#[]⟩)] := by kernel_rfl
@[push_cast] theorem elInfo_86 : elInfo Try.prog 86 = some (3, 32) := by kernel_rfl
@[push_cast] theorem fieldP_86_0 : fieldP Try.prog 86 0 = some (0, 4) := by kernel_rfl
@[push_cast] theorem fieldP_86_1 : fieldP Try.prog 86 1 = some (1, 3) := by kernel_rfl
@[push_cast] theorem fieldP_86_2 : fieldP Try.prog 86 2 = some (2, 9) := by kernel_rfl
@[push_cast] theorem tsz_87 : tsz Try.prog 87 = some 3 := by kernel_rfl
@[push_cast] theorem aggD_87 : aggD Try.prog 87 = some true := by kernel_rfl
@[push_cast] theorem tzero_87 : tzero Try.prog 87 = some [(.bool false), (.int .i64 0), (.string ⟨#[]⟩)] := by kernel_rfl
@[push_cast] theorem elInfo_87 : elInfo Try.prog 87 = some (3, 32) := by kernel_rfl
@[push_cast] theorem fieldP_87_0 : fieldP Try.prog 87 0 = some (0, 4) := by kernel_rfl
@[push_cast] theorem fieldP_87_1 : fieldP Try.prog 87 1 = some (1, 3) := by kernel_rfl
@[push_cast] theorem fieldP_87_2 : fieldP Try.prog 87 2 = some (2, 9) := by kernel_rfl
@[push_cast] theorem tsz_88 : tsz Try.prog 88 = some 1 := by kernel_rfl
@[push_cast] theorem aggD_88 : aggD Try.prog 88 = some false := by kernel_rfl
@[push_cast] theorem tzero_88 : tzero Try.prog 88 = some [.nilFunc] := by kernel_rfl
@[push_cast] theorem elInfo_88 : elInfo Try.prog 88 = some (1, 8) := by kernel_rfl
@[push_cast] theorem tsz_89 : tsz Try.prog 89 = some 1 := by kernel_rfl
@[push_cast] theorem aggD_89 : aggD Try.prog 89 = some false := by kernel_rfl
@[push_cast] theorem tzero_89 : tzero Try.prog 89 = some [.nilFunc] := by kernel_rfl
@[push_cast] theorem elInfo_89 : elInfo Try.prog 89 = some (1, 8) := by kernel_rfl
@[push_cast] theorem tsz_90 : tsz Try.prog 90 = some 1 := by kernel_rfl
@[push_cast] theorem aggD_90 : aggD Try.prog 90 = some false := by kernel_rfl
@[push_cast] theorem tzero_90 : tzero Try.prog 90 = some [.nilFunc] := by kernel_rfl
@[push_cast] theorem elInfo_90 : elInfo Try.prog 90 = some (1, 8) := by kernel_rfl
@[push_cast] theorem tsz_97 : tsz Try.prog 97 = some 1 := by kernel_rfl
@[push_cast] theorem aggD_97 : aggD Try.prog 97 = some false := by kernel_rfl
@[push_cast] theorem tzero_97 : tzero Try.prog 97 = some [.nilFunc] := by kernel_rfl
@[push_cast] theorem elInfo_97 : elInfo Try.prog 97 = some (1, 8) := by kernel_rfl
@[push_cast] theorem tsz_98 : tsz Try.prog 98 = some 1 := by kernel_rfl
@[push_cast] theorem aggD_98 : aggD Try.prog 98 = some false := by kernel_rfl
@[push_cast] theorem tzero_98 : tzero Try.prog 98 = some [.nilFunc] := by kernel_rfl
@[push_cast] theorem elInfo_98 : elInfo Try.prog 98 = some (1, 8) := by kernel_rfl
@[push_cast] theorem tsz_99 : tsz Try.prog 99 = some 1 := by kernel_rfl
@[push_cast] theorem aggD_99 : aggD Try.prog 99 = some false := by kernel_rfl
@[push_cast] theorem tzero_99 : tzero Try.prog 99 = some [.nilFunc] := by kernel_rfl
@[push_cast] theorem elInfo_99 : elInfo Try.prog 99 = some (1, 8) := by kernel_rfl
@[push_cast] theorem tsz_102 : tsz Try.prog 102 = some 1 := by kernel_rfl
@[push_cast] theorem aggD_102 : aggD Try.prog 102 = some false := by kernel_rfl
@[push_cast] theorem tzero_102 : tzero Try.prog 102 = some [.nilFunc] := by kernel_rfl
@[push_cast] theorem elInfo_102 : elInfo Try.prog 102 = some (1, 8) := by kernel_rfl
@[push_cast] theorem tsz_103 : tsz Try.prog 103 = some 1 := by kernel_rfl
@[push_cast] theorem aggD_103 : aggD Try.prog 103 = some false := by kernel_rfl
@[push_cast] theorem tzero_103 : tzero Try.prog 103 = some [.nilFunc] := by kernel_rfl
@[push_cast] theorem elInfo_103 : elInfo Try.prog 103 = some (1, 8) := by kernel_rfl
@[push_cast] theorem tsz_104 : tsz Try.prog 104 = some 3 := by kernel_rfl
@[push_cast] theorem aggD_104 : aggD Try.prog 104 = some true := by kernel_rfl
@[push_cast] theorem tzero_104 : tzero Try.prog 104 = some [(.int .i64 0), (.int .i64 0), (.int .i64 0)] := by kernel_rfl
@[push_cast] theorem elInfo_104 : elInfo Try.prog 104 = some (3, 24) := by kernel_rfl
@[push_cast] theorem fieldP_104_0 : fieldP Try.prog 104 0 = some (0, 47) := by kernel_rfl
@[push_cast] theorem fieldP_104_1 : fieldP Try.prog 104 1 = some (2, 3) := by kernel_rfl
@[push_cast] theorem tsz_105 : tsz Try.prog 105 = some 3 := by kernel_rfl
@[push_cast] theorem aggD_105 : aggD Try.prog 105 = some true := by kernel_rfl
@[push_cast] theorem tzero_105 : tzero Try.prog 105 = some [(.int .i64 0), (.int .i64 0), (.int .i64 0)] := by kernel_rfl
@[push_cast] theorem elInfo_105 : elInfo Try.prog 105 = some (3, 24) := by kernel_rfl
@[push_cast] theorem fieldP_105_0 : fieldP Try.prog 105 0 = some (0, 47) := by kernel_rfl
@[push_cast] theorem fieldP_105_1 : fieldP Try.prog 105 1 = some (2, 3) := by kernel_rfl
@[push_cast] theorem tsz_106 : tsz Try.prog 106 = some 1 := by kernel_rfl
@[push_cast] theorem aggD_106 : aggD Try.prog 106 = some false := by kernel_rfl
@[push_cast] theorem tzero_106 : tzero Try.prog 106 = some [.nilFunc] := by kernel_rfl
@[push_cast] theorem elInfo_106 : elInfo Try.prog 106 = some (1, 8) := by kernel_rfl
@[push_cast] theorem tsz_107 : tsz Try.prog 107 = some 1 := by kernel_rfl
@[push_cast] theorem aggD_107 : aggD Try.prog 107 = some false := by kernel_rfl
@[push_cast] theorem tzero_107 : tzero Try.prog 107 = some [.nilFunc] := by kernel_rfl
@[push_cast] theorem elInfo_107 : elInfo Try.prog 107 = some (1, 8) := by kernel_rfl
@[push_cast] theorem tsz_108 : tsz Try.prog 108 = some 1 := by kernel_rfl
@[push_cast] theorem aggD_108 : aggD Try.prog 108 = some false := by kernel_rfl
@[push_cast] theorem tzero_108 : tzero Try.prog 108 = some [.nilFunc] := by kernel_rfl
@[push_cast] theorem elInfo_108 : elInfo Try.prog 108 = some (1, 8) := by kernel_rfl
@[push_cast] theorem tsz_109 : tsz Try.prog 109 = some 1 := by kernel_rfl
@[push_cast] theorem aggD_109 : aggD Try.prog 109 = some false := by kernel_rfl
@[push_cast] theorem tzero_109 : tzero Try.prog 109 = some [.nilFunc] := by kernel_rfl
@[push_cast] theorem elInfo_109 : elInfo Try.prog 109 = some (1, 8) := by kernel_rfl
@[push_cast] theorem tsz_110 : tsz Try.prog 110 = some 1 := by kernel_rfl
@[push_cast] theorem aggD_110 : aggD Try.prog 110 = some false := by kernel_rfl
@[push_cast] theorem tzero_110 : tzero Try.prog 110 = some [.nilFunc] := by kernel_rfl
@[push_cast] theorem elInfo_110 : elInfo Try.prog 110 = some (1, 8) := by kernel_rfl
@[push_cast] theorem tsz_111 : tsz Try.prog 111 = some 1 := by kernel_rfl
@[push_cast] theorem aggD_111 : aggD Try.prog 111 = some false := by kernel_rfl
@[push_cast] theorem tzero_111 : tzero Try.prog 111 = some [.nilFunc] := by kernel_rfl
@[push_cast] theorem elInfo_111 : elInfo Try.prog 111 = some (1, 8) := by kernel_rfl
@[push_cast] theorem tsz_112 : tsz Try.prog 112 = some 1 := by kernel_rfl
@[push_cast] theorem aggD_112 : aggD Try.prog 112 = some false := by kernel_rfl
@[push_cast] theorem tzero_112 : tzero Try.prog 112 = some [.nilFunc] := by kernel_rfl
@[push_cast] theorem elInfo_112 : elInfo Try.prog 112 = some (1, 8) := by kernel_rfl
@[push_cast] theorem tsz_113 : tsz Try.prog 113 = some 1 := by kernel_rfl
@[push_cast] theorem aggD_113 : aggD Try.prog 113 = some false := by kernel_rfl
@[push_cast] theorem tzero_113 : tzero Try.prog 113 = some [.nilFunc] := by kernel_rfl
@[push_cast] theorem elInfo_113 : elInfo Try.prog 113 = some (1, 8) := by kernel_rfl
@[push_cast] theorem tsz_114 : tsz Try.prog 114 = some 1 := by kernel_rfl
@[push_cast] theorem aggD_114 : aggD Try.prog 114 = some false := by kernel_rfl
@[push_cast] theorem tzero_114 : tzero Try.prog 114 = some [.nilFunc] := by kernel_rfl
@[push_cast] theorem elInfo_114 : elInfo Try.prog 114 = some (1, 8) := by kernel_rfl
@[push_cast] theorem tsz_115 : tsz Try.prog 115 = some 1 := by kernel_rfl
@[push_cast] theorem aggD_115 : aggD Try.prog 115 = some false := by kernel_rfl
@[push_cast] theorem tzero_115 : tzero Try.prog 115 = some [.nilFunc] := by kernel_rfl
@[push_cast] theorem elInfo_115 : elInfo Try.prog 115 = some (1, 8) := by kernel_rfl
@[push_cast] theorem tsz_116 : tsz Try.prog 116 = some 1 := by kernel_rfl
@[push_cast] theorem aggD_116 : aggD Try.prog 116 = some false := by kernel_rfl
@[push_cast] theorem tzero_116 : tzero Try.prog 116 = some [.nilFunc] := by kernel_rfl
@[push_cast] theorem elInfo_116 : elInfo Try.prog 116 = some (1, 8) := by kernel_rfl
@[push_cast] theorem tsz_117 : tsz Try.prog 117 = some 1 := by kernel_rfl
@[push_cast] theorem aggD_117 : aggD Try.prog 117 = some false := by kernel_rfl
@[push_cast] theorem tzero_117 : tzero Try.prog 117 = some [.nilFunc] := by kernel_rfl
@[push_cast] theorem elInfo_117 : elInfo Try.prog 117 = some (1, 8) := by kernel_rfl
@[push_cast] theorem tsz_118 : tsz Try.prog 118 = some 1 := by kernel_rfl
@[push_cast] theorem aggD_118 : aggD Try.prog 118 = some false := by kernel_rfl
@[push_cast] theorem tzero_118 : tzero Try.prog 118 = some [(.pointer none)] := by kernel_rfl
@[push_cast] theorem elInfo_118 : elInfo Try.prog 118 = some (1, 8) := by kernel_rfl
@[push_cast] theorem tsz_119 : tsz Try.prog 119 = some 1 := by kernel_rfl
@[push_cast] theorem aggD_119 : aggD Try.prog 119 = some false := by kernel_rfl
@[push_cast] theorem tzero_119 : tzero Try.prog 119 = some [(.int .u64 0)] := by kernel_rfl
@[push_cast] theorem elInfo_119 : elInfo Try.prog 119 = some (1, 8) := by kernel_rfl
@[push_cast] theorem tsz_120 : tsz Try.prog 120 = some 1 := by kernel_rfl
@[push_cast] theorem aggD_120 : aggD Try.prog 120 = some false := by kernel_rfl
@[push_cast] theorem tzero_120 : tzero Try.prog 120 = some [(.slice none 0 0)] := by kernel_rfl
@[push_cast] theorem elInfo_120 : elInfo Try.prog 120 = some (1, 24) := by kernel_rfl
@[push_cast] theorem tsz_121 : tsz Try.prog 121 = some 1 := by kernel_rfl
@[push_cast] theorem aggD_121 : aggD Try.prog 121 = some false := by kernel_rfl
@[push_cast] theorem tzero_121 : tzero Try.prog 121 = some [.nilFunc] := by kernel_rfl
@[push_cast] theorem elInfo_121 : elInfo Try.prog 121 = some (1, 8) := by kernel_rfl
@[push_cast] theorem tsz_122 : tsz Try.prog 122 = some 1 := by kernel_rfl
@[push_cast] theorem aggD_122 : aggD Try.prog 122 = some false := by kernel_rfl
@[push_cast] theorem tzero_122 : tzero Try.prog 122 = some [.nilFunc] := by kernel_rfl
@[push_cast] theorem elInfo_122 : elInfo Try.prog 122 = some (1, 8) := by kernel_rfl
@[push_cast] theorem tsz_123 : tsz Try.prog 123 = some 1 := by kernel_rfl
@[push_cast] theorem aggD_123 : aggD Try.prog 123 = some false := by kernel_rfl
@[push_cast] theorem tzero_123 : tzero Try.prog 123 = some [.nilFunc] := by kernel_rfl
@[push_cast] theorem elInfo_123 : elInfo Try.prog 123 = some (1, 8) := by kernel_rfl
@[push_cast] theorem tsz_124 : tsz Try.prog 124 = some 1 := by kernel_rfl
@[push_cast] theorem aggD_124 : aggD Try.prog 124 = some false := by kernel_rfl
@[push_cast] theorem tzero_124 : tzero Try.prog 124 = some [.nilFunc] := by kernel_rfl
@[push_cast] theorem elInfo_124 : elInfo Try.prog 124 = some (1, 8) := by kernel_rfl
@[push_cast] theorem tsz_126 : tsz Try.prog 126 = some 1 := by kernel_rfl
@[push_cast] theorem aggD_126 : aggD Try.prog 126 = some false := by kernel_rfl
@[push_cast] theorem tzero_126 : tzero Try.prog 126 = some [.nilFunc] := by kernel_rfl
@[push_cast] theorem elInfo_126 : elInfo Try.prog 126 = some (1, 8) := by kernel_rfl
@[push_cast] theorem tsz_127 : tsz Try.prog 127 = some 1 := by kernel_rfl
@[push_cast] theorem aggD_127 : aggD Try.prog 127 = some false := by kernel_rfl
@[push_cast] theorem tzero_127 : tzero Try.prog 127 = some [.nilFunc] := by kernel_rfl
@[push_cast] theorem elInfo_127 : elInfo Try.prog 127 = some (1, 8) := by kernel_rfl
@[push_cast] theorem tsz_128 : tsz Try.prog 128 = some 1 := by kernel_rfl
@[push_cast] theorem aggD_128 : aggD Try.prog 128 = some false := by kernel_rfl
@[push_cast] theorem tzero_128 : tzero Try.prog 128 = some [.nilFunc] := by kernel_rfl
@[push_cast] theorem elInfo_128 : elInfo Try.prog 128 = some (1, 8) := by kernel_rfl
@[push_cast] theorem tsz_132 : tsz Try.prog 132 = some 1 := by kernel_rfl
@[push_cast] theorem aggD_132 : aggD Try.prog 132 = some false := by kernel_rfl
@[push_cast] theorem tzero_132 : tzero Try.prog 132 = some [.nilFunc] := by kernel_rfl
@[push_cast] theorem elInfo_132 : elInfo Try.prog 132 = some (1, 8) := by kernel_rfl
@[push_cast] theorem tsz_133 : tsz Try.prog 133 = some 1 := by kernel_rfl
@[push_cast] theorem aggD_133 : aggD Try.prog 133 = some false := by kernel_rfl
@[push_cast] theorem tzero_133 : tzero Try.prog 133 = some [.nilFunc] := by kernel_rfl
@[push_cast] theorem elInfo_133 : elInfo Try.prog 133 = some (1, 8) := by kernel_rfl
@[push_cast] theorem tsz_134 : tsz Try.prog 134 = some 1 := by kernel_rfl
@[push_cast] theorem aggD_134 : aggD Try.prog 134 = some false := by kernel_rfl
@[push_cast] theorem tzero_134 : tzero Try.prog 134 = some [(.int .u32 0)] := by kernel_rfl
@[push_cast] theorem elInfo_134 : elInfo Try.prog 134 = some (1, 4) := by kernel_rfl
@[push_cast] theorem tsz_136 : tsz Try.prog 136 = some 1 := by kernel_rfl
@[push_cast] theorem aggD_136 : aggD Try.prog 136 = some false := by kernel_rfl
@[push_cast] theorem tzero_136 : tzero Try.prog 136 = some [.nilFunc] := by kernel_rfl
@[push_cast] theorem elInfo_136 : elInfo Try.prog 136 = some (1, 8) := by kernel_rfl
@[push_cast] theorem tsz_137 : tsz Try.prog 137 = some 1 := by kernel_rfl
@[push_cast] theorem aggD_137 : aggD Try.prog 137 = some false := by kernel_rfl
@[push_cast] theorem tzero_137 : tzero Try.prog 137 = some [(.int .u64 0)] := by kernel_rfl
@[push_cast] theorem elInfo_137 : elInfo Try.prog 137 = some (1, 8) := by kernel_rfl
@[push_cast] theorem tsz_139 : tsz Try.prog 139 = some 1 := by kernel_rfl
@[push_cast] theorem aggD_139 : aggD Try.prog 139 = some false := by kernel_rfl
@[push_cast] theorem tzero_139 : tzero Try.prog 139 = some [.nilFunc] := by kernel_rfl
@[push_cast] theorem elInfo_139 : elInfo Try.prog 139 = some (1, 8) := by kernel_rfl
@[push_cast] theorem tsz_140 : tsz Try.prog 140 = some 1 := by kernel_rfl
@[push_cast] theorem aggD_140 : aggD Try.prog 140 = some false := by kernel_rfl
@[push_cast] theorem tzero_140 : tzero Try.prog 140 = some [.nilFunc] := by kernel_rfl
@[push_cast] theorem elInfo_140 : elInfo Try.prog 140 = some (1, 8) := by kernel_rfl
@[push_cast] theorem tsz_146 : tsz Try.prog 146 = some 1 := by kernel_rfl
@[push_cast] theorem aggD_146 : aggD Try.prog 146 = some false := by kernel_rfl
@[push_cast] theorem tzero_146 : tzero Try.prog 146 = some [(.int .u8 0)] := by kernel_rfl
@[push_cast] theorem elInfo_146 : elInfo Try.prog 146 = some (1, 1) := by kernel_rfl
@[push_cast] theorem tsz_147 : tsz Try.prog 147 = some 1 := by kernel_rfl
@[push_cast] theorem aggD_147 : aggD Try.prog 147 = some false := by kernel_rfl
@[push_cast] theorem tzero_147 : tzero Try.prog 147 = some [(.int .u8 0)] := by kernel_rfl
@[push_cast] theorem elInfo_147 : elInfo Try.prog 147 = some (1, 1) := by kernel_rfl
@[push_cast] theorem tsz_149 : tsz Try.prog 149 = some 1 := by kernel_rfl
@[push_cast] theorem aggD_149 : aggD Try.prog 149 = some false := by kernel_rfl
@[push_cast] theorem tzero_149 : tzero Try.prog 149 = some [(.int .i32 0)] := by kernel_rfl
@[push_cast] theorem elInfo_149 : elInfo Try.prog 149 = some (1, 4) := by kernel_rfl
@[push_cast] theorem tsz_150 : tsz Try.prog 150 = some 1 := by kernel_rfl
@[push_cast] theorem aggD_150 : aggD Try.prog 150 = some false := by kernel_rfl
@[push_cast] theorem tzero_150 : tzero Try.prog 150 = some [(.int .i32 0)] := by kernel_rfl
@[push_cast] theorem elInfo_150 : elInfo Try.prog 150 = some (1, 4) := by kernel_rfl
@[push_cast] theorem layT_13 : layT Try.prog 13 = some [(0, 1), (1, 1)] := by kernel_rfl
@[push_cast] theorem layT_22 : layT Try.prog 22 = some [(0, 1), (1, 1), (2, 1), (3, 1), (4, 1)] := by kernel_rfl
@[push_cast] theorem layT_23 : layT Try.prog 23 = some [(0, 1), (1, 1), (2, 1), (3, 1), (4, 1)] := by kernel_rfl
@[push_cast] theorem layT_30 : layT Try.prog 30 = some [(0, 1), (1, 1), (2, 1), (3, 1), (4, 1)] := by kernel_rfl
@[push_cast] theorem layT_35 : layT Try.prog 35 = none := by kernel_rfl
@[push_cast] theorem arrT_35 : arrT Try.prog 35 = some 1 := by kernel_rfl
@[push_cast] theorem layT_39 : layT Try.prog 39 = some [(0, 1), (1, 1)] := by kernel_rfl
@[push_cast] theorem layT_40 : layT Try.prog 40 = some [(0, 1), (1, 1)] := by kernel_rfl
@[push_cast] theorem layT_41 : layT Try.prog 41 = some [(0, 1), (1, 1)] := by kernel_rfl
@[push_cast] theorem layT_42 : layT Try.prog 42 = some [(0, 1), (1, 1)] := by kernel_rfl
@[push_cast] theorem layT_44 : layT Try.prog 44 = some [(0, 2), (2, 2), (4, 1), (5, 1), (6, 1)] := by kernel_rfl
@[push_cast] theorem layT_45 : layT Try.prog 45 = some [(0, 2), (2, 2), (4, 1), (5, 1), (6, 1)] := by kernel_rfl
@[push_cast] theorem layT_47 : layT Try.prog 47 = some [(0, 1), (1, 1)] := by kernel_rfl
@[push_cast] theorem layT_48 : layT Try.prog 48 = some [(0, 1), (1, 1), (2, 1)] := by kernel_rfl
@[push_cast] theorem layT_49 : layT Try.prog 49 = some [(0, 1), (1, 1), (2, 1)] := by kernel_rfl
@[push_cast] theorem layT_72 : layT Try.prog 72 = some [(0, 1), (1, 1)] := by kernel_rfl
@[push_cast] theorem layT_73 : layT Try.prog 73 = some [(0, 1), (1, 1)] := by kernel_rfl
@[push_cast] theorem layT_76 : layT Try.prog 76 = some [(0, 1), (1, 1), (2, 1)] := by kernel_rfl
@[push_cast] theorem layT_86 : layT Try.prog 86 = some [(0, 1), (1, 1), (2, 1)] := by kernel_rfl
@[push_cast] theorem layT_87 : layT Try.prog 87 = some [(0, 1), (1, 1), (2, 1)] := by kernel_rfl
@[push_cast] theorem layT_104 : layT Try.prog 104 = some [(0, 2), (2, 1)] := by kernel_rfl
@[push_cast] theorem layT_105 : layT Try.prog 105 = some [(0, 2), (2, 1)] := by kernel_rfl
attribute [push_cast] Try.underlying1 Try.underlying2 Try.underlying3 Try.underlying4 Try.underlying5 Try.underlying6 Try.underlying9 Try.underlying10 Try.underlying11 Try.underlying12 Try.underlying13 Try.underlying21 Try.underlying22 Try.underlying23 Try.underlying24 Try.underlying25 Try.underlying26 Try.underlying27 Try.underlying29 Try.underlying30 Try.underlying32 Try.underlying33 Try.underlying34 Try.underlying35 Try.underlying36 Try.underlying37 Try.underlying38 Try.underlying39 Try.underlying40 Try.underlying41 Try.underlying42 Try.underlying43 Try.underlying44 Try.underlying45 Try.underlying46 Try.underlying47 Try.underlying48 Try.underlying49 Try.underlying50 Try.underlying52 Try.underlying53 Try.underlying54 Try.underlying56 Try.underlying58 Try.underlying59 Try.underlying60 Try.underlying61 Try.underlying62 Try.underlying63 Try.underlying65 Try.underlying67 Try.underlying68 Try.underlying70 Try.underlying71 Try.underlying72 Try.underlying73 Try.underlying74 Try.underlying75 Try.underlying76 Try.underlying77 Try.underlying78 Try.underlying79 Try.underlying80 Try.underlying81 Try.underlying82 Try.underlying83 Try.underlying84 Try.underlying85 Try.underlying86 Try.underlying87 Try.underlying88 Try.underlying89 Try.underlying90 Try.underlying97 Try.underlying98 Try.underlying99 Try.underlying102 Try.underlying103 Try.underlying104 Try.underlying105 Try.underlying106 Try.underlying107 Try.underlying108 Try.underlying109 Try.underlying110 Try.underlying111 Try.underlying112 Try.underlying113 Try.underlying114 Try.underlying115 Try.underlying116 Try.underlying117 Try.underlying118 Try.underlying119 Try.underlying120 Try.underlying121 Try.underlying122 Try.underlying123 Try.underlying124 Try.underlying126 Try.underlying127 Try.underlying128 Try.underlying132 Try.underlying133 Try.underlying134 Try.underlying136 Try.underlying137 Try.underlying139 Try.underlying140 Try.underlying146 Try.underlying147 Try.underlying149 Try.underlying150
end Go.Proofs.Ytlideclkieadbaa.AM
