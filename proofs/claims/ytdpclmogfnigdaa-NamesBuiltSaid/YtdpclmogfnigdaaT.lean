/- The functions of a text agree with the reference's. No conditions but those of each theorem. -/
import Derived.Test.YtdpclmogfnigdaaS
namespace Go.Proofs.Ytdpclmogfnigdaa
open Go.ChangeShapes Go.WideShapes Go.ChangeAt Go.RowKit
set_option linter.unusedVariables false
set_option linter.unusedSimpArgs false

set_option maxRecDepth 100000 in
set_option maxHeartbeats 8000000 in
theorem agrees_any (s : ByteArray) (k : Int) (hs : s.size ≤ 1000000) (w : World) :
    Calls Try.prog 9 #[.string s, .int .i64 k] w fun e w' => e = .returned (.bool true) ∧ Below w.heap.size w w' := by
  have H1 := hid (leg_any s k (by omega))
  have H2 := hid (rleg_any s k (by omega))
  have H3 := hid (part_any s k (by omega))
  have H4 := hid (rpart_any s k (by omega))
  have H5 := hid (par_any s (by omega))
  have H6 := hid (rpar_any s (by omega))
  have H7 := hid (fromhex_any s)
  have H8 := hid (rfromhex_any s)
  have N1 := hid (name_any s (by omega))
  have N2 := hid (rname_any s (by omega))
  have V1 := hid (vis_any s (by omega))
  have V2 := hid (rvis_any s (by omega))
  have D1 := hid (hid_any s (by omega))
  have D2 := hid (rhid_any s (by omega))
  have T1 := hid (tag_any s (by omega))
  have T2 := hid (rtag_any s (by omega))
  have R1 := hid (root_any s (by omega))
  have R2 := hid (rroot_any s (by omega))
  generalize bs (legT s.data.toList k).1 = a1 at *
  generalize (legT s.data.toList k).2 = a2 at *
  generalize bs (partL s.data.toList k).1 = a3 at *
  generalize (partL s.data.toList k).2 = a4 at *
  generalize bs (parL s.data.toList).1 = a5 at *
  generalize (parL s.data.toList).2 = a6 at *
  generalize (fhL s.data.toList).1 = a7 at *
  generalize (fhL s.data.toList).2 = a8 at *
  generalize nameL s.data.toList = a9 at *
  generalize visL s.data.toList = b1 at *
  generalize hidL s.data.toList = b2 at *
  generalize tagL s.data.toList = b3 at *
  generalize bs (rootL s.data.toList) = b4 at *
  clear hs
  go_enter Try.func9, Try.ntmps9
  go_wp2_with fail
  refine (H1.out _).mono ?_
  rintro e v1 ⟨rfl, hb1⟩
  have HB1 := hid (hb1)
  clear hb1
  go_wp2_with fail
  refine (H2.out _).mono ?_
  rintro e v2 ⟨rfl, hb2⟩
  have HB2 := hid (bt HB1.out hb2)
  clear hb2
  go_wp2_with fail
  refine (H3.out _).mono ?_
  rintro e v3 ⟨rfl, hb3⟩
  have HB3 := hid (bt HB2.out hb3)
  clear hb3
  go_wp2_with fail
  refine (H4.out _).mono ?_
  rintro e v4 ⟨rfl, hb4⟩
  have HB4 := hid (bt HB3.out hb4)
  clear hb4
  go_wp2_with fail
  refine (H5.out _).mono ?_
  rintro e v5 ⟨rfl, hb5⟩
  have HB5 := hid (bt HB4.out hb5)
  clear hb5
  go_wp2_with fail
  refine (H6.out _).mono ?_
  rintro e v6 ⟨rfl, hb6⟩
  have HB6 := hid (bt HB5.out hb6)
  clear hb6
  go_wp2_with fail
  refine (H7.out _).mono ?_
  rintro e v7 ⟨rfl, hb7⟩
  have HB7 := hid (bt HB6.out hb7)
  clear hb7
  go_wp2_with fail
  refine (H8.out _).mono ?_
  rintro e v8 ⟨rfl, hb8⟩
  have HB8 := hid (bt HB7.out hb8)
  clear hb8
  go_wp2_with fail
  refine (N1.out _).mono ?_
  rintro e v9 ⟨rfl, hb9⟩
  have HB9 := hid (bt HB8.out hb9)
  clear hb9
  go_wp2_with fail
  refine (N2.out _).mono ?_
  rintro e v10 ⟨rfl, rfl⟩
  go_wp2_with fail
  refine (V1.out _).mono ?_
  rintro e v11 ⟨rfl, hb11⟩
  have HB11 := hid (bt HB9.out hb11)
  clear hb11
  go_wp2_with fail
  refine (V2.out _).mono ?_
  rintro e v12 ⟨rfl, hb12⟩
  have HB12 := hid (bt HB11.out hb12)
  clear hb12
  go_wp2_with fail
  refine (D1.out _).mono ?_
  rintro e v13 ⟨rfl, hb13⟩
  have HB13 := hid (bt HB12.out hb13)
  clear hb13
  go_wp2_with fail
  refine (D2.out _).mono ?_
  rintro e v14 ⟨rfl, hb14⟩
  have HB14 := hid (bt HB13.out hb14)
  clear hb14
  go_wp2_with fail
  refine (T1.out _).mono ?_
  rintro e v15 ⟨rfl, hb15⟩
  have HB15 := hid (bt HB14.out hb15)
  clear hb15
  go_wp2_with fail
  refine (T2.out _).mono ?_
  rintro e v16 ⟨rfl, rfl⟩
  go_wp2_with fail
  refine (R1.out _).mono ?_
  rintro e v17 ⟨rfl, hb17⟩
  have HB17 := hid (bt HB15.out hb17)
  clear hb17
  go_wp2_with fail
  refine (R2.out _).mono ?_
  rintro e v18 ⟨rfl, hb18⟩
  have HB18 := hid (bt HB17.out hb18)
  clear hb18
  go_wp2_with fail
  go_ret
  exact ⟨rfl, HB18.out⟩
end Go.Proofs.Ytdpclmogfnigdaa
