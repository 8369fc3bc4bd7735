/- The calls whose answers the document fixes, walked: they are as it fixes them. -/
import Derived.Test.YtmgfhehnehcmpaaRFix
namespace Go.Proofs.Ytmgfhehnehcmpaa
open Go.RowKit
namespace Wp

set_option maxHeartbeats 8000000 in
set_option maxRecDepth 100000 in
theorem rfixed_any (w : World) : Calls Try.prog 13 #[] w (Truly w) := by
  have HB0 := Lib.hid (Below.refl w.heap.size w)
  go_enter Try.func13, Try.ntmps13
  have HB1 := Lib.hid (HB0.out.alloc HB0.out.size (.cells #[.int .i64 1, .int .i64 2] 3))
  clear HB0
  have ra_2 := Lib.hid (Row.at2 w (w.heap.size) (by simp) 1 2)
  have ra_3 := Lib.hid (ra_2.out.upA (.cells #[.int .i64 3] 3))
  clear ra_2
  have HB4 := Lib.hid (HB1.out.alloc HB1.out.size (.cells #[.int .i64 3] 3))
  clear HB1
  have rb_5 := Lib.hid (Row.at1 (w.alloc (.cells #[.int .i64 1, .int .i64 2] 3)) (w.heap.size + 1) (by simp) 3)
  have ra_6 := Lib.hid (ra_3.out.upA (.cells #[.int .i64 3] 3))
  clear ra_3
  have rb_7 := Lib.hid (rb_5.out.upA (.cells #[.int .i64 3] 3))
  clear rb_5
  have HB8 := Lib.hid (HB4.out.alloc HB4.out.size (.cells #[.int .i64 3] 3))
  clear HB4
  have rc_9 := Lib.hid (Row.at1 ((w.alloc (.cells #[.int .i64 1, .int .i64 2] 3)).alloc (.cells #[.int .i64 3] 3)) (w.heap.size + 1 + 1) (by simp) 3)
  have adj_10 := Lib.hid (Rows2.at4 (((w.alloc (.cells #[.int .i64 1, .int .i64 2] 3)).alloc (.cells #[.int .i64 3] 3)).alloc (.cells #[.int .i64 3] 3)) (w.heap.size + 1 + 1 + 1) (by simp) ra_6.out rb_7.out rc_9.out (Row.nil_ _ _))
  have ra_11 := Lib.hid (ra_6.out.upA (.cells #[.slice (some ⟨w.heap.size, 0, none⟩) 2 2, .slice (some ⟨w.heap.size + 1, 0, none⟩) 1 1, .slice (some ⟨w.heap.size + 1 + 1, 0, none⟩) 1 1, .slice none 0 0] 25))
  clear ra_6
  have rb_12 := Lib.hid (rb_7.out.upA (.cells #[.slice (some ⟨w.heap.size, 0, none⟩) 2 2, .slice (some ⟨w.heap.size + 1, 0, none⟩) 1 1, .slice (some ⟨w.heap.size + 1 + 1, 0, none⟩) 1 1, .slice none 0 0] 25))
  clear rb_7
  have rc_13 := Lib.hid (rc_9.out.upA (.cells #[.slice (some ⟨w.heap.size, 0, none⟩) 2 2, .slice (some ⟨w.heap.size + 1, 0, none⟩) 1 1, .slice (some ⟨w.heap.size + 1 + 1, 0, none⟩) 1 1, .slice none 0 0] 25))
  clear rc_9
  have HB14 := Lib.hid (HB8.out.alloc HB8.out.size (.cells #[.slice (some ⟨w.heap.size, 0, none⟩) 2 2, .slice (some ⟨w.heap.size + 1, 0, none⟩) 1 1, .slice (some ⟨w.heap.size + 1 + 1, 0, none⟩) 1 1, .slice none 0 0] 25))
  clear HB8
  have adj_15 := Lib.hid (adj_10.out.upA (.cells #[.int .i64 0] 3))
  clear adj_10
  have HB16 := Lib.hid (HB14.out.alloc HB14.out.size (.cells #[.int .i64 0] 3))
  clear HB14
  have f_17 := Lib.hid (Row.at1 ((((w.alloc (.cells #[.int .i64 1, .int .i64 2] 3)).alloc (.cells #[.int .i64 3] 3)).alloc (.cells #[.int .i64 3] 3)).alloc (.cells #[.slice (some ⟨w.heap.size, 0, none⟩) 2 2, .slice (some ⟨w.heap.size + 1, 0, none⟩) 1 1, .slice (some ⟨w.heap.size + 1 + 1, 0, none⟩) 1 1, .slice none 0 0] 25)) (w.heap.size + 1 + 1 + 1 + 1) (by simp) 0)
  have adj_18 := Lib.hid (adj_15.out.upA (.cells #[.int .i64 3] 3))
  clear adj_15
  have f_19 := Lib.hid (f_17.out.upA (.cells #[.int .i64 3] 3))
  clear f_17
  have HB20 := Lib.hid (HB16.out.alloc HB16.out.size (.cells #[.int .i64 3] 3))
  clear HB16
  have t_21 := Lib.hid (Row.at1 (((((w.alloc (.cells #[.int .i64 1, .int .i64 2] 3)).alloc (.cells #[.int .i64 3] 3)).alloc (.cells #[.int .i64 3] 3)).alloc (.cells #[.slice (some ⟨w.heap.size, 0, none⟩) 2 2, .slice (some ⟨w.heap.size + 1, 0, none⟩) 1 1, .slice (some ⟨w.heap.size + 1 + 1, 0, none⟩) 1 1, .slice none 0 0] 25)).alloc (.cells #[.int .i64 0] 3)) (w.heap.size + 1 + 1 + 1 + 1 + 1) (by simp) 3)
  go_wp2_with fail
  refine (path_is [[1, 2], [3], [3], []] [0] [3] [0, 1, 3] true (by decide +kernel) _ _ _ _ adj_18.out f_19.out t_21.out).mono ?_
  rintro e w24 ⟨u22, rfl, r23, hb25⟩
  have adj_26 := Lib.hid (adj_18.out.up hb25)
  clear adj_18
  have f_27 := Lib.hid (f_19.out.up hb25)
  clear f_19
  have t_28 := Lib.hid (t_21.out.up hb25)
  clear t_21
  have HB29 := Lib.hid (below_next HB20.out (Nat.le_refl _) hb25)
  clear hb25 HB20
  have p_30 := Lib.hid (r23)
  clear r23
  clear f_27
  clear t_28
  have adj_31 := Lib.hid (adj_26.out.upA (.cells #[.int .i64 0, .int .i64 2] 3))
  clear adj_26
  have p_32 := Lib.hid (p_30.out.upA (.cells #[.int .i64 0, .int .i64 2] 3))
  clear p_30
  have HB33 := Lib.hid (HB29.out.alloc HB29.out.size (.cells #[.int .i64 0, .int .i64 2] 3))
  clear HB29
  have f_34 := Lib.hid (Row.at2 w24 (w24.heap.size) (by simp) 0 2)
  have adj_35 := Lib.hid (adj_31.out.upA (.cells #[.int .i64 3] 3))
  clear adj_31
  have p_36 := Lib.hid (p_32.out.upA (.cells #[.int .i64 3] 3))
  clear p_32
  have f_37 := Lib.hid (f_34.out.upA (.cells #[.int .i64 3] 3))
  clear f_34
  have HB38 := Lib.hid (HB33.out.alloc HB33.out.size (.cells #[.int .i64 3] 3))
  clear HB33
  have t_39 := Lib.hid (Row.at1 (w24.alloc (.cells #[.int .i64 0, .int .i64 2] 3)) (w24.heap.size + 1) (by simp) 3)
  go_wp2_with fail
  refine (path_is [[1, 2], [3], [3], []] [0, 2] [3] [2, 3] true (by decide +kernel) _ _ _ _ adj_35.out f_37.out t_39.out).mono ?_
  rintro e w42 ⟨u40, rfl, r41, hb43⟩
  have adj_44 := Lib.hid (adj_35.out.up hb43)
  clear adj_35
  have p_45 := Lib.hid (p_36.out.up hb43)
  clear p_36
  have f_46 := Lib.hid (f_37.out.up hb43)
  clear f_37
  have t_47 := Lib.hid (t_39.out.up hb43)
  clear t_39
  have HB48 := Lib.hid (below_next HB38.out (Nat.le_refl _) hb43)
  clear hb43 HB38
  have q_49 := Lib.hid (r41)
  clear r41
  clear f_46
  clear t_47
  have adj_50 := Lib.hid (adj_44.out.upA (.cells #[.int .i64 3] 3))
  clear adj_44
  have p_51 := Lib.hid (p_45.out.upA (.cells #[.int .i64 3] 3))
  clear p_45
  have q_52 := Lib.hid (q_49.out.upA (.cells #[.int .i64 3] 3))
  clear q_49
  have HB53 := Lib.hid (HB48.out.alloc HB48.out.size (.cells #[.int .i64 3] 3))
  clear HB48
  have f_54 := Lib.hid (Row.at1 w42 (w42.heap.size) (by simp) 3)
  have adj_55 := Lib.hid (adj_50.out.upA (.cells #[.int .i64 0] 3))
  clear adj_50
  have p_56 := Lib.hid (p_51.out.upA (.cells #[.int .i64 0] 3))
  clear p_51
  have q_57 := Lib.hid (q_52.out.upA (.cells #[.int .i64 0] 3))
  clear q_52
  have f_58 := Lib.hid (f_54.out.upA (.cells #[.int .i64 0] 3))
  clear f_54
  have HB59 := Lib.hid (HB53.out.alloc HB53.out.size (.cells #[.int .i64 0] 3))
  clear HB53
  have t_60 := Lib.hid (Row.at1 (w42.alloc (.cells #[.int .i64 3] 3)) (w42.heap.size + 1) (by simp) 0)
  go_wp2_with fail
  refine (path_is [[1, 2], [3], [3], []] [3] [0] [] false (by decide +kernel) _ _ _ _ adj_55.out f_58.out t_60.out).mono ?_
  rintro e w63 ⟨u61, rfl, r62, hb64⟩
  have adj_65 := Lib.hid (adj_55.out.up hb64)
  clear adj_55
  have p_66 := Lib.hid (p_56.out.up hb64)
  clear p_56
  have q_67 := Lib.hid (q_57.out.up hb64)
  clear q_57
  have f_68 := Lib.hid (f_58.out.up hb64)
  clear f_58
  have t_69 := Lib.hid (t_60.out.up hb64)
  clear t_60
  have HB70 := Lib.hid (below_next HB59.out (Nat.le_refl _) hb64)
  clear hb64 HB59
  have n_71 := Lib.hid (r62)
  clear r62
  clear f_68
  clear t_69
  clear n_71
  have adj_72 := Lib.hid (adj_65.out.upA (.cells #[.int .i64 1, .int .i64 3] 3))
  clear adj_65
  have p_73 := Lib.hid (p_66.out.upA (.cells #[.int .i64 1, .int .i64 3] 3))
  clear p_66
  have q_74 := Lib.hid (q_67.out.upA (.cells #[.int .i64 1, .int .i64 3] 3))
  clear q_67
  have HB75 := Lib.hid (HB70.out.alloc HB70.out.size (.cells #[.int .i64 1, .int .i64 3] 3))
  clear HB70
  have f_76 := Lib.hid (Row.at2 w63 (w63.heap.size) (by simp) 1 3)
  have adj_77 := Lib.hid (adj_72.out.upA (.cells #[.int .i64 1, .int .i64 3] 3))
  clear adj_72
  have p_78 := Lib.hid (p_73.out.upA (.cells #[.int .i64 1, .int .i64 3] 3))
  clear p_73
  have q_79 := Lib.hid (q_74.out.upA (.cells #[.int .i64 1, .int .i64 3] 3))
  clear q_74
  have f_80 := Lib.hid (f_76.out.upA (.cells #[.int .i64 1, .int .i64 3] 3))
  clear f_76
  have HB81 := Lib.hid (HB75.out.alloc HB75.out.size (.cells #[.int .i64 1, .int .i64 3] 3))
  clear HB75
  have t_82 := Lib.hid (Row.at2 (w63.alloc (.cells #[.int .i64 1, .int .i64 3] 3)) (w63.heap.size + 1) (by simp) 1 3)
  go_wp2_with fail
  refine (path_is [[1, 2], [3], [3], []] [1, 3] [1, 3] [1] true (by decide +kernel) _ _ _ _ adj_77.out f_80.out t_82.out).mono ?_
  rintro e w85 ⟨u83, rfl, r84, hb86⟩
  have adj_87 := Lib.hid (adj_77.out.up hb86)
  clear adj_77
  have p_88 := Lib.hid (p_78.out.up hb86)
  clear p_78
  have q_89 := Lib.hid (q_79.out.up hb86)
  clear q_79
  have f_90 := Lib.hid (f_80.out.up hb86)
  clear f_80
  have t_91 := Lib.hid (t_82.out.up hb86)
  clear t_82
  have HB92 := Lib.hid (below_next HB81.out (Nat.le_refl _) hb86)
  clear hb86 HB81
  have s_93 := Lib.hid (r84)
  clear r84
  clear f_90
  clear t_91
  have adj_94 := Lib.hid (adj_87.out.upA (.cells #[.int .i64 0, .int .i64 1, .int .i64 3] 3))
  clear adj_87
  have p_95 := Lib.hid (p_88.out.upA (.cells #[.int .i64 0, .int .i64 1, .int .i64 3] 3))
  clear p_88
  have q_96 := Lib.hid (q_89.out.upA (.cells #[.int .i64 0, .int .i64 1, .int .i64 3] 3))
  clear q_89
  have s_97 := Lib.hid (s_93.out.upA (.cells #[.int .i64 0, .int .i64 1, .int .i64 3] 3))
  clear s_93
  have HB98 := Lib.hid (HB92.out.alloc HB92.out.size (.cells #[.int .i64 0, .int .i64 1, .int .i64 3] 3))
  clear HB92
  have l_99 := Lib.hid (Row.at3 w85 (w85.heap.size) (by simp) 0 1 3)
  go_wp2_with fail
  refine (same_is _ _ [0, 1, 3] [0, 1, 3] _ p_95.out l_99.out (by decide) (by decide) (same_true rfl)).mono ?_
  rintro e w100 ⟨rfl, hb101⟩
  have adj_102 := Lib.hid (adj_94.out.up hb101)
  clear adj_94
  have p_103 := Lib.hid (p_95.out.up hb101)
  clear p_95
  have q_104 := Lib.hid (q_96.out.up hb101)
  clear q_96
  have s_105 := Lib.hid (s_97.out.up hb101)
  clear s_97
  have l_106 := Lib.hid (l_99.out.up hb101)
  clear l_99
  have HB107 := Lib.hid (below_next HB98.out (Nat.le_refl _) hb101)
  clear hb101 HB98
  clear l_106
  clear p_103
  have adj_108 := Lib.hid (adj_102.out.upA (.cells #[.int .i64 2, .int .i64 3] 3))
  clear adj_102
  have q_109 := Lib.hid (q_104.out.upA (.cells #[.int .i64 2, .int .i64 3] 3))
  clear q_104
  have s_110 := Lib.hid (s_105.out.upA (.cells #[.int .i64 2, .int .i64 3] 3))
  clear s_105
  have HB111 := Lib.hid (HB107.out.alloc HB107.out.size (.cells #[.int .i64 2, .int .i64 3] 3))
  clear HB107
  have l_112 := Lib.hid (Row.at2 w100 (w100.heap.size) (by simp) 2 3)
  go_wp2_with fail
  refine (same_is _ _ [2, 3] [2, 3] _ q_109.out l_112.out (by decide) (by decide) (same_true rfl)).mono ?_
  rintro e w113 ⟨rfl, hb114⟩
  have adj_115 := Lib.hid (adj_108.out.up hb114)
  clear adj_108
  have q_116 := Lib.hid (q_109.out.up hb114)
  clear q_109
  have s_117 := Lib.hid (s_110.out.up hb114)
  clear s_110
  have l_118 := Lib.hid (l_112.out.up hb114)
  clear l_112
  have HB119 := Lib.hid (below_next HB111.out (Nat.le_refl _) hb114)
  clear hb114 HB111
  clear l_118
  clear q_116
  have adj_120 := Lib.hid (adj_115.out.upA (.cells #[.int .i64 1] 3))
  clear adj_115
  have s_121 := Lib.hid (s_117.out.upA (.cells #[.int .i64 1] 3))
  clear s_117
  have HB122 := Lib.hid (HB119.out.alloc HB119.out.size (.cells #[.int .i64 1] 3))
  clear HB119
  have l_123 := Lib.hid (Row.at1 w113 (w113.heap.size) (by simp) 1)
  go_wp2_with fail
  refine (same_is _ _ [1] [1] _ s_121.out l_123.out (by decide) (by decide) (same_true rfl)).mono ?_
  rintro e w124 ⟨rfl, hb125⟩
  have adj_126 := Lib.hid (adj_120.out.up hb125)
  clear adj_120
  have s_127 := Lib.hid (s_121.out.up hb125)
  clear s_121
  have l_128 := Lib.hid (l_123.out.up hb125)
  clear l_123
  have HB129 := Lib.hid (below_next HB122.out (Nat.le_refl _) hb125)
  clear hb125 HB122
  clear l_128
  clear s_127
  have adj_130 := Lib.hid (adj_126.out.upA (.cells #[.int .i64 1] 3))
  clear adj_126
  have HB131 := Lib.hid (HB129.out.alloc HB129.out.size (.cells #[.int .i64 1] 3))
  clear HB129
  have f_132 := Lib.hid (Row.at1 w124 (w124.heap.size) (by simp) 1)
  go_wp2_with fail
  refine (from_is [[1, 2], [3], [3], []] [1] [1, 3] (by decide +kernel) _ _ _ adj_130.out f_132.out).mono ?_
  rintro e w135 ⟨v133, rfl, r134, hb136⟩
  have adj_137 := Lib.hid (adj_130.out.up hb136)
  clear adj_130
  have f_138 := Lib.hid (f_132.out.up hb136)
  clear f_132
  have HB139 := Lib.hid (below_next HB131.out (Nat.le_refl _) hb136)
  clear hb136 HB131
  have x_140 := Lib.hid (r134)
  clear r134
  clear f_138
  have adj_141 := Lib.hid (adj_137.out.upA (.cells #[.int .i64 1, .int .i64 3] 3))
  clear adj_137
  have x_142 := Lib.hid (x_140.out.upA (.cells #[.int .i64 1, .int .i64 3] 3))
  clear x_140
  have HB143 := Lib.hid (HB139.out.alloc HB139.out.size (.cells #[.int .i64 1, .int .i64 3] 3))
  clear HB139
  have l_144 := Lib.hid (Row.at2 w135 (w135.heap.size) (by simp) 1 3)
  go_wp2_with fail
  refine (same_is _ _ [1, 3] [1, 3] _ x_142.out l_144.out (by decide) (by decide) (same_true rfl)).mono ?_
  rintro e w145 ⟨rfl, hb146⟩
  have adj_147 := Lib.hid (adj_141.out.up hb146)
  clear adj_141
  have x_148 := Lib.hid (x_142.out.up hb146)
  clear x_142
  have l_149 := Lib.hid (l_144.out.up hb146)
  clear l_144
  have HB150 := Lib.hid (below_next HB143.out (Nat.le_refl _) hb146)
  clear hb146 HB143
  clear l_149
  clear x_148
  go_wp2_with fail
  refine (rmay_is _ [[1, 2], [3], [3], []] true (by decide +kernel) _ adj_147.out).mono ?_
  rintro e w151 ⟨rfl, hb152⟩
  have adj_153 := Lib.hid (adj_147.out.up hb152)
  clear adj_147
  have HB154 := Lib.hid (below_next HB150.out (Nat.le_refl _) hb152)
  clear hb152 HB150
  have adj_155 := Lib.hid (adj_153.out.upA (.cells #[.int .i64 1] 3))
  clear adj_153
  have HB156 := Lib.hid (HB154.out.alloc HB154.out.size (.cells #[.int .i64 1] 3))
  clear HB154
  have o_157 := Lib.hid (Row.at1 w151 (w151.heap.size) (by simp) 1)
  have oo_158 := Lib.hid (Rows2.at1 (w151.alloc (.cells #[.int .i64 1] 3)) (w151.heap.size + 1) (by simp) o_157.out)
  have adj_159 := Lib.hid (adj_155.out.upA (.cells #[.slice (some ⟨w151.heap.size, 0, none⟩) 1 1] 25))
  clear adj_155
  have o_160 := Lib.hid (o_157.out.upA (.cells #[.slice (some ⟨w151.heap.size, 0, none⟩) 1 1] 25))
  clear o_157
  have HB161 := Lib.hid (HB156.out.alloc HB156.out.size (.cells #[.slice (some ⟨w151.heap.size, 0, none⟩) 1 1] 25))
  clear HB156
  go_wp2_with fail
  refine (rmay_is _ [[1]] false (by decide +kernel) _ oo_158.out).mono ?_
  rintro e w162 ⟨rfl, hb163⟩
  have adj_164 := Lib.hid (adj_159.out.up hb163)
  clear adj_159
  have oo_165 := Lib.hid (oo_158.out.up hb163)
  clear oo_158
  have HB166 := Lib.hid (below_next HB161.out (Nat.le_refl _) hb163)
  clear hb163 HB161
  clear oo_165
  have adj_167 := Lib.hid (adj_164.out.upA (.cells #[.int .i64 4] 3))
  clear adj_164
  have HB168 := Lib.hid (HB166.out.alloc HB166.out.size (.cells #[.int .i64 4] 3))
  clear HB166
  have f_169 := Lib.hid (Row.at1 w162 (w162.heap.size) (by simp) 4)
  go_wp2_with fail
  refine (from_is [[1, 2], [3], [3], []] [4] [] (by decide +kernel) _ _ _ adj_167.out f_169.out).mono ?_
  rintro e w172 ⟨v170, rfl, r171, hb173⟩
  have adj_174 := Lib.hid (adj_167.out.up hb173)
  clear adj_167
  have f_175 := Lib.hid (f_169.out.up hb173)
  clear f_169
  have HB176 := Lib.hid (below_next HB168.out (Nat.le_refl _) hb173)
  clear hb173 HB168
  have y_177 := Lib.hid (r171)
  obtain ⟨A_y, c_y, rfl, -⟩ := r171
  clear f_175
  clear y_177
  clear adj_174
  go_wp2
  go_ret
  exact ⟨rfl, HB176.out⟩

end Wp
end Go.Proofs.Ytmgfhehnehcmpaa
