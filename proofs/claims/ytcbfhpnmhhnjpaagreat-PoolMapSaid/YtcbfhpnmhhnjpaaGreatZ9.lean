import Derived.Test.YtcbfhpnmhhnjpaaGreatZ8
import Derived.Deep.RegionLaw
import Derived.BigFrame
import Derived.Test.YtcbfhpnmhhnjpaaGreatProg
import Derived.KernelRfl
set_option linter.unusedVariables false
set_option linter.unusedSimpArgs false
namespace Go.Proofs.YtcbfhpnmhhnjpaaGreat
open Go.RowKit
theorem aP0 : type_of% (And.intro @r_skip (And.intro @r_reg (And.intro @r_draw (And.intro @r_seq (And.intro @r_cond (And.intro @r_block (And.intro @r_loop (And.intro @r_exit (And.intro @r_ret (And.intro @t_normal (And.intro @t_exit (And.intro @t_ret (And.intro @b_normal (And.intro @b_exit (And.intro @b_ret (And.intro @p_normal (And.intro @p_ret (And.intro @p_exit (And.intro @s_nil (@s_plain)))))))))))))))))))) := And.intro @r_skip (And.intro @r_reg (And.intro @r_draw (And.intro @r_seq (And.intro @r_cond (And.intro @r_block (And.intro @r_loop (And.intro @r_exit (And.intro @r_ret (And.intro @t_normal (And.intro @t_exit (And.intro @t_ret (And.intro @b_normal (And.intro @b_exit (And.intro @b_ret (And.intro @p_normal (And.intro @p_ret (And.intro @p_exit (And.intro @s_nil (@s_plain)))))))))))))))))))
theorem aP1 : type_of% (And.intro @s_guard (And.intro @gx_tt (And.intro @gx_ff (And.intro @gx_tf (And.intro @gx_ft (And.intro @f_true (And.intro @f_false (And.intro @d_nil (And.intro @d_plain (And.intro @d_guard (And.intro @gxd_tt (And.intro @gxd_ff (And.intro @gxd_tf (And.intro @gxd_ft (And.intro @k_ap (And.intro @kd_ap (And.intro @e_ap (And.intro @askIdx_zero (And.intro @askIdx_succ (@askIdx_map)))))))))))))))))))) := And.intro @s_guard (And.intro @gx_tt (And.intro @gx_ff (And.intro @gx_tf (And.intro @gx_ft (And.intro @f_true (And.intro @f_false (And.intro @d_nil (And.intro @d_plain (And.intro @d_guard (And.intro @gxd_tt (And.intro @gxd_ff (And.intro @gxd_tf (And.intro @gxd_ft (And.intro @k_ap (And.intro @kd_ap (And.intro @e_ap (And.intro @askIdx_zero (And.intro @askIdx_succ (@askIdx_map)))))))))))))))))))
theorem aP2 : type_of% (And.intro @l_agg (And.intro @l_one (And.intro @c_ap (And.intro @cs_ap (And.intro @a_mv (And.intro @a_pick (And.intro @a_mk (And.intro @a_box (And.intro @a_build (And.intro @a_bslice (And.intro @a_load (And.intro @stB_ap (And.intro @stR_ap (And.intro @a_store (And.intro @a_bin (And.intro @a_eqs (And.intro @a_not (And.intro @a_conv (And.intro @a_b2s (@a_mkSlice)))))))))))))))))))) := And.intro @l_agg (And.intro @l_one (And.intro @c_ap (And.intro @cs_ap (And.intro @a_mv (And.intro @a_pick (And.intro @a_mk (And.intro @a_box (And.intro @a_build (And.intro @a_bslice (And.intro @a_load (And.intro @stB_ap (And.intro @stR_ap (And.intro @a_store (And.intro @a_bin (And.intro @a_eqs (And.intro @a_not (And.intro @a_conv (And.intro @a_b2s (@a_mkSlice)))))))))))))))))))
theorem aP3 : type_of% (And.intro @a_sub (And.intro @a_z3 (And.intro @a_ssub (And.intro @a_fld (And.intro @idxK_ap (And.intro @a_idx (And.intro @a_aidx (And.intro @a_sidx (And.intro @a_field (And.intro @a_ext (And.intro @a_len (And.intro @a_slen (And.intro @a_app (And.intro @a_call (And.intro @a_callv (And.intro @a_clo (And.intro @a_nilc (And.intro @a_isnil (And.intro @a_mm (@after_val)))))))))))))))))))) := And.intro @a_sub (And.intro @a_z3 (And.intro @a_ssub (And.intro @a_fld (And.intro @idxK_ap (And.intro @a_idx (And.intro @a_aidx (And.intro @a_sidx (And.intro @a_field (And.intro @a_ext (And.intro @a_len (And.intro @a_slen (And.intro @a_app (And.intro @a_call (And.intro @a_callv (And.intro @a_clo (And.intro @a_nilc (And.intro @a_isnil (And.intro @a_mm (@after_val)))))))))))))))))))
theorem aP4 : type_of% (And.intro @after_row (And.intro @af_t (@af_f))) := And.intro @after_row (And.intro @af_t (@af_f))
theorem aP : type_of% (And.intro @aP0 (And.intro @aP1 (And.intro @aP2 (And.intro @aP3 (@aP4))))) := And.intro @aP0 (And.intro @aP1 (And.intro @aP2 (And.intro @aP3 (@aP4))))
theorem aQ0 : type_of% (And.intro @g0_ap (And.intro @g0d_ap (And.intro @rd_ptr (And.intro @rd_sptr (And.intro @rdB_box (And.intro @rdB_row (And.intro @pk_true (And.intro @pk_false (And.intro @pk_bool (And.intro @stX_box (And.intro @stX_row (And.intro @only_gen (And.intro @only_blk (And.intro @eff_none (And.intro @eff_some (And.intro @ev_t (And.intro @ev_k (And.intro @app_nil (And.intro @app_cons (@set_gen)))))))))))))))))))) := And.intro @g0_ap (And.intro @g0d_ap (And.intro @rd_ptr (And.intro @rd_sptr (And.intro @rdB_box (And.intro @rdB_row (And.intro @pk_true (And.intro @pk_false (And.intro @pk_bool (And.intro @stX_box (And.intro @stX_row (And.intro @only_gen (And.intro @only_blk (And.intro @eff_none (And.intro @eff_some (And.intro @ev_t (And.intro @ev_k (And.intro @app_nil (And.intro @app_cons (@set_gen)))))))))))))))))))
theorem aQ1 : type_of% (And.intro @set_blk (And.intro @upd_ap (And.intro @view_eq (And.intro @init_slot (And.intro @init_gen (And.intro @init_blk (And.intro @TV.lift.eq_1 (And.intro @TV.lift.eq_2 (And.intro @TV.lift.eq_3 (And.intro @TV.lift.eq_4 (And.intro @TV.cells.eq_1 (And.intro @TV.cells.eq_2 (And.intro @TV.cells.eq_3 (And.intro @lenOf.eq_1 (And.intro @lenOf.eq_2 (And.intro @lenOf.eq_3 (And.intro @lenOf.eq_4 (And.intro @lenOf.eq_5 (And.intro @sliceOf.eq_1 (@sliceOf.eq_2)))))))))))))))))))) := And.intro @set_blk (And.intro @upd_ap (And.intro @view_eq (And.intro @init_slot (And.intro @init_gen (And.intro @init_blk (And.intro @TV.lift.eq_1 (And.intro @TV.lift.eq_2 (And.intro @TV.lift.eq_3 (And.intro @TV.lift.eq_4 (And.intro @TV.cells.eq_1 (And.intro @TV.cells.eq_2 (And.intro @TV.cells.eq_3 (And.intro @lenOf.eq_1 (And.intro @lenOf.eq_2 (And.intro @lenOf.eq_3 (And.intro @lenOf.eq_4 (And.intro @lenOf.eq_5 (And.intro @sliceOf.eq_1 (@sliceOf.eq_2)))))))))))))))))))
theorem aQ2 : type_of% (And.intro @sliceOf.eq_3 (And.intro @sliceOf.eq_4 (And.intro @sliceOf.eq_5 (And.intro @bnd.eq_1 (And.intro @bnd.eq_2 (And.intro @afterX.eq_1 (And.intro @boxX.eq_1 (And.intro @boxX.eq_2 (And.intro @blkX.eq_1 (And.intro @retX.eq_1 (And.intro @XR.lb.eq_1 (And.intro @binv.eq_1 (And.intro @binv.eq_2 (And.intro @binv.eq_3 (And.intro @binv.eq_4 (And.intro @binv.eq_5 (And.intro @binv.eq_6 (And.intro @binv.eq_7 (And.intro @binv.eq_8 (@binv.eq_9)))))))))))))))))))) := And.intro @sliceOf.eq_3 (And.intro @sliceOf.eq_4 (And.intro @sliceOf.eq_5 (And.intro @bnd.eq_1 (And.intro @bnd.eq_2 (And.intro @afterX.eq_1 (And.intro @boxX.eq_1 (And.intro @boxX.eq_2 (And.intro @blkX.eq_1 (And.intro @retX.eq_1 (And.intro @XR.lb.eq_1 (And.intro @binv.eq_1 (And.intro @binv.eq_2 (And.intro @binv.eq_3 (And.intro @binv.eq_4 (And.intro @binv.eq_5 (And.intro @binv.eq_6 (And.intro @binv.eq_7 (And.intro @binv.eq_8 (@binv.eq_9)))))))))))))))))))
theorem aQ3 : type_of% (And.intro @binv.eq_10 (And.intro @binv.eq_11 (And.intro @binv.eq_12 (And.intro @binv.eq_13 (And.intro @binv.eq_14 (And.intro @binv.eq_15 (And.intro @binv.eq_16 (And.intro @binv.eq_17 (And.intro @binv.eq_18 (And.intro @binv.eq_19 (And.intro @binv.eq_20 (And.intro @binv.eq_21 (And.intro @binv.eq_22 (And.intro @numsOf.eq_1 (And.intro @numsOf.eq_2 (And.intro @numsOf.eq_3 (And.intro @isBool.eq_1 (And.intro @isBool.eq_2 (And.intro @fin.eq_1 (@finRow.eq_1)))))))))))))))))))) := And.intro @binv.eq_10 (And.intro @binv.eq_11 (And.intro @binv.eq_12 (And.intro @binv.eq_13 (And.intro @binv.eq_14 (And.intro @binv.eq_15 (And.intro @binv.eq_16 (And.intro @binv.eq_17 (And.intro @binv.eq_18 (And.intro @binv.eq_19 (And.intro @binv.eq_20 (And.intro @binv.eq_21 (And.intro @binv.eq_22 (And.intro @numsOf.eq_1 (And.intro @numsOf.eq_2 (And.intro @numsOf.eq_3 (And.intro @isBool.eq_1 (And.intro @isBool.eq_2 (And.intro @fin.eq_1 (@finRow.eq_1)))))))))))))))))))
theorem aQ4 : type_of% (And.intro @outs.eq_1 (And.intro @outs.eq_2 (And.intro @outs.eq_3 (And.intro @mkTV.eq_1 (And.intro @mkTV.eq_2 (And.intro @mkTV.eq_3 (And.intro @all?.eq_1 (And.intro @all?.eq_2 (And.intro @shA.eq_1 (And.intro @shA.eq_2 (And.intro @shA.eq_3 (And.intro @shA.eq_4 (And.intro @shB.eq_1 (And.intro @shB.eq_2 (And.intro @shB.eq_3 (And.intro @sh0.eq_1 (And.intro @sh0.eq_2 (And.intro @sh0.eq_3 (And.intro @argB.eq_1 (@argB.eq_2)))))))))))))))))))) := And.intro @outs.eq_1 (And.intro @outs.eq_2 (And.intro @outs.eq_3 (And.intro @mkTV.eq_1 (And.intro @mkTV.eq_2 (And.intro @mkTV.eq_3 (And.intro @all?.eq_1 (And.intro @all?.eq_2 (And.intro @shA.eq_1 (And.intro @shA.eq_2 (And.intro @shA.eq_3 (And.intro @shA.eq_4 (And.intro @shB.eq_1 (And.intro @shB.eq_2 (And.intro @shB.eq_3 (And.intro @sh0.eq_1 (And.intro @sh0.eq_2 (And.intro @sh0.eq_3 (And.intro @argB.eq_1 (@argB.eq_2)))))))))))))))))))
theorem aQ5 : type_of% (And.intro @argB.eq_3 (And.intro @TV.flat.eq_1 (And.intro @TV.flat.eq_2 (And.intro @TV.flat.eq_3 (And.intro @TV.flat.eq_4 (And.intro @SC.isPv.eq_1 (And.intro @SC.isPv.eq_2 (And.intro @frz.eq_1 (And.intro @frz.eq_2 (And.intro @frz.eq_3 (And.intro @patch.eq_1 (And.intro @fillA.eq_1 (And.intro @fillA.eq_2 (And.intro @chunk.eq_1 (And.intro @chunk.eq_2 (And.intro @whole.eq_1 (And.intro @whole.eq_2 (And.intro @LB.view.eq_1 (And.intro @LB.view.eq_2 (@LB.view.eq_3)))))))))))))))))))) := And.intro @argB.eq_3 (And.intro @TV.flat.eq_1 (And.intro @TV.flat.eq_2 (And.intro @TV.flat.eq_3 (And.intro @TV.flat.eq_4 (And.intro @SC.isPv.eq_1 (And.intro @SC.isPv.eq_2 (And.intro @frz.eq_1 (And.intro @frz.eq_2 (And.intro @frz.eq_3 (And.intro @patch.eq_1 (And.intro @fillA.eq_1 (And.intro @fillA.eq_2 (And.intro @chunk.eq_1 (And.intro @chunk.eq_2 (And.intro @whole.eq_1 (And.intro @whole.eq_2 (And.intro @LB.view.eq_1 (And.intro @LB.view.eq_2 (@LB.view.eq_3)))))))))))))))))))
theorem aQ6 : type_of% (And.intro @LB.view.eq_4 (And.intro @VB.live.eq_1 (And.intro @VB.live.eq_2 (And.intro @pvs.eq_1 (And.intro @pvs.eq_2 (And.intro @pvs.eq_3 (And.intro @List.getElem?_cons_zero.{0} (And.intro @List.getElem?_cons_succ.{0} (And.intro @List.getElem?_nil.{0} (And.intro @List.getElem_cons_zero.{0} (And.intro @List.getElem_cons_succ.{0} (And.intro @List.map_cons.{0, 0} (And.intro @List.map_nil.{0, 0} (And.intro @List.length_map.{0, 0} (And.intro @List.take_succ_cons.{0} (And.intro @List.take_zero.{0} (And.intro @List.drop_succ_cons.{0} (And.intro @List.drop_zero.{0} (And.intro @List.take_nil.{0} (@List.drop_nil.{0})))))))))))))))))))) := And.intro @LB.view.eq_4 (And.intro @VB.live.eq_1 (And.intro @VB.live.eq_2 (And.intro @pvs.eq_1 (And.intro @pvs.eq_2 (And.intro @pvs.eq_3 (And.intro @List.getElem?_cons_zero.{0} (And.intro @List.getElem?_cons_succ.{0} (And.intro @List.getElem?_nil.{0} (And.intro @List.getElem_cons_zero.{0} (And.intro @List.getElem_cons_succ.{0} (And.intro @List.map_cons.{0, 0} (And.intro @List.map_nil.{0, 0} (And.intro @List.length_map.{0, 0} (And.intro @List.take_succ_cons.{0} (And.intro @List.take_zero.{0} (And.intro @List.drop_succ_cons.{0} (And.intro @List.drop_zero.{0} (And.intro @List.take_nil.{0} (@List.drop_nil.{0})))))))))))))))))))
theorem aQ7 : type_of% (And.intro @List.cons_append.{0} (And.intro @List.nil_append.{0} (And.intro @List.append_nil.{0} (And.intro @List.flatten_cons.{0} (And.intro @List.flatten_nil.{0} (And.intro @List.length_cons.{0} (And.intro @List.length_nil.{0} (And.intro @List.set_cons_zero.{0} (And.intro @List.set_cons_succ.{0} (And.intro @List.all_cons.{0} (And.intro @List.all_nil.{0} (And.intro @List.replicate_succ.{0} (And.intro @List.replicate_zero.{0} (And.intro @Option.toList_none.{0} (And.intro @Option.toList_some.{0} (And.intro @Option.map_some.{0, 0} (And.intro @Option.map_none.{0, 0} (And.intro @Option.isSome_some.{0} (And.intro @Nat.zero_add (@Nat.add_zero)))))))))))))))))))) := And.intro @List.cons_append.{0} (And.intro @List.nil_append.{0} (And.intro @List.append_nil.{0} (And.intro @List.flatten_cons.{0} (And.intro @List.flatten_nil.{0} (And.intro @List.length_cons.{0} (And.intro @List.length_nil.{0} (And.intro @List.set_cons_zero.{0} (And.intro @List.set_cons_succ.{0} (And.intro @List.all_cons.{0} (And.intro @List.all_nil.{0} (And.intro @List.replicate_succ.{0} (And.intro @List.replicate_zero.{0} (And.intro @Option.toList_none.{0} (And.intro @Option.toList_some.{0} (And.intro @Option.map_some.{0, 0} (And.intro @Option.map_none.{0, 0} (And.intro @Option.isSome_some.{0} (And.intro @Nat.zero_add (@Nat.add_zero)))))))))))))))))))
theorem aQ8 : type_of% (And.intro @Bool.not_true (And.intro @Bool.not_false (And.intro @Bool.and_true (And.intro @Bool.true_and (And.intro @Bool.and_false (And.intro @Bool.false_and (And.intro @Bool.true_eq_false (And.intro @Bool.false_eq_true (And.intro @cond_true.{1} (And.intro @cond_false.{1} (And.intro @true_and (And.intro @and_true (And.intro @false_and (And.intro @and_false (And.intro @false_implies (And.intro @true_implies (And.intro @exists_prop (And.intro @Int.toNat_zero (And.intro @Int.toNat_natCast (@Nat.le_refl)))))))))))))))))))) := And.intro @Bool.not_true (And.intro @Bool.not_false (And.intro @Bool.and_true (And.intro @Bool.true_and (And.intro @Bool.and_false (And.intro @Bool.false_and (And.intro @Bool.true_eq_false (And.intro @Bool.false_eq_true (And.intro @cond_true.{1} (And.intro @cond_false.{1} (And.intro @true_and (And.intro @and_true (And.intro @false_and (And.intro @and_false (And.intro @false_implies (And.intro @true_implies (And.intro @exists_prop (And.intro @Int.toNat_zero (And.intro @Int.toNat_natCast (@Nat.le_refl)))))))))))))))))))
theorem aQ9 : type_of% (And.intro @Int.le_refl (And.intro @beq_self_eq_true.{0} (And.intro @decide_true (And.intro @decide_false (And.intro @Bool.xor_false (And.intro @Bool.false_xor (And.intro @Bool.true_xor (And.intro @not_true_eq_false (And.intro @not_false_eq_true (And.intro @false_or (And.intro @or_false (And.intro @true_or (And.intro @or_true (And.intro @Bool.or_true (And.intro @Bool.true_or (And.intro @Bool.or_false (And.intro @Bool.false_or (And.intro @List.contains_cons.{0} (And.intro @List.contains_nil.{0} (@ROp.locs.eq_1)))))))))))))))))))) := And.intro @Int.le_refl (And.intro @beq_self_eq_true.{0} (And.intro @decide_true (And.intro @decide_false (And.intro @Bool.xor_false (And.intro @Bool.false_xor (And.intro @Bool.true_xor (And.intro @not_true_eq_false (And.intro @not_false_eq_true (And.intro @false_or (And.intro @or_false (And.intro @true_or (And.intro @or_true (And.intro @Bool.or_true (And.intro @Bool.true_or (And.intro @Bool.or_false (And.intro @Bool.false_or (And.intro @List.contains_cons.{0} (And.intro @List.contains_nil.{0} (@ROp.locs.eq_1)))))))))))))))))))
theorem aQ10 : type_of% (And.intro @ROp.slots.eq_1 (And.intro @AOp.opds.eq_1 (And.intro @AOp.opds.eq_2 (And.intro @AOp.opds.eq_3 (And.intro @AOp.opds.eq_4 (And.intro @AOp.opds.eq_5 (And.intro @AOp.opds.eq_6 (And.intro @AOp.opds.eq_7 (And.intro @AOp.opds.eq_8 (And.intro @AOp.opds.eq_9 (And.intro @AOp.opds.eq_10 (And.intro @AOp.opds.eq_11 (And.intro @AOp.opds.eq_12 (And.intro @AOp.opds.eq_13 (And.intro @AOp.opds.eq_14 (And.intro @AOp.opds.eq_15 (And.intro @AOp.opds.eq_16 (And.intro @AOp.opds.eq_17 (And.intro @AOp.opds.eq_18 (@AOp.opds.eq_19)))))))))))))))))))) := And.intro @ROp.slots.eq_1 (And.intro @AOp.opds.eq_1 (And.intro @AOp.opds.eq_2 (And.intro @AOp.opds.eq_3 (And.intro @AOp.opds.eq_4 (And.intro @AOp.opds.eq_5 (And.intro @AOp.opds.eq_6 (And.intro @AOp.opds.eq_7 (And.intro @AOp.opds.eq_8 (And.intro @AOp.opds.eq_9 (And.intro @AOp.opds.eq_10 (And.intro @AOp.opds.eq_11 (And.intro @AOp.opds.eq_12 (And.intro @AOp.opds.eq_13 (And.intro @AOp.opds.eq_14 (And.intro @AOp.opds.eq_15 (And.intro @AOp.opds.eq_16 (And.intro @AOp.opds.eq_17 (And.intro @AOp.opds.eq_18 (@AOp.opds.eq_19)))))))))))))))))))
theorem aQ11 : type_of% (And.intro @AOp.opds.eq_20 (And.intro @AOp.opds.eq_21 (And.intro @AOp.opds.eq_22 (And.intro @AOp.opds.eq_23 (And.intro @AOp.opds.eq_24 (And.intro @AOp.opds.eq_25 (And.intro @AOp.opds.eq_26 (And.intro @AOp.opds.eq_27 (And.intro @AOp.opds.eq_28 (And.intro @AOp.opds.eq_29 (And.intro @AOp.opds.eq_30 (And.intro @AOp.opds.eq_31 (And.intro @AOp.opds.eq_32 (And.intro @TV.all.eq_1 (And.intro @TV.all.eq_2 (And.intro @TV.all.eq_3 (And.intro @locs0.eq_1 (And.intro @locs0.eq_2 (And.intro @locs0.eq_3 (@locs1.eq_1)))))))))))))))))))) := And.intro @AOp.opds.eq_20 (And.intro @AOp.opds.eq_21 (And.intro @AOp.opds.eq_22 (And.intro @AOp.opds.eq_23 (And.intro @AOp.opds.eq_24 (And.intro @AOp.opds.eq_25 (And.intro @AOp.opds.eq_26 (And.intro @AOp.opds.eq_27 (And.intro @AOp.opds.eq_28 (And.intro @AOp.opds.eq_29 (And.intro @AOp.opds.eq_30 (And.intro @AOp.opds.eq_31 (And.intro @AOp.opds.eq_32 (And.intro @TV.all.eq_1 (And.intro @TV.all.eq_2 (And.intro @TV.all.eq_3 (And.intro @locs0.eq_1 (And.intro @locs0.eq_2 (And.intro @locs0.eq_3 (@locs1.eq_1)))))))))))))))))))
theorem aQ12 : type_of% (And.intro @locs1.eq_2 (And.intro @locs1.eq_3 (And.intro @locs1.eq_4 (And.intro @boxLocs.eq_1 (And.intro @own1.eq_1 (And.intro @own1.eq_2 (And.intro @Opd.slots.eq_1 (And.intro @Opd.slots.eq_2 (And.intro @List.flatMap_cons.{0, 0} (And.intro @List.flatMap_nil.{0, 0} (And.intro @rds.eq_1 (And.intro @wrs.eq_1 (And.intro @wrs.eq_2 (And.intro @vI.eq_1 (And.intro @vB.eq_1 (And.intro @vS.eq_1 (And.intro @vL.eq_1 (And.intro @rI.eq_1 (And.intro @rB.eq_1 (@rS.eq_1)))))))))))))))))))) := And.intro @locs1.eq_2 (And.intro @locs1.eq_3 (And.intro @locs1.eq_4 (And.intro @boxLocs.eq_1 (And.intro @own1.eq_1 (And.intro @own1.eq_2 (And.intro @Opd.slots.eq_1 (And.intro @Opd.slots.eq_2 (And.intro @List.flatMap_cons.{0, 0} (And.intro @List.flatMap_nil.{0, 0} (And.intro @rds.eq_1 (And.intro @wrs.eq_1 (And.intro @wrs.eq_2 (And.intro @vI.eq_1 (And.intro @vB.eq_1 (And.intro @vS.eq_1 (And.intro @vL.eq_1 (And.intro @rI.eq_1 (And.intro @rB.eq_1 (@rS.eq_1)))))))))))))))))))
theorem aQ13 : type_of% (And.intro @rL.eq_1 (And.intro @Int.natCast_nonneg (And.intro @sim_self (And.intro @sim_nil (And.intro @sim_pv (And.intro @simL.eq_1 (And.intro @simL.eq_2 (And.intro @simL.eq_3 (And.intro @simT.eq_1 (And.intro @simT.eq_2 (And.intro @simT.eq_3 (And.intro @tsim.eq_1 (And.intro @tsim.eq_2 (And.intro @tsim.eq_3 (And.intro @tsim.eq_4 (And.intro @tsim.eq_5 (And.intro @asim.eq_1 (And.intro @asim.eq_2 (And.intro @asim.eq_3 (@Value.int.injEq)))))))))))))))))))) := And.intro @rL.eq_1 (And.intro @Int.natCast_nonneg (And.intro @sim_self (And.intro @sim_nil (And.intro @sim_pv (And.intro @simL.eq_1 (And.intro @simL.eq_2 (And.intro @simL.eq_3 (And.intro @simT.eq_1 (And.intro @simT.eq_2 (And.intro @simT.eq_3 (And.intro @tsim.eq_1 (And.intro @tsim.eq_2 (And.intro @tsim.eq_3 (And.intro @tsim.eq_4 (And.intro @tsim.eq_5 (And.intro @asim.eq_1 (And.intro @asim.eq_2 (And.intro @asim.eq_3 (@Value.int.injEq)))))))))))))))))))
theorem aQ14 : type_of% (And.intro @Value.bool.injEq (And.intro @Value.string.injEq (And.intro @Int.natCast_zero (And.intro @Int.natCast_one (And.intro @Int.cast_ofNat_Int (And.intro @wrap_zero (And.intro @sz_empty (And.intro @bne_self_eq_false.{0} (And.intro @g0_sk (@g0d_sk)))))))))) := And.intro @Value.bool.injEq (And.intro @Value.string.injEq (And.intro @Int.natCast_zero (And.intro @Int.natCast_one (And.intro @Int.cast_ofNat_Int (And.intro @wrap_zero (And.intro @sz_empty (And.intro @bne_self_eq_false.{0} (And.intro @g0_sk (@g0d_sk)))))))))
theorem aQ : type_of% (And.intro @aQ0 (And.intro @aQ1 (And.intro @aQ2 (And.intro @aQ3 (And.intro @aQ4 (And.intro @aQ5 (And.intro @aQ6 (And.intro @aQ7 (And.intro @aQ8 (And.intro @aQ9 (And.intro @aQ10 (And.intro @aQ11 (And.intro @aQ12 (And.intro @aQ13 (@aQ14))))))))))))))) := And.intro @aQ0 (And.intro @aQ1 (And.intro @aQ2 (And.intro @aQ3 (And.intro @aQ4 (And.intro @aQ5 (And.intro @aQ6 (And.intro @aQ7 (And.intro @aQ8 (And.intro @aQ9 (And.intro @aQ10 (And.intro @aQ11 (And.intro @aQ12 (And.intro @aQ13 (@aQ14))))))))))))))
theorem aR : type_of% (And.intro @aQ (And.intro @forall_const.{1} (And.intro @forall_const.{0} (And.intro @implies_true.{1} (And.intro @implies_true.{0} (And.intro @exists_const.{1} @ne_eq.{1})))))) := And.intro @aQ (And.intro @forall_const.{1} (And.intro @forall_const.{0} (And.intro @implies_true.{1} (And.intro @implies_true.{0} (And.intro @exists_const.{1} @ne_eq.{1})))))
end Go.Proofs.YtcbfhpnmhhnjpaaGreat

namespace Go.Proofs.YtcbfhpnmhhnjpaaGreat
open Go.RowKit
section
variable {P : Program}
def RInv (n : Nat) (I : Nat → St → Prop) (m : Nat) (σ : St) : Prop := ∃ i, i + m = n ∧ I i σ
theorem rangeA {b : ACode} {Q : Ex → St → Prop} {σ : St} (n : Nat) (I : Nat → St → Prop) (h0 : I 0 σ) (hr : ∀ i m σ, i + m = n → I i σ → wpA P b (Ex.then (fun σ' => ∃ m', m' < m ∧ RInv n I m' σ') Q) σ) : LoopA (wpA P b) Q σ :=
  ⟨RInv n I, n, ⟨σ, .refl σ, 0, by omega, h0⟩, fun m σ ⟨i, him, hi⟩ => hr i m σ him hi⟩
theorem nextR {m i n : Nat} {I : Nat → St → Prop} {σ' : St} (hi : i < n) (him : i + m = n) (h : I (i + 1) σ') : ∃ m', m' < m ∧ RInv n I m' σ' := ⟨m - 1, by omega, i + 1, by omega, h⟩
theorem rangeB {b : ACode} {Q : Ex → St → Prop} {σ : St} (n : Nat) (I : Nat → St → Prop) (h0 : I 0 σ)
    (hr : ∀ i m σ, i + m = n → i < n → decide ((i : Int) < (n : Int)) = true → I i σ → wpA P b (Ex.then (fun σ' => ∃ m', m' < m ∧ RInv n I m' σ') Q) σ)
    (he : ∀ m σ, decide ((n : Int) < (n : Int)) = false → I n σ → wpA P b (Ex.then (fun σ' => ∃ m', m' < m ∧ RInv n I m' σ') Q) σ) : LoopA (wpA P b) Q σ :=
  ⟨RInv n I, n, ⟨σ, .refl σ, 0, by omega, h0⟩, fun m σ ⟨i, him, hi⟩ => by
    by_cases h : i < n
    · exact hr i m σ him h (by simpa using h) hi
    · obtain rfl : i = n := by omega
      exact he m σ (by simp) hi⟩
theorem askM {α γ : Type} {i : Nat} {l : List γ} {f : γ → α} {K : α → Prop} (h : i < l.length) (k : K (f l[i])) : AskIdx i (l.map f) K := by
  rw [askIdx_map h]; exact k
theorem wrapI {x : Int} (h : -9223372036854775808 ≤ x ∧ x ≤ 9223372036854775807) : IntKind.i64.wrap x = x := IntWalk.i64_in _ (by omega)
theorem wrapS {i : Nat} (h : i < 4611686018427387904) : IntKind.i64.wrap ((i : Int) + 1) = ((i + 1 : Nat) : Int) := by rw [wrapI (by omega)]; omega
end
theorem Spec.plain {P : Program} {f : Nat} {args : List (TV SC)} {x : Value} (h : Spec P f args (.val (.c (.pv x)))) {w : World} {us : List Value} (hus : RL (RepT (RepS w fun _ => False)) args us) :
    Calls P f us.toArray w fun e w' => e = .returned x ∧ Below w.heap.size w w' :=
  (h w (fun _ => False) us (fun b hb => hb.elim) hus).mono fun e w' ⟨v, he, ht, hb⟩ => by
    have : v = x := RepS.flat ht
    exact ⟨by rw [he, this], hb⟩
theorem t_dt {p : Prop} [Decidable p] (h : decide p = true) : p := of_decide_eq_true h
theorem t_df {p : Prop} [Decidable p] (h : decide p = false) : ¬ p := of_decide_eq_false h
theorem aB : type_of% (And.intro @decide_eq_true_eq (And.intro @decide_eq_false_iff_not (And.intro @beq_iff_eq.{0} (And.intro @beq_eq_false_iff_ne.{0} (And.intro @bne_iff_ne.{0} (And.intro @bne_eq_false_iff_eq.{0} (And.intro @Int.not_lt (And.intro @Int.not_le (And.intro @Bool.not_eq_true' (@Bool.not_eq_false')))))))))) := And.intro @decide_eq_true_eq (And.intro @decide_eq_false_iff_not (And.intro @beq_iff_eq.{0} (And.intro @beq_eq_false_iff_ne.{0} (And.intro @bne_iff_ne.{0} (And.intro @bne_eq_false_iff_eq.{0} (And.intro @Int.not_lt (And.intro @Int.not_le (And.intro @Bool.not_eq_true' (@Bool.not_eq_false')))))))))
end Go.Proofs.YtcbfhpnmhhnjpaaGreat

namespace Go.Proofs.YtcbfhpnmhhnjpaaGreat
open Go.RowKit
namespace Del
theorem _root_.Go.Proofs.YtcbfhpnmhhnjpaaGreat.Blk.setRow {w : World} {g : Nat} {t : TypeId} {cs : Array Value} (h : Blk w g t cs) (cs' : Array Value) : Blk (w.setRow g cs') g t cs' := setRow_heap w g cs cs' t (0, 0) h
theorem keptRow (w : World) (g : Nat) (cs : Array Value) : Kept g w (w.setRow g cs) :=
  ⟨by simp [World.setRow], rfl, rfl, rfl, fun k hk hne => setRow_oth (w := w) (g := g) cs k hk (by simpa using hne)⟩
theorem _root_.Go.Proofs.YtcbfhpnmhhnjpaaGreat.Kept.trans {b : Nat} {w w' w'' : World} (h : Kept b w w') (h' : Kept b w' w'') : Kept b w w'' :=
  ⟨Nat.le_trans h.1 h'.1, h'.2.1.trans h.2.1, h'.2.2.1.trans h.2.2.1, h'.2.2.2.1.trans h.2.2.2.1, fun k hk hne => (h'.2.2.2.2 k (Nat.lt_of_lt_of_le hk h.1) hne).trans (h.2.2.2.2 k hk hne)⟩
theorem _root_.Go.Proofs.YtcbfhpnmhhnjpaaGreat.Kept.refl (b : Nat) (w : World) : Kept b w w := ⟨Nat.le_refl _, rfl, rfl, rfl, fun _ _ _ => rfl⟩
theorem keptDrew (b : Nat) (w : World) : Kept b w w.drew := ⟨Nat.le_refl _, rfl, rfl, rfl, fun _ _ _ => rfl⟩
theorem wp_append_room {P : Program} {o : Oper} {a : Act} (w : World) {K : Act → World → Prop} {Q : Exit → Act → World → Prop} (s x : Operand) (t : TypeId)
    (ho : o.op = .call { callee := .builtin .append, args := #[s, x], argTypes := #[t, t] })
    (e : TypeId) (i : TypeInfo) (size : Nat) (ht : P.underlying t = some (.slice e)) (hi : P.info? e = some i) (hsize : i.size = size)
    (g n cap : Nat) (cur : Array Value) (hb : Blk w g e cur) (hs : a.eval s = .slice (some ⟨g, 0, none⟩) n cap)
    (ad : Addr) (m c : Nat) (news : List Value) (hx : a.eval x = .slice (some ad) m c) (hl : news.length = m * size) (hnews : ∀ j u, news[j]? = some u → w.cell? (ad.add j) = some u) (h1 : ∀ u ∈ news, u.oneCell' = true)
    (nm : Nat) (hnm : n + m = nm) (hroom : n + m ≤ cap) (hfit : n * size + news.length ≤ cur.size)
    (h : ∀ w', Blk w' g e (cur.toList.take (n * size) ++ news ++ cur.toList.drop (n * size + news.length)).toArray → Kept g w w' → K (a.put o.dst (.slice (some ⟨g, 0, none⟩) nm cap)) w') : o.wp P a w K Q := by
  subst hsize
  subst hnm
  have hr := run_append_room (P := P) w t o.type e i ht hi g n cap cur hb ad m c news hl hnews h1 hroom hfit
  unfold Oper.wp execOp
  simp only [ho, resolve, invoke, builtin, Sem.run_bind, Sem.run_pure, Result.andThen_ok, List.map_toArray, List.map_cons, List.map_nil, hs, hx, hr]
  exact h _ (hb.setRow _) (keptRow _ _ _)
theorem step_append_room {P : Program} {ops : Array Oper} {o : Oper} {a : Act} (w : World) {K : Act → World → Prop} {Q : Exit → Act → World → Prop} {E : Prop} (hgd : o.guard = none) (s x : Operand) (t : TypeId)
    (ho : o.op = .call { callee := .builtin .append, args := #[s, x], argTypes := #[t, t] })
    (e : TypeId) (i : TypeInfo) (size : Nat) (ht : P.underlying t = some (.slice e)) (hi : P.info? e = some i) (hsize : i.size = size)
    (g n cap : Nat) (cur : Array Value) (hb : Blk w g e cur) (hs : a.eval s = .slice (some ⟨g, 0, none⟩) n cap)
    (ad : Addr) (m c : Nat) (news : List Value) (hx : a.eval x = .slice (some ad) m c) (hl : news.length = m * size) (hnews : ∀ j u, news[j]? = some u → w.cell? (ad.add j) = some u) (h1 : ∀ u ∈ news, u.oneCell' = true)
    (nm : Nat) (hnm : n + m = nm) (hroom : n + m ≤ cap) (hfit : n * size + news.length ≤ cur.size)
    (h : ∀ w', Blk w' g e (cur.toList.take (n * size) ++ news ++ cur.toList.drop (n * size + news.length)).toArray → Kept g w w' → K (a.put o.dst (.slice (some ⟨g, 0, none⟩) nm cap)) w') :
    if Region.wanted o (yielded ops a.tmps) = true then Oper.wp P o a w K Q else E := by
  have hw : Region.wanted o (yielded ops a.tmps) = true := by simp [Region.wanted, hgd]
  rw [if_pos hw]
  exact wp_append_room w s x t ho e i size ht hi hsize g n cap cur hb hs ad m c news hx hl hnews h1 nm hnm hroom hfit h
theorem run_clear {P : Program} (w : World) (t ty e : TypeId) (i : TypeInfo) (z : Value) (ht : P.underlying t = some (.slice e)) (hi : P.info? e = some i) (hz : i.zero = some z) (h1 : ∀ u ∈ z.cells, u.oneCell' = true)
    (g off m c : Nat) (cur : Array Value) (hb : Blk w g e cur) (hm : 0 < m) (hfit : off + m * z.cells.size ≤ cur.size) :
    ∃ w', (Builtin.clear_ #[t] ty #[.slice (some ⟨g, off, none⟩) m c]).run P w = .ok (.tuple #[]) w' ∧ Blk w' g e (cur.toList.take off ++ (Builtin.zeroCells z.cells m).toList ++ cur.toList.drop (off + m * z.cells.size)).toArray ∧ Kept g w w' := by
  have hst := run_storeCells_at P g off e (Builtin.zeroCells z.cells m).toList 0 cur w hb (by rw [Array.length_toList, size_zeroCells]; omega) (by
    intro u hu
    have hu2 : u ∈ Builtin.zeroCells z.cells m := by simpa using hu
    unfold Builtin.zeroCells at hu2
    obtain ⟨i, hi', rfl⟩ := Array.mem_map.1 hu2
    have hlt : i < m * z.cells.size := by simpa using hi'
    have hp : 0 < z.cells.size := by
      cases hz0 : z.cells.size with
      | zero => rw [hz0] at hlt; omega
      | succ n => omega
    have hmod : i % z.cells.size < z.cells.size := Nat.mod_lt _ hp
    rw [getElem!_pos z.cells _ hmod]
    exact h1 _ (Array.getElem_mem hmod))
  simp only [Nat.add_zero, Array.length_toList, size_zeroCells] at hst
  obtain ⟨m', rfl⟩ : ∃ m', m = m' + 1 := ⟨m - 1, by omega⟩
  refine ⟨_, ?_, hb.setRow _, keptRow _ _ _⟩
  simp [Builtin.clear_, run_underlying ht, zeroValue, typeInfo, hi, hz, hst]
def move (e : Nat) (cur : Array Value) (k : Nat) (xs : List Value) : Array Value := (cur.toList.take (k * e) ++ xs ++ cur.toList.drop (k * e + xs.length)).toArray
def wipe (e : Nat) (cur : Array Value) (n : Nat) (z : Value) : Array Value := (cur.toList.take (n * e) ++ (Builtin.zeroCells z.cells 1).toList ++ cur.toList.drop (n * e + 1 * z.cells.size)).toArray
theorem mulS (a e : Nat) : (a + 1) * e = a * e + e := by rw [Nat.add_mul, Nat.one_mul]
theorem move_size {e : Nat} {cur : Array Value} {k n cap : Nat} {xs : List Value} (hx : xs.length = (n - k) * e) (h5 : cur.size = cap * e) (hkn : k ≤ n) (hnc : n + 1 ≤ cap) : (move e cur k xs).size = cap * e := by
  unfold move
  have h1 : k * e + (n - k) * e = n * e := by rw [← Nat.add_mul]; congr 1; omega
  have h2 : (n + 1) * e ≤ cap * e := Nat.mul_le_mul_right _ hnc
  rw [mulS] at h2
  simp only [List.size_toArray, List.length_append, List.length_take, List.length_drop, Array.length_toList]
  omega
theorem wipe_fit {e : Nat} {cur : Array Value} {k n cap : Nat} {xs : List Value} {z : Value} (hz : z.cells.size = e) (hx : xs.length = (n - k) * e) (h5 : cur.size = cap * e) (hkn : k ≤ n) (hnc : n + 1 ≤ cap) : n * e + 1 * z.cells.size ≤ (move e cur k xs).size := by
  rw [move_size hx h5 hkn hnc, hz]
  have h2 : (n + 1) * e ≤ cap * e := Nat.mul_le_mul_right _ hnc
  rw [mulS] at h2
  omega
theorem wipe_size {e : Nat} {cur : Array Value} {k n cap : Nat} {xs : List Value} {z : Value} (hz : z.cells.size = e) (hx : xs.length = (n - k) * e) (h5 : cur.size = cap * e) (hkn : k ≤ n) (hnc : n + 1 ≤ cap) : (wipe e (move e cur k xs) n z).size = cap * e := by
  have h := move_size hx h5 hkn hnc
  have h2 : (n + 1) * e ≤ cap * e := Nat.mul_le_mul_right _ hnc
  rw [mulS] at h2
  unfold wipe
  simp only [List.size_toArray, List.length_append, List.length_take, List.length_drop, Array.length_toList, size_zeroCells, hz]
  omega
theorem wipe_cells {e : Nat} {cur : Array Value} {k n cap : Nat} {us : List Value} {z : Value} (hz : z.cells.size = e) (h5 : cur.size = cap * e) (h6 : cur.toList.take ((n + 1) * e) = us) (hkn : k ≤ n) (hnc : n + 1 ≤ cap) :
    (wipe e (move e cur k (us.drop ((k + 1) * e))) n z).toList.take (n * e) = us.take (k * e) ++ us.drop ((k + 1) * e) := by
  have h2 : (n + 1) * e ≤ cap * e := Nat.mul_le_mul_right _ hnc
  have h1 : k * e + (n - k) * e = n * e := by rw [← Nat.add_mul]; congr 1; omega
  have hul : us.length = (n + 1) * e := by rw [← h6, List.length_take, Array.length_toList, h5]; omega
  have hx : (us.drop ((k + 1) * e)).length = (n - k) * e := by
    rw [List.length_drop, hul, ← Nat.sub_mul]; congr 1; omega
  have h := move_size hx h5 hkn hnc
  rw [mulS] at h2
  have hk2 : k * e ≤ n * e := Nat.mul_le_mul_right _ hkn
  have e1 : (wipe e (move e cur k (us.drop ((k + 1) * e))) n z).toList.take (n * e) = (move e cur k (us.drop ((k + 1) * e))).toList.take (n * e) := by
    unfold wipe
    have hl1 : ((move e cur k (us.drop ((k + 1) * e))).toList.take (n * e)).length = n * e := by rw [List.length_take, Array.length_toList, h]; omega
    show List.take (n * e) (_ ++ _ ++ _) = _
    rw [List.append_assoc, List.take_append_of_le_length (by rw [hl1]; exact Nat.le_refl _), List.take_of_length_le (by rw [hl1]; exact Nat.le_refl _)]
  have hck : (cur.toList.take (k * e)).length = k * e := by rw [List.length_take, Array.length_toList, h5]; omega
  have e2 : (move e cur k (us.drop ((k + 1) * e))).toList.take (n * e) = cur.toList.take (k * e) ++ us.drop ((k + 1) * e) := by
    unfold move
    show List.take (n * e) (_ ++ _ ++ _) = _
    have hl2 : (cur.toList.take (k * e) ++ us.drop ((k + 1) * e)).length = n * e := by rw [List.length_append, hck, hx]; omega
    rw [List.take_append_of_le_length (by rw [hl2]; exact Nat.le_refl _), List.take_of_length_le (by rw [hl2]; exact Nat.le_refl _)]
  have e3 : cur.toList.take (k * e) = us.take (k * e) := by
    rw [← h6, List.take_take]
    congr 1
    rw [mulS]; omega
  rw [e1, e2, e3]
theorem flatten_erase {α : Type} {e : Nat} : ∀ (els : List (List α)), (∀ x ∈ els, x.length = e) → ∀ k, k < els.length → (els.eraseIdx k).flatten = els.flatten.take (k * e) ++ els.flatten.drop ((k + 1) * e) := by
  intro els he k hk
  rw [List.eraseIdx_eq_take_drop_succ, List.flatten_append, flatten_takeE els he, flatten_dropE els he]
end Del
end Go.Proofs.YtcbfhpnmhhnjpaaGreat

namespace Go.Proofs.YtcbfhpnmhhnjpaaGreat
structure It where
  page : Int
  since : Int
deriving DecidableEq, Inhabited
namespace Dy
def last (l : List It) : Int := match l.getLast? with
  | some a => a.since
  | none => 0
def good (l : List It) (a : It) : Bool := decide (1 ≤ a.page ∧ a.page ≤ 16) && ((l.all fun o => o.page != a.page) && decide (last l ≤ a.since ∧ a.since ≤ 2147483647))
def okAt (l : List It) (i : Nat) : Bool := match l[i]? with
  | some a => good (l.take i) a
  | none => true
def right (l : List It) : Bool := (List.range l.length).all (okAt l)
def at' (l : List It) (p : Int) : Int := match l.findIdx? (fun a => a.page == p) with
  | some i => i
  | none => -1
theorem last_snoc (l : List It) (a : It) : last (l ++ [a]) = a.since := by simp [last]
theorem at_some {l : List It} {p : Int} {k : Nat} (hk : k < l.length) (h : l[k].page = p) (hno : ∀ j (hj : j < k), (l[j]'(by omega)).page ≠ p) : at' l p = k := by
  unfold at'
  rw [show l.findIdx? (fun a => a.page == p) = some k by
    rw [List.findIdx?_eq_some_iff_getElem]
    exact ⟨hk, by simpa using h, fun j hj => by simpa using hno j hj⟩]
theorem at_none {l : List It} {p : Int} (hno : ∀ j (hj : j < l.length), l[j].page ≠ p) : at' l p = -1 := by
  unfold at'
  rw [show l.findIdx? (fun a => a.page == p) = none by
    rw [List.findIdx?_eq_none_iff]
    intro a ha
    obtain ⟨j, hj, rfl⟩ := List.getElem_of_mem ha
    simpa using hno j hj]
theorem at_cases (l : List It) (p : Int) : (at' l p = -1 ∧ ∀ a ∈ l, a.page ≠ p) ∨ (∃ k, ∃ hk : k < l.length, at' l p = k ∧ l[k].page = p ∧ ∀ j (hj : j < k), (l[j]'(by omega)).page ≠ p) := by
  cases h : l.findIdx? (fun a => a.page == p) with
  | none =>
    left
    rw [List.findIdx?_eq_none_iff] at h
    exact ⟨at_none (fun j hj => by simpa using h _ (List.getElem_mem hj)), fun a ha => by simpa using h a ha⟩
  | some k =>
    right
    rw [List.findIdx?_eq_some_iff_getElem] at h
    obtain ⟨hk, h1, h2⟩ := h
    have h1' : l[k].page = p := by simpa using h1
    have h2' : ∀ j (hj : j < k), (l[j]'(by omega)).page ≠ p := fun j hj => by simpa using h2 j hj
    exact ⟨k, hk, at_some hk h1' h2', h1', h2'⟩
theorem okAt_snoc {l : List It} {a : It} {i : Nat} (h : i < l.length) : okAt (l ++ [a]) i = okAt l i := by
  unfold okAt
  rw [List.getElem?_append_left h, List.take_append_of_le_length (by omega)]
theorem right_snoc (l : List It) (a : It) : right (l ++ [a]) = (right l && good l a) := by
  unfold right
  rw [List.length_append, List.length_singleton, List.range_succ, List.all_append]
  have h1 : (List.range l.length).all (okAt (l ++ [a])) = (List.range l.length).all (okAt l) := by
    rw [Bool.eq_iff_iff, List.all_eq_true, List.all_eq_true]
    constructor
    · intro h i hi; rw [← okAt_snoc (a := a) (by simpa using hi)]; exact h i hi
    · intro h i hi; rw [okAt_snoc (by simpa using hi)]; exact h i hi
  rw [h1]
  simp only [List.all_cons, List.all_nil, Bool.and_true]
  unfold okAt
  rw [List.getElem?_append_right (Nat.le_refl _), Nat.sub_self]
  simp
theorem right_take {l : List It} (k : Nat) (hk : k ≤ l.length) : right (l.take k) = (List.range k).all (okAt l) := by
  unfold right
  rw [List.length_take, Nat.min_eq_left hk, Bool.eq_iff_iff, List.all_eq_true, List.all_eq_true]
  have e : ∀ i, i < k → okAt (l.take k) i = okAt l i := by
    intro i hi
    unfold okAt
    rw [List.getElem?_take, if_pos hi, List.take_take, Nat.min_eq_left (by omega)]
  constructor
  · intro h i hi; rw [← e i (by simpa using hi)]; exact h i hi
  · intro h i hi; rw [e i (by simpa using hi)]; exact h i hi
theorem right_step {l : List It} {k : Nat} (hk : k < l.length) : right (l.take (k + 1)) = (right (l.take k) && good (l.take k) l[k]) := by
  rw [List.take_succ_eq_append_getElem hk, right_snoc]
theorem right_of_take {l : List It} (k : Nat) (h : right (l.take k) = false) : right l = false := by
  by_cases hk : k ≤ l.length
  · rw [right_take k hk] at h
    rw [Bool.eq_false_iff] at h ⊢
    intro h2
    apply h
    unfold right at h2
    rw [List.all_eq_true] at h2 ⊢
    intro i hi
    exact h2 i (by simp at hi ⊢; omega)
  · rw [List.take_of_length_le (by omega)] at h; exact h
structure Ok (l : List It) : Prop where
  page : ∀ a ∈ l, 1 ≤ a.page ∧ a.page ≤ 16
  since : ∀ a ∈ l, 0 ≤ a.since ∧ a.since ≤ 2147483647
  apart : (l.map It.page).Nodup
  rise : l.Pairwise fun a b => a.since ≤ b.since
theorem Ok.last {l : List It} (h : Ok l) : ∀ a ∈ l, a.since ≤ last l := by
  intro a ha
  unfold Dy.last
  cases hl : l.getLast? with
  | none => rw [List.getLast?_eq_none_iff] at hl; subst hl; simp at ha
  | some b =>
    obtain ⟨l', rfl⟩ := List.getLast?_eq_some_iff.1 hl
    simp only
    rcases List.mem_append.1 ha with h1 | h1
    · exact (List.pairwise_append.1 h.rise).2.2 a h1 b (by simp)
    · simp at h1; subst h1; exact Int.le_refl _
theorem last_nonneg {l : List It} (h : Ok l) : 0 ≤ Dy.last l := by
  unfold Dy.last
  cases hl : l.getLast? with
  | none => simp
  | some b => exact (h.since b (List.mem_of_getLast? hl)).1
theorem good_iff (l : List It) (a : It) : good l a = true ↔ (1 ≤ a.page ∧ a.page ≤ 16) ∧ (∀ o ∈ l, o.page ≠ a.page) ∧ Dy.last l ≤ a.since ∧ a.since ≤ 2147483647 := by
  unfold good
  rw [Bool.and_eq_true, Bool.and_eq_true, decide_eq_true_iff, decide_eq_true_iff, List.all_eq_true]
  simp
theorem right_iff_rev (l : List It) : right l.reverse = true ↔ Ok l.reverse := by
  induction l with
  | nil => exact ⟨fun _ => ⟨by simp, by simp, by simp, by simp⟩, fun _ => rfl⟩
  | cons a l ih =>
    rw [List.reverse_cons, right_snoc, Bool.and_eq_true, ih, good_iff]
    constructor
    · rintro ⟨h, h1, h2, h3, h4⟩
      refine ⟨?_, ?_, ?_, ?_⟩
      · intro b hb
        rcases List.mem_append.1 hb with hb | hb
        · exact h.page b hb
        · simp at hb; subst hb; exact h1
      · intro b hb
        rcases List.mem_append.1 hb with hb | hb
        · exact h.since b hb
        · simp at hb; subst hb; have := last_nonneg h; omega
      · rw [List.map_append, List.nodup_append]
        refine ⟨h.apart, by simp, ?_⟩
        intro x hx y hy
        obtain ⟨o, ho, rfl⟩ := List.mem_map.1 hx
        simp at hy; subst hy
        exact h2 o ho
      · rw [List.pairwise_append]
        refine ⟨h.rise, by simp, ?_⟩
        intro x hx y hy
        simp at hy; subst hy
        have := h.last x hx
        omega
    · intro h
      have hk : Ok l.reverse := ⟨fun b hb => h.page b (List.mem_append_left _ hb), fun b hb => h.since b (List.mem_append_left _ hb), by have := h.apart; rw [List.map_append, List.nodup_append] at this; exact this.1, (List.pairwise_append.1 h.rise).1⟩
      refine ⟨hk, h.page a (by simp), ?_, ?_, (h.since a (by simp)).2⟩
      · intro o ho
        have := h.apart
        rw [List.map_append, List.nodup_append] at this
        exact this.2.2 o.page (List.mem_map.2 ⟨o, ho, rfl⟩) a.page (by simp)
      · unfold Dy.last
        cases hl : l.reverse.getLast? with
        | none => exact (h.since a (by simp)).1
        | some b => exact (List.pairwise_append.1 h.rise).2.2 b (List.mem_of_getLast? hl) a (by simp)
theorem right_iff (l : List It) : right l = true ↔ Ok l := by
  have := right_iff_rev l.reverse
  rwa [List.reverse_reverse] at this
theorem nodup_le : ∀ (n : Nat) (l : List Int), l.Nodup → (∀ x ∈ l, 1 ≤ x ∧ x ≤ n) → l.length ≤ n := by
  intro n
  induction n with
  | zero =>
    intro l hn h
    cases l with
    | nil => simp
    | cons a l => have := h a (by simp); omega
  | succ n ih =>
    intro l hn h
    by_cases hm : ((n + 1 : Nat) : Int) ∈ l
    · have h1 := ih (l.erase ((n + 1 : Nat) : Int)) (hn.erase _) (by
        intro x hx
        have h2 := h x (List.mem_of_mem_erase hx)
        have h3 : x ≠ ((n + 1 : Nat) : Int) := by rintro rfl; exact hn.not_mem_erase hx
        omega)
      rw [List.length_erase_of_mem hm] at h1
      omega
    · have h1 := ih l hn (by
        intro x hx
        have h2 := h x hx
        have h3 : x ≠ ((n + 1 : Nat) : Int) := by rintro rfl; exact hm hx
        omega)
      omega
theorem Ok.short {l : List It} (h : Ok l) : l.length ≤ 16 := by
  have := nodup_le 16 (l.map It.page) h.apart (by
    intro x hx
    obtain ⟨a, ha, rfl⟩ := List.mem_map.1 hx
    exact h.page a ha)
  simpa using this
theorem Ok.erase {l : List It} (h : Ok l) (k : Nat) : Ok (l.eraseIdx k) := by
  have hs := List.eraseIdx_sublist l k
  exact ⟨fun a ha => h.page a (hs.subset ha), fun a ha => h.since a (hs.subset ha), h.apart.sublist (hs.map It.page), h.rise.sublist hs⟩
def sinceOf (l : List It) (p : Int) : Int := match l.find? (fun a => a.page == p) with
  | some a => a.since
  | none => 0
theorem sinceOf_at {l : List It} {p : Int} {k : Nat} (hk : k < l.length) (h : at' l p = k) : sinceOf l p = l[k].since := by
  rcases at_cases l p with ⟨e, _⟩ | ⟨m, hm, e, h1, h2⟩
  · rw [e] at h; omega
  · have : m = k := by rw [e] at h; omega
    subst this
    unfold sinceOf
    have : l.find? (fun a => a.page == p) = some l[m] := by
      rw [List.find?_eq_some_iff_getElem]
      exact ⟨by simpa using h1, m, hm, rfl, fun j hj => by simpa using h2 j hj⟩
    rw [this]
theorem dup_iff {l : List It} {k : Nat} (hk : k < l.length) : (at' l l[k].page < (k : Int)) ↔ ((l.take k).all fun o => o.page != l[k].page) = false := by
  rw [List.all_eq_false]
  constructor
  · intro h
    rcases at_cases l l[k].page with ⟨e, hno⟩ | ⟨m, hm, e, h1, _⟩
    · exact absurd rfl (hno _ (List.getElem_mem hk))
    · refine ⟨l[m], ?_, by simpa using h1⟩
      rw [e] at h
      rw [List.mem_take_iff_getElem]
      exact ⟨m, by omega, rfl⟩
  · rintro ⟨o, ho, h1⟩
    rw [List.mem_take_iff_getElem] at ho
    obtain ⟨j, hj, rfl⟩ := ho
    rcases at_cases l l[k].page with ⟨e, hno⟩ | ⟨m, hm, e, _, h2⟩
    · exact absurd rfl (hno _ (List.getElem_mem hk))
    · rw [e]
      have h3 : l[j].page = l[k].page := by simpa using h1
      have : ¬ j < m := fun hjm => h2 j hjm h3
      omega
theorem good_eq {l : List It} {k : Nat} (hk : k < l.length) : good (l.take k) l[k] = decide ((1 ≤ l[k].page ∧ l[k].page ≤ 16) ∧ ¬ at' l l[k].page < (k : Int) ∧ last (l.take k) ≤ l[k].since ∧ l[k].since ≤ 2147483647) := by
  unfold good
  by_cases h : at' l l[k].page < (k : Int)
  · rw [(dup_iff hk).1 h, Bool.false_and, Bool.and_false]
    exact (decide_eq_false (fun h' => h'.2.1 h)).symm
  · have : ((l.take k).all fun o => o.page != l[k].page) = true := by
      cases hb : ((l.take k).all fun o => o.page != l[k].page) with
      | true => rfl
      | false => exact absurd ((dup_iff hk).2 hb) h
    rw [this, Bool.true_and, ← Bool.decide_and, decide_eq_decide]
    exact ⟨fun h' => ⟨h'.1, h, h'.2⟩, fun h' => ⟨h'.1, h'.2.2⟩⟩
theorem bad_of {l : List It} {k : Nat} (hk : k < l.length) (h : good (l.take k) l[k] = false) : right l = false := by
  apply right_of_take (k + 1)
  rw [right_step hk, h, Bool.and_false]
theorem last_take {l : List It} {k : Nat} (hk : k < l.length) : last (l.take (k + 1)) = l[k].since := by
  rw [List.take_succ_eq_append_getElem hk, last_snoc]
end Dy
end Go.Proofs.YtcbfhpnmhhnjpaaGreat

