import PyProof.Rows.All
import PySem.SetTable
import PyProof.TupleKey
import PyProof.Rows.SetFrom
import PyProof.CollectIter
import KE.KSortTupG
import KE.KSortTupUse
import VanetaSpec
import PyProof.DictRoadsH
import PyProof.MeetsDict
import PyProof.Draws
import PyProof.ZipIter
import PyProof.AutoSeq1
import PyProof.Rows.Tup
import KE.KSortAsk
import KE.BitLaws
import KE.KBits
import PyProof.EqAt
import PyProof.P3Eq
import PyProof.Rows.Lemmas
import PyProof.Rows.RowHeap
import Wide.All
import OpenK.AllK
import Wide.FinOn
import PyProof.EqKinds
import PyProof.TupleCall
import Open.SpecLaws
import KE.OsHead
import KE.OsGo
import PyFlatLaws
import PyVaneta
import PyProof.AutoIntG2
import PySem.Challenge.RW_countedlogic_s01_answers
set_option Elab.async false
set_option linter.all false
set_option maxRecDepth 100000
set_option maxHeartbeats 4000000
noncomputable section
def pP:=@PySem.wpAny_bind
def aac:=@List.length_map
def aad:=@List.length_append
def aae:=@List.length_cons
def aat:=@decide_eq_false
def aaz:=@if_neg
def aaD:=@decide_eq_true
def aaQ:=@PySem.Heap.get?_push_of_some
def aaR:=@PySem.wpAny_pure
def aaS:=@Nat.le_refl
def aaT:=@Bool.false_ne_true
def aaU:=@if_pos
def aaV:=@List.getElem?_eq_some_iff
def aaW:=@PySem.F.plainAttrs_list
def aaX:=@List.mem_cons_of_mem
def aaY:=@List.map_append
def aaZ:=@List.map_cons
def aa0:=@List.mem_cons_self
def aa1:=@PySem.sizeLine_eq
def aa2:=@List.mem_cons
def aa3:=@List.getElem?_eq_getElem
def aa4:=@List.mem_append
def aa5:=@List.mem_map
def aa6:=@List.mem_of_getElem?
def aa7:=@Bool.false_eq_true
def aa8:=@Bool.and_eq_true
def aa9:=@Array.getElem?_eq_getElem
def aa_:=@PySem.Heap.lt_size
def abb:=@PySem.Heap.get?_push_size
def abd:=@List.size_toArray
def abe:=@Nat.zero_le
def abf:=@Array.getElem?_toList
def abg:=@List.length_take
def abh:=@Array.length_toList
def abj:=@List.length_singleton
def abk:=@Option.some.inj
def abp:=@List.take_length
def abt:=@Nat.ne_of_lt
def abu:=@PySem.PassesOwn.never
def abv:=@PySem.F.slot_list_append
def abw:=@PySem.F.type_list_append
def abA:=@List.getElem?_append_right
def abC:=@PySem.Paired.length
def abG:=@Nat.lt_of_lt_of_le
def abJ:=@Nat.le_trans
def abL:=@List.map_map
def abN:=@PySem.Heap.get?_update_self
def abO:=@List.mem_singleton
def abP:=@Option.map_eq_some_iff
def abU:=@PySem.wpAny_loadPart'
def abV:=@List.getElem?_map
def ab1:=@decide_eq_true_eq
def ab2:=@PySem.F.slot_list_pop
def ab4:=@PySem.F.type_list_pop
def ab6:=@PySem.Heap.size_push
def ab8:=@PySem.boot_len
def ab9:=@PySem.mem_of_lookup
def ab_:=@List.drop_eq_getElem_cons
def acd:=@if_false
def ace:=@List.length_drop
def acg:=@List.length_nil
def aci:=@Nat.lt_succ_of_lt
def acj:=@List.getD_eq_getElem?_getD
def aco:=@List.length_eq_zero_iff
def acp:=@PySem.wpAny_holding
def acr:=@Array.getElem?_eq_some_iff
def acJ:=@Nat.two_pow_pos
def acQ:=@List.append_nil
def acR:=@List.getElem?_append_left
def acS:=@Array.getD_eq_getD_getElem?
def ac3:=@List.take_of_length_le
def ac5:=@PySem.Heap.get?_update_other
def ac6:=@Ne.symm
def adb:=@Nat.le_add_right
def ade:=@PySem.wpAny_call_entry
def adf:=@Nat.lt_of_le_of_lt
def adg:=@PySem.wpAny_setField_rec
def adh:=@PySem.wpAny_callSpecial?_slot
def adi:=@List.find?_cons
def adk:=@of_decide_eq_true
def adl:=@List.dropLast_concat
def adn:=@List.filter_append
def ado:=@List.all_cons
def adp:=@PySem.F.slot_list_extend
def adq:=@PySem.F.type_list_extend
def adt:=@PyProof.Rows.callWith_type1
def adu:=@List.take_append_drop
def adv:=@PySem.wpAny_field
def adw:=@List.getElem?_cons_succ
def adx:=@Option.bind_eq_some_iff
def ady:=@List.append_assoc
def adz:=@Bool.and_true
def adA:=@PySem.Around.under_plainId
def adB:=@Nat.sub_self
def adC:=@List.nodup_cons
def adD:=@Nat.lt_succ_self
def adE:=@PySem.Heap.SameBut.update
def adF:=@List.mem_append_right
def adG:=@Nat.add_sub_cancel_left
def adH:=@List.getElem?_of_mem
def adI:=@Nat.ne_of_gt
def adJ:=@List.filter_cons
def adK:=@decide_eq_decide
def adL:=@List.pairwise_iff_getElem
def adM:=@PySem.wpAny_mono
def adN:=@Nat.add_le_add_left
def adO:=@PySem.wpAny_newObj_type
def adP:=@Int.toNat_natCast
def adQ:=@PySem.wpAny_truthy_bool
def adR:=@List.cons.inj
def adS:=@PySem.codeAny_builtin
def adT:=@PySem.F.slot_dict_keyiterator_next
def adU:=@List.not_mem_nil
def adV:=@Bool.and_eq_true_iff
def adW:=@PySem.Paired.snoc
def adX:=@if_true
def adY:=@Nat.lt_irrefl
def adZ:=@PySem.wpAny_seqItems
def ad0:=@PySem.wpAny_setState_of
def ad1:=@PySem.wpAny_nextOf_list_item
def ad2:=@beq_eq_false_iff_ne
def ad3:=@List.pairwise_cons
def ad4:=@List.getElem_map
def ad5:=@Int.natCast_nonneg
def ad6:=@Nat.mul_comm
def ad7:=@List.getElem?_take_of_lt
def ad8:=@Nat.le_of_lt
def ad9:=@List.mem_range
def aed:=@List.getElem?_set_ne
def aeg:=@PySem.wpAny_typeNameOfWhole_keyiter
def aeh:=@List.reverse_cons
def aei:=@List.filterMap_cons
def aej:=@List.take_succ_cons
def aek:=@Nat.pow_succ
def ael:=@Array.getElem?_eq_none
def aem:=@Nat.testBit_two_pow_mul_add
def aen:=@List.getElem?_set_self
def aeo:=@List.all_map
def aep:=@Bool.not_true
def aer:=@List.map_drop
def aes:=@PySem.plainId_quiet
def aeu:=@List.lookup_cons
def aev:=@List.drop_length
def aew:=@List.getElem?_drop
def aex:=@PySem.Calls.call_function_entry
def aey:=@Nat.min_eq_left
def aez:=@List.mem_filter
def aeA:=@PySem.wpAny_passesOwn
def aeB:=@Nat.pow_le_pow_right
def aeC:=@List.map_take
def aeD:=@PySem.wpAny_typeNameOf_keyiter
def aeE:=@PySem.W.mg_of
def aeF:=@List.flatMap_append
def aeG:=@PyProof.Rows.F.plain_set_update_loop
def aeH:=@List.all_eq_true
def aeI:=@PySem.F.slot_list_count
def aeJ:=@PySem.F.type_list_count
def aeK:=@PySem.F.called_set
def aeL:=@List.zip_cons_cons
def aeM:=@Nat.lt_or_ge
def aeN:=@List.any_cons
def aeO:=@List.getElem?_eq_none
def aeP:=@PySem.wpAny_nextOf_list_end
def aeQ:=@PySem.F.slot_enumerate_next
def aeR:=@List.length_filter_le
def aeS:=@List.mem_iff_getElem?
def aeT:=@UInt8.le_iff_toNat_le
def aeU:=@List.length_range
def aeV:=@List.pairwise_map
def aeW:=@bne_self_eq_false
def aeX:=@List.flatMap_cons
def aeY:=@PySem.wpAny_dictEntries
def aeZ:=@Array.getElem?_setIfInBounds_self_of_lt
def ae0:=@List.mem_of_mem_take
def ae1:=@Bool.false_and
def ae2:=@List.forIn_nil
def ae3:=@PySem.wpAny_askSetting
def ae4:=@PySem.wpAny_isInstance
def ae5:=@List.countP_cons
def ae6:=@List.mem_of_find?_eq_some
def ae7:=@List.takeWhile_cons
def ae8:=@List.map_congr_left
def ae9:=@List.length_reverse
def ae_:=@Nat.mul_le_mul_left
def afa:=@PySem.wpAny_attempt
def afb:=@Bool.or_false
def afc:=@Bool.true_and
def afd:=@PySem.wpAny_updateSeq
def afe:=@List.forIn_cons
def afg:=@Bool.eq_iff_iff
def afh:=@Nat.min_le_left
def afi:=@Nat.mod_lt
def afj:=@Array.forIn_toList
def afk:=@beq_iff_eq
def afl:=@of_decide_eq_false
def afm:=@PySem.Calls.spliced_cons
def afn:=@PySem.wpAny_Call_Name_kw
def afo:=@Nat.lt_trans
def afp:=@Classical.not_not
def afq:=@PySem.wpAny_typeOf
def afr:=@Bool.and_false
def afs:=@PySem.Value.isInt_shape
def aft:=@PySem.codeAny_mono
def afu:=@PySem.wpAny_setField
def afv:=@List.ext_getElem?
def afw:=@PySem.F.plain_list_iadd
def afx:=@Nat.add_comm
def afy:=@List.any_eq_false
def afz:=@PySem.Calls.callWith_builtin
def afA:=@Nat.le_of_succ_le
def afB:=@PySem.wpAny_pyIter_enum
def afC:=@List.drop_zero
def afD:=@Array.getElem?_setIfInBounds_ne
def afE:=@Nat.mod_eq_of_lt
def afF:=@PySem.wpAny_forIn_list
def afG:=@PySem.wpAny_rule
def afH:=@Array.toList_inj
def afI:=@List.zipIdx_cons
def afJ:=@PySem.call_meets
def afK:=@PySem.F.args_dict_keyiterator_next_1
def afL:=@List.mem_append_left
def afM:=@or_false
def afN:=@List.take_append_of_le_length
def afO:=@PySem.wpAny_updateSeq_pair
def afP:=@PySem.F.entry_dict_keyiterator_next
def afQ:=@Nat.div_add_mod
def afS:=@PySem.wpAny_specialOf
def afU:=@Bool.or_eq_true
def afV:=@Nat.testBit_two_pow_sub_succ
def afW:=@PySem.F.slot_zip_next
def afX:=@PySem.wpAny_execs_nil
def afY:=@PySem.pushCells_keeps
def afZ:=@PySem.W.length_le_weightAllW
def af0:=@PySem.F.slot_dict_setdefault
def af2:=@List.all_append
def af3:=@List.getElem?_range
def af4:=@PySem.wpAny_setEntries_of
def af5:=@PySem.Heap.get?_update_ne
def af6:=@PySem.W.plainGet_of
def af7:=@List.set_set
def af8:=@List.find?_eq_none
def af9:=@List.mem_filterMap
def af_:=@List.take_succ
def aga:=@List.perm_ext_iff_of_nodup
def agb:=@List.Perm.refl
def agc:=@Array.getElem?_eq_none_iff
def agd:=@PySem.wpAny_newTuple
def agf:=@Array.perm_iff_toList_perm
def agg:=@PySem.Calls.Name_function_global
def agh:=@PySem.W.callWith_K
def agi:=@PySem.wpAny_letOwnedTupleGo_enum
def agj:=@PySem.tupleKind_room_in1
def agk:=@Nat.mul_le_mul
def agl:=@List.getElem?_eq_none_iff
def agm:=@PySem.F.slot_dict_getitem
def agn:=@PySem.wpAny_pyIter_list
def ago:=@PySem.wpAny_pyIter_slot
def agp:=@List.nodup_append
def agq:=@PySem.wpAny_letGo
def agr:=@PySem.Heap.get?_push_ne
def ags:=@PySem.Calls.spliced_nil
def agt:=@List.Pairwise.map
def agu:=@Array.getElem_mem_toList
def agv:=@List.length_erase_of_mem
def agw:=@PySem.wpAny_newList
def agx:=@PySem.wpAny_onRaise
def agy:=@Option.isSome_iff_exists
def agz:=@List.sum_cons
def agA:=@List.nodup_range
def agC:=@Bool.not_eq_true
def agE:=@Nat.succ_ne_self
def agI:=@List.map_reverse
def agK:=@Nat.testBit_two_pow_mul
def agL:=@Array.toList_map
def agM:=@PySem.F.args_enumerate_next_1
def agN:=@PySem.wpAny_pyIter_zip
def agO:=@PyProof.Rows.boot_all
def agP:=@List.any_eq_true
def agQ:=@Nat.zero_add
def agR:=@List.length_pos_of_mem
def agS:=@PySem.wpAny_load
def agU:=@Nat.testBit_lt_two_pow
def agV:=@PySem.F.entry_enumerate_next
def agW:=@Nat.le_of_eq
def agX:=@PySem.W.cellsFrom_some
def agZ:=@Nat.sub_zero
def ag0:=@PyProof.Rows.boot_tuple
def ag1:=@Int.zero_add
def ag2:=@PySem.SeqAt.canLay_of_shaped
def ag3:=@List.foldl_cons
def ag4:=@List.range_succ
def ag5:=@UInt8.toNat_inj
def ag6:=@List.head?_cons
def ag8:=@PySem.size_of_entries
def ag9:=@List.zipIdx_nil
def aha:=@List.of_mem_zip
def ahb:=@List.length_set
def ahc:=@PySem.wpAny_dictEpoch
def ahd:=@PySem.F.slot_dict_len
def ahe:=@List.filterMap_append
def ahj:=@UInt8.lt_iff_toNat_lt
def ahl:=@PySem.W.methodCall_KW
def ahm:=@List.length_replicate
def aho:=@List.mem_erase_of_ne
def ahp:=@List.mem_of_mem_drop
def ahq:=@Bool.not_false
def ahr:=@List.nodup_nil
def ahs:=@PySem.wpAny_runValue
def aht:=@PySem.isSubtype_type
def ahu:=@PySem.isSubtype_stop
def ahw:=@Sum.inl.inj
def ahF:=@List.map_id
def ahH:=@List.dropWhile_cons
def ahI:=@List.drop_succ_cons
def ahK:=@PySem.W.callWith_K0
def ahM:=@PySem.wpAny_standAt
def ahN:=@List.set_comm
def ahO:=@not_or
def ahP:=@Nat.add_sub_cancel
def ahU:=@List.take_sublist
def ahX:=@Nat.le_succ_of_le
def ahY:=@List.reverse_perm
def ahZ:=@Nat.or_lt_two_pow
def ah3:=@List.map_nil
def ah8:=@Option.isSome_map
def ah9:=@Int.ofNat_le
def ah_:=@Nat.mod_mul
def aic:=@Nat.le_succ
open PySem.W (instObj methodObj Frag lookIn plainGet hasDictIn findIn handedIn isFn plainOver takerIn makesIn emptyDict keepIn fnOf codeIn WRecords WalkOS nsIn)
inductive Ex2{t0:Sort u0}{t1:Sort u1}(p:t0->t1->Prop):Prop
|mk (a:t0) (b:t1) (h:p a b)
inductive sV{t0:Sort u0}{t1:Sort u1}{t2:Sort u2}(p:t0->t1->t2->Prop):Prop
|mk (a:t0) (b:t1) (c:t2) (h:p a b c)
inductive Ft{t0:Sort u0}{t1:Sort u1}{t2:Sort u2}{t3:Sort u3}(p:t0->t1->t2->t3->Prop):Prop
|mk (a:t0) (b:t1) (c:t2) (d:t3) (h:p a b c d)
inductive Oa{t0:Sort u0}{t1:Sort u1}{t2:Sort u2}{t3:Sort u3}{t4:Sort u4}(p:t0->t1->t2->t3->t4->Prop):Prop
|mk (a:t0) (b:t1) (c:t2) (d:t3) (e:t4) (h:p a b c d e)
inductive Ex6{t0:Sort u0}{t1:Sort u1}{t2:Sort u2}{t3:Sort u3}{t4:Sort u4}{t5:Sort u5}(p:t0->t1->t2->t3->t4->t5->Prop):Prop
|mk (a:t0) (b:t1) (c:t2) (d:t3) (e:t4) (f:t5) (h:p a b c d e f)
inductive Ex7{t0:Sort u0}{t1:Sort u1}{t2:Sort u2}{t3:Sort u3}{t4:Sort u4}{t5:Sort u5}{t6:Sort u6}(p:t0->t1->t2->t3->t4->t5->t6->Prop):Prop
|mk (a:t0) (b:t1) (c:t2) (d:t3) (e:t4) (f:t5) (g:t6) (h:p a b c d e f g)
inductive Ex8{t0:Sort u0}{t1:Sort u1}{t2:Sort u2}{t3:Sort u3}{t4:Sort u4}{t5:Sort u5}{t6:Sort u6}{t7:Sort u7}(p:t0->t1->t2->t3->t4->t5->t6->t7->Prop):Prop
|mk (a:t0) (b:t1) (c:t2) (d:t3) (e:t4) (f:t5) (g:t6) (h:t7) (h:p a b c d e f g h)
inductive Ex9{t0:Sort u0}{t1:Sort u1}{t2:Sort u2}{t3:Sort u3}{t4:Sort u4}{t5:Sort u5}{t6:Sort u6}{t7:Sort u7}{t8:Sort u8}(p:t0->t1->t2->t3->t4->t5->t6->t7->t8->Prop):Prop
|mk (a:t0) (b:t1) (c:t2) (d:t3) (e:t4) (f:t5) (g:t6) (h:t7) (i:t8) (h:p a b c d e f g h i)
inductive Td{t0:Sort u0}{t1:Sort u1}{t2:Sort u2}{t3:Sort u3}{t4:Sort u4}{t5:Sort u5}{t6:Sort u6}{t7:Sort u7}{t8:Sort u8}{t9:Sort u9}(p:t0->t1->t2->t3->t4->t5->t6->t7->t8->t9->Prop):Prop
|mk (a:t0) (b:t1) (c:t2) (d:t3) (e:t4) (f:t5) (g:t6) (h:t7) (i:t8) (j:t9) (h:p a b c d e f g h i j)
structure dF(p0 p1 p2:Prop):Prop where
 h0:p0
 h1:p1
 h2:p2
structure lM(p0 p1 p2 p3:Prop):Prop where
 h0:p0
 h1:p1
 h2:p2
 h3:p3
structure xZ(p0 p1 p2 p3 p4:Prop):Prop where
 h0:p0
 h1:p1
 h2:p2
 h3:p3
 h4:p4
structure Fz(p0 p1 p2 p3 p4 p5:Prop):Prop where
 h0:p0
 h1:p1
 h2:p2
 h3:p3
 h4:p4
 h5:p5
structure Oh(p0 p1 p2 p3 p4 p5 p6:Prop):Prop where
 h0:p0
 h1:p1
 h2:p2
 h3:p3
 h4:p4
 h5:p5
 h6:p6
structure An8(p0 p1 p2 p3 p4 p5 p6 p7:Prop):Prop where
 h0:p0
 h1:p1
 h2:p2
 h3:p3
 h4:p4
 h5:p5
 h6:p6
 h7:p7
structure An9(p0 p1 p2 p3 p4 p5 p6 p7 p8:Prop):Prop where
 h0:p0
 h1:p1
 h2:p2
 h3:p3
 h4:p4
 h5:p5
 h6:p6
 h7:p7
 h8:p8
structure ad_(p0 p1 p2 p3 p4 p5 p6 p7 p8 p9:Prop):Prop where
 h0:p0
 h1:p1
 h2:p2
 h3:p3
 h4:p4
 h5:p5
 h6:p6
 h7:p7
 h8:p8
 h9:p9
structure Wm(p0 p1 p2 p3 p4 p5 p6 p7 p8 p9 Wn:Prop):Prop where
 h0:p0
 h1:p1
 h2:p2
 h3:p3
 h4:p4
 h5:p5
 h6:p6
 h7:p7
 h8:p8
 h9:p9
 h10:Wn
structure aea(p0 p1 p2 p3 p4 p5 p6 p7 p8 p9 Wn YT:Prop):Prop where
 h0:p0
 h1:p1
 h2:p2
 h3:p3
 h4:p4
 h5:p5
 h6:p6
 h7:p7
 h8:p8
 h9:p9
 h10:Wn
 h11:YT
structure aeb(p0 p1 p2 p3 p4 p5 p6 p7 p8 p9 Wn YT p12:Prop):Prop where
 h0:p0
 h1:p1
 h2:p2
 h3:p3
 h4:p4
 h5:p5
 h6:p6
 h7:p7
 h8:p8
 h9:p9
 h10:Wn
 h11:YT
 h12:p12
structure aec(p0 p1 p2 p3 p4 p5 p6 p7 p8 p9 Wn YT p12 p13:Prop):Prop where
 h0:p0
 h1:p1
 h2:p2
 h3:p3
 h4:p4
 h5:p5
 h6:p6
 h7:p7
 h8:p8
 h9:p9
 h10:Wn
 h11:YT
 h12:p12
 h13:p13
namespace MR
def Ln:Nat->Nat->Nat
|0,x=>x
|n+1,x=>Ln n (5*x+1)
theorem zK:∀(m n x:Nat),Ln (m+n) x=Ln n (Ln m x)
|0,n,x=>by rw[agQ];rfl
|m+1,n,x=>by
 rw[show m+1+n=(m+n)+1 by omega];exact zK m n (5*x+1)
theorem Jd:∀k:Nat,∃a b:Nat,∀x,Ln (2^k) x=x+4*2^k*a*x+2^k*(2*b+1)
|0=>⟨1,0,λx=>by show 5*x+1=_;omega⟩
|k+1=>by
 obtain⟨a,b,h⟩:=Jd k;refine⟨a+2*2^k*a*a,b+a*2^k*(2*b+1),λx=>?_⟩;rw[show 2^(k+1)=2^k+2^k by rw[aek];omega,zK,h,h];generalize 2^k=p;have:∀y:Nat,y+4*p*a*y=y*(1+4*p*a):=λy=>by rw[Nat.mul_add,Nat.mul_one,ad6 y]
 grind
theorem Je(M:Nat):∀(n x y:Nat),x%M=y%M->Ln n x%M=Ln n y%M
|0,x,y,h=>h
|n+1,x,y,h=>by
 refine Je M n _ _ ?_;have a:(5*x)%M=(5*y)%M:=by rw[Nat.mul_mod,h,<-Nat.mul_mod]
 rw[Nat.add_mod,a,<-Nat.add_mod]
theorem Jf:∀(k x y:Nat),∃n,n<2^k/\Ln n x%2^k=y%2^k
|0,x,y=>⟨0,by decide,by rw[Nat.pow_zero,Nat.mod_one,Nat.mod_one]⟩
|k+1,x,y=>by
 obtain⟨n,o,e⟩:=Jf k x y;obtain⟨a,b,h⟩:=Jd k;have f:2^(k+1)=2*2^k:=by rw[aek];omega
 have d:0<2^k:=acJ k;by_cases q:Ln n x%2^(k+1)=y%2^(k+1)
 .exact⟨n,by omega,q⟩
 .refine⟨n+2^k,by omega,?_⟩
  rw[zK,h];generalize hz:Ln n x=z at e q;rw[f]at q⊢;generalize 2^k=p at*;have s:=afQ z p;have t:=afQ y p;have g:z%(2*p)=z%p+p*(z/p%2):=by rw[ad6 2 p,ah_]
  have c:y%(2*p)=y%p+p*(y/p%2):=by rw[ad6 2 p,ah_]
  have m:z/p%2≠y/p%2:=λr=>q (by rw[g,c,e,r]);have j:z+4*p*a*z+p*(2*b+1)=(z+p)+(2*p)*(2*a*z+b):=by grind
  rw[j,Nat.add_mul_mod_self_left];have l:(z+p)%(2*p)=(z+p)%p+p*((z+p)/p%2):=by rw[ad6 2 p,ah_]
  rw[l,c,Nat.add_mod_right,Nat.add_div_right z d,e];have:(z/p).succ%2=y/p%2:=by omega
  rw[this]
end MR
namespace MR
open PySem PySem.SetTable
def Ob(l:List Nat):Prop:=l.Pairwise (·<·)
def zL{l:List Nat}(h:Ob l){i j a b:Nat}(c:i<j)(d:l[i]?=some a)(e:l[j]?=some b):a<b:=by
 obtain⟨f,g⟩:=aaV.mp d;obtain⟨k,m⟩:=aaV.mp e;subst g;subst m;exact adL.mp h i j f k c
theorem uQ(xs:Array Nat)(j:Nat)(hs:Ob xs.toList):∀(c lo b:Nat),b - lo<=c->lo<=b->b<=xs.size->
  (∀k a,k<lo->xs[k]?=some a->a<j)->(∀k a,b<=k->xs[k]?=some a->j<=a)->
  (below.go xs j c lo b<=xs.size/\(∀k a,k<below.go xs j c lo b->xs[k]?=some a->a<j)/\∀k a,below.go xs j c lo b<=k->xs[k]?=some a->j<=a)
|0,lo,b,q,p,hz,g,l=>by
 have e:lo=b:=by omega
 subst e;exact⟨hz,g,l⟩
|c+1,lo,b,q,p,hz,g,l=>by
 have m:∀k a,xs[k]?=some a↔xs.toList[k]?=some a:=λk a=>by rw[abf]
 unfold below.go;by_cases o:lo<b
 .rw[aaU o]
  dsimp only;have r:(lo+b)/2<xs.size:=by omega
  have f:xs[(lo+b)/2]?=some xs[(lo+b)/2]:=aa9 r;have s:xs.getD ((lo+b)/2) j=xs[(lo+b)/2]:=by rw[acS,f];rfl
  rw[s];by_cases hc:xs[(lo+b)/2]<j
  .rw[aaU hc]
   refine uQ xs j hs c _ b (by omega) (by omega) hz (λk a t d=>?_) l;by_cases n:k=(lo+b)/2
   .subst n;rw[f]at d;cases d;exact hc
   .exact afo (zL hs (show k<(lo+b)/2 by omega) ((m _ _).mp d) ((m _ _).mp f)) hc
  .rw[aaz hc]
   refine uQ xs j hs c lo _ (by omega) (by omega) (by omega) g (λk a t d=>?_);by_cases n:k=(lo+b)/2
   .subst n;rw[f]at d;cases d;omega
   .have:=zL hs (show(lo+b)/2<k by omega) ((m _ _).mp f) ((m _ _).mp d)
    omega
 .rw[aaz o]
  have e:lo=b:=by omega
  subst e;exact⟨hz,g,l⟩
def lN(xs:Array Nat)(j:Nat)(hs:Ob xs.toList):below xs j<=xs.size/\(∀k a,k<below xs j->xs[k]?=some a->a<j)/\∀k a,below xs j<=k->xs[k]?=some a->j<=a:=uQ xs j hs xs.size 0 xs.size (by grind) (by grind) (aaS _) (λk a h=>by grind) (λk a h b=>by
  have:=(acr.mp b).1;grind)
def below_at{xs:Array Nat}{i j:Nat}(hs:Ob xs.toList)(h:xs[i]?=some j):below xs j=i:=by
 obtain⟨f,d,e⟩:=lN xs j hs;by_cases a:i<below xs j
 .have:=d i j a h;grind
 by_cases b:below xs j<i
 .have g:=(acr.mp h).1
  have c:xs[below xs j]?=some (xs[below xs j]'(by grind)):=aa9 (by grind);have:=e _ _ (aaS _) c;have:=zL hs b (by rw[abf];exact c) (by rw[abf];exact h);grind
 .grind
def m9{t:SetTable}{i j:Nat}(hs:Ob t.place.toList)(h:t.place[i]?=some j):t.slot j=.live i:=by
 unfold slot;rw[below_at hs h];dsimp only;rw[h];simp
def uR{t:SetTable}{j:Nat}(c:t.dummies=#[])(h:j∉t.place.toList):t.slot j=.empty:=by
 unfold slot;dsimp only;have d:(t.place[below t.place j]?==some j)=false:=by
  cases e:t.place[below t.place j]? with
  |none=>rfl
  |some a=>
   have:a∈t.place.toList:=by
    obtain⟨f,g⟩:=acr.mp e;rw[<-g];exact agu f
   have b:a≠j:=λq=>h (q▸this);simp[b]
 rw[d,c];have k:has #[] j=false:=by
  unfold has;simp
 rw[k];rfl
def FJ(t:SetTable)(j:Nat)(hs:Ob t.place.toList)(b:t.dummies=#[]):(j∉t.place.toList/\t.slot j=.empty)\/∃i,t.place[i]?=some j/\t.slot j=.live i:=by
 by_cases h:j∈t.place.toList
 .obtain⟨i,a⟩:=adH h
  rw[abf]at a;exact .inr ⟨i,a,m9 hs a⟩
 .exact .inl ⟨h,uR b h⟩
def FN(mask:Nat)(p:Probe):Probe:=
 if p.more>0 then{p with j:=p.j+1,more:=p.more - 1}else
 {p with j:=(leap mask p.i p.perturb).1,more:=runEnd mask (leap mask p.i p.perturb).1 - (leap mask p.i p.perturb).1,i:=(leap mask p.i p.perturb).1,perturb:=(leap mask p.i p.perturb).2}
def FP(t:SetTable)(p:Probe):t.advance p=FN t.mask p:=rfl
def first(mask:Nat)(h:Int):Probe:={j:=bits h%(mask+1),more:=runEnd mask (bits h%(mask+1)) - bits h%(mask+1),i:=bits h%(mask+1),perturb:=bits h,dummy:=none}
def Fv(mask:Nat)(p:Probe):Nat->Probe
|0=>p
|n+1=>FN mask (Fv mask p n)
def sq(mask:Nat)(h:Int):Nat->Probe:=Fv mask (first mask h)
theorem uT(mask:Nat)(p:Probe):∀n,Fv mask p (n+1)=Fv mask (FN mask p) n
|0=>rfl
|n+1=>congrArg (FN mask) (uT mask p n)
theorem pQ(mask:Nat)(p:Probe)(a:Nat):∀n,Fv mask p (a+n)=Fv mask (Fv mask p a) n
|0=>rfl
|n+1=>congrArg (FN mask) (pQ mask p a n)
def Lp(mask:Nat)(p:Probe):(FN mask p).dummy=p.dummy:=by
 unfold FN;split<;>rfl
theorem yc(mask:Nat)(p:Probe):∀n,(Fv mask p n).dummy=p.dummy
|0=>rfl
|n+1=>(Lp mask _).trans (yc mask p n)
def Lq(mask i:Nat):runEnd mask i - i<=9:=by unfold runEnd;split<;>grind
def rm(mask i:Nat):i<=runEnd mask i:=by unfold runEnd;split<;>grind
def grp(mask i a:Nat):Probe:={j:=i,more:=runEnd mask i - i,i,perturb:=a,dummy:=none}
theorem FQ(mask i a:Nat):∀n,n<=runEnd mask i - i->Fv mask (grp mask i a) n={j:=i+n,more:=runEnd mask i - i - n,i,perturb:=a,dummy:=none}
|0,_=>rfl
|n+1,h=>by
 show FN mask (Fv mask (grp mask i a) n)=_;rw[FQ mask i a n (by omega)];unfold FN;dsimp only;rw[aaU (by omega)];rfl
def Jg(mask i a:Nat):Fv mask (grp mask i a) (runEnd mask i - i+1)=grp mask (leap mask i a).1 (leap mask i a).2:=by
 show FN mask (Fv mask (grp mask i a) (runEnd mask i - i))=_;rw[FQ mask i a _ (aaS _)];unfold FN;dsimp only;rw[aaz (by grind)];rfl
def gk(mask:Nat):Nat->Nat×Nat->Nat×Nat
|0,x=>x
|g+1,x=>gk mask g (leap mask x.1 x.2)
theorem Oi(mask:Nat):∀(g:Nat)(x:Nat×Nat),∃n,n<=10*g/\Fv mask (grp mask x.1 x.2) n=grp mask (gk mask g x).1 (gk mask g x).2
|0,x=>⟨0,by grind,rfl⟩
|g+1,x=>by
 obtain⟨n,a,e⟩:=Oi mask g (leap mask x.1 x.2);refine⟨runEnd mask x.1 - x.1+1+n,by have:=Lq mask x.1;grind,?_⟩;rw[pQ,Jg];exact e
theorem yd(mask:Nat):∀(g:Nat)(x:Nat×Nat),(gk mask g x).2=x.2/32^g
|0,x=>by rw[Nat.pow_zero,Nat.div_one];rfl
|g+1,x=>by
 show(gk mask g (leap mask x.1 x.2)).2=_;rw[yd mask g];show x.2/32/32^g=_;rw[Nat.div_div_eq_div_mul,aek,ad6]
theorem uU(mask:Nat):∀(g i:Nat),i<=mask->(gk mask g (i,0)).1=Ln g i%(mask+1)/\(gk mask g (i,0)).2=0
|0,i,h=>⟨(afE (show i<mask+1 by grind)).symm,rfl⟩
|g+1,i,h=>by
 have e:leap mask i 0=((i*5+1)%(mask+1),0):=by unfold leap;simp
 show(gk mask g (leap mask i 0)).1=_/\(gk mask g (leap mask i 0)).2=0;rw[e];obtain⟨a,b⟩:=uU mask g ((i*5+1)%(mask+1)) (by have:=afi (i*5+1) (show 0<mask+1 by grind);grind);refine⟨?_,b⟩;rw[a];show Ln g _%(mask+1)=Ln g (5*i+1)%(mask+1);exact Je _ _ _ _ (by rw[Nat.mod_mod,ad6])
theorem yg(mask:Nat):∀(a b:Nat)(x:Nat×Nat),gk mask (a+b) x=gk mask b (gk mask a x)
|0,b,x=>by rw[agQ];rfl
|a+1,b,x=>by rw[show a+1+b=(a+b)+1 by grind];exact yg mask a b _
def zM(mask i a:Nat):(leap mask i a).1<=mask:=by
 unfold leap;have:=afi (i*5+1+a/32) (show 0<mask+1 by grind);dsimp only;grind
theorem BR(mask:Nat):∀(g:Nat)(x:Nat×Nat),x.1<=mask->(gk mask g x).1<=mask
|0,x,h=>h
|g+1,x,h=>BR mask g _ (zM mask x.1 x.2)
def Te(h:Int):bits h<2^64:=by
 unfold bits;have:=Int.emod_lt_of_pos h (show(0:Int)<2^64 by decide);have:=Int.emod_nonneg h (show(2^64:Int)≠0 by decide);grind
def yh{k:Nat}(h:Int){e:Nat}(b:e<2^k):∃g,g<2^k+13/\(gk (2^k - 1) g (bits h%2^k,bits h)).1=e:=by
 have c:2^k - 1+1=2^k:=by have:=acJ k;grind
 have a:(gk (2^k - 1) 13 (bits h%2^k,bits h)).2=0:=by
  rw[yd];exact Nat.div_eq_of_lt (abG (Te h) (by decide))
 obtain⟨m,j,em⟩:=Jf k (gk (2^k - 1) 13 (bits h%2^k,bits h)).1 e;refine⟨13+m,by grind,?_⟩;rw[yg];have d:gk (2^k - 1) 13 (bits h%2^k,bits h)=((gk (2^k - 1) 13 (bits h%2^k,bits h)).1,0):=by
  rw[<-a]
 rw[d];have f:(gk (2^k - 1) 13 (bits h%2^k,bits h)).1<=2^k - 1:=BR _ _ _ (by
  show bits h%2^k<=2^k - 1;have:=afi (bits h) (acJ k);grind)
 rw[(uU (2^k - 1) m _ f).1,c,em,afE b]
def Wo{k:Nat}(h:Int){e:Nat}(a:e<2^k):∃n,n<10*turns (2^k - 1)/\(sq (2^k - 1) h n).j=e:=by
 obtain⟨g,f,b⟩:=yh h a;have c:2^k - 1+1=2^k:=by have:=acJ k;grind
 obtain⟨n,j,en⟩:=Oi (2^k - 1) g (bits h%2^k,bits h);refine⟨n,by unfold turns;grind,?_⟩;have d:first (2^k - 1) h=grp (2^k - 1) (bits h%2^k) (bits h):=by unfold first grp;rw[c]
 unfold sq;rw[d,en];exact b
def sW{mask i:Nat}(h:i<=mask):runEnd mask i<=mask:=by unfold runEnd;split<;>omega
theorem Jh(mask:Nat)(h:Int):∀n,(sq mask h n).j+(sq mask h n).more<=mask
|0=>by
 have a:bits h%(mask+1)<=mask:=by have:=afi (bits h) (show 0<mask+1 by grind);grind
 have:=sW a;have:=rm mask (bits h%(mask+1));show bits h%(mask+1)+(runEnd mask (bits h%(mask+1)) - bits h%(mask+1))<=mask;grind
|n+1=>by
 have b:=Jh mask h n;show(FN mask (sq mask h n)).j+(FN mask (sq mask h n)).more<=mask;generalize sq mask h n=p at b;unfold FN;split
 .dsimp only;grind
 .have a:=zM mask p.i p.perturb
  have:=sW a;have:=rm mask (leap mask p.i p.perturb).1;dsimp only;grind
def YW(mask:Nat)(h:Int)(n:Nat):(sq mask h n).j<=mask:=by have:=Jh mask h n;grind
theorem least{p:Nat->Prop}[DecidablePred p]:∀(n:Nat),p n->∃m,m<=n/\p m/\∀k,k<m->¬p k
|0,h=>⟨0,aaS _,h,λk a=>by omega⟩
|n+1,h=>by
 by_cases q:∃m,m<=n/\p m
 .obtain⟨m,f,b⟩:=q
  obtain⟨r,g,c,d⟩:=least m b;exact⟨r,by omega,c,d⟩
 .exact⟨n+1,aaS _,h,λk a e=>q ⟨k,by omega,e⟩⟩
structure Good(t:SetTable):Prop where
 BW:Ob t.place.toList
 Yw:t.dummies=#[]
 msk:∃k,3<=k/\t.mask=2^k - 1
 le:∀j∈t.place.toList,j<=t.mask
 few:t.place.size<=t.mask
theorem j9:∀{l m:List Nat},l.Nodup->(∀x∈l,x∈m)->l.length<=m.length
|[],_,_,_=>abe _
|a::l,m,d,hs=>by
 obtain⟨e,f⟩:=adC.mp d;have b:=hs a aa0;have:=j9 (m:=m.erase a) f λx c=>(aho (λq:x=a=>e (q▸c))).mpr (hs x (aaX _ c));rw[agv b]at this;have:=agR b;rw[aae];omega
def Good.room{t:SetTable}(G:Good t):∃e,e<=t.mask/\e∉t.place.toList:=by
 by_cases q:∃e,e<=t.mask/\e∉t.place.toList
 .exact q
 .have a:∀e∈List.range (t.mask+1),e∈t.place.toList:=λe b=>by
   by_cases h:e∈t.place.toList
   .exact h
   .exact absurd ⟨e,by have:=ad9.mp b;grind,h⟩ q
  have sub:(List.range (t.mask+1)).length<=t.place.toList.length:=
   j9 agA a
  rw[aeU,abh]at sub;have:=G.few;grind
def Tf{t:SetTable}{a:Nat->Int}{h:Int}{p:Probe}{b i:Nat}(hs:t.slot p.j=.live i)(c:(a i==h)=false):probe.go t a h (b+1) p=probe.go t a h b (t.advance p):=by
 rw[probe.go,hs];dsimp only;rw[c];rfl
def Oj{t:SetTable}{b:Nat->Int}{h:Int}{p:Probe}{a:Nat}(hs:t.slot p.j=.empty):probe.go t b h (a+1) p=some (.empty p.j p.dummy):=by
 rw[probe.go,hs]
def Tg{t:SetTable}{a:Nat->Int}{h:Int}{p:Probe}{b i:Nat}(hs:t.slot p.j=.live i)(c:(a i==h)=true):probe.go t a h (b+1) p=some (.candidate p.j i (t.advance p)):=by
 rw[probe.go,hs];dsimp only;rw[c];rfl
theorem Ji{t:SetTable}{b:Nat->Int}{h:Int}:∀(m:Nat)(p:Probe)(a:Nat),m<=a->(∀k,k<m->∃i,t.slot (Fv t.mask p k).j=.live i/\(b i==h)=false)->
  probe.go t b h a p=probe.go t b h (a - m) (Fv t.mask p m)
|0,p,a,_,_=>rfl
|m+1,p,a,j,d=>by
 obtain⟨i,c,e⟩:=d 0 (by grind);obtain⟨f,rfl⟩:∃f,a=f+1:=⟨a - 1,by grind⟩;have c:t.slot p.j=.live i:=c;rw[Tf (i:=i) c e,FP,Ji m (FN t.mask p) f (by grind) (λk g=>by
  have:=d (k+1) (by grind);rwa[uT]at this),uT]
 congr 1
 grind
def FT{t:SetTable}(G:Good t)(a:Nat->Int)(h:Int)(n e:Nat)(v:n<=e)(z:e<10*turns t.mask)(o:(sq t.mask h e).j∉t.place.toList):
  ∃m,n<=m/\m<=e/\(∀k,n<=k->k<m->∃i,t.place[i]?=some (sq t.mask h k).j/\(a i==h)=false)/\
   (((sq t.mask h m).j∉t.place.toList/\t.probe a h (sq t.mask h n)=some (.empty (sq t.mask h m).j none))\/
    ∃i,t.place[i]?=some (sq t.mask h m).j/\(a i==h)=true/\t.probe a h (sq t.mask h n)=some (.candidate (sq t.mask h m).j i (sq t.mask h (m+1)))):=by
 have l:∀k,Fv t.mask (sq t.mask h n) k=sq t.mask h (n+k):=λk=>(pQ t.mask (first t.mask h) n k).symm;have w:DecidablePred λm=>(sq t.mask h (n+m)).j∉t.place.toList\/∃i,i<t.place.size/\t.place[i]?=some (sq t.mask h (n+m)).j/\(a i==h)=true:=λm=>Classical.propDecidable _;obtain⟨m,A,r,s⟩:=least (p:=λm=>(sq t.mask h (n+m)).j∉t.place.toList\/∃i,i<t.place.size/\t.place[i]?=some (sq t.mask h (n+m)).j/\(a i==h)=true) (e - n) (.inl (by rw[show n+(e - n)=e by grind];exact o));have j:∀k,k<m->∃i,t.place[i]?=some (sq t.mask h (n+k)).j/\(a i==h)=false:=λk g=>by
  have:=s k g;rcases FJ t (sq t.mask h (n+k)).j G.BW G.Yw with⟨q,_⟩|⟨i,b,_⟩
  .exact absurd (.inl q) this
  .refine⟨i,b,?_⟩
   cases q:(a i==h)with
   |false=>rfl
   |true=>exact absurd (.inr ⟨i,(acr.mp b).1,b,q⟩) this
 have d:t.probe a h (sq t.mask h n)=probe.go t a h (10*turns t.mask - m) (sq t.mask h (n+m)):=by
  unfold probe;rw[Ji m _ _ (by grind) (λk g=>by
   rw[l];obtain⟨i,b,c⟩:=j k g;exact⟨i,m9 G.BW b,c⟩),l]
 obtain⟨f,u⟩:∃f,10*turns t.mask - m=f+1:=⟨10*turns t.mask - m - 1,by grind⟩;rw[u]at d;refine⟨n+m,by grind,by grind,λk x y=>?_,?_⟩
 .have:=j (k - n) (by grind)
  rwa[show n+(k - n)=k by grind]at this
 .rcases r with q|⟨i,_,b,c⟩
  .refine .inl ⟨q,?_⟩
   rw[d,Oj (uR G.Yw q)];have:(sq t.mask h (n+m)).dummy=none:=yc _ _ _;rw[this]
  .refine .inr ⟨i,b,c,?_⟩
   rw[d,Tg (m9 G.BW b) c];rfl
def Reach(mask:Nat)(a:Nat->Prop)(h:Int)(j:Nat):Prop:=∃n,(sq mask h n).j=j/\∀m,m<n->a (sq mask h m).j
def Reach.mono{mask:Nat}{o b:Nat->Prop}{h:Int}{j:Nat}(r:Reach mask o h j)(i:∀k,o k->b k):Reach mask b h j:=let⟨n,e,a⟩:=r;⟨n,e,λm c=>i _ (a m c)⟩
def Good.empty{t:SetTable}(G:Good t)(h:Int):∃e,e<10*turns t.mask/\(sq t.mask h e).j∉t.place.toList/\∀k,k<e->(sq t.mask h k).j∈t.place.toList:=by
 obtain⟨k,_,a⟩:=G.msk;obtain⟨e,l,d⟩:=G.room;have:e<2^k:=by have:=acJ k;grind
 obtain⟨n,c,b⟩:=Wo h this;rw[<-a]at c b;have j:DecidablePred λm=>(sq t.mask h m).j∉t.place.toList:=λm=>Classical.propDecidable _;obtain⟨m,o,f,g⟩:=least (p:=λm=>(sq t.mask h m).j∉t.place.toList) n (by rw[b];exact d);exact⟨m,by grind,f,λk a=>afp.mp (g k a)⟩
def jB{a:Type}(xs:Array a)(p:Nat)(x:a)(b:p<=xs.size):(insertAt xs p x).toList=xs.toList.take p++x::xs.toList.drop p:=by
 unfold insertAt;simp[Array.toList_extract,List.extract_eq_drop_take];rw[ac3 (by simp)]
structure TabOk{α:Type}(t:SetTable)(es:Array (Int×α)):Prop where
 good:Good t
 size:es.size=t.place.size
 reach:∀(i j:Nat)(x:Int×α),t.place[i]?=some j->es[i]?=some x->Reach t.mask (·∈t.place.toList) x.1 j
def ou{b:Type}(l:List b)(p:Nat)(x:b)(e:p<=l.length)(i:Nat):
  (l.take p++x::l.drop p)[i]?=if i<p then l[i]? else if i=p then some x else l[i - 1]?:=by
 by_cases a:i<p
 .rw[aaU a,acR (by rw[abg];grind),ad7 a]
 .rw[aaz a,abA (by rw[abg];grind),abg,aey e]
  by_cases c:i=p
  .subst c
   rw[aaU rfl,adB];rfl
  .rw[aaz c]
   obtain⟨d,f⟩:∃d,i - p=d+1:=⟨i - p - 1,by grind⟩;rw[f,adw,aew]
   congr 1
   grind
def Wq{z:Type}{t:SetTable}{d:Array (Int×z)}(T:TabOk t d){h:Int}{x:z}{j:Nat}(H:j∉t.place.toList)(I:j<=t.mask)(J:Reach t.mask (·∈t.place.toList) h j)(L:t.place.size+1<=t.mask):
  TabOk (t.put j).1 (insertAt d (t.put j).2 (h,x))/\(insertAt d (t.put j).2 (h,x)).toList.Perm ((h,x)::d.toList)/\(t.put j).1.place.size=t.place.size+1/\(t.put j).1.mask=t.mask:=by
 obtain⟨m,M,A⟩:=lN t.place j T.good.BW;have N:(t.put j).2=below t.place j:=rfl;have B:(t.put j).1.place=insertAt t.place (below t.place j) j:=rfl;have C:(t.put j).1.dummies=#[]:=by
  show(if has t.dummies j then eraseAt t.dummies (below t.dummies j)else t.dummies)=#[];rw[T.good.Yw];have:has #[] j=false:=by unfold has;simp
  rw[this];rfl
 have O:(t.put j).1.mask=t.mask:=rfl;have l:(t.put j).1.place.toList=t.place.toList.take (below t.place j)++j::t.place.toList.drop (below t.place j):=by rw[B,jB _ _ _ m]
 have p:(insertAt d (t.put j).2 (h,x)).toList=d.toList.take (below t.place j)++(h,x)::d.toList.drop (below t.place j):=by rw[N,jB _ _ _ (by rw[T.size];exact m)]
 have mem:∀k,k∈(t.put j).1.place.toList↔k=j\/k∈t.place.toList:=λk=>by
  rw[l,aa4,aa2];constructor
  .rintro(q|q|q)
   .exact .inr (ae0 q)
   .exact .inl q
   .exact .inr (ahp q)
  .rintro(q|q)
   .exact .inr (.inl q)
   .rw[<-adu (below t.place j) t.place.toList]at q
    rcases aa4.mp q with q|q
    .exact .inl q
    .exact .inr (.inr q)
 have D:Ob (t.put j).1.place.toList:=by
  rw[l];unfold Ob;rw[List.pairwise_append];refine⟨T.good.BW.sublist (ahU _ _),ad3.mpr ⟨λa n=>?_,T.good.BW.sublist (List.drop_sublist _ _)⟩,λa n b r=>?_⟩
  .obtain⟨i,c⟩:=adH n
   rw[aew,abf]at c;have f:=A _ _ (by grind) c;have s:a≠j:=λq=>H (q▸ahp n);grind
  .obtain⟨i,c⟩:=adH n
   have v:i<below t.place j:=by
    have:=(aaV.mp c).1;rw[abg]at this;grind
   rw[ad7 v,abf]at c;have f:=M _ _ v c;rcases aa2.mp r with rfl|r
   .exact f
   .obtain⟨Q,w⟩:=adH r
    rw[aew,abf]at w;have:=A _ _ (by grind) w;grind
 have u:(t.put j).1.place.size=t.place.size+1:=by
  rw[<-abh,l];simp;grind
 have E:(insertAt d (t.put j).2 (h,x)).size=d.size+1:=by
  rw[<-abh,p];simp;have:=T.size;grind
 refine⟨⟨⟨D,C,T.good.msk,λk g=>?_,by rw[u];exact L⟩,by rw[u,E,T.size],λi k y c e=>?_⟩,?_,u,rfl⟩
 .rcases(mem k).mp g with rfl|g
  .exact I
  .exact T.good.le k g
 .rw[<-abf,l,ou _ _ _ (by rw[abh];exact m)]at c
  rw[<-abf,p,ou _ _ _ (by rw[abh,T.size];exact m)]at e;have o:∀k,k∈t.place.toList->k∈(t.put j).1.place.toList:=λk g=>(mem k).mpr (.inr g);by_cases f:i<below t.place j
  .rw[aaU f,abf]at c e
   exact(T.reach i k y c e).mono o
  .rw[aaz f]at c e
   by_cases s:i=below t.place j
   .rw[aaU s]at c e
    cases c;cases e;exact J.mono o
   .rw[aaz s,abf]at c e
    exact(T.reach _ k y c e).mono o
 .rw[p]
  refine(List.perm_middle).trans ?_;rw[adu]
theorem pR(n:Nat):∀(a k:Nat),n<2^(k+a)->3<=k->∃m,3<=m/\sizeAbove.go n a (2^k)=2^m/\n<2^m
|0,k,h,b=>⟨k,b,rfl,h⟩
|a+1,k,h,b=>by
 unfold sizeAbove.go;by_cases q:2^k<=n
 .rw[aaU q,<-aek]
  exact pR n a (k+1) (by rw[show k+1+a=k+(a+1)by grind];exact h) (by grind)
 .rw[aaz q]
  exact⟨k,b,rfl,by grind⟩
def zN{n:Nat}(h:n<2^60):∃m,3<=m/\sizeAbove n=2^m/\n<2^m:=pR n 64 3 (abG h (by decide)) (by decide)
structure Own(mask:Nat)(hs:List Int)(ow:Array (Option Nat))(js:List Nat):Prop where
 sz:ow.size=mask+1
 to:∀(i j:Nat),js[i]?=some j->ow[j]?=some (some i)
 fro:∀(j i:Nat),ow[j]?=some (some i)->js[i]?=some j
 reach:∀(i j:Nat)(h:Int),js[i]?=some j->hs[i]?=some h->Reach mask (·∈js) h j
def Own.occ{mask:Nat}{hs:List Int}{a:Array (Option Nat)}{d:List Nat}(O:Own mask hs a d){j:Nat}(g:j<=mask):(a.getD j (some 0)).isNone=true↔j∉d:=by
 have b:j<a.size:=by rw[O.sz];grind
 have e:a.getD j (some 0)=a[j]:=by rw[acS,aa9 b];rfl
 rw[e];cases q:a[j]with
 |none=>
  refine⟨λ_ c=>?_,λ_=>rfl⟩;obtain⟨i,f⟩:=adH c;have:=O.to i j f;rw[aa9 b,q]at this;cases this
 |some i=>
  refine⟨λh=>(by cases h),λc=>absurd ?_ c⟩;exact aa6 (O.fro j i (by rw[aa9 b,q]))
theorem Jj{mask:Nat}{hs:List Int}{f:Array (Option Nat)}{b:List Nat}(O:Own mask hs f b)(h:Int):∀(d c n:Nat)(i a:Nat),i<=mask->d<c->sq mask h n=grp mask i a->(∀m,m<n->(sq mask h m).j∈b)->
  (gk mask d (i,a)).1∉b->∃j,layClean.free mask f c i a=some j/\j<=mask/\j∉b/\Reach mask (·∈b) h j
|d,0,n,i,a,_,y,_,_,_=>by grind
|d,c+1,n,i,a,E,y,g,s,t=>by
 have H:runEnd mask i<=mask:=by unfold runEnd;split<;>grind
 have I:=rm mask i;rw[layClean.free];have l:∀k,k<=runEnd mask i - i->(sq mask h (n+k)).j=i+k:=λk u=>by
  unfold sq at g⊢;rw[pQ,g,FQ mask i a k u]
 cases q:(List.range (runEnd mask i+1 - i)).find? λk=>(f.getD (i+k) (some 0)).isNone with
 |some k=>
  have w:=List.find?_some q;have D:=ad9.mp (ae6 q);refine⟨i+k,rfl,by grind,(O.occ (by grind)).mp w,n+k,l k (by grind),λm A=>?_⟩;by_cases o:m<n
  .exact s m o
  .have:(sq mask h m).j=i+(m - n):=by
    have:=l (m - n) (by grind);rwa[show n+(m - n)=m by grind]at this
   rw[this];have x:¬(f.getD (i+(m - n)) (some 0)).isNone=true:=by
    obtain⟨_,as,J,e,B⟩:=List.find?_eq_some_iff_append.mp q;have:m - n∈as:=by
     have C:as.length=k:=by
      have p:(List.range (runEnd mask i+1 - i))[as.length]?=some k:=by rw[e,abA (aaS _),adB];rfl
      rw[af3]at p
      .exact abk p
      .have:=(aaV.mp p).1
       rwa[aeU]at this
     have v:(List.range (runEnd mask i+1 - i))[m - n]?=some (m - n):=af3 (by grind);rw[e,acR (by grind)]at v;exact aa6 v
    have:=B _ this;intro z;rw[z]at this;cases this
   exact afp.mp λz=>x ((O.occ (by grind)).mpr z)
 |none=>
  have r:∀k,k<=runEnd mask i - i->i+k∈b:=λk u=>by
   have:=af8.mp q k (ad9.mpr (by grind));exact afp.mp λz=>this ((O.occ (by grind)).mpr z)
  cases d with
  |zero=>exact absurd (r 0 (by grind)) t
  |succ d=>
   show∃j,layClean.free mask f c (leap mask i a).1 (leap mask i a).2=some j/\_;refine Jj O h d c (n+(runEnd mask i - i+1)) _ _ (zM mask i a) (by grind) ?_ (λm A=>?_) t
   .unfold sq at g⊢
    rw[pQ,g,Jg]
   .by_cases o:m<n
    .exact s m o
    .have:(sq mask h m).j=i+(m - n):=by
      have:=l (m - n) (by grind);rwa[show n+(m - n)=m by grind]at this
     rw[this];exact r _ (by grind)
def Own.le{mask:Nat}{hs:List Int}{b:Array (Option Nat)}{a:List Nat}(O:Own mask hs b a){j:Nat}(h:j∈a):j<=mask:=by
 obtain⟨i,c⟩:=adH h;have:=(acr.mp (O.to i j c)).1;rw[O.sz]at this;grind
def Ol(mask:Nat)(acc:Option (Array (Option Nat)×Nat))(h:Int):Option (Array (Option Nat)×Nat):=do
  let(owner,k)<-acc
  let j<-layClean.free mask owner (turns mask) (bits h%(mask+1)) (bits h)
  pure (owner.setIfInBounds j (some k),k+1)
def BX(mask:Nat)(hs:Array Int):layClean mask hs=(hs.foldl (Ol mask) (some (Array.replicate (mask+1) none,0))).map (·.1):=rfl
def Ti{k0:Nat}{hs:List Int}{c:Array (Option Nat)}{a:List Nat}(O:Own (2^k0 - 1) hs c a){h:Int}(u:hs[a.length]?=some h)(H:a.length<2^k0):
  ∃r j,Ol (2^k0 - 1) (some (c,a.length)) h=some (r,a.length+1)/\Own (2^k0 - 1) hs r (a++[j]):=by
 have v:2^k0 - 1+1=2^k0:=by have:=acJ k0;grind
 obtain⟨e,w,y⟩:∃e,e<2^k0/\e∉a:=by
  by_cases q:∃e,e<2^k0/\e∉a
  .exact q
  .have:=j9 (l:=List.range (2^k0)) (m:=a) agA λx o=>afp.mp λz=>q ⟨x,ad9.mp o,z⟩
   rw[aeU]at this;grind
 obtain⟨g,I,A⟩:=yh h w;have B:first (2^k0 - 1) h=grp (2^k0 - 1) (bits h%(2^k0 - 1+1)) (bits h):=rfl
 obtain⟨j,C,J,D,E⟩:=Jj O h g (turns (2^k0 - 1)) 0 (bits h%(2^k0 - 1+1)) (bits h) (by have:=afi (bits h) (show 0<2^k0 - 1+1 by grind);grind) (by unfold turns;grind) B (λm L=>by grind) (by rw[v,A];exact y);have s:j<c.size:=by rw[O.sz];grind
 refine⟨c.setIfInBounds j (some a.length),j,?_,?_⟩
 .show(layClean.free (2^k0 - 1) c (turns (2^k0 - 1)) (bits h%(2^k0 - 1+1)) (bits h)).bind _=_
  rw[C];rfl
 .have t:∀i,a[i]?≠some j:=λi q=>D (aa6 q)
  refine⟨by rw[Array.size_setIfInBounds];exact O.sz,λi k b=>?_,λk i d=>?_,λi k h' b f=>?_⟩
  .by_cases n:i<a.length
   .rw[acR n]at b
    have:j≠k:=λq=>t i (q▸b);rw[afD this];exact O.to i k b
   .rw[abA (by grind)]at b
    have hz:i - a.length=0:=by
     have:=(aaV.mp b).1;simp at this;grind
    rw[hz]at b;cases b;rw[aeZ s];have:i=a.length:=by grind
    rw[this]
  .by_cases q:j=k
   .subst q
    rw[aeZ s]at d;cases d;rw[abA (aaS _),adB];rfl
   .rw[afD q]at d
    have:=O.fro k i d;rw[acR (aaV.mp this).1];exact this
  .have p:∀x,x∈a->x∈a++[j]:=λx o=>afL _ o
   by_cases n:i<a.length
   .rw[acR n]at b
    exact(O.reach i k h' b f).mono p
   .rw[abA (by grind)]at b
    have hz:i=a.length:=by
     have:=(aaV.mp b).1;simp at this;grind
    subst hz;rw[adB]at b;cases b;rw[u]at f;cases f;exact E.mono p
theorem BZ{k0:Nat}{hs:List Int}(k:hs.length<=2^k0):∀(d done:List Int)(b:Array (Option Nat))(a:List Nat),hs=done++d->a.length=done.length->Own (2^k0 - 1) hs b a->
  ∃f g,d.foldl (Ol (2^k0 - 1)) (some (b,a.length))=some (f,hs.length)/\g.length=hs.length/\Own (2^k0 - 1) hs f g
|[],done,b,a,e,c,O=>by
 have:hs.length=a.length:=by rw[e,c];simp
 exact⟨b,a,by rw[this];rfl,this.symm,O⟩
|h::d,done,b,a,e,c,O=>by
 have o:a.length<hs.length:=by rw[e,c];simp
 have l:hs[a.length]?=some h:=by rw[e,c,abA (aaS _),adB];rfl
 obtain⟨f,j,m,n⟩:=Ti O l (by grind);have:=BZ k d (done++[h]) f (a++[j]) (by rw[e];simp) (by simp[c]) n;rw[ag3,m];rw[aad]at this;exact this
def B_{k0:Nat}{hs:Array Int}(d:hs.size<=2^k0):∃b c,layClean (2^k0 - 1) hs=some b/\c.length=hs.size/\Own (2^k0 - 1) hs.toList b c:=by
 have k:2^k0 - 1+1=2^k0:=by have:=acJ k0;omega
 obtain⟨b,c,e,f,O⟩:=BZ (k0:=k0) (hs:=hs.toList) (by simpa using d) hs.toList [] (Array.replicate (2^k0 - 1+1) none) [] rfl rfl
  ⟨by simp,λi j h=>(by cases h),λj i h=>(by
   rw[Array.getElem?_replicate]at h;split at h<;>cases h),λi j h a=>(by cases a)⟩
 refine⟨b,c,?_,by simpa using f,O⟩;rw[BX,<-Array.foldl_toList];show Option.map _ (hs.toList.foldl (Ol (2^k0 - 1)) (some (Array.replicate (2^k0 - 1+1) none,0)))=_;have g:hs.toList.foldl (Ol (2^k0 - 1)) (some (Array.replicate (2^k0 - 1+1) none,0))=some (b,hs.toList.length):=e;rw[g];rfl
def lives(mask:Nat)(a:Array (Option Nat)):List (Nat×Nat):=(List.range (mask+1)).filterMap λj=>(a.getD j none).map (j,·)
def gV{mask:Nat}{hs:List Int}{b:Array (Option Nat)}{c:List Nat}(O:Own mask hs b c)(j i:Nat):(j,i)∈lives mask b↔c[i]?=some j:=by
 unfold lives;rw[af9];constructor
 .rintro⟨k,g,e⟩
  rw[abP]at e;obtain⟨m,d,l⟩:=e;cases l;apply O.fro;have a:j<b.size:=by rw[O.sz];exact ad9.mp g
  rw[acS,aa9 a]at d;rw[aa9 a];exact congrArg some d
 .intro h
  have f:=O.to i j h;have a:=(acr.mp f).1;refine⟨j,ad9.mpr (by rw[<-O.sz];exact a),?_⟩;rw[acS,f];rfl
def yj(mask:Nat)(f:Array (Option Nat)):Ob ((lives mask f).map (·.1)):=by
 unfold Ob lives;rw[aeV,List.pairwise_filterMap];refine List.pairwise_lt_range.imp ?_;intro a b e x c y d;rw[abP]at c d;obtain⟨_,_,rfl⟩:=c;obtain⟨_,_,rfl⟩:=d;exact e
def tX{b:Type}(l:List b):(List.range l.length).filterMap (l[·]?)=l:=by
 have a:∀(n:Nat),n<=l.length->(List.range n).filterMap (l[·]?)=l.take n:=λn=>by
  induction n with
  |zero=>intro _;simp
  |succ n c=>
   intro h;rw[ag4,ahe,c (by grind),af_]
   congr 1
 rw[a _ (aaS _),ac3 (aaS _)]
def Lr{α:Type}{t:SetTable}{c:Array (Int×α)}(T:TabOk t c){wanted:Nat}(hw:wanted<2^60)(hn:c.size<=wanted):
  ∃t' g,t.relaid (c.map (·.1)) wanted=some (t',g)/\TabOk t' (g.filterMap (c[·]?))/\(g.filterMap (c[·]?)).toList.Perm c.toList/\(∃m,t'.mask=2^m - 1/\wanted<2^m/\sizeAbove wanted=2^m)/\g.toList.Perm (List.range c.size)/\t'.led=t.led/\t'.plain=t.plain:=by
 obtain⟨m,L,em,M⟩:=zN hw;obtain⟨d,C,e1,ej,O⟩:=B_ (k0:=m) (hs:=c.map (·.1)) (by rw[Array.size_map];grind);rw[Array.size_map]at ej;refine⟨{mask:=2^m - 1,place:=((lives (2^m - 1) d).map (·.1)).toArray,dummies:=#[],finger:=t.finger,led:=t.led,moves:=t.movedTo (2^m - 1),plain:=t.plain},((lives (2^m - 1) d).map (·.2)).toArray,?_,?_⟩
 .unfold relaid laid
  rw[em,e1];rfl
 have nd:((lives (2^m - 1) d).map (·.2)).Nodup:=by
  unfold List.Nodup;rw[aeV];have r:=yj (2^m - 1) d;unfold Ob at r;rw[aeV]at r;refine r.imp_of_mem ?_;intro a b o hb hab e;have D:=(gV O a.1 a.2).mp o;have h2:=(gV O b.1 b.2).mp hb;rw[e,h2]at D;have:=abk D;grind
 have y:∀i,i∈(lives (2^m - 1) d).map (·.2)↔i<c.size:=λi=>by
  rw[aa5];constructor
  .rintro⟨⟨j,i'⟩,h,rfl⟩
   have:=(aaV.mp ((gV O j i').mp h)).1;grind
  .intro h
   exact⟨(C[i]'(by grind),i),(gV O _ _).mpr (aa3 (by grind)),rfl⟩
 have q:((lives (2^m - 1) d).map (·.2)).Perm (List.range c.size):=(aga nd agA).mpr λi=>by rw[y,ad9]
 have z:(lives (2^m - 1) d).length=c.size:=by
  have:=q.length_eq;rwa[aac,aeU]at this
 have A:(((lives (2^m - 1) d).map (·.2)).toArray.filterMap (c[·]?)).toList=((lives (2^m - 1) d).map (·.2)).filterMap (c[·]?):=by simp
 have w:(((lives (2^m - 1) d).map (·.2)).toArray.filterMap (c[·]?)).toList.Perm c.toList:=by
  rw[A];have e3:(List.range c.size).filterMap (c[·]?)=c.toList:=by
   have N:∀(n:Nat),n<=c.size->(List.range n).filterMap (c[·]?)=c.toList.take n:=λn=>by
    induction n with
    |zero=>intro _;simp
    |succ n s=>
     intro h;rw[ag4,ahe,s (by grind),af_]
     congr 1
     rw[abf,aei,aa9 (show n<c.size by grind)];rfl
   rw[N c.size (aaS _),ac3 (by simp)]
  exact(q.filterMap _).trans (by rw[e3])
 have I:∀l:List (Nat×Nat),(∀x∈l,x.2<c.size)->∀i:Nat,((l.map (·.2)).filterMap (c[·]?))[i]?=(l[i]?).bind λx=>c[x.2]?:=λl=>by
  induction l with
  |nil=>intro _ i;simp
  |cons a l s=>
   intro E i;have o:=E a aa0;rw[aaZ,aei,aa9 o];dsimp only;cases i with
   |zero=>simp[aa9 o]
   |succ i=>rw[adw,adw];exact s (λx f=>E x (aaX _ f)) i
 have Q:∀x∈lives (2^m - 1) d,x.2<c.size:=λx f=>(y x.2).mp (aa5.mpr ⟨x,f,rfl⟩);have U:∀j,j∈C->j∈(lives (2^m - 1) d).map (·.1):=λj u=>by
  obtain⟨i,v⟩:=adH u;exact aa5.mpr ⟨(j,i),(gV O j i).mpr v,rfl⟩
 have hpos:=acJ m;refine⟨⟨⟨yj _ _,rfl,⟨m,L,rfl⟩,λj u=>?_,?_⟩,?_,λi j x v f=>?_⟩,w,⟨m,rfl,M,em⟩,q,rfl,rfl⟩
 .have Y:j∈(lives (2^m - 1) d).map (·.1):=u
  obtain⟨⟨p,i⟩,h,rfl⟩:=aa5.mp Y;exact O.le (aa6 ((gV O p i).mp h))
 .show((lives (2^m - 1) d).map (·.1)).toArray.size<=2^m - 1
  rw[abd,aac,z];grind
 .show _=((lives (2^m - 1) d).map (·.1)).toArray.size
  have:=w.length_eq;rw[abh,abh]at this;refine this.trans ?_;show c.size=((lives (2^m - 1) d).map (·.1)).length;rw[aac,z]
 .have B:((lives (2^m - 1) d).map (·.1))[i]?=some j:=by
   have:((lives (2^m - 1) d).map (·.1)).toArray[i]?=some j:=v;simpa using this
  rw[abV,abP]at B;obtain⟨⟨p,k⟩,H,rfl⟩:=B;rw[<-abf,A,I _ Q,H]at f;have f:c[k]?=some x:=f;have J:=aa6 H;have hjs:=(gV O p k).mp J;have hh:(c.map (·.1)).toList[k]?=some x.1:=by
   rw[abf,Array.getElem?_map,f];rfl
  exact(O.reach k p x.1 hjs hh).mono U
section
variable{prog:Program}{w:World}{A:Around}{E:Value->Shared->Prop}{s:Shared}
abbrev m_(prog:Program)(w:World)(k:List Int):Int:=tupleKeyHash (intKind prog w) k
abbrev IsT(prog:Program)(w:World)(h:Heap)(k:List Int)(a:Addr):Prop:=IsTupleKey (intKind prog w) h k a
def IsT.keep{h h':Heap}{k:List Int}{b a:Addr}{o:Obj}{es ep t}(x:IsT prog w h k b)(j:h.get? a=some o)(l:o.data=.set es ep t)(hs:Heap.SameBut a h h'):IsT prog w h' k b:=by
 obtain⟨e,f,n,d,hc,c,m⟩:=x;have g:b≠a:=by
  rintro rfl;obtain rfl:e=o:=abk (d.symm.trans j);rw[l]at c;exact nomatch c
 exact⟨e,f,n,(hs.2 b g).trans d,hc,c,m⟩
abbrev ent(prog:Program)(w:World)(x:List Int×Addr):Int×Value:=(m_ prog w x.1,Value.ref x.2)
structure Wr(prog:Program)(w:World)(h:Heap)(a:Addr)(o:Obj)(es:Array (Int×Value))(ep:Nat)(t:SetTable)(xs:List (List Int×Addr)):Prop where
 ob:h.get? a=some o
 ex:o.ExactSet
 da:o.data=.set es ep t
 tab:TabOk t es
 full:t.tooFull=false
 low:t.mask<=8191
 ents:es.toList=xs.map (ent prog w)
 keys:∀x∈xs,IsT prog w h x.1 x.2
 nd:(xs.map (·.1)).Nodup
 plain:t.plain=true
 led:t.led= !(w.params.followText "set-order")
theorem TabOk.fits{b:Type}{t:SetTable}{a:Array (Int×b)}(T:TabOk t a):t.fits a.size=true:=by
 unfold SetTable.fits SetTable.fill;rw[T.good.Yw,T.size];have:=T.good.few;simp;exact this
def Om{t:SetTable}(G:Good t):t.gaveWay=false:=by
 obtain⟨k,a,e⟩:=G.msk;unfold SetTable.gaveWay;rw[e];obtain⟨j,rfl⟩:∃j,k=j+1:=⟨k - 1,by grind⟩;have:=acJ j;have h:(2^(j+1) - 1)%2=1:=by rw[aek];grind
 rw[h];rfl
def eF{k:List Int}{b:Addr}{Q:Bool->Shared->Prop}(g:IsT prog w s.heap k b)(h:Q false s):wpAny (model prog w) A (ofAClassStatement 8 (.ref b)) Q E s:=by
 have l:=g.typeIs;obtain⟨o,y,n,m,_,p,q⟩:=g;unfold ofAClassStatement;refine pP (afq l ?_);dsimp only;have t:(("tuple":String)=="tuple")=true:=by decide
 rw[t];simp only[adX];refine pP (aaR ?_);simp only[aep,aa7,acd];refine pP (adZ m p ?_);dsimp only;refine pP ?_;rw[<-afj];refine afF _ (λe r c=>r.1=none/\c=s/\∀v∈e,carriedByValue v=true) _ ?_ ?_ _ _ ⟨rfl,rfl,q.byValue⟩
 .rintro v e r c ⟨d,rfl,f⟩
  have x:=f v aa0;have:ofAClassStatement 7 v=pure false:=by
   cases v with
   |ref a=>simp[carriedByValue]at x
   |_=>first|rfl|(unfold ofAClassStatement;rfl)
  rw[this];refine pP (aaR ?_);simp only[aa7,acd];exact aaR ⟨rfl,rfl,λu j=>f u (aaX _ j)⟩
 .rintro⟨z,B⟩ c ⟨d,rfl,_⟩
  simp only at d;subst d;exact aaR h
def rA{k:List Int}{b:Addr}{l:List Value}{Q:Bool->Shared->Prop}(n:IsT prog w s.heap k b)(p:∀v∈l,∃c a,v=.ref a/\IsT prog w s.heap c a)(h:Q false s):
  wpAny (model prog w) A (searchCouldBeSeen (.ref b) l) Q E s:=by
 unfold searchCouldBeSeen;refine pP ?_;refine afF _ (λe r d=>r.1=none/\d=s/\∀v∈e,∃c a,v=.ref a/\IsT prog w s.heap c a) _ ?_ ?_ _ _ ⟨rfl,rfl,p⟩
 .rintro v e r d ⟨f,rfl,j⟩
  obtain⟨c,a,rfl,m⟩:=j v aa0;have g:∀v∈e,∃c a,v=.ref a/\IsT prog w d.heap c a:=λu hu=>j u (aaX _ hu);dsimp only;by_cases o:((b==a)||(carriedByValue (.ref b)&&carriedByValue (.ref a)))=true
  .rw[aaU o]
   exact aaR ⟨rfl,rfl,g⟩
  .rw[aaz o]
   refine pP (wpAny_eqIsQuiet_tuple n ?_);simp only[aep,aa7,acd];refine pP (wpAny_eqIsQuiet_tuple m ?_);simp only[aep,aa7,acd];refine pP (eF n ?_);simp only[aa7,acd];refine pP (eF m ?_);simp only[aa7,acd];exact aaR ⟨rfl,rfl,g⟩
 .rintro⟨q,t⟩ d ⟨f,rfl,_⟩
  simp only at f;subst f;exact aaR h
def Wr.get{h:Heap}{a:Addr}{o:Obj}{c:Array (Int×Value)}{d:Nat}{t:SetTable}{xs:List (List Int×Addr)}(T:Wr prog w h a o c d t xs){i:Nat}(e:i<t.place.size):
  ∃x,xs[i]?=some x/\c[i]?=some (ent prog w x)/\x∈xs:=by
 have b:i<xs.length:=by
  have:=congrArg List.length T.ents;rw[aac,abh,T.tab.size]at this;grind
 refine⟨xs[i],aa3 b,?_,List.getElem_mem b⟩;rw[<-abf,T.ents,abV,aa3 b];rfl
def Ls{a:Addr}{o:Obj}{c:Array (Int×Value)}{ep:Nat}{t:SetTable}{xs:List (List Int×Addr)}(T:Wr prog w s.heap a o c ep t xs)(hu:A.units<cLine){k:List Int}{b:Addr}(hk:IsT prog w s.heap k b)
  {e:Nat}(he:e<10*turns t.mask)(hemp:(sq t.mask (m_ prog w k) e).j∉t.place.toList)(abl:∀m,m<e->(sq t.mask (m_ prog w k) m).j∈t.place.toList)
  {Q:SetFound->Shared->Prop}(hin:k∈xs.map (·.1)->Q (.there none) s)(hout:k∉xs.map (·.1)->Q (.free (sq t.mask (m_ prog w k) e).j false) s):
  ∀(d n D:Nat)(I:Option Probe),n<=e->e - n=d->d<D->I.getD (t.probeStart (m_ prog w k))=sq t.mask (m_ prog w k) n->
   (∀(m i:Nat)(x:List Int×Addr),m<n->t.place[i]?=some (sq t.mask (m_ prog w k) m).j->xs[i]?=some x->x.1≠k)->
   wpAny (model prog w) A (setSearchFrom a (.ref b) (m_ prog w k) true D I) Q E s:=by
 intro d
 induction d using Nat.strongRecOn with
 |_ d ih=>
  intro n D I hne hd hf hst hno;obtain⟨f,rfl⟩:∃f,D=f+1:=⟨D - 1,by grind⟩;unfold setSearchFrom;refine pP (ad0 T.ob T.da T.tab.fits ?_);dsimp only;rw[Om T.tab.good];simp only[aa7,acd];obtain⟨m,hnm,hme,hpass,hstop⟩:=FT T.tab.good (λi=>(c[i]?.map (·.1)).getD 0) (m_ prog w k) n e hne he hemp;have Oo:∀r,t.probe (λi=>(c[i]?.map (·.1)).getD 0) (m_ prog w k) (sq t.mask (m_ prog w k) n)=r->t.probe (λi=>(c[i]?.map (·.1)).getD 0) (m_ prog w k) (I.getD (t.probeStart (m_ prog w k)))=r:=λr h=>by rw[hst];exact h
  have Jk:∀{i:Nat}{x:List Int×Addr},c[i]?=some (ent prog w x)->((c[i]?.map (·.1)).getD 0)=m_ prog w x.1:=λ{i x} h=>by rw[h];rfl
  rcases hstop with⟨N,u⟩|⟨i,j,hh,u⟩
  ·
   have u:=Oo _ u
   erw [u]
   dsimp only;have abm:m=e:=by
    by_cases q:m<e
    .exact absurd (abl m q) N
    .grind
   subst abm;refine aaR (hout λhmem=>?_);obtain⟨x,hx,ex⟩:=aa5.mp hmem;obtain⟨i,j⟩:=adH hx;have B:i<t.place.size:=by
    have:=congrArg List.length T.ents;rw[aac,abh,T.tab.size]at this;have:=(aaV.mp j).1;grind
   obtain⟨x',l,H,_⟩:=T.get B;rw[j]at l;cases l;obtain⟨z,J,an'⟩:=T.tab.reach i _ _ (aa9 B) H;have YX:(ent prog w x).1=m_ prog w k:=by rw[<-ex]
   rw[YX]at J an';have hpl:t.place[i]?=some (sq t.mask (m_ prog w k) z).j:=by rw[J];exact aa9 B
   have abn:z<m:=by
    by_cases q1:z=m
    .rw[q1]at J
     rw[J]at N;exact absurd (agu B) N
    .by_cases q2:m<z
     .exact absurd (an' m q2) N
     .grind
   by_cases q:z<n
   .exact hno z i x q hpl j ex
   .obtain⟨C,L,g⟩:=hpass z (by grind) abn
    have:C=i:=by
     have r1:=below_at T.tab.good.BW L;have r2:=below_at T.tab.good.BW hpl;grind
    subst this;have g:(((c[C]?.map (·.1)).getD 0)==m_ prog w k)=false:=g;rw[Jk H,ex]at g;simp at g
  ·
   have u:=Oo _ u;have B:i<t.place.size:=(acr.mp j).1;obtain⟨x,hx,H,Vs⟩:=T.get B;have hkx:=T.keys x Vs
   erw [u]
   dsimp only;have rest:wpAny (model prog w) A (do
     let some (_,y):=c[i]?|unsupported "internal:set-entry"
     let equal<-holding [y] (eqBool y (.ref b))
     let(es',_,t')<-setState a
     if true&&equal then return .there none
     let some same:=t'.sameMemory t.moves t.mask|unsupported "set.changed-during-lookup:is-the-new-block-at-the-old-address"
     let still<-match(if same then t'.slot (sq t.mask (m_ prog w k) m).j else .empty)with
      |.live p=>match es'[p]? with
       |some (_,y')=>do pure (if<-isSame y' y then some p else none)
       |none=>pure none
      |_=>pure none
     match still with
     |none=>rule "set.search.anew";setSearchFrom a (.ref b) (m_ prog w k) true f none
     |some p=>if equal then return .there (some p)else setSearchFrom a (.ref b) (m_ prog w k) true f (some (sq t.mask (m_ prog w k) (m+1)))) Q E s:=by
    rw[H];dsimp only;refine pP (acp (wpAny_eqBool_tuple hu hkx hk ?_));refine pP (ad0 T.ob T.da T.tab.fits ?_);dsimp only;by_cases M:x.1=k
    .rw[aaD M]
     simp only[Bool.and_self,adX];exact aaR (hin (aa5.mpr ⟨x,Vs,M⟩))
    .rw[aat M]
     simp only[afr,aa7,acd];have hsm:t.sameMemory t.moves t.mask=some true:=by unfold sameMemory;simp
     rw[hsm];dsimp only;rw[m9 T.tab.good.BW j];simp only[adX];rw[H];dsimp only;refine pP (wpAny_isSame_ref_self (pP (aaR ?_)));simp only[adX];have aee:m<e:=by
      by_cases q:m=e
      .rw[q]at j
       exact absurd (aa6 (by rw[abf];exact j)) hemp
      .grind
     refine ih (e - (m+1)) (by grind) (m+1) f _ (by grind) rfl (by grind) rfl λO p x' hm' hi' l=>?_;by_cases q1:O<n
     .exact hno O p x' q1 hi' l
     by_cases q2:O=m
     .subst q2
      have:p=i:=by
       have r1:=below_at T.tab.good.BW hi';have r2:=below_at T.tab.good.BW j;grind
      subst this;rw[hx]at l;cases l;exact M
     .obtain⟨C,L,g⟩:=hpass O (by grind) (by grind)
      have:C=p:=by
       have r1:=below_at T.tab.good.BW L;have r2:=below_at T.tab.good.BW hi';grind
      subst this;have hlt2:C<t.place.size:=(acr.mp L).1;obtain⟨U,hx2,abo,_⟩:=T.get hlt2;rw[hx2]at l;cases l;intro ex;have g:(((c[C]?.map (·.1)).getD 0)==m_ prog w k)=false:=g;rw[Jk abo,ex]at g;simp at g
   by_cases Y:t.led=true
   .rw[Y]
    simp only[aep,aa7,acd];exact rest
   .rw[agC]at Y
    rw[Y];simp only[ahq,adX];refine pP (rA hk (λv hv=>?_) ?_)
    .obtain⟨y,hy,rfl⟩:=aa5.mp hv
     have hy2:y∈c.toList:=by
      rw[Array.toList_filter]at hy;exact(aez.mp hy).1
     rw[T.ents]at hy2;obtain⟨U,hx2,rfl⟩:=aa5.mp hy2;exact⟨U.1,U.2,rfl,T.keys U hx2⟩
    .simp only[aa7,acd]
     exact rest
end
theorem lC(n:Nat):∀(a k:Nat),(k=3\/2^k<=2*n)->∃m,sizeAbove.go n a (2^k)=2^m/\(m=3\/2^m<=2*n)
|0,k,h=>⟨k,rfl,h⟩
|a+1,k,h=>by
 unfold sizeAbove.go;by_cases q:2^k<=n
 .rw[aaU q,<-aek]
  exact lC n a (k+1) (.inr (by rw[aek];grind))
 .rw[aaz q]
  exact⟨k,rfl,h⟩
def zO{n:Nat}(h:n<8192):sizeAbove n<=8192:=by
 obtain⟨m,e,q⟩:=lC n 64 3 (.inl rfl);have a:sizeAbove n=2^m:=e;rw[a];rcases q with rfl|q
 .decide
 .have:m<14:=(Nat.pow_lt_pow_iff_right (by decide:1<2)).mp (adf q (by grind:2*n<2^14))
  exact aeB (by decide) (show m<=13 by grind)
section
variable{prog:Program}{w:World}{A:Around}{E:Value->Shared->Prop}{s:Shared}
def FW{v:Value}{k:Int}(h:(intKind prog w).is k v=true)(n:Nat):hashByValue n v=pure true:=by
 have h':Value.isInt k v=true:=h;obtain⟨t,rfl⟩:=afs h';cases n<;>rfl
def FZ{ks:List Int}{vs:List Value}(b:ItemsAre (intKind prog w) ks vs):∀v∈vs,∀n,hashByValue n v=pure true:=by
 induction b with
 |nil=>intro v a;cases a
 |cons c _ d=>
  intro v a n;rcases aa2.mp a with rfl|a
  .exact FW c n
  .exact d v a n
def jJ{k:List Int}{b:Addr}{Q:Bool->Shared->Prop}(f:IsT prog w s.heap k b)(h:Q true s):wpAny (model prog w) A (hashByValue 8 (.ref b)) Q E s:=by
 have l:=f.typeIs;obtain⟨o,g,n,m,_,p,q⟩:=f;unfold hashByValue;refine pP (afS l F.slot_tuple_hash.lookup ?_);show wpAny _ _ (seqItems? (.ref b)>>=_) Q E s;refine pP (adZ m p ?_);refine pP ?_;show wpAny _ _ (forIn g _ _) _ _ s;rw[<-afj];refine afF _ (λd r a=>r.1=none/\a=s/\∀v∈d,∀n,hashByValue n v=pure true) _ ?_ ?_ _ _ ⟨rfl,rfl,FZ q⟩
 .rintro v d r a ⟨c,rfl,e⟩
  rw[e v aa0];refine pP (aaR ?_);simp only[aep,aa7,acd];exact aaR ⟨rfl,rfl,λu j=>e u (aaX _ j)⟩
 .rintro⟨t,x⟩ a ⟨c,rfl,_⟩
  simp only at c;subst c;exact aaR h
def lK(prog:Program)(w:World)(h:Heap)(a:Addr)(xs:List (List Int×Addr)):Prop:=∃o b c t,Wr prog w h a o b c t xs
def Ws{t:SetTable}(G:Good t)(a:t.tooFull=false):t.place.size*5<t.mask*3:=by
 unfold tooFull fill at a;rw[G.Yw]at a;simp at a;exact a
def Wr.stored{a:Addr}{o:Obj}{d:Array (Int×Value)}{b:Nat}{t:SetTable}{xs:List (List Int×Addr)}(e:s.heap.get? a=some o)(ex:o.ExactSet)(c:o.data=.set d b t){es':Array (Int×Value)}{t':SetTable}:
  (s.heap.update a (Obj.putSet es' t')).get? a=some {o with data:=.set es' (b+1) t'}/\({o with data:=.set es' (b+1) t'}:Obj).ExactSet/\Heap.SameBut a s.heap (s.heap.update a (Obj.putSet es' t')):=by
 refine⟨?_,ex,adE s.heap a _⟩;have:=abN (Obj.putSet es' t') e (by rw[putSet_of es' t' c];rfl);rw[putSet_of es' t' c]at this;exact this
def Wt{a:Addr}{xs:List (List Int×Addr)}(T:lK prog w s.heap a xs)(hu:A.units<cLine){k:List Int}{b:Addr}(B:IsT prog w s.heap k b)(hn:xs.length+1<=2000)
  {Q:Bool->Shared->Prop}(hin:k∈xs.map (·.1)->Q false s)(J:k∉xs.map (·.1)->∀(h':Heap)(ys:List (List Int×Addr)),Heap.SameBut a s.heap h'->ys.Perm ((k,b)::xs)->lK prog w h' a ys->Q true {s with heap:=h'}):
  wpAny (model prog w) A (setAddHashed a (.ref b) (m_ prog w k)) Q E s:=by
 obtain⟨o,d,ep,t,T⟩:=T;unfold setAddHashed setAddHashedIn;refine acp (pP (ad0 T.ob T.da T.tab.fits ?_));dsimp only;have hbs:byScan (.ref b) d=false:=rfl;rw[hbs];simp only[aa7,acd];obtain⟨e,he,L,M⟩:=T.tab.good.empty (m_ prog w k);have hlow:=T.low;have few:=Ws T.tab.good T.full;have hsz:d.size=xs.length:=by
  have:=congrArg List.length T.ents;rw[aac,abh]at this;exact this
 have hsz2:=T.tab.size;unfold setSearch;refine pP (Ls T hu B he L M (λl=>?_) (λl=>?_) (e - 0) 0 100000 none (abe _) rfl (by unfold turns at he;grind) rfl (λm i x h=>by grind))
 .dsimp only
  exact aaR (hin l)
 .dsimp only
  refine pP (ad0 T.ob T.da T.tab.fits ?_);dsimp only;have hjm:(sq t.mask (m_ prog w k) e).j<=t.mask:=by
   obtain⟨k0,_,ek⟩:=T.tab.good.msk;exact YW t.mask (m_ prog w k) e
  obtain⟨u,P1,z1,m1⟩:=Wq (x:=Value.ref b) T.tab L hjm ⟨e,rfl,M⟩ (by grind);have YZ:∃ys:List (List Int×Addr),(insertAt d (t.put (sq t.mask (m_ prog w k) e).j).2 (m_ prog w k,Value.ref b)).toList=ys.map (ent prog w)/\ys.Perm ((k,b)::xs):=by
   refine⟨xs.take (t.put (sq t.mask (m_ prog w k) e).j).2++(k,b)::xs.drop (t.put (sq t.mask (m_ prog w k) e).j).2,?_,?_⟩
   .have b0:=(lN t.place (sq t.mask (m_ prog w k) e).j T.tab.good.BW).1
    rw[jB _ _ _ (by rw[T.tab.size];exact b0),T.ents,aaY,aaZ,aeC,aer]
   .refine List.perm_middle.trans ?_
    rw[adu]
  obtain⟨ys,v,y⟩:=YZ;generalize aef:insertAt d (t.put (sq t.mask (m_ prog w k) e).j).2 (m_ prog w k,Value.ref b)=c at u P1 v⊢;generalize U:(t.put (sq t.mask (m_ prog w k) e).j).1=t1 at u z1 m1⊢;have N:c.size=d.size+1:=by rw[u.size,z1,hsz2]
  have Y:(ys.map (·.1)).Nodup:=by
   rw[(y.map (·.1)).nodup_iff];exact adC.mpr ⟨l,T.nd⟩
  have tail:∀(t2:SetTable),TabOk t2 c->t2.mask=t1.mask->t2.plain=true->t2.led=t.led->wpAny (model prog w) A (do
    storeSet a c t2
    if(!false&&t2.tooFull)=true then do
      setRelay a (SetTable.grown (d.size+1))
      pure true
     else pure true) Q E s:=by
   intro t2 C em pl2 O;have fz:c.size<=sizeLine:=by rw[N,aa1];grind
   refine pP (wpAny_storeSet_of T.ob T.da ?_ fz);obtain⟨j,ex1,r⟩:=Wr.stored (s:=s) (xs:=xs) T.ob T.ex T.da (es':=c) (t':=t2);have I:∀x∈ys,IsT prog w (s.heap.update a (Obj.putSet c t2)) x.1 x.2:=λx p=>by
    have:=y.mem_iff.mp p;rcases aa2.mp this with rfl|p
    .exact B.keep T.ob T.da r
    .exact(T.keys x p).keep T.ob T.da r
   by_cases q:t2.tooFull=true
   .rw[q]
    simp only[ahq,Bool.and_self,adX];have hgr:SetTable.grown (d.size+1)=(d.size+1)*4:=by unfold grown;rw[aaz (by grind)]
    rw[hgr];obtain⟨t3,g,er,D,P3,⟨m,em3,hw3,es3⟩,PO,abq,pl3⟩:=Lr C (wanted:=(d.size+1)*4) (abG (show(d.size+1)*4<8192 by grind) (by decide)) (by grind);have hsa:=zO (n:=(d.size+1)*4) (by grind);unfold setRelay;refine pP (pP (ad0 (s:={s with heap:=s.heap.update a (Obj.putSet c t2)}) j rfl C.fits ?_));dsimp only;rw[aaz (by rw[aa1];grind)];have z:(g.filterMap (c[·]?)).size=c.size:=by
     have:=P3.length_eq;rwa[abh,abh]at this
    refine pP ?_;show wpAny _ _ (do
     let some (t,g):=t2.relaid (c.map (·.1)) ((d.size+1)*4)|unsupported "internal:set-table-without-room"
     let es':=g.filterMap (c[·]?)
     if es'.size != c.size then unsupported "internal:set-table-lost-an-element"
     pure (es',t)) _ _ _
    rw[er];dsimp only;rw[z];simp only[aeW,aa7,acd];refine aaR ?_;dsimp only;refine wpAny_storeSet_of (s:={s with heap:=s.heap.update a (Obj.putSet c t2)}) j rfl ?_ (by rw[z];exact fz);obtain⟨ob3,ex3,sb3⟩:=Wr.stored (s:={s with heap:=s.heap.update a (Obj.putSet c t2)}) (xs:=xs) j ex1 rfl (es':=g.filterMap (c[·]?)) (t':=t3);have Y0:∃zs:List (List Int×Addr),(g.filterMap (c[·]?)).toList=zs.map (ent prog w)/\zs.Perm ys:=by
     refine⟨g.toList.filterMap (ys[·]?),?_,?_⟩
     .rw[Array.toList_filterMap,List.map_filterMap]
      refine congrArg (λf=>List.filterMap f g.toList) (funext λi=>?_);rw[<-abf,v,abV]
     .have hly:c.size=ys.length:=by
       have:=congrArg List.length v;rwa[aac,abh]at this
      rw[hly]at PO;refine(PO.filterMap _).trans ?_;rw[tX]
    obtain⟨zs,ez,H⟩:=Y0;refine aaR (J l _ zs (r.trans sb3) (H.trans y) ⟨_,_,_,_,ob3,ex3,rfl,D,?_,?_,ez,λx p=>?_,?_,by rw[pl3];exact pl2,by rw[abq,O];exact T.led⟩)
    .unfold tooFull fill
     rw[D.good.Yw,em3,<-D.size,z,N];simp;grind
    .rw[em3];grind
    .exact(I x (H.mem_iff.mp p)).keep j rfl sb3
    .rw[(H.map (·.1)).nodup_iff]
     exact Y
   .rw[agC]at q
    rw[q];simp only[ahq,afr,aa7,acd];exact aaR (J l _ ys r y ⟨_,_,_,_,j,ex1,rfl,C,q,by rw[em,m1];exact hlow,v,I,Y,pl2,by rw[O];exact T.led⟩)
  have hpl:t1.plain=true:=by rw[<-U];exact T.plain
  rw[aaU hpl];refine pP (jJ B ?_);simp only[adX];exact tail t1 u rfl hpl (by rw[<-U];rfl)
end
end MR
namespace MR
open PySem PySem.SetTable PyProof.Rows
section
variable{prog:Program}{w:World}{A:Around}{E:Value->Shared->Prop}{s:Shared}
abbrev abr(w:World):Bool:= !(w.params.followText "set-order")
abbrev eG(w:World):Obj:={cls:=.type "set",dict:=none,data:=.set #[] 0 (.fresh 0 0 (abr w))}
def Oq{h:Heap}{a:Addr}(d:h.get? a=some (eG w)):lK prog w h a []:=by
 refine⟨_,#[],0,_,d,⟨rfl,rfl,rfl⟩,rfl,⟨⟨?_,rfl,⟨3,by decide,rfl⟩,?_,abe _⟩,rfl,?_⟩,rfl,(by show 7<=8191;decide),rfl,λx e=>(by cases e),ahr,rfl,rfl⟩
 .exact List.Pairwise.nil
 .intro j b
  have b:j∈([]:List Nat):=b;cases b
 .intro i j x c
  have c:(#[]:Array Nat)[i]?=some j:=c;simp at c
def lK.keep{h h':Heap}{a:Addr}{xs:List (List Int×Addr)}(T:lK prog w h a xs)(k:∀b o,(b=a\/b∈xs.map (·.2))->h.get? b=some o->h'.get? b=some o):lK prog w h' a xs:=by
 obtain⟨o,g,j,t,T⟩:=T;refine⟨o,g,j,t,k a o (.inl rfl) T.ob,T.ex,T.da,T.tab,T.full,T.low,T.ents,λx c=>?_,T.nd,T.plain,T.led⟩;obtain⟨l,d,n,e,hc,f,m⟩:=T.keys x c;exact⟨l,d,n,k _ _ (.inr (aa5.mpr ⟨x,c,rfl⟩)) e,hc,f,m⟩
def IsT.keep'{h h':Heap}{k:List Int}{b:Addr}(x:IsT prog w h k b)(a:∀o,h.get? b=some o->h'.get? b=some o):IsT prog w h' k b:=
 let⟨o',items,n,ho',hc,hd',hi⟩:=x
 ⟨o',items,n,a _ ho',hc,hd',hi⟩
def IsT.Wu{h:Heap}{k:List Int}{b a:Addr}{xs:List (List Int×Addr)}(x:IsT prog w h k b)(T:lK prog w h a xs):b≠a:=by
 rintro rfl;obtain⟨f,e,n,c,hc,d,g⟩:=x;obtain⟨o,j,l,t,T⟩:=T;rw[T.ob]at c;cases c;rw[T.da]at d;cases d
structure Tj(ks:List (List Int×Addr))(i:Nat)(xs:List (List Int×Addr)):Prop where
 sub:∀x∈xs,x∈ks
 keys:∀k,k∈xs.map (·.1)↔k∈(ks.take i).map (·.1)
 len:xs.length<=i
variable{R:Result->Shared->Prop}{I:Addr}{fp wr:List Addr}{G:Array GenState->Array GenState->Prop}{n:Nat}{P:Nat->Value->Prop}{St:Nat->Shared->Prop}
def Ot(W:WalksS prog w A.in1 I fp wr G n P St)(S:Addr)(N:S∉fp)(ks:List (List Int×Addr))(hlen:ks.length=n)(hval:∀i v,P i v->∃x,ks[i]?=some x/\v=.ref x.2)(f:n<2000)(hu:A.units+1<cLine)
  (hkw:∀x∈ks,x.2∉wr):
  ∀(k i:Nat)(s:Shared)(xs:List (List Int×Addr)),n - i=k->i<=n->St i s->lK prog w s.heap S xs->Tj ks i xs->(∀x∈ks,IsT prog w s.heap x.1 x.2)->
   (∀a O,Moved (S::wr) G s a->lK prog w a.heap S O->Tj ks n O->R (.ok (.ret .none)) a)->
   codeAny (model prog w) A (.builtin "set.update.loop" ⟨[.ref S,.ref I],[]⟩) R s:=by
 have hSw:S∉wr:=λh=>N (W.sub _ h);have q:∀b∈wr,b∈S::wr:=λb f=>aaX _ f;have J:∀{s a:Shared}{xs:List (List Int×Addr)},Moved wr G s a->(∀x∈xs,x∈ks)->lK prog w s.heap S xs->lK prog w a.heap S xs:=λ{s a xs} g p T=>T.keep λb o f e=>g.heap b o (by
  rcases f with rfl|f
  .exact hSw
  .obtain⟨x,hx',rfl⟩:=aa5.mp f
   exact hkw x (p x hx')) e
 intro k
 induction k with
 |zero=>
  intro i s xs hk hi r D c Y hR;have t:i=n:=by omega
  subst t;refine adS F.entry_set_update_loop ?_;rw[adA aeG _];show wpAny _ A.in1 (pyNext (.ref I)>>=_) _ _ s;refine pP (W.done s _ _ r λa g=>?_);show wpAny _ A.in1 (ret Value.none) _ _ a;exact aaR (hR a xs (g.mono q) (J g c.sub D) c)
 |succ k ih=>
  intro i s xs hk hi r D c Y hR;have Q:i<n:=by omega
  refine adS F.entry_set_update_loop ?_;rw[adA aeG _];show wpAny _ A.in1 (pyNext (.ref I)>>=_) _ _ s;refine pP (W.item i s _ _ Q r λv a hP M g=>?_);obtain⟨x,p,rfl⟩:=hval i v hP;have u:x∈ks:=aa6 p;have z:=J g c.sub D;have m:∀y∈ks,IsT prog w a.heap y.1 y.2:=λy d=>(Y y d).keep' λo e=>g.heap _ o (hkw y d) e;show wpAny _ A.in1 (holding [Value.ref x.2] (setAdd S (.ref x.2))>>=_) _ _ a;refine pP (acp ?_);unfold setAdd;refine acp ?_;have U:A.in1.units<cLine:=by rw[Around.in1_units];exact hu
  refine pP (wpAny_pyHash_tuple U (m x u) ?_);have L:∀l,l∈(ks.take (i+1)).map (·.1)↔l=x.1\/l∈(ks.take i).map (·.1):=λl=>by
   rw[af_,p,aaY,aa4];simp;exact or_comm
  have go:∀(j:Shared)(ys:List (List Int×Addr)),Moved (S::wr) G s j->St (i+1) j->lK prog w j.heap S ys->Tj ks (i+1) ys->(∀y∈ks,IsT prog w j.heap y.1 y.2)->
    codeAny (model prog w) A (.builtin "set.update.loop" ⟨[.ref S,.ref I],[]⟩) R j:=λj ys hm2 hst2 B hU2 hT2=>
   ih (i+1) j ys (by omega) Q hst2 B hU2 hT2 λs3 zs hm3 hS3 hU3=>hR s3 zs (hm2.trans W.gtrans hm3) hS3 hU3
  refine Wt (s:={a with toks:=a.toks+(x.1.length+1)}) z U (m x u) (by have:=c.len;omega) (λt=>?_) (λhout h' ys C H B=>?_)
  .refine aaR ⟨aes aeG _,go _ xs ((g.mono q).then_heap (adb _ _) λb o _ e=>e) (W.frame _ a _ _ M (adb _ _) λb _ o e=>e) z ⟨c.sub,λl=>?_,by have:=c.len;omega⟩ m⟩
   rw[L,c.keys];constructor
   .exact .inr
   .rintro(rfl|h)
    .exact(c.keys _).mp t
    .exact h
  .have neS:∀y∈ks,y.2≠S:=λy d=>(m y d).Wu z
   refine aaR ⟨aes aeG _,go _ ys ((g.mono q).then_heap (adb _ _) λb o f e=>?_) (W.frame _ a _ _ M (adb _ _) λb f o e=>?_) B ⟨λy d=>?_,λl=>?_,?_⟩ λy d=>?_⟩
   .rw[C.2 b (λh:b=S=>f (by rw[h];exact aa0))];exact e
   .rw[C.2 b (λh:b=S=>N (by rw[<-h];exact f))];exact e
   .rcases aa2.mp (H.mem_iff.mp d)with rfl|d
    .exact u
    .exact c.sub y d
   .rw[L,(H.map (·.1)).mem_iff,aaZ,aa2,c.keys]
   .have:=H.length_eq
    rw[aae]at this;have:=c.len;omega
   .exact(m y d).keep' λo e=>by rw[C.2 _ (neS y d)];exact e
def code_set_new(a:Value){Q₁:Value->Shared->Prop}
  (h:Q₁ (.ref s.heap.objs.size) {s with heap:=s.heap.push (eG w)}):
  codeAny (model prog w) A (.call (.builtin "set.__new__") ⟨[.type "set",a],[]⟩) (wants Q₁ E) s:=by
 refine codeAny_of_tree ?_;show wpAny _ A.in1 (do checkBuiltinCall "set.__new__" ⟨[.type "set",a],[]⟩;again (.builtin "set.__new__" ⟨[.type "set",a],[]⟩)) _ _ s
 refine pP (wpAny_of_eq (F.newCall_set_1 a) (aaR ⟨aes F.plain_set_new _,adS F.entry_set_new ?_⟩));rw[adA F.plain_set_new _];unfold Builtin.«set.__new__» Builtin.Frozenset.newClass;have b:=sub_set_self;obtain⟨c,g,d,tk,os⟩:=s;dsimp only
 wp_walk
 refine ae3 (aaR ?_);dsimp only;simp only[newObj];refine pP (wpAny_alloc (aaR ?_));exact aaR h
set_option maxHeartbeats 3200000 in
def tY{l:Addr}{a:Array Value}{ks:List (List Int×Addr)}{Q:Value->Shared->Prop}
  (hh:A.handled=none)(hu:A.units+5<cLine)(hl:s.heap.IsList l a)(H:a.toList=ks.map λx=>Value.ref x.2)(J:∀x∈ks,IsT prog w s.heap x.1 x.2)(g:a.size<2000)
  (h:∀(h':Heap)(tk:Nat)(xs:List (List Int×Addr)),lK prog w h' s.heap.objs.size xs->(∀x∈xs,x∈ks)->(∀k,k∈xs.map (·.1)↔k∈ks.map (·.1))->
   (∀b o,b<s.heap.objs.size->s.heap.get? b=some o->h'.get? b=some o)->Q (.ref s.heap.objs.size) {s with heap:=h',toks:=tk}):
  wpAny (model prog w) A (call (.type "set") [.ref l]) Q E s:=by
 obtain⟨c,tl,hmro⟩:=aeK.mro;have hmade:=aeK.made;have hsub:=aeK.sub;have Y:ks.length=a.size:=by
  have:=congrArg List.length H;rw[aac,abh]at this;exact this.symm
 refine wpAny_call (codeAny_of_tree ?_);show wpAny _ _ (callAny (.type "set") _) _ _ _;refine aaR ⟨Code.quiet_builtin _ (by decide+kernel),adS F.entry_type_call ?_⟩;rw[Around.under_plain (weight_type_call_type "set" [.ref l] []) rfl];have h1:=aeK.notType;have h2:=aeK.canCreate;have hct:=F.typeCall_set_1 (.ref l)
 repeat (any_goals (first|assumption|wp_step))
 refine aft (code_set_new (.ref l) (E:=E) (Q₁:=λobj t=>obj=.ref s.heap.objs.size/\t={s with heap:=s.heap.push (eG w)}) ⟨rfl,rfl⟩) λr t q=>?_;cases r with
 |error e=>exact q
 |ok fl=>
  cases fl with
  |ret obj=>
   obtain⟨rfl,rfl⟩:=q;have L:(s.heap.push (eG w)).get? s.heap.objs.size=some (eG w):=abb _ rfl;have hTy:Shared.TypeIs {s with heap:=s.heap.push (eG w)} (.ref s.heap.objs.size) "set":=⟨_,L,rfl⟩;have hli:=aeK.init.lookup;have hbi:=aeK.init.bind (.ref s.heap.objs.size)
   repeat (any_goals (first|assumption|wp_step))
   refine aft (codeAny_call_builtin (R:=wants (λr u=>r=.none/\∃h' tk,u={s with heap:=h',toks:=tk}/\
     ∃xs,lK prog w h' s.heap.objs.size xs/\Tj ks a.size xs/\
     (∀b o,b<s.heap.objs.size->s.heap.get? b=some o->h'.get? b=some o)) E) aeK.init.plain F.entry_set_init (check_set_init_1 hTy ?_)) λr₂ u m=>?_
   .obtain⟨ol,y,z,M,B⟩:=hl
    obtain⟨ocls,T,odata,O⟩:=ol;simp only at z B;subst z;subst B;have hol':(s.heap.push (eG w)).get? l=some {cls:=.type "list",dict:=T,data:=.seq a M,slots:=O}:=aaQ _ y;have hsls:=F.sub_list_set;have hslf:=F.sub_list_frozenset;have hne:(Value.type "list"==Value.type "dict")=false:=by decide
    have C:(s.heap.push (eG w)).IsList l a:=⟨_,hol',rfl,M,rfl⟩;unfold Builtin.«set.__init__» noKeywords Builtin.Frozenset.updateFrom;generalize hPI:pyIter=PI
    wp_walk
    subst hPI;refine agn C ?_;refine pP (ahs ?_);have D:l<s.heap.objs.size:=aa_ y;have hh3:A.in1.in1.in1.handled=none:=by simp[hh]
    have hneI:l≠(s.heap.push (eG w)).objs.size:=by
     rw[ab6];exact abt (aci D)
    have hSf:s.heap.objs.size∉[(s.heap.push (eG w)).objs.size,l]:=by
     rw[ab6];simp only[aa2,abO,adU,afM,ahO];exact⟨abt (adD _),adI D⟩
    have hval:∀(i:Nat)(v:Value),a[i]?=some v->∃x,ks[i]?=some x/\v=.ref x.2:=λi v N=>by
     rw[<-abf,H,abV,abP]at N;obtain⟨x,d,e⟩:=N;exact⟨x,d,e.symm⟩
    have hltk:∀x∈ks,x.2<s.heap.objs.size:=λx d=>by
     obtain⟨o',_,_,ho',_⟩:=J x d;exact aa_ ho'
    refine Ot ((Walks.list hh3 _ l hneI a).toS) s.heap.objs.size
     hSf ks Y hval g (by simp only[Around.in1_units];omega) ?hkw (a.size - 0) 0 _ [] (by omega) (abe _)
     ⟨⟨_,abb _ rfl,rfl,rfl⟩,(C.push _)⟩ ?hS0 ⟨λx d=>(by cases d),λk=>(by simp),(by simp)⟩ ?hT0 ?hR
    case hkw=>
     intro x d;have:=hltk x d;rw[ab6];simp only[aa2,abO,adU,afM];exact abt (aci this)
    case hS0=>
     exact Oq (aaQ _ L)
    case hT0=>
     intro x d;exact(J x d).keep' λo e=>aaQ _ (aaQ _ e)
    case hR=>
     intro s' xs' j p f;obtain⟨h',g',d',tk',os'⟩:=s';have eg:g'=s.gens:=j.gens;have ed:d'=s.drawn:=j.drawn;have eo:os'=s.os:=j.os;subst eg;subst ed;subst eo;show wpAny _ _ _ _ _ _;refine aaR ?_;show wpAny _ _ (ret Value.none) _ _ _;refine aaR ⟨rfl,h',tk',rfl,xs',p,f,λb o g e=>?_⟩;have hb1:b≠s.heap.objs.size:=abt g;have hb2:b≠(s.heap.push (eG w)).objs.size:=by
      rw[ab6];exact abt (aci g)
     exact j.heap b o (by simp only[aa2,abO,adU,afM,ahO];exact⟨hb1,hb2⟩) (aaQ _ (aaQ _ e))
   .cases r₂ with
    |error e=>exact m
    |ok U=>
     cases U with
     |ret r=>
      obtain⟨rfl,h',tk,rfl,xs,p,f,hk'⟩:=m
      repeat (any_goals (first|assumption|wp_step))
      exact h _ _ xs p f.sub (λk=>by rw[f.keys,ac3 (by omega)]) hk'
     |_=>exact m
  |_=>exact q
end
def cC:Slot "set_iterator" "__next__" "set_iterator.__next__":=.of (owner:="set_iterator") (n:="__next__") (by rw[typeLookup_type,builtinLookup_eq_fast];kernel_rfl) (by decide+kernel) (by decide+kernel) (by decide+kernel)
  (by first|exact .inl (by decide+kernel)|exact .inr (by decide+kernel)) (by rw[aht];kernel_rfl)
def jk:Slot "set_iterator" "__iter__" "set_iterator.__iter__":=.of (owner:="set_iterator") (n:="__iter__") (by rw[typeLookup_type,builtinLookup_eq_fast];kernel_rfl) (by decide+kernel) (by decide+kernel) (by decide+kernel)
  (by first|exact .inl (by decide+kernel)|exact .inr (by decide+kernel)) (by rw[aht];kernel_rfl)
def iT:entryFor table "set_iterator.__next__"=some Builtin.«set_iterator.__next__»:=entryFor_of_fast (by kernel_rfl)
def uV:entryFor table "set.__iter__"=some Builtin.«frozenset.__iter__»:=entryFor_alias (id':="frozenset.__iter__") (by kernel_rfl) rfl (by decide+kernel) (by kernel_rfl)
def oM:entryFor table "set_iterator.__iter__"=some Builtin.«dict_keyiterator.__iter__»:=entryFor_alias (id':="dict_keyiterator.__iter__") (by kernel_rfl) rfl (by decide+kernel) (by kernel_rfl)
def jl(a:Value):argsOk "set_iterator.__next__" ⟨[a],[]⟩:=by unfold argsOk;kernel_rfl
def pU(a:Value):argsOk "set_iterator.__iter__" ⟨[a],[]⟩:=by unfold argsOk;kernel_rfl
theorem uW{b:Type}:∀(l:List b)(i:Nat)(x:b),l[i]?=some x->(x::l.eraseIdx i).Perm l
|[],i,x,h=>by simp at h
|a::l,0,x,h=>by
 cases h;exact agb _
|a::l,i+1,x,h=>by
 have:=uW l i x h;exact(List.Perm.swap a x _).trans (this.cons a)
theorem Jl{d:Type}(next:Nat->Nat):∀(b k:Nat)(left:List d)(c:Array d),left.length<=b->(pickOrder.go next b k left c).toList.Perm (c.toList++left)
|0,k,left,c,h=>by
 have:left=[]:=aco.mp (by grind);subst this;rw[acQ];exact agb _
|b+1,k,left,c,h=>by
 unfold pickOrder.go;cases e:left[next k%left.length]? with
 |none=>
  have:left=[]:=by
   cases left with
   |nil=>rfl
   |cons a l=>
    rw[agl]at e;have:=afi (next k) (show 0<(a::l).length by simp);grind
  subst this;rw[acQ]
 |some x=>
  dsimp only;have f:=(aaV.mp e).1;refine(Jl next b (k+1) _ _ (by rw[List.length_eraseIdx,aaU f];grind)).trans ?_;rw[Array.toList_push,ady];refine List.Perm.append_left _ ?_;exact uW _ _ _ e
def Lw{a:Type}(next:Nat->Nat)(xs:Array a):(pickOrder next xs).toList.Perm xs.toList:=by
 have:=Jl next xs.size 0 xs.toList #[] (by simp)
 rw[show(#[]:Array a).toList++xs.toList=xs.toList from rfl]at this;exact this
section
variable{prog:Program}{w:World}{A:Around}{E:Value->Shared->Prop}{s:Shared}
structure TSO(w:World)(h:Heap)(a:Addr)(o:Obj)(es:Array (Int×Value))(ep:Nat)(t:SetTable):Prop where
 ob:h.get? a=some o
 ex:o.ExactSet
 da:o.data=.set es ep t
 tab:TabOk t es
 low:t.mask<=8191
 plain:t.plain=true
 led:t.led= !(w.params.followText "set-order")
def wk(w:World)(a:Addr)(c:Nat)(b:Array (Int×Value)):Array (Int×Value):=if w.params.followText "set-order"=true then pickOrder (w.params.setOrder a c) b else b
def Jm(w:World)(a:Addr)(c:Nat)(b:Array (Int×Value)):(wk w a c b).toList.Perm b.toList:=by
 unfold wk;split
 .exact Lw _ _
 .exact agb _
def zP(w:World)(a:Addr)(c:Nat)(b:Array (Int×Value)):(wk w a c b).size=b.size:=by
 have:=(Jm w a c b).length_eq;rwa[abh,abh]at this
structure sX(w:World)(h:Heap)(I S:Addr)(es:Array (Int×Value))(ep:Nat)(t:SetTable)(i:Nat):Prop where
 ob:∃slot:Nat,h.get? I=some {cls:=.type "set_iterator",data:=.fields #[.int slot 0,.int i 0,.ref S,.int es.size 0,.int ep 0]}/\(w.params.followText "set-order"=false->below t.place slot=i)
def Ou{S:Addr}{o:Obj}{a:Array (Int×Value)}{b:Nat}{t:SetTable}(T:TSO w s.heap S o a b t){Q:Value->Shared->Prop}
  (h:sX w (s.heap.push {cls:=.type "set_iterator",data:=.fields #[.int 0 0,.int 0 0,.ref S,.int a.size 0,.int b 0]}) s.heap.objs.size S a b t 0->
   Q (.ref s.heap.objs.size) {s with heap:=s.heap.push {cls:=.type "set_iterator",data:=.fields #[.int 0 0,.int 0 0,.ref S,.int a.size 0,.int b 0]}}):
  wpAny (model prog w) A (pyIter (.ref S)) Q E s:=by
 have c:s.TypeIs (.ref S) "set":=⟨o,T.ob,T.ex.1⟩;refine ago c F.slot_set_iter (ade F.slot_set_iter c uV ?_ (F.args_set_iter_1 _));unfold Builtin.«frozenset.__iter__»;show wpAny _ _ (Builtin.Frozenset.sizeOf S>>=_) _ _ s;unfold Builtin.Frozenset.sizeOf;refine pP (pP (af4 T.ob T.da T.tab.fits (aaR ?_)));refine pP ?_;unfold setDrawn;refine pP (ad0 T.ob T.da T.tab.fits ?_);dsimp only;unfold setsByText;refine pP (pP (ae3 (aaR ?_)));refine aaR ?_;have d:(!w.params.followText "set-order"&&(!t.plain&&decide (a.size>1)))=false:=by rw[T.plain];simp
 show wpAny _ _ (if(!w.params.followText "set-order"&&(!t.plain&&decide (a.size>1)))=true then _ else _) _ _ s;rw[d];simp only[aa7,acd];refine pP (aaR ?_);refine pP (wpAny_setEpoch_of T.ob T.da T.tab.fits ?_);refine pP (adO (aaR ⟨_,rfl,"set_iterator",_,⟨_,abb _ rfl,rfl⟩,cC.lookup,h ⟨0,abb _ rfl,λ_=>?_⟩⟩));have:=lN t.place 0 T.tab.good.BW;by_cases q:below t.place 0=0
 .exact q
 .have e:0<t.place.size:=by grind
  have:=this.2.1 0 _ (by grind) (aa9 e);grind
def uX{S:Addr}{o:Obj}{b:Array (Int×Value)}{c i slot:Nat}{t:SetTable}(T:TSO w s.heap S o b c t)(z:w.params.followText "set-order"=false->below t.place slot=i)(I:i<=b.size){Q:Option (Value×Nat)->Shared->Prop}
  (r:i<b.size->∀(x:Int×Value)(n:Nat),(wk w S c b)[i]?=some x->(w.params.followText "set-order"=false->below t.place n=i+1)->Q (some (x.2,n)) s)(u:i=b.size->Q none s):
  wpAny (model prog w) A (setNext S slot i c) Q E s:=by
 unfold setNext;refine pP (ad0 T.ob T.da T.tab.fits ?_);dsimp only;unfold setsByText;refine pP (pP (ae3 (aaR ?_)));by_cases d:w.params.followText "set-order"=true
 .show wpAny _ _ (if w.params.followText "set-order"=true then _ else _) _ _ s
  rw[aaU d];simp only[aeW,aa7,acd];unfold setWalk;refine pP (pP (ad0 T.ob T.da T.tab.fits ?_));dsimp only;unfold setsByText;refine pP (pP (ae3 (aaR ?_)));show wpAny _ _ (if w.params.followText "set-order"=true then _ else _) _ _ s;rw[aaU d];refine pP (ae3 (aaR (aaR ?_)));have g:wk w S c b=pickOrder (w.params.setOrder S c) b:=by unfold wk;rw[aaU d]
  show Q (Option.map (λe=>(e.2,slot)) (pickOrder (w.params.setOrder S c) b)[i]?) s;rw[<-g];by_cases f:i<b.size
  .have l:i<(wk w S c b).size:=by rw[zP];exact f
   rw[aa9 l];exact r f _ slot (aa9 l) (λq=>by rw[d]at q;cases q)
  .rw[ael (by rw[zP];grind)]
   exact u (by grind)
 .show wpAny _ _ (if w.params.followText "set-order"=true then _ else _) _ _ s
  rw[aaz d];have p:w.params.followText "set-order"=false:=by simpa using d
  have g:wk w S c b=b:=by unfold wk;rw[aaz d]
  show wpAny _ _ (if(!t.plain&&decide (b.size>1))=true then _ else _) _ _ s;rw[T.plain];simp only[aep,ae1,aa7,acd];have y:t.led=true:=by rw[T.led,p];rfl
  refine pP ?_;show wpAny _ _ (if(!t.led&& !b.isEmpty)=true then unsupported "set:maker-not-led" else pure ()) _ _ s;rw[y];simp only[aep,ae1,aa7,acd];refine aaR (aaR ?_);rw[z p];by_cases f:i<b.size
  .have j:i<t.place.size:=by rw[<-T.tab.size];exact f
   rw[aa9 f,aa9 j];dsimp only;refine r f b[i] (t.place[i]+1) (by rw[g];exact aa9 f) λ_=>?_;obtain⟨J,B,C⟩:=lN t.place (t.place[i]+1) T.tab.good.BW;have v:∀k a,t.place[k]?=some a↔t.place.toList[k]?=some a:=λk a=>by rw[abf]
   by_cases D:below t.place (t.place[i]+1)<=i
   .have:=C i _ D (aa9 j)
    grind
   .by_cases H:i+1<below t.place (t.place[i]+1)
    .have m:i+1<t.place.size:=by grind
     have L:=B (i+1) _ H (aa9 m);have M:=zL T.tab.good.BW (show i<i+1 by grind) ((v _ _).mp (aa9 j)) ((v _ _).mp (aa9 m));grind
    .grind
  .rw[ael (by grind)]
   exact u (by grind)
def next_item{I S:Addr}{o:Obj}{a:Array (Int×Value)}{b i:Nat}{t:SetTable}(T:TSO w s.heap S o a b t)(j:sX w s.heap I S a b t i)(p:i<a.size){Q:Option Value->Shared->Prop}
  (k:∀(h':Heap)(x:Int×Value),(wk w S b a)[i]?=some x->sX w h' I S a b t (i+1)->Heap.SameBut I s.heap h'->Q (some x.2) {s with heap:=h'}):
  wpAny (model prog w) A (pyNext (.ref I)) Q E s:=by
 obtain⟨slot,c,l⟩:=j.ob;have f:s.TypeIs (.ref I) "set_iterator":=⟨_,c,rfl⟩;unfold pyNext;refine pP (afa (adh (name:=Str.ofString "__next__") f cC
  (ade cC f iT ?_ (jl _))))
 unfold Builtin.«set_iterator.__next__»;show wpAny _ _ (fieldsOf (.ref I)>>=_) _ _ s;refine pP ?_;show wpAny _ _ (load I>>=_) _ _ s;refine pP (agS c (aaR ?_));dsimp only;refine pP (af4 T.ob T.da T.tab.fits ?_);simp only[aeW,aa7,acd];simp only[adP];refine pP (uX T l (by omega) (λ_ x d m n=>?_) (λq=>by omega));dsimp only;refine pP (afu c rfl (by simp) ?_);have e:=abN (Obj.mapFields (·.set! 0 (rawInt d))) c (by rfl);refine pP (afu (s:={s with heap:=_}) e rfl (by simp) ?_);have g:=abN (Obj.mapFields (·.set! 1 (rawInt ((i:Int)+1)))) e (by rfl);refine aaR ⟨_,rfl,aaR (k _ x m ⟨d,?_,n⟩ ((adE ..).trans (adE ..)))⟩;exact g
def Lx{I S:Addr}{o:Obj}{c:Array (Int×Value)}{e:Nat}{t:SetTable}(g:A.handled=none)(T:TSO w s.heap S o c e t)(j:sX w s.heap I S c e t c.size){Q:Option Value->Shared->Prop}
  (k:∀h':Heap,Heap.ExtBut I s.heap h'->Q none {s with heap:=h'}):
  wpAny (model prog w) A (pyNext (.ref I)) Q E s:=by
 obtain⟨slot,d,l⟩:=j.ob;have f:s.TypeIs (.ref I) "set_iterator":=⟨_,d,rfl⟩;unfold pyNext;refine pP (afa (adh (name:=Str.ofString "__next__") f cC
  (ade cC f iT ?_ (jl _))))
 unfold Builtin.«set_iterator.__next__»;show wpAny _ _ (fieldsOf (.ref I)>>=_) _ _ s;refine pP ?_;show wpAny _ _ (load I>>=_) _ _ s;refine pP (agS d (aaR ?_));dsimp only;refine pP (af4 T.ob T.da T.tab.fits ?_);simp only[aeW,aa7,acd];simp only[adP];refine pP (uX T l (aaS _) (λq=>by omega) (λ_=>?_));dsimp only;refine pP (afu d rfl (by simp) ?_);show wpAny _ _ (newExc (.type "StopIteration") []>>=_) _ _ _;refine pP ?_;simp only[newExc,newTuple];refine pP (adO ?_ (by size_fits));refine pP (m:=firstArgMember _ _) (wpAny_of_eq (a:=Value.none) (by first|rfl|(simp only[firstArgMember];rfl)) ?_);refine adO ?_ (by size_fits);simp only[raiseNew];refine pP (wpAny_handled ?_);rw[show A.in1.handled=none from g];refine pP (aaR (wpAny_throw ?_));refine pP (ae4 (T:="StopIteration") (b:=true) ⟨_,abb _ rfl,rfl⟩ ahu ?_);exact aaR (k _ (((adE ..).extBut.push _).push _))
def TSO.at{h h':Heap}{S:Addr}{o:Obj}{a:Array (Int×Value)}{b:Nat}{t:SetTable}(T:TSO w h S o a b t)(k:∀o,h.get? S=some o->h'.get? S=some o):TSO w h' S o a b t:=⟨k _ T.ob,T.ex,T.da,T.tab,T.low,T.plain,T.led⟩
def sX.at{h h':Heap}{I S:Addr}{a:Array (Int×Value)}{c i:Nat}{t:SetTable}(T:sX w h I S a c t i)(k:∀o,h.get? I=some o->h'.get? I=some o):sX w h' I S a c t i:=⟨let⟨slot,e,b⟩:=T.ob;⟨slot,k _ e,b⟩⟩
def Ly(p:A.handled=none)(I S:Addr)(m:S≠I)(o:Obj)(d:Array (Int×Value))(f:Nat)(t:SetTable):
  Walks prog w A I [I,S] [I] d.size (λi v=>∃x,(wk w S f d)[i]?=some x/\v=x.2) (λi h=>sX w h I S d f t i/\TSO w h S o d f t) where
 sub:=λb a=>by simp at a;simp[a]
 frame:=λ_ _ _ st k=>⟨st.1.at λo e=>k I (by simp) o e,st.2.at λo e=>k S (by simp) o e⟩
 item:=λi s Q E q st c=>next_item st.2 st.1 q λh' x r l j=>
  c _ h' s.toks ⟨x,r,rfl⟩ ⟨l,st.2.at λo e=>j.extBut S o m e⟩ λb o a e=>j.extBut b o (λh=>a (by simp[h])) e
 done:=λs Q E st c=>Lx p st.2 st.1 λh' n=>c h' s.toks λb o a e=>n b o (λh=>a (by simp[h])) e
 self:=λi s Q E st c=>by
  obtain⟨slot,u,_⟩:=st.1.ob;have g:s.TypeIs (.ref I) "set_iterator":=⟨_,u,rfl⟩;refine ago g jk (ade jk g oM ?_ (pU _));show wpAny _ _ (ret (.ref I)) _ _ s;exact aaR ⟨_,rfl,"set_iterator",_,g,cC.lookup,c⟩
end
section
variable{prog:Program}{w:World}{A:Around}{E:Value->Shared->Prop}{s:Shared}
def Ov{S:Addr}{a:Array (Int×Value)}{b:Nat}{acc:Array Value}(h:ItemsOf (λi v=>∃x,(wk w S b a)[i]?=some x/\v=x.2) acc a.size)(hz:(wk w S b a).size=a.size):acc.toList=(wk w S b a).toList.map (·.2):=by
 apply afv;intro i;rw[abV,abf,abf];cases e:acc[i]? with
 |none=>
  have:acc.size<=i:=agc.mp e;rw[ael (by rw[hz,<-h.1];exact this)];rfl
 |some v=>
  obtain⟨x,c,ev⟩:=h.2 i v e;rw[c,ev];rfl
set_option maxHeartbeats 4000000 in
def Ca{S:Addr}{o:Obj}{a:Array (Int×Value)}{d:Nat}{t:SetTable}(hh:A.handled=none)(T:TSO w s.heap S o a d t){Q:List Value->Shared->Prop}
  (hQ:∀(h':Heap)(tk:Nat),(∀b o,s.heap.get? b=some o->h'.get? b=some o)->s.heap.objs.size<=h'.objs.size->Q ((wk w S d a).toList.map (·.2)) {s with heap:=h',toks:=tk}):wpAny (model prog w) A (collect (.ref S)) Q E s:=by
 have H:S<s.heap.objs.size:=aa_ T.ob;have M:a.size<=sizeLine:=by
  have:=T.tab.good.few;have:=T.tab.size;have:=T.low;rw[aa1];omega
 unfold collect;refine pP (ahs (adS F.entry_proto_collect ?_));rw[adA F.plain_proto_collect _];show wpAny _ A.in1 (newList []>>=λl=>again (.builtin "list.__iadd__" ⟨[l,.ref S],[]⟩)) _ _ s;refine pP (adO ?_);refine aaR ⟨aes afw _,adS F.entry_list_iadd ?_⟩;rw[adA afw _];show wpAny _ A.in1 (Builtin.List.listExtendWith (.ref s.heap.objs.size) (.ref S) (.ref s.heap.objs.size)) _ _ _;have g:TSO w (s.heap.push {cls:=.type "list",data:=.seq ([]:List Value).toArray}) S o a d t:=T.at λo e=>aaQ _ e;have hT1:Shared.TypeIs {s with heap:=s.heap.push {cls:=.type "list",data:=.seq ([]:List Value).toArray}} (.ref S) "set":=⟨o,g.ob,g.ex.1⟩;have n:s.heap.objs.size≠S:=adI H;have h1:Builtin.List.listSameRef (.ref s.heap.objs.size) (.ref S)=false:=by simp[Builtin.List.listSameRef,n]
 have h2:(Value.type "set"==Value.type "list")=false:=by decide
 have h3:(Value.type "set"==Value.type "tuple")=false:=by decide
 unfold Builtin.List.listExtendWith;refine pP (afq hT1 ?_);simp only[h1,h2,h3,afb,aa7,acd];refine pP (Ou g λhit=>?_);refine pP (acp ?_);unfold Builtin.List.listLengthHint;have k:∀b c,(s.heap.push {cls:=.type "list",data:=.seq ([]:List Value).toArray}).get? b=some c->((s.heap.push {cls:=.type "list",data:=.seq ([]:List Value).toArray}).push {cls:=.type "set_iterator",data:=.fields #[.int 0 0,.int 0 0,.ref S,.int a.size 0,.int d 0]}).get? b=some c:=λb c e=>aaQ _ e;have v:=g.at (h':=(s.heap.push {cls:=.type "list",data:=.seq ([]:List Value).toArray}).push {cls:=.type "set_iterator",data:=.fields #[.int 0 0,.int 0 0,.ref S,.int a.size 0,.int d 0]}) λo e=>k S o e;have p:Shared.TypeIs {s with heap:=(s.heap.push {cls:=.type "list",data:=.seq ([]:List Value).toArray}).push {cls:=.type "set_iterator",data:=.fields #[.int 0 0,.int 0 0,.ref S,.int a.size 0,.int d 0]}} (.ref S) "set":=⟨o,v.ob,v.ex.1⟩;refine pP (afS p F.slot_set_len.lookup ?_);generalize z:("set.__len__":String)=id0
 wp_delta
 rw[show splitId id0=some ("set","__len__")from by subst z;decide+kernel];subst z;refine pP (ae4 (b:=true) p sub_set_self ?_);simp only[aep,aa7,acd];rw[aaU ?hc]
 case hc=>decide+kernel
 refine pP (afq p ?_);dsimp only;refine aaR ?_;rw[aaU ?hc2]
 case hc2=>decide+kernel
 refine pP (afG ?_);generalize x:(s.heap.push {cls:=.type "list",data:=.seq ([]:List Value).toArray}:Heap)=f at*;have m:f.objs.size=s.heap.objs.size+1:=by rw[<-x,ab6]
 have hl0:f.get? s.heap.objs.size=some {cls:=.type "list",data:=.seq ([]:List Value).toArray}:=by rw[<-x];exact abb _ rfl
 have N:∀b c,s.heap.get? b=some c->f.get? b=some c:=λb c e=>by rw[<-x];exact aaQ _ e
 generalize hI:(f.push {cls:=.type "set_iterator",data:=.fields #[.int 0 0,.int 0 0,.ref S,.int a.size 0,.int d 0]}:Heap)=hp2 at*;have B:hp2.get? s.heap.objs.size=some {cls:=.type "list",data:=.seq ([]:List Value).toArray}:=k _ _ hl0;refine pP ?_;show wpAny _ A.in1 (updateSeq s.heap.objs.size (·.push .none)>>=λ_=>updateSeq s.heap.objs.size (·.pop)) _ _ _;refine pP (afd B rfl ?_);have C:=abN (Obj.mapSeq (·.push Value.none)) B rfl;refine afd C rfl ?_;have hS3:=abN (Obj.mapSeq (·.pop)) C rfl;have r:∀b o,b≠s.heap.objs.size->hp2.get? b=some o->((hp2.update s.heap.objs.size (Obj.mapSeq (·.push Value.none))).update s.heap.objs.size (Obj.mapSeq (·.pop))).get? b=some o:=
  λb o I e=>(ac5 _ _ (ac6 I)).trans ((ac5 _ _ (ac6 I)).trans e)
 have L:S≠f.objs.size:=by rw[m];exact abt (aci H)
 have y:f.objs.size≠s.heap.objs.size:=by rw[m];exact agE _
 have W:=(Ly (prog:=prog) (w:=w) (A:=A.in1) (by simp[hh]) f.objs.size S L o a d t).toS;have hSf:s.heap.objs.size∉[f.objs.size,S]:=by
  simp only[aa2,abO,adU,afM,ahO];exact⟨λq=>y q.symm,n⟩
 refine aaR ⟨aes F.plain_extend_loop _,codeAny_extend_loopS W M _ hSf _ a.size 0 _ _ _ rfl (abe _)
  ⟨hit.at λo e=>r _ o y e,v.at λo e=>r _ o (λq=>n q.symm) e⟩ hS3 (ItemsOf.nil _) λJ O c' j D U=>?_⟩
 show wpAny _ A (load s.heap.objs.size>>=_) _ _ J;refine pP (agS D ?_);refine aaR ?_;have Y:O.toList=(wk w S d a).toList.map (·.2):=Ov U (zP w S d a);obtain⟨h',g',d',tk',os'⟩:=J;have eg:g'=s.gens:=j.gens;have ed:d'=s.drawn:=j.drawn;have eo:os'=s.os:=j.os;subst eg;subst ed;subst eo;rw[Y];refine hQ h' tk' (λb c e=>?_) (ad8 (aa_ D));have u:b<s.heap.objs.size:=aa_ e;refine j.heap b c ?_ (r b c (abt u) (k b c (N b c e)));simp only[aa2,abO,adU,afM,ahO];exact⟨abt u,by rw[m];exact abt (aci u)⟩
end
end MR
namespace MR
open Vaneta
def nm(a:List UInt8):List Int:=a.map λb=>(b.toNat:Int)
def oO{a b:UInt8}(h:(a.toNat:Int)=(b.toNat:Int)):a=b:=ag5.mp (by grind)
theorem cN:∀{a b:List UInt8},nm a=nm b->a=b
|[],[],_=>rfl
|[],_::_,h=>by cases h
|_::_,[],h=>by cases h
|x::a,y::b,h=>by
 have h':=adR (show(x.toNat:Int)::nm a=(y.toNat:Int)::nm b from h);rw[oO h'.1,cN h'.2]
def bK(a:List UInt8):(nm a).length=a.length:=aac _
abbrev Nd:=Int×List Int
def root:Formula->Nd
|.atom t a=>(if t=true then 7 else 6,nm a)
|.tensor _ _=>(0,[])
|.par _ _=>(1,[])
|.wth _ _=>(2,[])
|.plus _ _=>(3,[])
|.ofc _=>(4,[])
|.whn _=>(5,[])
def parts:Formula->List Formula
|.atom _ _=>[]
|.tensor A B=>[A,B]
|.par A B=>[A,B]
|.wth A B=>[A,B]
|.plus A B=>[A,B]
|.ofc A=>[A]
|.whn A=>[A]
def flat:Formula->List Nd
|.atom t a=>[(if t=true then 7 else 6,nm a)]
|.tensor A B=>(0,[])::(flat A++flat B)
|.par A B=>(1,[])::(flat A++flat B)
|.wth A B=>(2,[])::(flat A++flat B)
|.plus A B=>(3,[])::(flat A++flat B)
|.ofc A=>(4,[])::flat A
|.whn A=>(5,[])::flat A
def flats(l:List Formula):List Nd:=l.flatMap flat
def gG(l m:List Formula):flats (l++m)=flats l++flats m:=aeF
def bA(A:Formula)(l:List Formula):flats (A::l)=flat A++flats l:=aeX
def bL(A:Formula):flat A=root A::flats (parts A):=by
 cases A<;>simp[flat,root,parts,flats]
def aC(A:Formula):(flat A).length=nodes A:=by
 induction A<;>simp[flat,nodes, *]<;>grind
def ni(A:Formula):0<nodes A:=by cases A<;>simp[nodes]<;>grind
def pc(k:Int):Nat:=if k=6\/k=7 then 0 else if k=4\/k=5 then 1 else 2
def pW(A:Formula):pc (root A).1=(parts A).length:=by
 cases A with
 |atom t a=>cases t<;>rfl
 |_=>rfl
def nj(A:Formula):0<=(root A).1/\(root A).1<=7:=by
 cases A with
 |atom t a=>cases t<;>simp[root]
 |_=>simp[root]
def cA(A:Formula):∀x∈flat A,0<=x.1/\x.1<=7:=by
 induction A with
 |atom t a=>
  intro x b;rw[bL]at b;rcases aa2.mp b with rfl|b
  .exact nj _
  .cases b
 |tensor A B c d=>intro x b;rcases aa2.mp b with rfl|b;exact⟨by decide,by decide⟩;rcases aa4.mp b with h|h;exact c x h;exact d x h
 |par A B c d=>intro x b;rcases aa2.mp b with rfl|b;exact⟨by decide,by decide⟩;rcases aa4.mp b with h|h;exact c x h;exact d x h
 |wth A B c d=>intro x b;rcases aa2.mp b with rfl|b;exact⟨by decide,by decide⟩;rcases aa4.mp b with h|h;exact c x h;exact d x h
 |plus A B c d=>intro x b;rcases aa2.mp b with rfl|b;exact⟨by decide,by decide⟩;rcases aa4.mp b with h|h;exact c x h;exact d x h
 |ofc A c=>intro x b;rcases aa2.mp b with rfl|b;exact⟨by decide,by decide⟩;exact c x b
 |whn A c=>intro x b;rcases aa2.mp b with rfl|b;exact⟨by decide,by decide⟩;exact c x b
def dk(k:Int):Int:=([1,0,3,2,5,4,7,6]:List Int).getD k.toNat 0
def iM(A:Formula):(flat A).map (λx=>(dk x.1,x.2))=flat (dual A):=by
 induction A with
 |atom t a=>cases t<;>rfl
 |tensor A B b c=>simp[flat,dual,b,c];rfl
 |par A B b c=>simp[flat,dual,b,c];rfl
 |wth A B b c=>simp[flat,dual,b,c];rfl
 |plus A B b c=>simp[flat,dual,b,c];rfl
 |ofc A b=>simp[flat,dual,b];rfl
 |whn A b=>simp[flat,dual,b];rfl
def kc(l:List Nd)(k:Int):Nat:=(l.filter λx=>decide (x.1=k)).length
def fB(x:Nd)(l:List Nd)(k:Int):kc (x::l) k=(if x.1=k then 1 else 0)+kc l k:=by
 unfold kc;rw[adJ];by_cases h:x.1=k
 .rw[aaU h,aaU (aaD h),aae];grind
 .rw[aaz h,aaz (by simp[h])];grind
def cM(l m:List Nd)(k:Int):kc (l++m) k=kc l k+kc m k:=by
 unfold kc;rw[adn,aad]
def Wv(k:Int):kc [] k=0:=rfl
def pX(A:Formula):kc (flat A) 6+kc (flat A) 7=atoms A:=by
 induction A with
 |atom t a=>cases t<;>rfl
 |tensor A B b c=>simp only[flat,fB,cM,atoms];simp;grind
 |par A B b c=>simp only[flat,fB,cM,atoms];simp;grind
 |wth A B b c=>simp only[flat,fB,cM,atoms];simp;grind
 |plus A B b c=>simp only[flat,fB,cM,atoms];simp;grind
 |ofc A b=>simp only[flat,fB,cM,atoms];simp;grind
 |whn A b=>simp only[flat,fB,cM,atoms];simp;grind
def Ow(A:Formula):kc (flat A) 0=signs 42 A/\kc (flat A) 1=signs 124 A/\kc (flat A) 2=signs 38 A/\kc (flat A) 3=signs 43 A/\kc (flat A) 4=signs 33 A/\kc (flat A) 5=signs 63 A:=by
 induction A with
 |atom t a=>cases t<;>exact⟨rfl,rfl,rfl,rfl,rfl,rfl⟩
 |tensor A B b k=>obtain⟨c,d,e,f,g,j⟩:=b;obtain⟨l,m,n,o,p,q⟩:=k;simp only[flat,fB,cM,signs,c,d,e,f,g,j,l,m,n,o,p,q];simp<;>grind
 |par A B b k=>obtain⟨c,d,e,f,g,j⟩:=b;obtain⟨l,m,n,o,p,q⟩:=k;simp only[flat,fB,cM,signs,c,d,e,f,g,j,l,m,n,o,p,q];simp<;>grind
 |wth A B b k=>obtain⟨c,d,e,f,g,j⟩:=b;obtain⟨l,m,n,o,p,q⟩:=k;simp only[flat,fB,cM,signs,c,d,e,f,g,j,l,m,n,o,p,q];simp<;>grind
 |plus A B b k=>obtain⟨c,d,e,f,g,j⟩:=b;obtain⟨l,m,n,o,p,q⟩:=k;simp only[flat,fB,cM,signs,c,d,e,f,g,j,l,m,n,o,p,q];simp<;>grind
 |ofc A b=>obtain⟨c,d,e,f,g,j⟩:=b;simp only[flat,fB,cM,signs,c,d,e,f,g,j];simp
 |whn A b=>obtain⟨c,d,e,f,g,j⟩:=b;simp only[flat,fB,cM,signs,c,d,e,f,g,j];simp
section
variable{α:Type}(f0:Nd->α)(f1:Nd->α->α)(f2:Nd->α->α->α)
def stk:List Nd->Option (List α)
|[]=>some []
|x::l=>(stk l).bind λst=>match pc x.1,st with
 |0,st=>some (f0 x::st)
 |1,a::st=>some (f1 x a::st)
 |2,a::b::st=>some (f2 x a b::st)
 |_,_=>none
def ev:Formula->α
|.atom t a=>f0 (root (.atom t a))
|.tensor A B=>f2 (root (.tensor A B)) (ev A) (ev B)
|.par A B=>f2 (root (.par A B)) (ev A) (ev B)
|.wth A B=>f2 (root (.wth A B)) (ev A) (ev B)
|.plus A B=>f2 (root (.plus A B)) (ev A) (ev B)
|.ofc A=>f1 (root (.ofc A)) (ev A)
|.whn A=>f1 (root (.whn A)) (ev A)
def Ox(A:Formula):∀l st,stk f0 f1 f2 l=some st->stk f0 f1 f2 (flat A++l)=some (ev f0 f1 f2 A::st):=by
 induction A with
 |atom t a=>
  intro l st h;show(stk f0 f1 f2 l).bind _=_;rw[h];cases t<;>rfl
 |tensor A B b c=>
  intro l st h;show(stk f0 f1 f2 ((flat A++flat B)++l)).bind _=_;rw[ady,b _ _ (c _ _ h)];rfl
 |par A B b c=>
  intro l st h;show(stk f0 f1 f2 ((flat A++flat B)++l)).bind _=_;rw[ady,b _ _ (c _ _ h)];rfl
 |wth A B b c=>
  intro l st h;show(stk f0 f1 f2 ((flat A++flat B)++l)).bind _=_;rw[ady,b _ _ (c _ _ h)];rfl
 |plus A B b c=>
  intro l st h;show(stk f0 f1 f2 ((flat A++flat B)++l)).bind _=_;rw[ady,b _ _ (c _ _ h)];rfl
 |ofc A b=>
  intro l st h;show(stk f0 f1 f2 (flat A++l)).bind _=_;rw[b _ _ h];rfl
 |whn A b=>
  intro l st h;show(stk f0 f1 f2 (flat A++l)).bind _=_;rw[b _ _ h];rfl
def zQ(A:Formula):stk f0 f1 f2 (flat A)=some [ev f0 f1 f2 A]:=by
 have:=Ox f0 f1 f2 A [] [] rfl;rwa[acQ]at this
theorem uY:∀(l m:List Nd)(st:List α),stk f0 f1 f2 (l++m)=some st->∃a,stk f0 f1 f2 m=some a
|[],m,st,h=>⟨st,h⟩
|x::l,m,st,h=>by
 cases e:stk f0 f1 f2 (l++m)with
 |none=>
  have h':(stk f0 f1 f2 (l++m)).bind _=some st:=h;rw[e]at h';cases h'
 |some s=>exact uY l m s e
def lO{x:Nd}{l:List Nd}{st:List α}(h:stk f0 f1 f2 (x::l)=some st):
  ∃s,stk f0 f1 f2 l=some s/\((pc x.1=0/\st=f0 x::s)\/(pc x.1=1/\∃a r,s=a::r/\st=f1 x a::r)\/(pc x.1=2/\∃a b r,s=a::b::r/\st=f2 x a b::r)):=by
 have h':(stk f0 f1 f2 l).bind (λst=>match pc x.1,st with
  |0,st=>some (f0 x::st)
  |1,a::st=>some (f1 x a::st)
  |2,a::b::st=>some (f2 x a b::st)
  |_,_=>none)=some st:=h
 cases e:stk f0 f1 f2 l with
 |none=>rw[e]at h';cases h'
 |some s=>
  rw[e]at h';refine⟨s,rfl,?_⟩;dsimp only[Option.bind]at h';split at h'
  .rename_i c;exact .inl ⟨c,(abk h').symm⟩
  .rename_i c;exact .inr (.inl ⟨c,_,_,rfl,(abk h').symm⟩)
  .rename_i c;exact .inr (.inr ⟨c,_,_,_,rfl,(abk h').symm⟩)
  .cases h'
end
def d0(_:Nd):Int:=1
def d1(_:Nd)(a:Int):Int:=max 0 a+1
def d2(_:Nd)(a b:Int):Int:=max (max 0 a) b+1
def Tn(A:Formula):ev d0 d1 d2 A=(deep A:Int):=by
 induction A<;>simp_all [ev,d0,d1,d2,deep]<;>omega
abbrev KT:=Int×List Int
def encl(x:KT):List Int:=if pc x.1=2 then 40::(x.2++[41])else x.2
def lQ(o:Int)(x:KT):List Int:=if x.1=o then x.2 else encl x
def kb(k:Int):Int:=([42,124,38,43,33,63]:List Int).getD k.toNat 0
def w0(x:Nd):KT:=(x.1,if x.1=6 then x.2 else 126::x.2)
def w1(x:Nd)(a:KT):KT:=(x.1,kb x.1::encl a)
def w2(x:Nd)(a b:KT):KT:=(x.1,encl a++kb x.1::lQ x.1 b)
def Jo(A:Formula):pc (root A).1=2↔signOf A≠0:=by
 cases A with
 |atom t a=>cases t<;>simp[root,pc,signOf]
 |_=>simp[root,pc,signOf]
def nq(A:Formula):encl ((root A).1,nm (form A))=nm (paren (signOf A != 0) (form A)):=by
 unfold encl paren;by_cases h:signOf A=0
 .rw[aaz (λq=>(Jo A).mp q h),aaz (by simp[h])]
 .rw[aaU ((Jo A).mpr h),aaU (by simp[h])]
  simp[nm]
def Tp(A:Formula):ev w0 w1 w2 A=((root A).1,nm (form A)):=by
 have two:∀(k:Int)(c:UInt8)(A B:Formula),kb k=(c.toNat:Int)->(∀X:Formula,(root X).1=k↔signOf X=c)->c≠0->
   encl ((root A).1,nm (form A))++kb k::lQ k ((root B).1,nm (form B))=nm (chain c (signOf A) (signOf B) (form A) (form B)):=λk c A B e i n=>by
  unfold chain lQ;have j:(if((root B).1,nm (form B)).1=k then((root B).1,nm (form B)).2 else encl ((root B).1,nm (form B)))=nm (paren (signOf B != 0&&signOf B != c) (form B)):=by
   by_cases h:(root B).1=k
   .have g:=(i B).mp h
    rw[aaU h,g];simp[paren]
   .have g:signOf B≠c:=λq=>h ((i B).mpr q)
    rw[aaz h,nq]
    congr 2
    simp[g]
  rw[j,nq,e];simp[nm]
 have f:∀X:Formula,((root X).1=0↔signOf X=42)/\((root X).1=1↔signOf X=124)/\((root X).1=2↔signOf X=38)/\((root X).1=3↔signOf X=43):=λX=>by
  cases X with
  |atom t a=>cases t<;>simp[root,signOf]
  |_=>simp[root,signOf]
 induction A with
 |atom t a=>cases t<;>simp[ev,w0,root,form,nm]
 |tensor A B b d=>simp only[ev,b,d];exact congrArg (Prod.mk (0:Int)) (two 0 42 A B rfl (λX=>(f X).1) (by decide))
 |par A B b d=>simp only[ev,b,d];exact congrArg (Prod.mk (1:Int)) (two 1 124 A B rfl (λX=>(f X).2.1) (by decide))
 |wth A B b d=>simp only[ev,b,d];exact congrArg (Prod.mk (2:Int)) (two 2 38 A B rfl (λX=>(f X).2.2.1) (by decide))
 |plus A B b d=>simp only[ev,b,d];exact congrArg (Prod.mk (3:Int)) (two 3 43 A B rfl (λX=>(f X).2.2.2) (by decide))
 |ofc A b=>simp only[ev,b,w1];rw[nq];rfl
 |whn A b=>simp only[ev,b,w1];rw[nq];rfl
def iH:List Int->Formula->Option Formula
|[],A=>some A
|i::p,A=>if 0<=i/\i<(parts A).length then(parts A)[i.toNat]?.bind (iH p)else none
def pY(i:Nat)(p:List Nat)(A:Formula):partAt (i::p) A=(parts A)[i]?.bind (partAt p):=by
 cases A<;>match i with
  |0=>rfl
  |1=>rfl
  |i+2=>rfl
def zR(i:Int)(p:List Int):placeIn (i::p)=if 0<=i then(placeIn p).map (λq=>i.toNat::q)else none:=by
 unfold placeIn;by_cases h:0<=i
 .rw[aaU h,ado,aaD h,afc]
  split<;>rfl
 .rw[aaz h,ado,aat h,ae1,aaz (by decide)]
theorem Cd:∀(p:List Int)(A:Formula),((placeIn p).bind λp=>partAt p A)=iH p A
|[],A=>rfl
|i::p,A=>by
 rw[zR];unfold iH;by_cases h:0<=i
 .rw[aaU h]
  by_cases a:i<(parts A).length
  .rw[aaU ⟨h,a⟩]
   obtain⟨B,b⟩:∃B,(parts A)[i.toNat]?=some B:=⟨_,aa3 (by omega)⟩;have c:=Cd p B;rw[b];show _=iH p B;rw[<-c];cases e:placeIn p with
   |none=>rfl
   |some q=>
    show partAt (i.toNat::q) A=partAt q B;rw[pY,b];rfl
  .rw[aaz (λq=>a q.2)]
   have d:(parts A)[i.toNat]?=none:=aeO (by omega);cases e:placeIn p with
   |none=>rfl
   |some q=>
    show partAt (i.toNat::q) A=none;rw[pY,d];rfl
 .rw[aaz h,aaz (λq=>h q.1)];rfl
def xG(a b:List Int)(x:Nd):Nd:=(x.1,if x.2=a then b else x.2)
def Ce{a b:Name}(g:a≠[])(A:Formula):(flat A).map (xG (nm a) (nm b))=flat (fill a (.atom false b) A):=by
 have f:∀k:Int,xG (nm a) (nm b) (k,[])=(k,[]):=λk=>by
  unfold xG;rw[aaz];intro q;apply g;apply cN;exact q.symm
 induction A with
 |atom t c=>
  unfold fill fillBy;by_cases h:c=a
  .subst h
   cases t<;>simp[flat,xG,dual]
  .have h':nm c≠nm a:=λq=>h (cN q)
   cases t<;>simp[flat,xG,h,h']
 |tensor A B d e=>simp only[flat,aaZ,aaY,d,e,f];rfl
 |par A B d e=>simp only[flat,aaZ,aaY,d,e,f];rfl
 |wth A B d e=>simp only[flat,aaZ,aaY,d,e,f];rfl
 |plus A B d e=>simp only[flat,aaZ,aaY,d,e,f];rfl
 |ofc A d=>simp only[flat,aaZ,d,f];rfl
 |whn A d=>simp only[flat,aaZ,d,f];rfl
def nc(l:List Nd)(n:List Int):Nat:=(l.filter λx=>decide (x.2=n)).length
def jm(x:Nd)(l:List Nd)(n:List Int):nc (x::l) n=(if x.2=n then 1 else 0)+nc l n:=by
 unfold nc;rw[adJ];by_cases h:x.2=n
 .rw[aaU h,aaU (aaD h),aae];grind
 .rw[aaz h,aaz (by simp[h])];grind
def jK(l m:List Nd)(n:List Int):nc (l++m) n=nc l n+nc m n:=by
 unfold nc;rw[adn,aad]
def fX(a:Name)(A B:Formula)(C:Formula)(h:leaves C=leaves A++leaves B):howOften a C=howOften a A+howOften a B:=by
 unfold howOften;rw[h,adn,aad]
def Jp{a:Name}(f:a≠[])(A:Formula):nc (flat A) (nm a)=howOften a A:=by
 have e:¬([]:List Int)=nm a:=λq=>f (cN q.symm)
 induction A with
 |atom t c=>
  rw[show flat (.atom t c)=[(if t=true then 7 else 6,nm c)]from rfl,jm];unfold howOften leaves;by_cases h:c=a
  .subst h;simp[nc]
  .have h':nm c≠nm a:=λq=>h (cN q)
   simp[nc,h,h']
 |tensor A B b d=>rw[fX a A B _ rfl,<-b,<-d];simp only[flat,jm,jK,aaz e];grind
 |par A B b d=>rw[fX a A B _ rfl,<-b,<-d];simp only[flat,jm,jK,aaz e];grind
 |wth A B b d=>rw[fX a A B _ rfl,<-b,<-d];simp only[flat,jm,jK,aaz e];grind
 |plus A B b d=>rw[fX a A B _ rfl,<-b,<-d];simp only[flat,jm,jK,aaz e];grind
 |ofc A b=>rw[show howOften a (.ofc A)=howOften a A from rfl,<-b];simp only[flat,jm,aaz e];grind
 |whn A b=>rw[show howOften a (.whn A)=howOften a A from rfl,<-b];simp only[flat,jm,aaz e];grind
theorem g_:∀a:Text,before a a=false
|[]=>rfl
|a::r=>by
 simp[before,g_ r,UInt8.lt_irrefl]
theorem pZ:∀{a b c:Text},before a b=true->before b c=true->before a c=true
|[],[],_,h,_=>by cases h
|[],_::_,[],_,h=>by cases h
|[],_::_,_::_,_,_=>rfl
|_::_,[],_,h,_=>by cases h
|_::_,_::_,[],_,h=>by cases h
|x::a,y::b,z::c,e,d=>by
 simp only[before,afU,ab1,aa8,afk]at e d⊢;rcases e with e|⟨rfl,e⟩
 .rcases d with d|⟨rfl,d⟩
  .exact .inl (UInt8.lt_trans e d)
  .exact .inl e
 .rcases d with d|⟨rfl,d⟩
  .exact .inl d
  .exact .inr ⟨rfl,pZ e d⟩
theorem qd:∀{a b:Text},before a b=false->a≠b->before b a=true
|[],[],_,h=>absurd rfl h
|[],_::_,h,_=>by cases h
|_::_,[],_,_=>rfl
|x::a,y::b,c,d=>by
 simp only[before,Bool.or_eq_false_iff,decide_eq_false_iff_not,Bool.and_eq_false_iff,ad2]at c;simp only[before,afU,ab1,aa8,afk];by_cases e:x=y
 .subst e
  refine .inr ⟨rfl,qd ?_ (λq=>d (by rw[q]))⟩;rcases c.2 with q|q
  .exact absurd rfl q
  .exact q
 .refine .inl ?_
  have:=c.1;rw[ahj]at this⊢;have:x.toNat≠y.toNat:=λq=>e (ag5.mp q);grind
abbrev Y4(a b:Text):Prop:=before a b=true
theorem lR{a x:Name}:∀{l:List Name},x∈putName a l↔x=a\/x∈l
|[]=>by simp[putName]
|b::r=>by
 unfold putName;split
 .rename_i h;subst h;simp
 .split
  .simp
  .rw[aa2,lR (l:=r),aa2]
   constructor
   .rintro(h|h|h)
    .exact .inr (.inl h)
    .exact .inl h
    .exact .inr (.inr h)
   .rintro(h|h|h)
    .exact .inr (.inl h)
    .exact .inl h
    .exact .inr (.inr h)
theorem uZ{a:Name}:∀{l:List Name},l.Pairwise Y4->(putName a l).Pairwise Y4
|[],_=>by simp[putName]
|b::r,h=>by
 obtain⟨e,g⟩:=ad3.mp h;unfold putName;split
 .exact h
 .rename_i f
  split
  .rename_i d
   refine ad3.mpr ⟨λx c=>?_,h⟩;rcases aa2.mp c with rfl|c
   .exact d
   .exact pZ d (e x c)
  .rename_i d
   refine ad3.mpr ⟨λx c=>?_,uZ g⟩;rcases lR.mp c with rfl|c
   .exact qd (agC _▸d) f
   .exact e x c
theorem j_:∀(l:List (Bool×Name))(acc:List Name),acc.Pairwise Y4->
  (l.foldl (λr x=>putName x.2 r) acc).Pairwise Y4/\∀x,x∈l.foldl (λr x=>putName x.2 r) acc↔x∈acc\/x∈l.map (·.2)
|[],acc,h=>⟨h,λx=>by simp⟩
|y::l,acc,h=>by
 obtain⟨a,b⟩:=j_ l (putName y.2 acc) (uZ h);refine⟨a,λx=>?_⟩;rw[ag3,b,lR,aaZ,aa2];constructor
 .rintro((h|h)|h)
  .exact .inr (.inl h)
  .exact .inl h
  .exact .inr (.inr h)
 .rintro(h|h|h)
  .exact .inl (.inr h)
  .exact .inl (.inl h)
  .exact .inr h
def kh(l:List (Bool×Name)):(namesOf l).Pairwise Y4:=(j_ l [] .nil).1
def eH(l:List (Bool×Name))(x:Name):x∈namesOf l↔x∈l.map (·.2):=by
 unfold namesOf;rw[(j_ l [] .nil).2];simp
theorem oA{d:Type}{r:d->d->Prop}(Oz:∀a,¬r a a)(f:∀a b,r a b->¬r b a):∀{l m:List d},l.Pairwise r->m.Pairwise r->(∀x,x∈l↔x∈m)->l=m
|[],[],_,_,_=>rfl
|[],b::m,_,_,h=>absurd ((h b).mpr aa0) (by simp)
|a::l,[],_,_,h=>absurd ((h a).mp aa0) (by simp)
|a::l,b::m,j,k,h=>by
 obtain⟨l1,l2⟩:=ad3.mp j;obtain⟨g,n⟩:=ad3.mp k;have e:a=b:=by
  rcases aa2.mp ((h a).mp aa0)with e|o
  .exact e
  rcases aa2.mp ((h b).mpr aa0)with e|p
  .exact e.symm
  exact absurd (g a o) (f _ _ (l1 b p))
 subst e;refine congrArg (List.cons a) (oA Oz f l2 n λx=>?_);constructor
 .intro c
  rcases aa2.mp ((h x).mp (aaX _ c))with e|q
  .subst e;exact absurd (l1 x c) (Oz x)
  .exact q
 .intro c
  rcases aa2.mp ((h x).mpr (aaX _ c))with e|q
  .subst e;exact absurd (g x c) (Oz x)
  .exact q
def rB:List Int->List Int->Bool
|[],[]=>false
|[],_::_=>true
|_::_,[]=>false
|a::r,b::s=>decide (a<b)||(decide (a=b)&&rB r s)
theorem OD:∀a b:Text,rB (nm a) (nm b)=before a b
|[],[]=>rfl
|[],_::_=>rfl
|_::_,[]=>rfl
|x::a,y::b=>by
 show(decide ((x.toNat:Int)<(y.toNat:Int))||(decide ((x.toNat:Int)=(y.toNat:Int))&&rB (nm a) (nm b)))=_;rw[OD a b];show _=(decide (x<y)||(x==y&&before a b));have c:decide ((x.toNat:Int)<(y.toNat:Int))=decide (x<y):=adK.mpr (by rw[ahj];omega);have d:decide ((x.toNat:Int)=(y.toNat:Int))=(x==y):=by
  by_cases h:x=y
  .subst h;simp
  .have:¬(x.toNat:Int)=(y.toNat:Int):=λq=>h (oO q)
   simp[this,h]
 rw[c,d]
def fC{l:List (Bool×Name)}{R:List (List Int)}(j:R.Pairwise λa b=>rB a b=true)(k:∀x,x∈R↔x∈l.map λy=>nm y.2):R=(namesOf l).map nm:=by
 have m:((namesOf l).map nm).Pairwise λa b=>rB a b=true:=by
  rw[aeV];exact(kh l).imp λ{a b} h=>by rw[OD];exact h
 have f:∀a:List Int,¬rB a a=true:=λa=>by
  induction a with
  |nil=>simp[rB]
  |cons x a c=>simp[rB,c]
 have g:∀a b:List Int,rB a b=true->¬rB b a=true:=λa=>by
  induction a with
  |nil=>intro b h;cases b<;>simp_all [rB]
  |cons x a c=>
   intro b h;cases b with
   |nil=>simp_all [rB]
   |cons y b=>
    simp only[rB,afU,ab1,aa8]at h⊢;rintro(q|⟨p,o⟩)
    .rcases h with h|⟨h,_⟩<;>grind
    .rcases h with h|⟨h,h'⟩
     .grind
     .exact c b h' o
 refine oA f g j m λx=>?_;rw[k];simp only[aa5,eH];constructor
 .rintro⟨y,d,e⟩
  exact⟨y.2,⟨y,d,rfl⟩,e⟩
 .rintro⟨n,⟨y,d,rfl⟩,e⟩
  exact⟨y,d,e⟩
def gn(A:Formula):(flat A).filter (λx=>decide (pc x.1=0))=(leaves A).map λy=>(if y.1=true then(7:Int)else 6,nm y.2):=by
 induction A with
 |atom t a=>cases t<;>rfl
 |tensor A B b c=>simp only[flat,leaves,adJ,adn,aaY,b,c];rfl
 |par A B b c=>simp only[flat,leaves,adJ,adn,aaY,b,c];rfl
 |wth A B b c=>simp only[flat,leaves,adJ,adn,aaY,b,c];rfl
 |plus A B b c=>simp only[flat,leaves,adJ,adn,aaY,b,c];rfl
 |ofc A b=>simp only[flat,leaves,adJ,b];rfl
 |whn A b=>simp only[flat,leaves,adJ,b];rfl
inductive P3 where|neg|ofc|whn
inductive T4 where|tensor|par|wth|plus
deriving DecidableEq
def P3.mk:P3->Formula->Formula
|.neg,A=>dual A
|.ofc,A=>.ofc A
|.whn,A=>.whn A
def T4.mk:T4->Formula->Formula->Formula
|.tensor,A,B=>.tensor A B
|.par,A,B=>.par A B
|.wth,A,B=>.wth A B
|.plus,A,B=>.plus A B
def T4.byte:T4->UInt8
|.tensor=>42
|.par=>124
|.wth=>38
|.plus=>43
inductive Fr where
|pre (p:P3)
|paren
|arrow (A:Formula)
|chain (c:T4) (A:Formula)
abbrev dJ:=List Fr
def p3?(c:UInt8):Option P3:=if c=126 then some .neg else if c=33 then some .ofc else if c=63 then some .whn else none
def OJ(c:UInt8):Option T4:=if c=42 then some .tensor else if c=124 then some .par else if c=38 then some .wth else if c=43 then some .plus else none
def bT:dJ->Formula->dJ×Formula
|.pre p::K,A=>bT K (p.mk A)
|K,A=>(K,A)
def bJ:dJ->Formula->dJ×Formula
|.chain c X::K,A=>bJ K (c.mk X A)
|K,A=>(K,A)
def gq:dJ->Formula->dJ×Formula
|.arrow X::K,A=>gq K (.par (dual X) A)
|K,A=>(K,A)
def bh(K:dJ)(A:Formula):dJ×Formula:=gq (bJ K A).1 (bJ K A).2
abbrev Cg:=dJ×Option Formula
def opened(f:Fr)(K:dJ):Option Cg:=if K.length+1<=100 then some (f::K,none)else none
def yp(x:dJ×Formula):Cg:=(x.1,some x.2)
def begins(K:dJ):Token->Option Cg
|.name a=>some (yp (bT K (.atom false a)))
|.sign c=>if c=40 then opened .paren K else match p3? c with
 |some p=>opened (.pre p) K
 |none=>none
|.arrow=>none
def u_:dJ->Option T4
|.chain c _::_=>some c
|_=>none
def closes(x:dJ×Formula):Option Cg:=match x.1 with
|.paren::K=>some (yp (bT K x.2))
|_=>none
def follows(K:dJ)(A:Formula):Token->Option Cg
|.name _=>none
|.arrow=>opened (.arrow (bJ K A).2) (bJ K A).1
|.sign c=>if c=41 then closes (bh K A)else match OJ c with
 |none=>none
 |some s=>match u_ K with
  |some u=>if u=s then opened (.chain s A) K else none
  |none=>opened (.chain s A) K
def take(s:Cg)(t:Token):Option Cg:=match s.2 with
|none=>begins s.1 t
|some A=>follows s.1 A t
def whole(s:Cg):Option Formula:=match s.2 with
|none=>none
|some A=>match(bh s.1 A).1 with
 |[]=>some (bh s.1 A).2
 |_=>none
def run(s:Cg):List Token->Option Formula
|[]=>whole s
|t::r=>match take s t with
 |none=>none
 |some a=>run a r
def fin(K:dJ)(A:Formula):List Token->Option Formula
|[]=>run (K,some A) []
|.arrow::r=>run (K,some A) (.arrow::r)
|.sign c::r=>if c=41 then run (K,some A) (.sign c::r)else none
|.name _::_=>none
def vd(K:dJ)(A:Formula):List Token->Option Formula
|[]=>run (K,some A) []
|.sign c::r=>if c=41 then run (K,some A) (.sign c::r)else none
|_=>none
def vf:dJ->Prop
|.pre _::_=>False
|_=>True
def xH:dJ->Prop
|.pre _::_=>False
|.chain _ _::_=>False
|_=>True
theorem xH.vf{K:dJ}(h:xH K):vf K:=by
 cases K with
 |nil=>trivial
 |cons f K=>cases f<;>first|trivial|exact h.elim
def iI:dJ->UInt8
|.chain c _::_=>c.byte
|_=>0
theorem xH.iI{K:dJ}(h:xH K):iI K=0:=by
 cases K with
 |nil=>rfl
 |cons f K=>cases f<;>first|rfl|exact h.elim
theorem vf.bT{K:dJ}(h:vf K)(A:Formula):bT K A=(K,A):=by
 cases K with
 |nil=>rfl
 |cons f K=>cases f<;>first|rfl|exact h.elim
theorem xH.bJ{K:dJ}(h:xH K)(A:Formula):bJ K A=(K,A):=by
 cases K with
 |nil=>rfl
 |cons f K=>cases f<;>first|rfl|exact h.elim
def jL(s:Cg)(t:Token)(r:List Token):run s (t::r)=match take s t with
  |none=>none
  |some a=>run a r:=rfl
def Lz(c:T4)(X:Formula)(K:dJ)(A:Formula)(r:List Token):fin (.chain c X::K) A r=fin K (c.mk X A) r:=by
 cases r with
 |nil=>rfl
 |cons t r=>cases t with
  |name a=>rfl
  |arrow=>rfl
  |sign b=>
   by_cases h:b=41
   .subst h
    rfl
   .simp only[fin,aaz h]
def jM(X:Formula)(K:dJ)(A:Formula)(h:xH K):bh (.arrow X::K) A=bh K (.par (dual X) A):=by
 unfold bh;rw[h.bJ];rfl
def Ge(X:Formula)(K:dJ)(A:Formula)(r:List Token)(h:xH K):vd (.arrow X::K) A r=vd K (.par (dual X) A) r:=by
 cases r with
 |nil=>
  show whole (.arrow X::K,some A)=whole (K,some (.par (dual X) A));unfold whole;simp only[jM X K A h]
 |cons t r=>cases t with
  |name a=>rfl
  |arrow=>rfl
  |sign b=>
   by_cases d:b=41
   .subst d
    show(match closes (bh (.arrow X::K) A)with|none=>none|some c=>run c r)=(match closes (bh K (.par (dual X) A))with|none=>none|some c=>run c r);rw[jM X K A h]
   .simp only[vd,aaz d]
def Ci(c:UInt8):isTwo c=(OJ c).isSome:=by
 unfold isTwo OJ;by_cases a:c=42
 .subst a;rfl
 by_cases b:c=124
 .subst b;rfl
 by_cases d:c=38
 .subst d;rfl
 by_cases e:c=43
 .subst e;rfl
 simp[a,b,d,e]
def Jq{c:UInt8}{s:T4}(h:OJ c=some s):c=s.byte:=by
 unfold OJ at h;split at h
 .cases h;assumption
 split at h
 .cases h;assumption
 split at h
 .cases h;assumption
 split at h
 .cases h;assumption
 .cases h
def Cj{a b:T4}(h:a.byte=b.byte):a=b:=by
 cases a<;>cases b<;>first|rfl|(revert h;decide)
def O1(a:T4):a.byte≠0:=by cases a<;>decide
def Ww(s:T4)(A B:Formula):two s.byte A B=s.mk A B:=by cases s<;>rfl
def oE{K:dJ}:iI K=match u_ K with|some u=>u.byte|none=>0:=by
 cases K with
 |nil=>rfl
 |cons f K=>cases f<;>rfl
structure Y5(f:Nat):Prop where
 part:∀(ts:List Token)(K:dJ),3*ts.length+1<=f->
  (run (K,none) ts=match level f 2 0 K.length ts with
   |none=>none
   |some x=>run (yp (bT K x.1)) x.2)/\∀x,level f 2 0 K.length ts=some x->x.2.length<ts.length
 chain:∀(ts:List Token)(K:dJ),vf K->3*ts.length+2<=f->
  (run (K,none) ts=match level f 1 (iI K) K.length ts with
   |none=>none
   |some x=>fin K x.1 x.2)/\∀x,level f 1 (iI K) K.length ts=some x->x.2.length<ts.length
 formula:∀(ts:List Token)(K:dJ),xH K->3*ts.length+3<=f->
  (run (K,none) ts=match level f 0 0 K.length ts with
   |none=>none
   |some x=>vd K x.1 x.2)/\∀x,level f 0 0 K.length ts=some x->x.2.length<ts.length
def Gg(f:Nat)(d:Nat)(b:List Token):level (f+1) 2 0 d b=match b with
   |.name a::r=>some (.atom false a,r)
   |.sign c::r=>
    if d<OPEN then
     (if c=126 then(level f 2 0 (d+1) r).map λy=>(dual y.1,y.2)
     else if c=33 then(level f 2 0 (d+1) r).map λy=>(.ofc y.1,y.2)
     else if c=63 then(level f 2 0 (d+1) r).map λy=>(.whn y.1,y.2)
     else if c=40 then(level f 0 0 (d+1) r).bind λy=>(match y.2 with
      |.sign 41::s=>some (y.1,s)
      |_=>none)
     else none)
    else none
   |_=>none:=rfl
def Ck(f:Nat)(a:UInt8)(d:Nat)(b:List Token):level (f+1) 1 a d b=(level f 2 0 d b).bind λx=>match x.2 with
   |.sign c::r=>if isTwo c=true/\(a=0\/a=c)then(if d<OPEN then(level f 1 c (d+1) r).map λy=>(two c x.1 y.1,y.2)else none)else some x
   |_=>some x:=rfl
def xJ(f:Nat)(d:Nat)(a:List Token):level (f+1) 0 0 d a=(level f 1 0 d a).bind λx=>match x.2 with
   |.arrow::r=>if d<OPEN then(level f 0 0 (d+1) r).map λy=>(.par (dual x.1) y.1,y.2)else none
   |_=>some x:=rfl
def vg{f:Nat}(I:Y5 f)(p:P3)(K:dJ)(r:List Token)(d:3*(r.length+1)+1<=f+1)(g:K.length<OPEN):
  (run (.pre p::K,none) r=match(level f 2 0 (K.length+1) r).map λy=>(p.mk y.1,y.2)with
   |none=>none
   |some x=>run (yp (bT K x.1)) x.2)/\∀x,((level f 2 0 (K.length+1) r).map λy=>(p.mk y.1,y.2))=some x->x.2.length<r.length+1:=by
 obtain⟨a,c⟩:=I.part r (.pre p::K) (by grind);rw[aae]at a c;cases e:level f 2 0 (K.length+1) r with
 |none=>
  rw[e]at a;exact⟨a,λx b=>by cases b⟩
 |some y=>
  rw[e]at a;refine⟨a,λx b=>?_⟩;have:=c y e;cases b;show y.2.length<_;grind
def jN(K:dJ):K.length+1<=100↔K.length<OPEN:=by unfold OPEN;grind
def O2{f:Nat}(I:Y5 f)(n:List Token)(K:dJ)(o:3*n.length+1<=f+1):
  (run (K,none) n=match level (f+1) 2 0 K.length n with
   |none=>none
   |some x=>run (yp (bT K x.1)) x.2)/\∀x,level (f+1) 2 0 K.length n=some x->x.2.length<n.length:=by
 rw[Gg]
 match n,o with
 |[],_=>exact⟨rfl,λx d=>by cases d⟩
 |.name a::r,_=>exact⟨rfl,λx d=>by cases d;exact adD _⟩
 |.arrow::r,_=>exact⟨rfl,λx d=>by cases d⟩
 |.sign c::r,o=>
  rw[aae]at o;dsimp only;have E:∀g:Fr,opened g K=if K.length<OPEN then some (g::K,none)else none:=λg=>by
   unfold opened;by_cases h:K.length<OPEN
   .rw[aaU h,aaU ((jN K).mpr h)]
   .rw[aaz h,aaz (λq=>h ((jN K).mp q))]
  have m:run (K,none) (.sign c::r)=match begins K (.sign c)with|none=>none|some j=>run j r:=rfl
  by_cases l:K.length<OPEN
  .rw[aaU l]
   have k:∀g:Fr,opened g K=some (g::K,none):=λg=>by rw[E,aaU l]
   by_cases p:c=126
   .subst p
    rw[aaU rfl];have:=vg I .neg K r o l;refine⟨Eq.trans ?_ this.1,λx d=>this.2 x d⟩;rw[m];show(match opened (.pre .neg) K with|none=>none|some j=>run j r)=_;rw[k]
   by_cases t:c=33
   .subst t
    rw[aaz p,aaU rfl];have:=vg I .ofc K r o l;refine⟨Eq.trans ?_ this.1,λx d=>this.2 x d⟩;rw[m];show(match opened (.pre .ofc) K with|none=>none|some j=>run j r)=_;rw[k]
   by_cases w:c=63
   .subst w
    rw[aaz p,aaz t,aaU rfl];have:=vg I .whn K r o l;refine⟨Eq.trans ?_ this.1,λx d=>this.2 x d⟩;rw[m];show(match opened (.pre .whn) K with|none=>none|some j=>run j r)=_;rw[k]
   by_cases z:c=40
   .subst z
    rw[aaz p,aaz t,aaz w,aaU rfl,m];show((match opened .paren K with|none=>none|some j=>run j r)=_)/\_;rw[k];obtain⟨H,J⟩:=I.formula r (.paren::K) trivial (by omega);rw[aae]at H J;show(run (.paren::K,none) r=_)/\_;rw[H];cases e:level f 0 0 (K.length+1) r with
    |none=>exact⟨rfl,λx d=>by cases d⟩
    |some y=>
     obtain⟨B,q⟩:=y;have A:=J _ e
     match q,A with
     |[],_=>exact⟨rfl,λx d=>by cases d⟩
     |.name a::q,_=>exact⟨rfl,λx d=>by cases d⟩
     |.arrow::q,_=>exact⟨rfl,λx d=>by cases d⟩
     |.sign b::q,A=>
      by_cases C:b=41
      .subst C
       refine⟨rfl,λx d=>?_⟩;cases d;have:(Token.sign 41::q).length<r.length:=A;rw[aae]at this;show q.length<r.length+1;omega
      .have L:∀(D:Type)(u:List Token->D)(v:D),(match(Token.sign b::q)with|.sign 41::s=>u s|_=>v)=v:=λD u v=>by
        split
        .rename_i e;cases e;exact absurd rfl C
        .rfl
       have M:((some (B,Token.sign b::q)).bind λy:Formula×List Token=>(match y.2 with
         |.sign 41::s=>some (y.1,s)
         |_=>none))=none:=L _ (λs=>some (B,s)) none
       rw[M];refine⟨?_,λx d=>by cases d⟩;show vd (.paren::K) B (.sign b::q)=none;simp only[vd,aaz C]
   .rw[aaz p,aaz t,aaz w,aaz z,m]
    refine⟨?_,λx d=>by cases d⟩;have:begins K (.sign c)=none:=by
     unfold begins p3?;simp only[aaz p,aaz t,aaz w,aaz z]
    rw[this]
  .rw[aaz l,m]
   refine⟨?_,λx d=>by cases d⟩;have k:∀g:Fr,opened g K=none:=λg=>by rw[E,aaz l]
   have:begins K (.sign c)=none:=by
    unfold begins;dsimp only;split
    .exact k _
    .split
     .exact k _
     .rfl
   rw[this]
def Tq{K:dJ}{A:Formula}:∀{r:List Token},(∀c s,r=.sign c::s->OJ c=none)->run (K,some A) r=fin K A r
|[],_=>rfl
|.name a::r,_=>rfl
|.arrow::r,_=>rfl
|.sign c::r,h=>by
 by_cases hc:c=41
 .simp only[fin,aaU hc]
 .simp only[fin,aaz hc]
  rw[jL];show(match follows K A (.sign c)with|none=>none|some b=>run b r)=none;have:follows K A (.sign c)=none:=by
   unfold follows;simp only[aaz hc,h c r rfl]
  rw[this]
def O4(f:Nat)(sg:UInt8)(d:Nat)(A:Formula):List Token->Option (Formula×List Token)
|.sign c::r=>if isTwo c=true/\(sg=0\/sg=c)then(if d<OPEN then(level f 1 c (d+1) r).map λy=>(two c A y.1,y.2)else none)else some (A,.sign c::r)
|r=>some (A,r)
def LC{f:Nat}(I:Y5 f)(g:List Token)(K:dJ)(v:vf K)(H:3*g.length+2<=f+1):
  (run (K,none) g=match level (f+1) 1 (iI K) K.length g with
   |none=>none
   |some x=>fin K x.1 x.2)/\∀x,level (f+1) 1 (iI K) K.length g=some x->x.2.length<g.length:=by
 rw[Ck];obtain⟨w,z⟩:=I.part g K (by grind);rw[w];cases e:level f 2 0 K.length g with
 |none=>exact⟨rfl,λx b=>by cases b⟩
 |some y=>
  obtain⟨A,r⟩:=y;have d:r.length<g.length:=z _ e;have C:((some (A,r)).bind λx:Formula×List Token=>(match x.2 with
   |.sign c::r=>if isTwo c=true/\(iI K=0\/iI K=c)then(if K.length<OPEN then(level f 1 c (K.length+1) r).map λy=>(two c x.1 y.1,y.2)else none)else some x
   |_=>some x:Option (Formula×List Token)))=O4 f (iI K) K.length A r:=by
   match r with
   |[]=>rfl
   |.name a::r=>rfl
   |.arrow::r=>rfl
   |.sign c::r=>rfl
  rw[C];show(run (yp (bT K A)) r=_)/\_;rw[v.bT];show(run (K,some A) r=_)/\_
  match r,d with
  |[],d=>exact⟨rfl,λx b=>by cases b;exact d⟩
  |.name a::r,d=>exact⟨rfl,λx b=>by cases b;exact d⟩
  |.arrow::r,d=>exact⟨rfl,λx b=>by cases b;exact d⟩
  |.sign c::r,d=>
   simp only[O4];cases et:OJ c with
   |none=>
    have D:¬(isTwo c=true/\(iI K=0\/iI K=c)):=λq=>by
     have:=q.1;rw[Ci,et]at this;cases this
    rw[aaz D];exact⟨Tq λJ s q=>by cases q;exact et,λx b=>by cases b;exact d⟩
   |some s=>
    have hc:=Jq et;subst hc;have E:isTwo s.byte=true:=by rw[Ci,et];rfl
    have o:s.byte≠41:=by cases s<;>decide
    have n:run (K,some A) (.sign s.byte::r)=match(match u_ K with
      |some u=>if u=s then opened (.chain s A) K else none
      |none=>opened (.chain s A) K)with
     |none=>none
     |some k=>run k r:=by
     rw[jL];show(match follows K A (.sign s.byte)with|none=>none|some k=>run k r)=_;have:follows K A (.sign s.byte)=(match u_ K with
      |some u=>if u=s then opened (.chain s A) K else none
      |none=>opened (.chain s A) K):=by
      unfold follows;simp only[aaz o,et]
     rw[this]
    by_cases hs:iI K=0\/iI K=s.byte
    .rw[aaU ⟨E,hs⟩]
     have p:(match u_ K with
      |some u=>if u=s then opened (.chain s A) K else none
      |none=>opened (.chain s A) K)=opened (.chain s A) K:=by
      rw[oE]at hs;cases eK:u_ K with
      |none=>rfl
      |some u=>
       rw[eK]at hs;dsimp only at hs⊢;rcases hs with q|q
       .exact absurd q (O1 u)
       .rw[aaU (Cj q)]
     rw[n,p];unfold opened;by_cases j:K.length<OPEN
     .rw[aaU j,aaU ((jN K).mpr j)]
      dsimp only;rw[aae]at d;obtain⟨l,m⟩:=I.chain r (.chain s A::K) trivial (by grind);rw[aae]at l m;have t:iI (.chain s A::K)=s.byte:=rfl;rw[t]at l m;rw[l];cases e3:level f 1 s.byte (K.length+1) r with
      |none=>exact⟨rfl,λx b=>by cases b⟩
      |some y=>
       obtain⟨B,q⟩:=y;refine⟨?_,λx b=>?_⟩
       .show fin (.chain s A::K) B q=fin K (two s.byte A B) q
        rw[Lz,Ww]
       .cases b
        have:=m _ e3;show q.length<_;have:q.length<r.length:=this;grind
     .rw[aaz j,aaz (λq=>j ((jN K).mp q))]
      exact⟨rfl,λx b=>by cases b⟩
    .rw[aaz (λq=>hs q.2),n]
     refine⟨?_,λx b=>by cases b;exact d⟩;show _=fin K A (.sign s.byte::r);simp only[fin,aaz o];rw[oE]at hs;cases eK:u_ K with
     |none=>
      rw[eK]at hs;exact absurd (.inl rfl) hs
     |some u=>
      rw[eK]at hs;dsimp only at hs⊢;rw[aaz (λq=>hs (.inr (by rw[q])))]
def Cm{f:Nat}(I:Y5 f)(d:List Token)(K:dJ)(j:xH K)(t:3*d.length+3<=f+1):
  (run (K,none) d=match level (f+1) 0 0 K.length d with
   |none=>none
   |some x=>vd K x.1 x.2)/\∀x,level (f+1) 0 0 K.length d=some x->x.2.length<d.length:=by
 rw[xJ];obtain⟨m,n⟩:=I.chain d K j.vf (by grind);rw[j.iI]at m n;rw[m];cases e:level f 1 0 K.length d with
 |none=>exact⟨rfl,λx b=>by cases b⟩
 |some y=>
  obtain⟨A,r⟩:=y;have g:r.length<d.length:=n _ e
  match r,g with
  |[],g=>exact⟨rfl,λx b=>by cases b;exact g⟩
  |.name a::r,g=>exact⟨rfl,λx b=>by cases b;exact g⟩
  |.sign c::r,g=>exact⟨rfl,λx b=>by cases b;exact g⟩
  |.arrow::r,g=>
   show(run (K,some A) (.arrow::r)=match(if K.length<OPEN then(level f 0 0 (K.length+1) r).map λy=>(.par (dual A) y.1,y.2)else none:Option (Formula×List Token))with
    |none=>none
    |some x=>vd K x.1 x.2)/\∀x,(if K.length<OPEN then(level f 0 0 (K.length+1) r).map λy=>(.par (dual A) y.1,y.2)else none:Option (Formula×List Token))=some x->x.2.length<d.length
   have s:run (K,some A) (.arrow::r)=match opened (.arrow A) K with|none=>none|some l=>run l r:=by
    rw[jL];show(match opened (.arrow (bJ K A).2) (bJ K A).1 with|none=>none|some l=>run l r)=_;rw[j.bJ]
   rw[s];unfold opened;by_cases k:K.length<OPEN
   .rw[aaU k,aaU ((jN K).mpr k)]
    dsimp only;rw[aae]at g;obtain⟨o,p⟩:=I.formula r (.arrow A::K) trivial (by grind);rw[aae]at o p;rw[o];cases e3:level f 0 0 (K.length+1) r with
    |none=>exact⟨rfl,λx b=>by cases b⟩
    |some y=>
     obtain⟨B,q⟩:=y;refine⟨Ge A K B q j,λx b=>?_⟩;cases b;have:q.length<r.length:=p _ e3;show q.length<_;grind
   .rw[aaz k,aaz (λq=>k ((jN K).mp q))]
    exact⟨rfl,λx b=>by cases b⟩
theorem lev:∀f,Y5 f
|0=>⟨λa K h=>by grind,λa K _ h=>by grind,λa K _ h=>by grind⟩
|f+1=>⟨λa K h=>O2 (lev f) a K h,λa K b h=>LC (lev f) a K b h,λa K b h=>Cm (lev f) a K b h⟩
def zT(b:List Token):run ([],none) b=formulaIn b:=by
 obtain⟨d,f⟩:=(lev (4*(b.length+1))).formula b [] trivial (by grind);rw[d];unfold formulaIn;show(match level (4*(b.length+1)) 0 0 0 b with
   |none=>none
   |some x=>vd [] x.1 x.2)=_
 cases e:level (4*(b.length+1)) 0 0 0 b with
 |none=>rfl
 |some y=>
  obtain⟨A,r⟩:=y
  match r with
  |[]=>rfl
  |.name a::r=>rfl
  |.arrow::r=>rfl
  |.sign c::r=>
   show vd [] A (.sign c::r)=none;by_cases hc:c=41
   .subst hc
    rfl
   .simp only[vd,aaz hc]
theorem kE{b:Type}(p:b->Bool):∀l:List b,(l.dropWhile p).length<=l.length
|[]=>aaS _
|a::l=>by
 rw[ahH];split
 .exact ahX (kE p l)
 .exact aaS _
def arr(g:Text->Option (List Token)):Text->Option (List Token)
|111::s=>g s
|_=>none
def Wx(g:Text->Option (List Token))(r:Text):arr g r=if r.head?=some 111 then g (r.drop 1)else none:=by
 match r with
 |[]=>rfl
 |b::s=>
  by_cases a:b=111
  .subst a;rfl
  .rw[aaz (by rw[ag6];exact λq=>a (abk q))]
   unfold arr;split
   .rename_i e;cases e;exact absurd rfl a
   .rfl
def O5(f:Nat)(c:UInt8)(r:Text):tokensFrom (f+1) (c::r)=
  if c=32 then tokensFrom f r
  else if isSign c=true then(tokensFrom f r).map λl=>.sign c::l
  else if c=45 then(if r.head?=some 111 then(tokensFrom f (r.drop 1)).map λl=>.arrow::l else none)
  else if isWord c=true then
   (if isName (c::r.takeWhile isWord)=true then(tokensFrom f (r.dropWhile isWord)).map λl=>.name (c::r.takeWhile isWord)::l else none)
  else none:=by
 rw[<-Wx (λs=>(tokensFrom f s).map λl=>Token.arrow::l)];rfl
theorem qe:∀(f g:Nat)(t:Text),t.length+1<=f->t.length+1<=g->tokensFrom f t=tokensFrom g t
|0,_,t,h,_=>by grind
|_,0,t,_,h=>by grind
|f+1,g+1,[],_,_=>rfl
|f+1,g+1,c::r,h,h'=>by
 rw[aae]at h h';have a:∀s:Text,s.length<=r.length->tokensFrom f s=tokensFrom g s:=λs hs=>qe f g s (by grind) (by grind);rw[O5,O5,a r (aaS _),a (r.dropWhile isWord) (kE _ _),a (r.drop 1) (by rw[ace];grind)]
def Cp(f:Nat)(t:Text)(h:t.length+1<=f):tokensFrom f t=tokensFrom (t.length+1) t:=qe f _ t h (aaS _)
def tZ(c:UInt8)(r:Text):Option (Token×Nat):=
 if isSign c=true then some (.sign c,1)
 else if c=45 then(if r.head?=some 111 then some (.arrow,2)else none)
 else if isName (c::r.takeWhile isWord)=true then some (.name (c::r.takeWhile isWord),1+(r.takeWhile isWord).length)else none
def yq{c:UInt8}{r:Text}(h:isName (c::r)=true):isWord c=true:=by
 unfold isName at h;rw[aa8,aa8]at h;have:=h.2.2;rw[ado,aa8]at this;exact this.1
theorem lU{b:Type}(p:b->Bool):∀l:List b,l.drop (l.takeWhile p).length=l.dropWhile p
|[]=>rfl
|a::l=>by
 rw[ae7,ahH];split
 .rw[aae,ahI];exact lU p l
 .rfl
def sY(c:UInt8)(r:Text):tokens (c::r)=if c=32 then tokens r else match tZ c r with
  |none=>none
  |some x=>(tokens ((c::r).drop x.2)).map λl=>x.1::l:=by
 have g:∀s:Text,s.length<=r.length->tokensFrom (r.length+1) s=tokens s:=λs hs=>Cp _ s (by grind);show tokensFrom ((c::r).length+1) (c::r)=_;rw[aae,O5,g r (aaS _),g (r.dropWhile isWord) (kE _ _),g (r.drop 1) (by rw[ace];grind)];by_cases b:c=32
 .rw[aaU b,aaU b]
 rw[aaz b,aaz b];unfold tZ;by_cases d:isSign c=true
 .rw[aaU d,aaU d];rfl
 rw[aaz d,aaz d];by_cases e:c=45
 .rw[aaU e,aaU e]
  by_cases f:r.head?=some 111
  .rw[aaU f,aaU f];rfl
  .rw[aaz f,aaz f]
 rw[aaz e,aaz e];by_cases a:isName (c::r.takeWhile isWord)=true
 .rw[aaU a,aaU a,aaU (yq a)]
  dsimp only;rw[afx 1,ahI,lU]
 .rw[aaz a,aaz a]
  split<;>rfl
def iU(a:List Int)(G:List Nd)(x:Nd):List Nd:=if x.2=a then(if x.1=6 then G else G.map λy=>(dk y.1,y.2))else[x]
def yr{a:Name}(g:a≠[])(G A:Formula):(flat A).flatMap (iU (nm a) (flat G))=flat (fill a G A):=by
 have f:¬([]:List Int)=nm a:=λe=>g (cN (b:=[]) e.symm);unfold Vaneta.fill
 induction A with
 |atom n b=>
  show iU (nm a) (flat G) (if n=true then 7 else 6,nm b)++[]=flat (fillBy _ (.atom n b));rw[acQ];unfold iU fillBy;by_cases h:b=a
  .subst h
   cases n
   .simp
   .simp[iM]
  .have h':¬nm b=nm a:=λe=>h (cN e)
   simp only[h,h',acd];rfl
 |tensor A B c d=>simp[flat,fillBy,iU,f,c,d]
 |par A B c d=>simp[flat,fillBy,iU,f,c,d]
 |wth A B c d=>simp[flat,fillBy,iU,f,c,d]
 |plus A B c d=>simp[flat,fillBy,iU,f,c,d]
 |ofc A c=>simp[flat,fillBy,iU,f,c]
 |whn A c=>simp[flat,fillBy,iU,f,c]
inductive At:Formula->Nat->List Nat->Prop where
|here (A:Formula):At A 0 []
|fst {A B:Formula} {i:Nat} {p:List Nat}:(parts A)[0]?=some B->At B i p->i<nodes B->At A (1+i) (0::p)
|snd {A B C:Formula} {i:Nat} {p:List Nat}:parts A=[B,C]->At C i p->i<nodes C->At A (1+nodes B+i) (1::p)
def Yx(A B:Formula)(p:List Nat):Prop:=∃i,At A i p/\i<nodes A/\i<nodes B/\(flat A).take i=(flat B).take i/\(flat A)[i]?≠(flat B)[i]?
def O6{A B:Formula}(h:root A≠root B):Yx A B []:=by
 refine⟨0,.here A,ni A,ni B,rfl,?_⟩;rw[bL A,bL B];simpa using h
def Jr{T a A C:Formula}{x:Nd}{r r':List Nd}{p:List Nat}(b:flat T=x::(flat A++r))(c:flat a=x::(flat C++r'))(f:(parts T)[0]?=some A)(d:Yx A C p):Yx T a (0::p):=by
 obtain⟨i,h,g,hc,e,n⟩:=d;have l1:=aC A;have l2:=aC C;refine⟨1+i,.fst f h g,?_,?_,?_,?_⟩
 .rw[<-aC T,b,aae,aad];grind
 .rw[<-aC a,c,aae,aad];grind
 .rw[b,c,afx,aej,aej,afN (by grind),afN (by grind),e]
 .rw[b,c,afx,adw,adw,acR (by grind),acR (by grind)]
  exact n
def Tr{T a A B D:Formula}{x:Nd}{p:List Nat}(b:flat T=x::(flat A++flat B))(c:flat a=x::(flat A++flat D))(f:parts T=[A,B])(d:Yx B D p):Yx T a (1::p):=by
 obtain⟨i,h,g,hc,e,n⟩:=d;have l1:=aC A;have l2:=aC B;have l3:=aC D;refine⟨1+nodes A+i,.snd f h g,?_,?_,?_,?_⟩
 .rw[<-aC T,b,aae,aad];grind
 .rw[<-aC a,c,aae,aad];grind
 .rw[b,c,show 1+nodes A+i=((flat A).length+i)+1 by grind,aej,aej,List.take_append,List.take_append,adG,e]
 .rw[b,c,show 1+nodes A+i=((flat A).length+i)+1 by grind,adw,adw,abA (by grind),abA (by grind),adG]
  exact n
def qg(A B:Formula):Prop:=(differ A B=none->A=B)/\∀p,differ A B=some p->Yx A B p
def qj{T a A B C D:Formula}{x:Nd}(b:flat T=x::(flat A++flat B))(c:flat a=x::(flat C++flat D))(d:parts T=[A,B])(g:differ T a=inTwo (differ A C) (differ B D))(j:A=C->B=D->T=a)(e:qg A C)(f:qg B D):qg T a:=by
 unfold qg;rw[g];cases e1:differ A C with
 |some p=>
  refine⟨λh=>(by cases h),λq h=>?_⟩;cases h;exact Jr b c (by rw[d];rfl) (e.2 p e1)
 |none=>
  have k:=e.1 e1;subst k;cases e2:differ B D with
  |none=>exact⟨λ_=>j rfl (f.1 e2),λq h=>(by cases h)⟩
  |some p=>
   refine⟨λh=>(by cases h),λq h=>?_⟩;cases h;exact Tr b c d (f.2 p e2)
def Cq{T a A C:Formula}{x:Nd}(c:flat T=x::flat A)(d:flat a=x::flat C)(e:parts T=[A])(f:differ T a=(differ A C).map λp=>0::p)(g:A=C->T=a)(b:qg A C):qg T a:=by
 unfold qg;rw[f];cases e1:differ A C with
 |some p=>
  refine⟨λh=>(by cases h),λq h=>?_⟩;cases h;exact Jr (r:=[]) (r':=[]) (by rw[acQ];exact c) (by rw[acQ];exact d) (by rw[e];rfl) (b.2 p e1)
 |none=>exact⟨λ_=>g (b.1 e1),λq h=>by cases h⟩
def dg{A B:Formula}(a:differ A B=some [])(h:root A≠root B):qg A B:=⟨λe=>(by rw[a]at e;cases e),λp e=>(by rw[a]at e;cases e;exact O6 h)⟩
def gw(A:Formula):∀B,qg A B:=by
 induction A with
 |atom n a=>
  intro B;cases B with
  |atom m b=>
   by_cases h:n=m/\a=b
   .obtain⟨rfl,rfl⟩:=h
    exact⟨λ_=>rfl,λp e=>by simp[differ]at e⟩
   .refine dg (by simp only[differ,aaz h]) λe=>h ?_
    have f:=congrArg (·.1) e;have g:=congrArg (·.2) e;refine⟨?_,cN g⟩;cases n<;>cases m<;>first|rfl|(simp[root]at f)
  |_=>exact dg rfl (by cases n<;>simp[root])
 |tensor A B c d=>
  intro T;cases T with
  |tensor C D=>exact qj rfl rfl rfl rfl (λa b=>by rw[a,b]) (c C) (d D)
  |atom m b=>exact dg rfl (by cases m<;>simp[root])
  |_=>exact dg rfl (by simp[root])
 |par A B c d=>
  intro T;cases T with
  |par C D=>exact qj rfl rfl rfl rfl (λa b=>by rw[a,b]) (c C) (d D)
  |atom m b=>exact dg rfl (by cases m<;>simp[root])
  |_=>exact dg rfl (by simp[root])
 |wth A B c d=>
  intro T;cases T with
  |wth C D=>exact qj rfl rfl rfl rfl (λa b=>by rw[a,b]) (c C) (d D)
  |atom m b=>exact dg rfl (by cases m<;>simp[root])
  |_=>exact dg rfl (by simp[root])
 |plus A B c d=>
  intro T;cases T with
  |plus C D=>exact qj rfl rfl rfl rfl (λa b=>by rw[a,b]) (c C) (d D)
  |atom m b=>exact dg rfl (by cases m<;>simp[root])
  |_=>exact dg rfl (by simp[root])
 |ofc A c=>
  intro T;cases T with
  |ofc C=>exact Cq rfl rfl rfl rfl (λa=>by rw[a]) (c C)
  |atom m b=>exact dg rfl (by cases m<;>simp[root])
  |_=>exact dg rfl (by simp[root])
 |whn A c=>
  intro T;cases T with
  |whn C=>exact Cq rfl rfl rfl rfl (λa=>by rw[a]) (c C)
  |atom m b=>exact dg rfl (by cases m<;>simp[root])
  |_=>exact dg rfl (by simp[root])
def Cr{A B:Formula}(h:flat A=flat B):A=B:=by
 cases hd:differ A B with
 |none=>exact(gw A B).1 hd
 |some p=>obtain⟨i,_,_,_,_,n⟩:=(gw A B).2 p hd;rw[h]at n;exact absurd rfl n
def bindAll:List Formula->List Formula->Binding->Option Binding
|[],[],b=>some b
|F::a,H::c,b=>(bindIn F H b).bind (bindAll a c)
|_,_,_=>none
theorem lV:∀{a d:List Formula}(e f:List Formula)(b:Binding),a.length=d.length->bindAll (a++e) (d++f) b=(bindAll a d b).bind (bindAll e f)
|[],[],e,f,b,_=>rfl
|[],_::_,_,_,_,h=>by cases h
|_::_,[],_,_,_,h=>by cases h
|P::a,Q::d,e,f,b,h=>by
 show(bindIn P Q b).bind (bindAll (a++e) (d++f))=((bindIn P Q b).bind (bindAll a d)).bind _;rw[Option.bind_assoc]
 congr 1
 funext c
 exact lV e f c (by simpa using h)
def oR{a:Type}(o:Option a):o.bind some=o:=by cases o<;>rfl
def zU{F H:Formula}(b:Binding)(d:pc (root F).1≠0):bindIn F H b=if(root H).1=(root F).1 then bindAll (parts F) (parts H) b else none:=by
 cases F with
 |atom n a=>exact absurd (by cases n<;>rfl) d
 |_=>cases H with
  |atom m c=>cases m<;>rfl
  |_=>first|rfl|(show bindIn _ _ _=(bindIn _ _ b).bind λc=>(bindIn _ _ c).bind some;simp only[bindIn,oR])|(show bindIn _ _ _=(bindIn _ _ b).bind some;simp only[bindIn,oR])
def vh{F H:Formula}(h:(root H).1=(root F).1):(parts F).length=(parts H).length:=by
 rw[<-pW,<-pW,h]
def zV{F H:Formula}(a c:List Formula)(b:Binding)(d:pc (root F).1≠0):bindAll (F::a) (H::c) b=if(root H).1=(root F).1 then bindAll (parts F++a) (parts H++c) b else none:=by
 show(bindIn F H b).bind (bindAll a c)=_;rw[zU b d];by_cases h:(root H).1=(root F).1
 .rw[aaU h,aaU h,lV a c b (vh h)]
 .rw[aaz h,aaz h];rfl
def oU{b:Binding}{a:Name}:boundTo b a=none↔a∉b.map (·.1):=by
 unfold boundTo;rw[Option.map_eq_none_iff,af8];simp;constructor
 .intro h x c;exact h a x c rfl
 .intro h x y c e;subst e;exact h y c
def nu{b:Binding}(d:(b.map (·.1)).Nodup){a:Name}{G:Formula}:boundTo b a=some G↔(a,G)∈b:=by
 induction b with
 |nil=>simp[boundTo]
 |cons x b c=>
  rw[aaZ,adC]at d;have c:=c d.2;unfold boundTo at c⊢;rw[adi,aa2];by_cases h:x.1=a
  .subst h
   simp only[beq_self_eq_true];constructor
   .intro e;left;rw[<-abk e]
   .rintro(e|e)
    .rw[<-e];rfl
    .exact absurd (aa5.mpr ⟨_,e,rfl⟩) d.1
  .have:(x.1==a)=false:=by simpa using h
   rw[this];simp only;rw[c];constructor
   .intro e;exact .inr e
   .rintro(e|e)
    .rw[<-e]at h;exact absurd rfl h
    .exact e
def nA{b:Binding}(c:(b.map (·.1)).Nodup)(a:Name):boundTo b.reverse a=boundTo b a:=by
 have d:(b.reverse.map (·.1)).Nodup:=by rw[agI];exact(ahY _).nodup_iff.mpr c
 apply Option.ext;intro G;rw[nu d,nu c,List.mem_reverse]
def eN(n:Bool)(H:Formula):Formula:=if n=true then dual H else H
def jo(n:Bool)(a:Name)(H:Formula)(b:Binding):bindIn (.atom n a) H b=match boundTo b a with|some F=>if F=eN n H then some b else none|none=>some ((a,eN n H)::b):=rfl
def Keys(b:Binding):List Name:=b.map (·.1)
def zW(b:Binding)(d:List Name)(c:Binding):Prop:=(Keys b).Nodup->(Keys c).Nodup/\∀a,a∈Keys c↔a∈Keys b\/a∈d
def Cu(F:Formula):∀(H:Formula)(b c:Binding),bindIn F H b=some c->zW b ((leaves F).map (·.2)) c:=by
 have two:∀(A B C D:Formula)(b c:Binding),(∀(H:Formula)(b c:Binding),bindIn A H b=some c->zW b ((leaves A).map (·.2)) c)->(∀(H:Formula)(b c:Binding),bindIn B H b=some c->zW b ((leaves B).map (·.2)) c)->
   ((bindIn A C b).bind λc=>bindIn B D c)=some c->zW b (((leaves A++leaves B)).map (·.2)) c:=by
  intro A B C D b c f g h j;rw[adx]at h;obtain⟨d,l,m⟩:=h;obtain⟨o,p⟩:=f C b d l j;obtain⟨r,s⟩:=g D d c m o;refine⟨r,λa=>?_⟩;rw[s,p,aaY,aa4,or_assoc]
 induction F with
 |atom n a=>
  intro H b c h j;rw[jo]at h;cases e:boundTo b a with
  |some F=>
   rw[e]at h;simp only at h;by_cases q:F=eN n H
   .rw[aaU q]at h
    cases h;refine⟨j,λx=>⟨.inl,?_⟩⟩;rintro(k|k)
    .exact k
    .simp[leaves]at k
     subst k;exact aa5.mpr ⟨_,(nu j).mp e,rfl⟩
   .rw[aaz q]at h;cases h
  |none=>
   rw[e]at h;cases h;refine⟨adC.mpr ⟨oU.mp e,j⟩,λx=>?_⟩;simp[Keys,leaves,or_comm]
 |tensor A B f g=>intro H b c h;cases H with
  |tensor C D=>exact two A B C D b c f g h
  |_=>cases h
 |par A B f g=>intro H b c h;cases H with
  |par C D=>exact two A B C D b c f g h
  |_=>cases h
 |wth A B f g=>intro H b c h;cases H with
  |wth C D=>exact two A B C D b c f g h
  |_=>cases h
 |plus A B f g=>intro H b c h;cases H with
  |plus C D=>exact two A B C D b c f g h
  |_=>cases h
 |ofc A f=>intro H b c h;cases H with
  |ofc C=>exact f C b c h
  |_=>cases h
 |whn A f=>intro H b c h;cases H with
  |whn C=>exact f C b c h
  |_=>cases h
def Gh{F H:Formula}{c:Binding}(h:bindIn F H []=some c):(Keys c).Nodup/\(∀a,a∈Keys c↔a∈(leaves F).map (·.2)):=by
 obtain⟨b,d⟩:=Cu F H [] c h ahr;exact⟨b,λa=>by rw[d];simp[Keys]⟩
theorem oF{b c:Type}{f:b->Option c}{g:b->c}:∀{l:List b},(∀a∈l,f a=some (g a))->l.filterMap f=l.map g
|[],_=>rfl
|a::l,h=>by
 rw[aei,h a aa0,aaZ,oF λx d=>h x (aaX _ d)]
theorem Cv{s:UInt8}:∀{w:Text},(∀c∈w,c≠s)->cutAt s w=[w]
|[],_=>rfl
|c::w,h=>by
 unfold cutAt;rw[aaz (h c aa0),Cv λx a=>h x (aaX _ a)]
theorem Cw{s:UInt8}(r:Text):∀{w:Text},(∀c∈w,c≠s)->cutAt s (w++s::r)=w::cutAt s r
|[],_=>by
 show cutAt s (s::r)=_;rw[cutAt,aaU rfl]
|c::w,h=>by
 show cutAt s (c::(w++s::r))=_;rw[cutAt,aaz (h c aa0),Cw r λx a=>h x (aaX _ a)]
theorem vo(s:UInt8):∀t:Text,(cutAt s t).length<=t.length+1
|[]=>aaS _
|c::r=>by
 have:=vo s r;unfold cutAt;by_cases h:c=s
 .rw[aaU h,aae,aae];grind
 .rw[aaz h]
  cases e:cutAt s r with
  |nil=>simp
  |cons w a=>rw[e]at this;simp only[aae]at this⊢;grind
section
variable{α:Type}
def dB(b:List α):List (List α)->List α
|[]=>[]
|[x]=>x
|x::y::r=>x++(b++dB b (y::r))
theorem vp(b:List α)(x:List α):∀l:List (List α),dB b (l++[x])=dB b l++((if l=[]then[]else b)++x)
|[]=>by simp[dB]
|[y]=>by simp[dB]
|y::z::r=>by
 have a:=vp b x (z::r);show dB b (y::z::(r++[x]))=_;unfold dB;rw[show z::(r++[x])=(z::r)++[x]from rfl,a];simp
theorem yt:∀l:List (List α),dB [] l=l.flatten
|[]=>rfl
|[x]=>by simp[dB]
|x::y::r=>by
 unfold dB;rw[yt (y::r)];simp
theorem nD{a:Type}(f:α->a)(b:List α):∀l:List (List α),(dB b l).map f=dB (b.map f) (l.map (List.map f))
|[]=>rfl
|[x]=>rfl
|x::y::r=>by
 have:=nD f b (y::r);rw[aaZ]at this;show((x++(b++dB b (y::r)))).map f=List.map f x++(List.map f b++dB (b.map f) (y.map f::r.map (List.map f)));rw[aaY,aaY,this]
theorem jO(b:List α)(n:Nat):∀l:List (List α),(∀x∈l,x.length<=n)->(dB b l).length<=l.length*(n+b.length)
|[],_=>abe _
|[x],h=>by
 have:=h x aa0;simp only[dB,abj];grind
|x::y::r,h=>by
 have a:=h x aa0;have c:=jO b n (y::r) λz hz=>h z (aaX _ hz);unfold dB;rw[aad,aad,aae,Nat.add_mul];grind
end
theorem gH:∀l:List Name,namesText l=dB [32] l
|[]=>rfl
|[x]=>rfl
|x::y::r=>by
 unfold namesText dB;rw[gH (y::r)];rfl
theorem kI:∀l:List Formula,sequentForm l=dB [44,32] (l.map form)
|[]=>rfl
|[x]=>rfl
|x::y::r=>by
 have:=kI (y::r);rw[aaZ]at this;show form x++44::32::sequentForm (y::r)=form x++([44,32]++dB [44,32] (form y::r.map form));rw[this];rfl
theorem oV{A B:Type}{f:A->Option B}:∀{l:List A}{r:List B},allOf (l.map f)=some r->l.map f=r.map some
|[],r,h=>by cases h;rfl
|a::l,r,h=>by
 show _=_;rw[aaZ]at h;unfold allOf at h;rw[adx]at h;obtain⟨x,c,b⟩:=h;rw[abP]at b;obtain⟨m,d,e⟩:=b;subst e;rw[aaZ,aaZ,c,oV d]
theorem vq{A B:Type}{f:A->Option B}:∀{l:List A},allOf (l.map f)=none->∃a∈l,f a=none
|[],h=>by cases h
|a::l,h=>by
 cases e:f a with
 |none=>exact⟨a,aa0,e⟩
 |some x=>
  rw[aaZ]at h;unfold allOf at h;rw[e]at h;cases e2:allOf (l.map f)with
  |none=>
   obtain⟨b,c,d⟩:=vq e2;exact⟨b,aaX _ c,d⟩
  |some m=>simp[e2]at h
theorem ql{A:Formula}:∀{s t:Sequent},without A s=some t->s.Perm (A::t)
|[],t,h=>by cases h
|B::r,t,h=>by
 unfold without at h;by_cases e:A=B
 .rw[aaU e]at h
  cases h;rw[e]
 .rw[aaz e]at h
  rw[abP]at h;obtain⟨u,a,b⟩:=h;subst b;exact((ql a).cons B).trans (List.Perm.swap A B u)
theorem sZ{A:Formula}:∀{s:Sequent},A∈s->∃t,without A s=some t
|[],h=>by cases h
|B::r,h=>by
 unfold without;by_cases e:A=B
 .rw[aaU e];exact⟨_,rfl⟩
 .rw[aaz e]
  rcases aa2.mp h with q|q
  .exact absurd q e
  .obtain⟨t,a⟩:=sZ q
   rw[a];exact⟨_,rfl⟩
theorem tu:∀(p q:Sequent),sameBag p q=true↔p.Perm q
|[],q=>by
 unfold sameBag;cases q with
 |nil=>simp
 |cons a q=>simp
|A::r,s=>by
 unfold sameBag;cases e:without A s with
 |some t=>
  simp only;rw[tu r t];have h:=ql e;constructor
  .intro p;exact(p.cons A).trans h.symm
  .intro p;exact(List.perm_cons A).mp (p.trans h)
 |none=>
  simp only[aa7,false_iff];intro p;obtain⟨t,b⟩:=sZ (p.mem_iff.mp aa0);rw[e]at b;cases b
def t0(T:List Int->Nat)(m:Nat)(x:Nd):Nat:=if x.1=6 then T x.2 else 2^m - 1 - T x.2
def t1(_:Nd)(a:Nat):Nat:=a
def t2(x:Nd)(a b:Nat):Nat:=if x.1=0\/x.1=2 then a&&& b else a|||b
def tab(T:List Int->Nat)(m:Nat)(A:Formula):Nat:=ev (t0 T m) t1 t2 A
def Cy{T:List Int->Nat}{m:Nat}{ch:Nat->List Name}(A:Formula)(j:∀x∈leaves A,T (nm x.2)<2^m/\∀c<m,(T (nm x.2)).testBit c=(ch c).any λb=>b==x.2):
  tab T m A<2^m/\∀c<m,(tab T m A).testBit c=truth (ch c) A:=by
 have two:∀(x:Nd)(a b:Nat)(f g:Nat->Bool),(a<2^m/\∀c<m,a.testBit c=f c)->(b<2^m/\∀c<m,b.testBit c=g c)->t2 x a b<2^m/\∀c<m,(t2 x a b).testBit c=if x.1=0\/x.1=2 then f c&&g c else f c||g c:=by
  intro x a b f g p o;unfold t2;by_cases h:x.1=0\/x.1=2
  .rw[aaU h]
   refine⟨Nat.and_lt_two_pow _ o.1,λc hc=>?_⟩;rw[aaU h,Nat.testBit_and,p.2 c hc,o.2 c hc]
  .rw[aaz h]
   refine⟨ahZ p.1 o.1,λc hc=>?_⟩;rw[aaz h,Nat.testBit_or,p.2 c hc,o.2 c hc]
 induction A with
 |atom n a=>
  obtain⟨q,r⟩:=j (n,a) (by simp[leaves]);show t0 T m (if n=true then 7 else 6,nm a)<_/\∀c<m,(t0 T m (if n=true then 7 else 6,nm a)).testBit c=_;unfold t0;cases n with
  |false=>
   refine⟨q,λc hc=>?_⟩;show(T (nm a)).testBit c=_;rw[r c hc];simp[truth]
  |true=>
   have e:(2:Nat)^m - 1 - T (nm a)=2^m - (T (nm a)+1):=by grind
   refine⟨?_,λc hc=>?_⟩
   .show 2^m - 1 - T (nm a)<2^m
    have:0<2^m:=acJ m;grind
   .show(2^m - 1 - T (nm a)).testBit c=_
    rw[e,afV q,r c hc];simp[truth,hc]
 |tensor A B k l=>exact two (0,[]) _ _ _ _ (k λx d=>j x (aa4.mpr (.inl d))) (l λx d=>j x (aa4.mpr (.inr d)))
 |par A B k l=>exact two (1,[]) _ _ _ _ (k λx d=>j x (aa4.mpr (.inl d))) (l λx d=>j x (aa4.mpr (.inr d)))
 |wth A B k l=>exact two (2,[]) _ _ _ _ (k λx d=>j x (aa4.mpr (.inl d))) (l λx d=>j x (aa4.mpr (.inr d)))
 |plus A B k l=>exact two (3,[]) _ _ _ _ (k λx d=>j x (aa4.mpr (.inl d))) (l λx d=>j x (aa4.mpr (.inr d)))
 |ofc A k=>exact k j
 |whn A k=>exact k j
section
variable{α:Type}
def aG:List α->Nat->List α
|[],_=>[]
|a::r,c=>if c.testBit r.length=true then a::aG r c else aG r c
theorem kJ:∀(l:List α){c d:Nat},(∀i<l.length,c.testBit i=d.testBit i)->aG l c=aG l d
|[],_,_,_=>rfl
|a::r,c,d,h=>by
 unfold aG;rw[h r.length (by simp),kJ r λi b=>h i (by rw[aae];grind)]
theorem oG:∀(l m:List α)(n low:Nat),low<2^m.length->aG (l++m) (n*2^m.length+low)=aG l n++aG m low
|[],m,n,low,h=>by
 show aG m _=aG m low;refine kJ m λi b=>?_;rw[ad6,aem _ h,aaU b]
|a::r,m,n,low,h=>by
 have c:=oG r m n low h;have e:(n*2^m.length+low).testBit (r++m).length=n.testBit r.length:=by
  rw[ad6,aem _ h,aad,aaz (by grind),ahP]
 show(if(n*2^m.length+low).testBit (r++m).length=true then a::aG (r++m) _ else aG (r++m) _)=(if n.testBit r.length=true then a::aG r n else aG r n)++_;rw[e,c];split<;>rfl
theorem oW{b:Type}(f:α->b):∀(l:List α)(c:Nat),aG (l.map f) c=(aG l c).map f
|[],_=>rfl
|a::r,c=>by
 show(if c.testBit (r.map f).length=true then f a::aG (r.map f) c else aG (r.map f) c)=(if c.testBit r.length=true then a::aG r c else aG r c).map f;rw[aac,oW f r c];split<;>rfl
theorem cG:∀(l:List α)(c:Nat),(aG l c).Sublist l
|[],_=>List.Sublist.refl _
|a::r,c=>by
 unfold aG;split
 .exact(cG r c).cons₂ a
 .exact(cG r c).cons a
end
theorem iw:∀l:List Name,(choices l).length=2^l.length
|[]=>rfl
|a::r=>by
 unfold choices;rw[aad,aac,iw r,aae,aek];grind
theorem iV:∀(l:List Name)(c:Nat),c<2^l.length->(choices l)[c]?=some (aG l c)
|[],c,h=>by
 have:c=0:=by simpa using h
 subst this;rfl
|a::r,c,h=>by
 have f:=iw r;show(choices r++(choices r).map λl=>a::l)[c]?=some (if c.testBit r.length=true then a::aG r c else aG r c);rw[aae,aek]at h;by_cases q:c<2^r.length
 .rw[acR (by grind),iV r c q,agU q]
  rfl
 .have b:c - 2^r.length<2^r.length:=by grind
  have e:c=2^r.length*1+(c - 2^r.length):=by grind
  have g:c.testBit r.length=true:=by
   rw[e,aem _ b,aaz (by grind),adB];rfl
  rw[abA (by grind),f,abV,iV r _ b,g];show some (a::aG r (c - 2^r.length))=some (a::aG r c);rw[kJ r (c:=c) (d:=c - 2^r.length) λi j=>?_]
  conv=>lhs;rw[e]
  rw[aem _ b,aaU j]
theorem Js{b:Type}{p:b->Bool}:∀{l:List b}{i:Nat}{x:b},l[i]?=some x->p x=true->(∀j<i,∀y,l[j]?=some y->p y=false)->l.find? p=some x
|[],i,x,h,_,_=>by cases h
|a::l,0,x,h,c,_=>by
 cases h;rw[adi,c]
|a::l,i+1,x,h,c,d=>by
 rw[adi,d 0 (by grind) a rfl];exact Js (by simpa using h) c λj f y e=>d (j+1) (by grind) y (by simpa using e)
theorem lowest:∀(f:Nat),f≠0->∃low a,f=2^low*(2*a+1)
|f,h=>by
 by_cases e:f%2=1
 .exact⟨0,f/2,by grind⟩
 .have b:f/2≠0:=by grind
  obtain⟨l,a,q⟩:=lowest (f/2) b;refine⟨l+1,a,?_⟩;rw[aek,ad6 (2^l) 2,Nat.mul_assoc,<-q];grind
def O7(low a:Nat):(2^low*(2*a+1)).testBit low=true/\∀j<low,(2^low*(2*a+1)).testBit j=false:=by
 refine⟨?_,λj b=>?_⟩
 .rw[agK,adB]
  simp[Nat.testBit_zero]
 .rw[agK]
  simp;intro h;grind
def TN:Token->Prop
|.name a=>isName a=true
|_=>True
def gR(A:Formula):Prop:=∀x∈leaves A,isName x.2=true
theorem qm:∀(f:Nat)(t:Text)(a:List Token),tokensFrom f t=some a->∀x∈a,TN x
|0,t,a,h=>by cases h
|f+1,[],a,h=>by cases h;intro x b;cases b
|f+1,c::r,a,h=>by
 have d:=qm f;have put:∀(tk:Token)(s:Text),TN tk->((tokensFrom f s).map λl=>tk::l)=some a->∀x∈a,TN x:=by
  intro tk s e h;rw[abP]at h;obtain⟨l,g,j⟩:=h;subst j;intro x b;rcases aa2.mp b with rfl|b
  .exact e
  .exact d s l g x b
 unfold tokensFrom at h;split at h
 .exact d r a h
 .split at h
  .exact put (.sign c) _ trivial h
  .split at h
   .split at h
    .exact put .arrow _ trivial h
    .cases h
   .split at h
    .split at h
     .rename_i k
      exact put (.name _) _ k h
     .cases h
    .cases h
def Cz(A:Formula):leaves (dual A)=(leaves A).map λx=>(!x.1,x.2):=by
 induction A<;>simp_all [leaves,dual]
theorem gR.dual{A:Formula}(h:gR A):gR (dual A):=by
 intro x a;rw[Cz]at a;obtain⟨y,b,rfl⟩:=aa5.mp a;exact h y b
def gR.app{A B C:Formula}(e:leaves C=leaves A++leaves B)(b:gR A)(c:gR B):gR C:=by
 intro x a;rw[e]at a;rcases aa4.mp a with h|h
 .exact b x h
 .exact c x h
def Gj(c:UInt8)(A B:Formula):leaves (two c A B)=leaves A++leaves B:=by
 unfold two;split
 .rfl
 .split
  .rfl
  .split<;>rfl
theorem tD:∀(f k:Nat)(D:UInt8)(d:Nat)(o:List Token)(A:Formula)(r:List Token),level f k D d o=some (A,r)->(∀x∈o,TN x)->gR A/\∀x∈r,TN x
|0,_,_,_,_,_,_,h,_=>by cases h
|f+1,k,D,d,o,A,r,h,j=>by
 have n:=tD f;have e:∀{x:Token}{l:List Token},(∀y∈x::l,TN y)->∀y∈l,TN y:=λh y H=>h y (aaX _ H);unfold level at h;split at h
 .rw[adx]at h
  obtain⟨⟨B,s⟩,m,a⟩:=h;obtain⟨b,c⟩:=n 1 0 d o B s m j;dsimp only at a;split at a
  .split at a
   .rw[abP]at a
    obtain⟨⟨C,I⟩,q,t⟩:=a;obtain⟨u,v⟩:=n _ _ _ _ _ _ q (e c);cases t;exact⟨gR.app (A:=dual B) (B:=C) rfl b.dual u,v⟩
   .cases a
  .cases a
   exact⟨b,c⟩
 .split at h
  .rw[adx]at h
   obtain⟨⟨B,s⟩,m,a⟩:=h;obtain⟨b,c⟩:=n _ _ d o B s m j;dsimp only at a;split at a
   .split at a
    .split at a
     .rw[abP]at a
      obtain⟨⟨C,I⟩,q,t⟩:=a;obtain⟨u,v⟩:=n _ _ _ _ _ _ q (e c);cases t;exact⟨gR.app (Gj _ _ _) b u,v⟩
     .cases a
    .cases a
     exact⟨b,c⟩
   .cases a
    exact⟨b,c⟩
  .split at h
   .cases h
    refine⟨λx J=>?_,e j⟩;rcases abO.mp J with rfl;exact j _ aa0
   .have one:∀{g:Formula×List Token->Formula×List Token}{E:Nat},(∀B s,gR B->gR (g (B,s)).1/\(g (B,s)).2=s)->∀{l:List Token},(∀y∈l,TN y)->(level f E 0 (d+1) l).map g=some (A,r)->gR A/\∀x∈r,TN x:=by
     intro g E L l M h;rw[abP]at h;obtain⟨⟨B,s⟩,m,a⟩:=h;obtain⟨b,c⟩:=n _ _ _ _ _ _ m M;obtain⟨w,z⟩:=L B s b;rw[a]at w z;dsimp only at w z;rw[z];exact⟨w,c⟩
    split at h
    .split at h
     .exact one (λB s p=>⟨p.dual,rfl⟩) (e j) h
     .split at h
      .exact one (g:=λy=>(.ofc y.1,y.2)) (λB s p=>⟨p,rfl⟩) (e j) h
      .split at h
       .exact one (g:=λy=>(.whn y.1,y.2)) (λB s p=>⟨p,rfl⟩) (e j) h
       .split at h
        .rw[adx]at h
         obtain⟨⟨B,s⟩,m,a⟩:=h;obtain⟨b,c⟩:=n _ _ _ _ _ _ m (e j);dsimp only at a;split at a
         .cases a
          exact⟨b,e c⟩
         .cases a
        .cases h
    .cases h
   .cases h
def lE{t:Text}{A:Formula}(h:formulaOf t=some A):gR A:=by
 unfold formulaOf at h;split at h
 .cases h
 .rw[adx]at h
  obtain⟨d,b,a⟩:=h;have c:=qm _ _ _ b;unfold formulaIn at a;split at a
  .rename_i e
   cases a;exact(tD _ _ _ _ _ _ _ e c).1
  .cases a
def vA{a:Name}{G A:Formula}(g:gR G)(d:gR A):gR (fill a G A):=by
 unfold Vaneta.fill
 induction A with
 |atom n b=>
  unfold fillBy;by_cases h:b=a
  .rw[aaU h]
   cases n
   .exact g
   .exact g.dual
  .rw[aaz h];exact d
 |tensor A B e f=>exact gR.app rfl (e λx c=>d x (aa4.mpr (.inl c))) (f λx c=>d x (aa4.mpr (.inr c)))
 |par A B e f=>exact gR.app rfl (e λx c=>d x (aa4.mpr (.inl c))) (f λx c=>d x (aa4.mpr (.inr c)))
 |wth A B e f=>exact gR.app rfl (e λx c=>d x (aa4.mpr (.inl c))) (f λx c=>d x (aa4.mpr (.inr c)))
 |plus A B e f=>exact gR.app rfl (e λx c=>d x (aa4.mpr (.inl c))) (f λx c=>d x (aa4.mpr (.inr c)))
 |ofc A e=>exact e d
 |whn A e=>exact e d
def CG{o:Int}{A B:Formula}(a:gR A)(b:gR B):gR (built o A B):=by
 unfold built
 repeat' split
 all_goals first|exact gR.app rfl a b|exact a
end MR
namespace MR
open PySem PySem.SetTable PyProof.Rows PyProof.Rows.G
def kO{c j:Type}{f:c->j}{l m:List j}(h:l.Perm m):∀xs:List c,m=xs.map f->∃zs:List c,zs.Perm xs/\l=zs.map f:=by
 induction h with
 |nil=>
  intro xs e;have:xs=[]:=List.map_eq_nil_iff.mp e.symm;subst this;exact⟨[],agb _,rfl⟩
 |@cons x l m _ o=>
  intro xs e;cases xs with
  |nil=>cases e
  |cons a xs=>
   obtain⟨d,g⟩:=adR e;obtain⟨zs,p,q⟩:=o xs g;exact⟨a::zs,p.cons a,by rw[aaZ,<-d,q]⟩
 |@swap x y l=>
  intro xs e
  match xs,e with
  |[],e=>cases e
  |[a],e=>cases e
  |a::b::xs,e=>
   obtain⟨d,g⟩:=adR e;obtain⟨r,s⟩:=adR g;exact⟨b::a::xs,List.Perm.swap a b xs,by rw[aaZ,aaZ,<-d,<-r,<-s]⟩
 |trans _ _ k n=>
  intro xs e;obtain⟨zs,p,q⟩:=n xs e;obtain⟨ys,t,u⟩:=k zs q;exact⟨ys,t.trans p,u⟩
theorem uw:∀a b:List Int,lexLt itemOrd (a.map Sum.inl) (b.map Sum.inl)=rB a b
|[],[]=>rfl
|[],_::_=>rfl
|_::_,[]=>rfl
|x::a,y::b=>by
 rw[aaZ,aaZ,lex_cons,uw a b];show(decide (x<y)||(!decide (y<x)&&rB a b))=(decide (x<y)||(decide (x=y)&&rB a b));by_cases c:x<y
 .simp[c]
 .by_cases d:y<x
  .have:¬x=y:=by grind
   simp[c,d,this]
  .have:x=y:=by grind
   subst this;simp
def yu{a b:List Int}(h:rB b a=false)(c:a≠b):rB a b=true:=by
 cases q:rB a b with
 |true=>rfl
 |false=>
  rw[<-uw]at h q;have:=lex_total _ _ q h;exact absurd (List.map_inj_right (λ_ _ e=>ahw e) |>.mp this) c
section
variable{prog:Program}{w:World}{A:Around}{E:Value->Shared->Prop}{s:Shared}
def LK{ks:List Int}{vs:List Value}(a:ItemsAre (intKind prog w) ks vs):∀i,tupItems (λ_=>false) i vs=some (ks.map Sum.inl):=by
 induction a with
 |nil=>intro i;rfl
 |@cons k v ks vs b _ c=>
  intro i;have h':Value.isInt k v=true:=b;obtain⟨t,rfl⟩:=afs h';show(if(false:Bool)=true then none else(tupItems (λ_=>false) (i+1) vs).map (Sum.inl k::·))=_;rw[aaz (by decide),c];rfl
def Gk{h:Heap}{k:List Int}{b:Addr}(x:IsT prog w h k b):tupKeyC h (λ_=>false) (.ref b)=some (k.map Sum.inl):=by
 obtain⟨o,e,n,a,hc,c,d⟩:=x;exact tupKeyC_of a hc c (LK d 0)
def Wy{h:Heap}{k:List Int}{b:Addr}(x:IsT prog w h k b)(d:k≠[]):∃f,TupOf h (λ_=>false) (.ref b) f:=by
 obtain⟨o,a,n,e,hc,g,c⟩:=x;cases k with
 |nil=>exact absurd rfl d
 |cons i k=>
  generalize j:a.toList=vs at c;cases c with
  |@cons _ v _ vs l _=>
   have h':Value.isInt i v=true:=l;obtain⟨t,rfl⟩:=afs h';refine⟨.int i t,b,o,a,n,rfl,e,hc,g,?_,λ_=>⟨i,t,rfl⟩,λq=>by cases q⟩;rw[<-abf,j];rfl
theorem zX{h:Heap}:∀(zs:List (List Int×Addr)),(∀x∈zs,IsT prog w h x.1 x.2)->(∀x∈zs,x.1≠[])->∃a,TupsOf h (λ_=>false) (zs.map λx=>Value.ref x.2) a
|[],_,_=>⟨[],.nil⟩
|x::zs,c,d=>by
 obtain⟨f,g⟩:=Wy (c x aa0) (d x aa0);obtain⟨a,e⟩:=zX zs (λy b=>c y (aaX _ b)) (λy b=>d y (aaX _ b));exact⟨f::a,.cons g e⟩
def qp(vs:List Value):(pairsOf vs).toList=vs.map λv=>(v,v):=by
 rw[pairsOf_toList]
 induction vs with
 |nil=>rfl
 |cons a l b=>rw[aeL,b];rfl
def getD_map{ys:List (List Int×Addr)}{arr:Array Keyed}(b:arr.toList=ys.map λx=>(Value.ref x.2,Value.ref x.2)){h:Heap}(c:∀x∈ys,IsT prog w h x.1 x.2){i:Nat}{x:List Int×Addr}(a:ys[i]?=some x):
  KK (tupKindC h λ_=>false) arr i=x.1.map Sum.inl:=by
 unfold KK;have e:arr[i]?=some (Value.ref x.2,Value.ref x.2):=by rw[<-abf,b,abV,a];rfl
 rw[e];show((tupKeyC h (λ_=>false) (Value.ref x.2)).getD _)=_;rw[Gk (c x (aa6 a))];rfl
set_option maxHeartbeats 2000000 in
def Gm{S:Addr}{o:Obj}{l:Array (Int×Value)}{C:Nat}{t:SetTable}{xs:List (List Int×Addr)}{Q:Value->Shared->Prop}(hh:A.handled=none)(T:TSO w s.heap S o l C t)(L:l.toList=xs.map (ent prog w))
  (keys:∀x∈xs,IsT prog w s.heap x.1 x.2)(nd:(xs.map (·.1)).Nodup)(ne:∀x∈xs,x.1≠[])
  (h:∀(h':Heap)(tk:Nat)(p:Addr)(n:Nat)(ys:List (List Int×Addr)),s.heap.objs.size<=p->ys.Perm xs->(ys.map (·.1)).Pairwise (λa b=>rB a b=true)->h'.get? p=some {cls:=.type "list",data:=.seq (ys.map λx=>Value.ref x.2).toArray n}->
   (∀b o,s.heap.get? b=some o->h'.get? b=some o)->Q (.ref p) {s with heap:=h',toks:=tk}):
  wpAny (model prog w) A (call (.builtin "sorted") [.ref S]) Q E s:=by
 obtain⟨zs,k,ez⟩:=kO (f:=ent prog w) (Jm w S C l) xs L;have evs:(wk w S C l).toList.map (·.2)=zs.map λx=>Value.ref x.2:=by rw[ez,abL];rfl
 have hlen:zs.length<=8191:=by
  have c:=k.length_eq;have h2:=congrArg List.length L;rw[aac,abh]at h2;have:=T.tab.good.few;have:=T.tab.size;have:=T.low;grind
 have D:(zs.map λx=>Value.ref x.2).length<=sizeLine:=by rw[aac,aa1];grind
 refine aex kind_sorted plain_sorted entry_sorted (args_sorted1 _) ?_;unfold Builtin.«sorted»;refine pP (m:=checkCount "sorted" 1 1 _) (aaR ?_);refine pP (Ca (A:=A.in1) (by simp[hh]) T λc M k1 hz=>?_);rw[evs];refine pP (agw ?_ D);generalize z:(zs.map λx=>Value.ref x.2)=vs at D⊢;have B:(c.push (seqObj "list" vs.toArray 0)).get? c.objs.size=some (seqObj "list" vs.toArray 0):=abb _ rfl;have k2:∀b o,s.heap.get? b=some o->(c.push (seqObj "list" vs.toArray 0)).get? b=some o:=λb o e=>aaQ _ (k1 b o e);have y:∀x∈zs,IsT prog w (c.push (seqObj "list" vs.toArray 0)) x.1 x.2:=λx d=>(keys x (k.mem_iff.mp d)).keep' λo e=>k2 _ o e;obtain⟨fs,ht⟩:=zX zs y λx d=>ne x (k.mem_iff.mp d);rw[z]at ht;show wpAny _ _ _ _ _ {s with heap:=c.push (seqObj "list" vs.toArray 0),toks:=M};refine pP (acp (ade slot_list_sort ⟨_,B,rfl⟩ entry_list_sort (list_sort_tups (s:={s with heap:=c.push (seqObj "list" vs.toArray 0),toks:=M}) B ht (λv hv=>?_) D λN a1 a2 a3=>⟨_,rfl, ?ret⟩) (args_list_sort _)))
 .rw[<-z]at hv
  obtain⟨x,d,rfl⟩:=aa5.mp hv;exact⟨_,Gk (y x d)⟩
 case ret=>
  refine aaR ⟨_,rfl,?_⟩;have O:(arrOf N).toList.Perm ((pairsOf vs).toList):=a1.toList;have ep2:(pairsOf vs).toList=zs.map λx=>(Value.ref x.2,Value.ref x.2):=by rw[qp,<-z,abL];rfl
  obtain⟨ys,H,r⟩:=kO (f:=λx:List Int×Addr=>(Value.ref x.2,Value.ref x.2)) O zs ep2;have J:∀x∈ys,IsT prog w (c.push (seqObj "list" vs.toArray 0)) x.1 x.2:=λx d=>y x (H.mem_iff.mp d);have psz:(pairsOf vs).size=ys.length:=by
   rw[<-abh,<-O.length_eq,r,aac]
  have ndY:(ys.map (·.1)).Nodup:=by rw[((H.trans k).map (·.1)).nodup_iff];exact nd
  have Wz:(arrOf N).map (·.2)=(ys.map λx=>Value.ref x.2).toArray:=by
   apply afH.mp;rw[agL,r,abL];rfl
  rw[Wz];have zY:(ys.map (·.1)).Pairwise (λa b=>rB a b=true):=by
   rw[adL];intro i j I u U;rw[aac]at I u;have e1:ys[i]?=some ys[i]:=aa3 I;have e2:ys[j]?=some ys[j]:=aa3 u;have g:=a2 i j (ad8 U) (by rw[psz];exact u);rw[getD_map r J e1,getD_map r J e2]at g;have g:lexLt itemOrd (ys[j].1.map Sum.inl) (ys[i].1.map Sum.inl)=false:=g;rw[uw]at g;rw[ad4,ad4];refine yu g λq=>?_;have:=adL.mp ndY i j (by rw[aac];exact I) (by rw[aac];exact u) U;rw[ad4,ad4]at this;exact this q
  have g1:=abN (Obj.mapSeq λ_=>(#[]:Array Value)) B rfl;have g2:=aaQ (seqObj "list" #[] 0) (aaQ (seqObj "tuple" vs.toArray 0) g1);have g3:=abN (Obj.mapSeq λ_=>(ys.map λx=>Value.ref x.2).toArray) g2 rfl;refine h _ _ c.objs.size _ ys hz (H.trans k) zY g3 λb o' e=>?_;have hb:b<c.objs.size:=aa_ (k1 b o' e);have Y:c.objs.size≠b:=adI hb;unfold sortedHeap;rw[ac5 _ _ Y];refine aaQ _ (aaQ _ ?_);rw[ac5 _ _ Y];exact k2 b o' e
end
end MR
namespace MR
open PySem
section
variable{prog:Program}{w:World}{L:Type}[DecidableEq L]{kd:HeapKind prog w L}{A:Around}{E:Value->Shared->Prop}{s:Shared}
def t_{d a:Addr}{xs:List (L×Addr×Value)}{k:L}{g:Value}{Q:Value->Shared->Prop}(m:kd.room A)(f:kd.is s.heap k a)(B:s.heap.DictOfH kd d xs)(hsz:xs.length<sizeLine)
  (C:∀p,atKey xs k=some p->Q p.2 {s with toks:=s.toks+kd.draws k})
  (D:atKey xs k=none->∀h',h'.DictOfH kd d (xs++[(k,a,g)])->Heap.SameBut d s.heap h'->Q g {s with heap:=h',toks:=s.toks+kd.draws k}):
  wpAny (model prog w) A (dictSetDefault d (.ref a) g) Q E s:=by
 obtain⟨o,I,H,e,ex,b,en,n,l⟩:=B;unfold dictSetDefault
 try with_reducible refine acp ?_
 refine pP (kd.pyHash m f ?_);refine pP (wpAny_dictFind_heap (s:={s with toks:=s.toks+kd.draws k}) m f e b en n l ?_ ?_)
 .intro r
  have z:k∉xs.map (·.1):=not_mem_keys_of_get r;have v:=atKey_none_of_get r;have J:=ag8 en;refine pP (afG (pP (wpAny_updateDictKeys (hz:=by grind) (s:={s with toks:=s.toks+kd.draws k}) e b (aaR (D v _ ⟨_,_,H+1,abN _ e (Obj.isFreed_of_dict (Obj.data_mapDictKeys b _)),ex.mapDictKeys _,Obj.data_mapDictKeys b _,?_,?_,?_⟩ (adE ..))))))
  .simp[en,entryOfKey]
  .intro x c
   rcases aa4.mp c with c|c
   .exact kd.keeps (n x c) e b (adE ..)
   .rcases abO.mp c with rfl
    exact kd.keeps f e b (adE ..)
  .rw[aaY,agp]
   refine⟨l,by simp,λx c y t=>?_⟩;simp only[aaZ,ah3,abO]at t;subst t;exact λq=>z (q▸c)
 .intro j p u
  refine pP (aeY (s:={s with toks:=s.toks+kd.draws k}) e b ?_);rw[entry_at en j,u];exact pP (afG (aaR (C p (atKey_of_get l u))))
def rC{d a:Addr}(b:Value)(l:(d==sysModules)=false):
  MeetsIn prog w (Builtin.«dict.setdefault» ⟨[.ref d,.ref a,b],[]⟩) (λA R s=>kd.room A.in1/\∃k xs,kd.is s.heap k a/\s.heap.DictOfH kd d xs/\xs.length<sizeLine/\
   (∀p,atKey xs k=some p->R (.ok (.ret p.2)) {s with toks:=s.toks+kd.draws k})/\
   (atKey xs k=none->∀h',h'.DictOfH kd d (xs++[(k,a,b)])->Heap.SameBut d s.heap h'->R (.ok (.ret b)) {s with heap:=h',toks:=s.toks+kd.draws k})):=.of_wp λA R s ⟨e,k,xs,f,c,hsz,m,n⟩=>by
  unfold Builtin.«dict.setdefault»;refine pP ?_;unfold Builtin.Dict.keyAndDefault;refine pP (wpAny_notOrdered_dict c.typeIs ?_);show wpAny _ _ (pure (d,Value.ref a,some b)) _ _ s;refine aaR ?_;show wpAny _ _ (if(d==sysModules)=true then _ else(dictSetDefault d (.ref a) b>>=_)) _ _ s;rw[aaz (by rw[l];exact aaT)];exact pP (t_ e f c hsz (λp o=>aaR ⟨p.2,rfl,m p o⟩) λq h' g j=>aaR ⟨b,rfl,n q h' g j⟩)
end
abbrev iK(h:Heap)(a c d T:Addr)(b:Bool):Prop:=h.get? a=some ⟨.type "zip",none,.fields #[rawInt T,.bool b,.bool false,.ref c,.ref d],#[]⟩
section
variable{prog:Program}{w:World}{A:Around}{E:Value->Shared->Prop}{s:Shared}
def O8{a:Addr}{o:Obj}{Q:Option Obj->Shared->Prop}(b:s.heap.get? a=some o)(h:Q (some o) s):wpAny (model prog w) A (loadIfAlive a) Q E s:=by
 have e:Q (s.heap.get? a) s:=by rw[b];exact h
 exact λ_ _ _=>e
def oH{c e f T:Addr}{b:Bool}{g:Obj}{Q:Bool->Shared->Prop}(d:iK s.heap c e f T b)(m:s.heap.get? T=some g)
  (j:∀h',iK h' c e f T true->Heap.SameBut c s.heap h'->Q false {s with heap:=h'}):wpAny (model prog w) A (Builtin.SmallTypes.ownedTupleIsFree (.ref c)) Q E s:=by
 unfold Builtin.SmallTypes.ownedTupleIsFree;refine pP (adv d rfl (x:=rawInt T) rfl ?_);unfold rawInt;dsimp only;refine pP (O8 (a:=(T:Int).toNat) (o:=g) (by simpa using m) ?_);simp only[Option.isNone_some,aa7,acd];refine pP (adv d rfl (x:=.bool b) rfl ?_);cases b with
 |true=>
  have:((Value.bool true != Value.bool true)=true)=False:=by simp
  simp only[this,acd];exact aaR (j _ d (Heap.SameBut.refl _ _))
 |false=>
  have:((Value.bool false != Value.bool true)=true)=True:=by simp
  simp only[this,adX];refine pP (adg d (by simp) λh' k l=>?_);exact aaR (j h' k l)
def LQ{a:Addr}{Q:Option Obj->Shared->Prop}(b:s.heap.get? a=none)(h:Q none s):wpAny (model prog w) A (loadIfAlive a) Q E s:=by
 have e:Q (s.heap.get? a) s:=by rw[b];exact h
 exact λ_ _ _=>e
abbrev vB(h:Heap)(a b c:Addr)(d e:Value):Prop:=h.get? a=some ⟨.type "zip",none,.fields #[d,e,.bool false,.ref b,.ref c],#[]⟩
def Jt{c e f:Addr}{b g:Value}{Q:Bool->Shared->Prop}(j:vB s.heap c e f b g)(k:b=.none\/∃T:Addr,b=rawInt T/\s.heap.get? T=none)(d:Q true s):
  wpAny (model prog w) A (Builtin.SmallTypes.ownedTupleIsFree (.ref c)) Q E s:=by
 unfold Builtin.SmallTypes.ownedTupleIsFree;refine pP (adv j rfl (x:=b) rfl ?_);rcases k with rfl|⟨T,rfl,l⟩
 .exact aaR d
 .unfold rawInt
  dsimp only;refine pP (LQ (a:=(T:Int).toNat) (by simpa using l) ?_);simp only[Option.isNone_none,adX];exact aaR d
def xK{d g e j k l1 l2:Addr}{f0 z:Value}{I J:Nat}{xs ys:Array Value}{x y a b:Value}{Q:Value->Shared->Prop}(D:ZipApart d g e j k l1 l2)
  (B:vB s.heap d g e f0 z)(hf:f0=.none\/∃T:Addr,f0=rawInt T/\s.heap.get? T=none)(hti:IsPair s.heap g (.ref j) (.ref k))(hto:IsPair s.heap e a b)
  (h1:s.heap.IsListIter j l1 I)(h2:s.heap.IsListIter k l2 J)(hl1:s.heap.IsList l1 xs)(hl2:s.heap.IsList l2 ys)(hx:xs[I]?=some x)(hy:ys[J]?=some y)
  (hQ:∀h',iK h' d g e s.heap.objs.size false->IsPair h' e x y->h'.IsListIter j l1 (I+1)->h'.IsListIter k l2 (J+1)->IsPair h' s.heap.objs.size x y->h'.objs.size=s.heap.objs.size+1->
   (∀c o,c≠d->c≠e->c≠j->c≠k->s.heap.get? c=some o->h'.get? c=some o)->Q (.ref s.heap.objs.size) {s with heap:=h'}):
  wpAny (model prog w) A (Builtin.«zip.__next__» ⟨[.ref d],[]⟩) (λfin s'=>∃v,fin=.done (.ret v)/\Q v s') E s:=by
 show wpAny _ _ (field (.ref d) 2>>=_) _ _ _;refine pP (adv B rfl (x:=.bool false) rfl ?_);show wpAny _ _ (field (.ref d) 3>>=_) _ _ _;refine pP (adv B rfl (x:=.ref g) rfl ?_);refine pP (adZ hti rfl ?_);show wpAny _ _ (Builtin.SmallTypes.ownedTupleIsFree (.ref d)>>=_) _ _ _;refine pP (Jt B hf ?_);simp only[adX];refine pP (afG ?_);refine pP (adv B rfl (x:=.ref e) rfl ?_);refine pP (adg B (by simp) λg₁ N l=>?_)
 replace N:vB g₁ d g e .ellipsis z:=N
 refine pP ?_;simp only[afI,ag9,afe,ae2];refine pP (pP (agx ?_));show wpAny _ _ (Builtin.SmallTypes.nextOf (.ref j)>>=_) _ _ _;refine pP (ad1 (h1.extBut l.extBut D.i1z) (hl1.extBut l.extBut D.l1z) hx λg₂ h1₂ n=>aaR ?_);have ht₂:IsPair g₂ e a b:=n.extBut _ _ D.TOi1 (l.extBut _ _ D.TOz hto);refine pP (adZ ht₂ rfl ?_);refine pP (afO ht₂ λg₃ O p=>?_)
 replace O:IsPair g₃ e x b:=O
 refine pP (agq (aaR ?_));refine pP (pP (agx ?_));show wpAny _ _ (Builtin.SmallTypes.nextOf (.ref k)>>=_) _ _ _;refine pP (ad1 (((h2.extBut l.extBut D.i2z).extBut n.extBut D.i12.symm).extBut p.extBut D.TOi2.symm) (((hl2.extBut l.extBut D.l2z).extBut n.extBut D.l2i1).extBut p.extBut D.l2TO) hy λg₄ h2₄ r=>aaR ?_);have ht₄:IsPair g₄ e x b:=r.extBut _ _ D.TOi2 O;refine pP (adZ ht₄ rfl ?_);refine pP (afO ht₄ λf C t=>?_)
 replace C:IsPair f e x y:=C
 refine pP (agq (aaR (aaR ?_)));refine pP (adZ C rfl ?_);refine pP (agd ?_);have hsz:f.objs.size=s.heap.objs.size:=by rw[t.1,r.1,p.1,n.1,l.1]
 have zh₅:vB f d g e .ellipsis z:=t.extBut _ _ D.TOz.symm (r.extBut _ _ D.i2z.symm (p.extBut _ _ D.TOz.symm (n.extBut _ _ D.i1z.symm N)));have kp₅:∀c o,c≠d->c≠e->c≠j->c≠k->s.heap.get? c=some o->f.get? c=some o:=λc o m L c3 c4 q=>
  t.extBut _ _ L (r.extBut _ _ c4 (p.extBut _ _ L (n.extBut _ _ c3 (l.extBut _ _ m q))))
 have n1₅:f.IsListIter j l1 (I+1):=((h1₂.extBut p.extBut D.TOi1.symm).extBut r.extBut D.i12).extBut t.extBut D.TOi1.symm;have n2₅:f.IsListIter k l2 (J+1):=h2₄.extBut t.extBut D.TOi2.symm;have zlt:d<f.objs.size:=aa_ zh₅;show wpAny _ _ (Builtin.SmallTypes.ownedTupleHandOut (.ref d) (.ref f.objs.size)>>=_) _ _ _;refine pP ?_;unfold Builtin.SmallTypes.ownedTupleHandOut;have zh₆:vB (f.push {cls:=.type "tuple",data:=.seq #[x,y]}) d g e .ellipsis z:=aaQ _ zh₅;refine pP (adg zh₆ (by simp) λg₇ U Y=>?_)
 replace U:vB g₇ d g e (rawInt f.objs.size) z:=U
 refine adg U (by simp) λu H hs₈=>?_
 replace H:iK u d g e f.objs.size false:=H
 have M:∀c o,c≠d->f.get? c=some o->u.get? c=some o:=λc o m q=>hs₈.extBut _ _ m (Y.extBut _ _ m (aaQ _ q));have tt₈:IsPair u f.objs.size x y:=hs₈.extBut _ _ (adI zlt) (Y.extBut _ _ (adI zlt) (abb _ rfl));have sz8:u.objs.size=f.objs.size+1:=by rw[hs₈.1,Y.1,ab6]
 rw[hsz]at H tt₈ sz8;refine aaR ⟨_,rfl,?_⟩;show Q (.ref f.objs.size) _;rw[hsz];exact hQ u H (M _ _ D.TOz C) (n1₅.at λo q=>M _ o D.i1z q) (n2₅.at λo q=>M _ o D.i2z q) tt₈ sz8 λc o m L c3 c4 q=>M c o m (kp₅ c o m L c3 c4 q)
def qu{d m g n p l1 l2:Addr}{C y:Value}{H I:Nat}{xs ys:Array Value}{a b:Value}{Q:Fin->Shared->Prop}(hh:A.handled=none)(D:ZipApart d m g n p l1 l2)
  (t:vB s.heap d m g C y)(hf:C=.none\/∃T:Addr,C=rawInt T/\s.heap.get? T=none)(hti:IsPair s.heap m (.ref n) (.ref p))(hto:IsPair s.heap g a b)
  (h1:s.heap.IsListIter n l1 H)(h2:s.heap.IsListIter p l2 I)(hl1:s.heap.IsList l1 xs)(hl2:s.heap.IsList l2 ys)(hend:xs[H]?=none\/ys[I]?=none)
  (hE:∀h' e,(∀c o,c≠d->c≠g->c≠n->c≠p->s.heap.get? c=some o->h'.get? c=some o)->(∃o,h'.get? e=some o/\o.cls=.type "StopIteration")->E (.ref e) {s with heap:=h'}):
  wpAny (model prog w) A (Builtin.«zip.__next__» ⟨[.ref d],[]⟩) Q E s:=by
 show wpAny _ _ (field (.ref d) 2>>=_) _ _ _;refine pP (adv t rfl (x:=.bool false) rfl ?_);show wpAny _ _ (field (.ref d) 3>>=_) _ _ _;refine pP (adv t rfl (x:=.ref m) rfl ?_);refine pP (adZ hti rfl ?_);show wpAny _ _ (Builtin.SmallTypes.ownedTupleIsFree (.ref d)>>=_) _ _ _;refine pP (Jt t hf ?_);simp only[adX];refine pP (afG ?_);refine pP (adv t rfl (x:=.ref g) rfl ?_);refine pP (adg t (by simp) λg₁ v f=>?_)
 replace v:vB g₁ d m g .ellipsis y:=v
 refine pP ?_;simp only[afI,ag9,afe,ae2];refine pP (pP (agx ?_));show wpAny _ _ (Builtin.SmallTypes.nextOf (.ref n)>>=_) _ _ _;cases hx:xs[H]? with
 |none=>
  refine pP (aeP hh (h1.extBut f.extBut D.i1z) (hl1.extBut f.extBut D.l1z) hx λz e j J=>?_);obtain⟨L,l,r⟩:=J;have N:vB z d m g .ellipsis y:=j _ _ D.i1z.symm v;have B:e≠d:=λq=>by subst q;rw[N]at l;cases l;simp at r
  exact adg N (by simp) λg₃ _ k=>hE g₃ e (λc o u _ M _ q=>k.extBut _ _ u (j _ _ M (f.extBut _ _ u q))) ⟨L,k.extBut _ _ B l,r⟩
 |some x=>
  have hy:ys[I]?=none:=by
   rcases hend with h|h
   .rw[hx]at h;cases h
   .exact h
  refine pP (ad1 (h1.extBut f.extBut D.i1z) (hl1.extBut f.extBut D.l1z) hx λz h1₂ j=>aaR ?_);have O:IsPair z g a b:=j.extBut _ _ D.TOi1 (f.extBut _ _ D.TOz hto);refine pP (adZ O rfl ?_);refine pP (afO O λg₃ ht₃ k=>?_);refine pP (agq (aaR ?_));refine pP (pP (agx ?_));show wpAny _ _ (Builtin.SmallTypes.nextOf (.ref p)>>=_) _ _ _;refine pP (aeP hh (((h2.extBut f.extBut D.i2z).extBut j.extBut D.i12.symm).extBut k.extBut D.TOi2.symm) (((hl2.extBut f.extBut D.l2z).extBut j.extBut D.l2i1).extBut k.extBut D.l2TO) hy λg₄ e U J=>?_);obtain⟨L,l,r⟩:=J;have Y:vB g₄ d m g .ellipsis y:=U _ _ D.i2z.symm (k.extBut _ _ D.TOz.symm (j.extBut _ _ D.i1z.symm v));have B:e≠d:=λq=>by subst q;rw[Y]at l;cases l;simp at r
  exact adg Y (by simp) λg₅ _ hs₅=>hE g₅ e (λc o u c2 M c4 q=>hs₅.extBut _ _ u (U _ _ c4 (k.extBut _ _ c2 (j.extBut _ _ M (f.extBut _ _ u q))))) ⟨L,hs₅.extBut _ _ B l,r⟩
def xM{a j n T d f l1 l2:Addr}{b:Bool}{U:Obj}{p q:Nat}{xs ys:Array Value}{x y:Value}{Q:Value->Shared->Prop}(D:ZipApart a j n d f l1 l2)(r:iK s.heap a j n T b)(Y:s.heap.get? T=some U)
  (M:IsPair s.heap j (.ref d) (.ref f))(h1:s.heap.IsListIter d l1 p)(h2:s.heap.IsListIter f l2 q)(N:s.heap.IsList l1 xs)(O:s.heap.IsList l2 ys)(hx:xs[p]?=some x)(hy:ys[q]?=some y)
  (hQ:∀h',iK h' a j n T true->h'.IsListIter d l1 (p+1)->h'.IsListIter f l2 (q+1)->IsPair h' s.heap.objs.size x y->h'.objs.size=s.heap.objs.size+1->
   (∀c o,c≠a->c≠d->c≠f->s.heap.get? c=some o->h'.get? c=some o)->Q (.ref s.heap.objs.size) {s with heap:=h'}):
  wpAny (model prog w) A (Builtin.«zip.__next__» ⟨[.ref a],[]⟩) (λfin s'=>∃v,fin=.done (.ret v)/\Q v s') E s:=by
 show wpAny _ _ (field (.ref a) 2>>=_) _ _ _;refine pP (adv r rfl (x:=.bool false) rfl ?_);show wpAny _ _ (field (.ref a) 3>>=_) _ _ _;refine pP (adv r rfl (x:=.ref j) rfl ?_);refine pP (adZ M rfl ?_);show wpAny _ _ (Builtin.SmallTypes.ownedTupleIsFree (.ref a)>>=_) _ _ _;refine pP (oH r Y λh₁ B g=>?_);simp only[aa7,acd];rw[<-afj];simp only[afe,ae2];refine pP (pP (pP (acp ?_)));show wpAny _ _ (Builtin.SmallTypes.nextOf (.ref d)>>=_) _ _ _;refine pP (ad1 (h1.extBut g.extBut D.i1z) (N.extBut g.extBut D.l1z) hx λh₂ C k=>aaR ?_);refine aaR ?_;refine pP (pP (acp ?_));show wpAny _ _ (Builtin.SmallTypes.nextOf (.ref f)>>=_) _ _ _;refine pP (ad1 ((h2.extBut g.extBut D.i2z).extBut k.extBut D.i12.symm) ((O.extBut g.extBut D.l2z).extBut k.extBut D.l2i1) hy λl H m=>aaR ?_);refine aaR (aaR ?_);have hsz:l.objs.size=s.heap.objs.size:=by rw[m.1,k.1,g.1]
 have I:iK l a j n T true:=m.extBut _ _ D.i2z.symm (k.extBut _ _ D.i1z.symm B);have J:∀c o,c≠a->c≠d->c≠f->s.heap.get? c=some o->l.get? c=some o:=λc o t u z e=>m.extBut _ _ z (k.extBut _ _ u (g.extBut _ _ t e));have L:l.IsListIter d l1 (p+1):=C.extBut m.extBut D.i12;show wpAny _ _ (newTuple [x,y]>>=_) _ _ _;refine pP (agd ?_);refine aaR ⟨_,rfl,?_⟩;show Q (.ref l.objs.size) _;rw[hsz];refine hQ _ (aaQ _ I) (L.at λo e=>aaQ _ e) (H.at λo e=>aaQ _ e) ?_ ?_ λc o t u z e=>aaQ _ (J c o t u z e)
 .rw[<-hsz];exact abb _ rfl
 .rw[ab6,hsz]
def zZ{d k y T g j l1 l2:Addr}{b:Bool}{O:Obj}{l m:Nat}{xs ys:Array Value}{Q:Fin->Shared->Prop}(z:A.handled=none)(D:ZipApart d k y g j l1 l2)(n:iK s.heap d k y T b)(U:s.heap.get? T=some O)
  (M:IsPair s.heap k (.ref g) (.ref j))(B:s.heap.IsListIter g l1 l)(Y:s.heap.IsListIter j l2 m)(v:s.heap.IsList l1 xs)(N:s.heap.IsList l2 ys)(J:xs[l]?=none\/ys[m]?=none)
  (C:∀h' e,(∀c o,c≠d->c≠g->c≠j->s.heap.get? c=some o->h'.get? c=some o)->(∃o,h'.get? e=some o/\o.cls=.type "StopIteration")->E (.ref e) {s with heap:=h'}):
  wpAny (model prog w) A (Builtin.«zip.__next__» ⟨[.ref d],[]⟩) Q E s:=by
 show wpAny _ _ (field (.ref d) 2>>=_) _ _ _;refine pP (adv n rfl (x:=.bool false) rfl ?_);show wpAny _ _ (field (.ref d) 3>>=_) _ _ _;refine pP (adv n rfl (x:=.ref k) rfl ?_);refine pP (adZ M rfl ?_);show wpAny _ _ (Builtin.SmallTypes.ownedTupleIsFree (.ref d)>>=_) _ _ _;refine pP (oH n U λh₁ zh₁ a=>?_);simp only[aa7,acd];rw[<-afj];simp only[afe,ae2];refine pP (pP (pP (acp ?_)));show wpAny _ _ (Builtin.SmallTypes.nextOf (.ref g)>>=_) _ _ _;cases hx:xs[l]? with
 |none=>
  exact pP (aeP z (B.extBut a.extBut D.i1z) (v.extBut a.extBut D.l1z) hx λu e f p=>C u e (λc o r t H q=>f _ _ t (a.extBut _ _ r q)) p)
 |some x=>
  have hy:ys[m]?=none:=by
   rcases J with h|h
   .rw[hx]at h;cases h
   .exact h
  refine pP (ad1 (B.extBut a.extBut D.i1z) (v.extBut a.extBut D.l1z) hx λu h1₂ f=>aaR ?_);refine aaR ?_;refine pP (pP (acp ?_));show wpAny _ _ (Builtin.SmallTypes.nextOf (.ref j)>>=_) _ _ _;exact pP (aeP z ((Y.extBut a.extBut D.i2z).extBut f.extBut D.i12.symm) ((N.extBut a.extBut D.l2z).extBut f.extBut D.l2i1) hy λL e I p=>C L e (λc o r t H q=>I _ _ H (f.extBut _ _ t (a.extBut _ _ r q))) p)
def Oc(h:Heap)(g c d e f l1 l2:Addr)(i:Nat):Prop:=(IsZip h g c d .none\/∃(T:Addr)(b:Bool),iK h g c d T b)/\IsPair h c (.ref e) (.ref f)/\(∃a b,IsPair h d a b)/\h.IsListIter e l1 i/\h.IsListIter f l2 i
def O9{d p k l m l1 l2:Addr}{i:Nat}{xs ys:Array Value}{x y:Value}{Q:Value->Shared->Prop}(D:ZipApart d p k l m l1 l2)(Z:Oc s.heap d p k l m l1 l2 i)
  (H:s.heap.IsList l1 xs)(I:s.heap.IsList l2 ys)(L:xs[i]?=some x)(M:ys[i]?=some y)
  (N:∀h',Oc h' d p k l m l1 l2 (i+1)->IsPair h' s.heap.objs.size x y->h'.objs.size=s.heap.objs.size+1->
   (∀c o,c≠d->c≠k->c≠l->c≠m->s.heap.get? c=some o->h'.get? c=some o)->Q (.ref s.heap.objs.size) {s with heap:=h'}):
  wpAny (model prog w) A (Builtin.SmallTypes.nextOf (.ref d)) Q E s:=by
 obtain⟨hz,n,⟨a,b,J⟩,O,U⟩:=Z;have Y:s.TypeIs (.ref d) "zip":=by
  rcases hz with hz|⟨T,b,hz⟩
  .exact⟨_,hz,rfl⟩
  .exact⟨_,hz,rfl⟩
 unfold Builtin.SmallTypes.nextOf;refine pP (adh (name:=Str.ofString "__next__") Y afW (ade afW Y F.entry_zip_next ?_ (F.args_zip_next_1 _)));have free:∀{r f1:Value},vB s.heap d p k r f1->(r=.none\/∃T:Addr,r=rawInt T/\s.heap.get? T=none)->wpAny (model prog w) A.in1 (Builtin.«zip.__next__» ⟨[.ref d],[]⟩) (λfin g=>∃v,fin=.done (.ret v)/\Q v g) E s:=λhz hf=>
  xK D hz hf n J O U H I L M λh' t a2 u z B C j=>N h' ⟨.inr ⟨_,_,t⟩,j _ _ D.TIz D.TITO D.TIi1 D.TIi2 n,⟨_,_,a2⟩,u,z⟩ B C j
 have fin:=λ(fin:Fin)(g:Shared)(h:∃v,fin=.done (.ret v)/\Q v g)=>h;rcases hz with hz|⟨T,b,hz⟩
 .refine adM (free hz (.inl rfl)) ?_ λ_ _ e=>e
  rintro f g ⟨v,rfl,q⟩;exact⟨v,rfl,aaR q⟩
 .cases e:s.heap.get? T with
  |none=>
   refine adM (free hz (.inr ⟨T,rfl,e⟩)) ?_ λ_ _ e=>e;rintro f g ⟨v,rfl,q⟩;exact⟨v,rfl,aaR q⟩
  |some oT=>
   refine adM (xM D hz e n O U H I L M (Q:=Q) λh' t u z B C j=>N h' ⟨.inr ⟨_,_,t⟩,j _ _ D.TIz D.TIi1 D.TIi2 n,⟨_,_,j _ _ D.TOz D.TOi1 D.TOi2 J⟩,u,z⟩ B C λc o c1 _ c3 c4 q=>j c o c1 c3 c4 q) ?_ λ_ _ e=>e;rintro f g ⟨v,rfl,q⟩;exact⟨v,rfl,aaR q⟩
def O_{d x n g j l1 l2:Addr}{i:Nat}{xs ys:Array Value}{Q:Value->Shared->Prop}(p:A.handled=none)(D:ZipApart d x n g j l1 l2)(Z:Oc s.heap d x n g j l1 l2 i)
  (k:s.heap.IsList l1 xs)(l:s.heap.IsList l2 ys)(f:xs[i]?=none\/ys[i]?=none)
  (r:∀h' e,(∀c o,c≠d->c≠n->c≠g->c≠j->s.heap.get? c=some o->h'.get? c=some o)->(∃o,h'.get? e=some o/\o.cls=.type "StopIteration")->E (.ref e) {s with heap:=h'}):
  wpAny (model prog w) A (Builtin.SmallTypes.nextOf (.ref d)) Q E s:=by
 obtain⟨hz,m,⟨a,b,v⟩,t,u⟩:=Z;have y:s.TypeIs (.ref d) "zip":=by
  rcases hz with hz|⟨T,b,hz⟩
  .exact⟨_,hz,rfl⟩
  .exact⟨_,hz,rfl⟩
 unfold Builtin.SmallTypes.nextOf;refine pP (adh (name:=Str.ofString "__next__") y afW (ade afW y F.entry_zip_next ?_ (F.args_zip_next_1 _)));rcases hz with hz|⟨T,b,hz⟩
 .exact qu (by simp[p]) D hz (.inl rfl) m v t u k l f r
 .cases e:s.heap.get? T with
  |none=>exact qu (by simp[p]) D hz (.inr ⟨T,rfl,e⟩) m v t u k l f r
  |some J=>exact zZ (by simp[p]) D hz e m t u k l f λh' e z B=>r h' e (λc o C _ H I q=>z c o C H I q) B
end
section
variable{prog:Program}{w:World}{A:Around}{E:Value->Shared->Prop}{s:Shared}
theorem Oc.at{h h':Heap}{c f g d e l1 l2:Addr}{i:Nat}(Z:Oc h c f g d e l1 l2 i)(k:∀b∈[c,f,g,d,e],∀o,h.get? b=some o->h'.get? b=some o):Oc h' c f g d e l1 l2 i:=by
 obtain⟨hz,j,⟨a,b,l⟩,m,n⟩:=Z;refine⟨?_,k f (by simp) _ j,⟨a,b,k g (by simp) _ l⟩,m.at λo q=>k d (by simp) o q,n.at λo q=>k e (by simp) o q⟩;rcases hz with hz|⟨T,b,hz⟩
 .exact .inl (k c (by simp) _ hz)
 .exact .inr ⟨T,b,k c (by simp) _ hz⟩
def xO{e d N n k l l1 l2:Addr}{i:Nat}{xs ys:Array Value}{x y m:Value}{Q:Value->Shared->Prop}(D:ZipApart d N n k l l1 l2)(hef:e∉[d,N,n,k,l])(O:IsEnum s.heap e d i m)
  (Z:Oc s.heap d N n k l l1 l2 i)(hl1:s.heap.IsList l1 xs)(hl2:s.heap.IsList l2 ys)(hx:xs[i]?=some x)(hy:ys[i]?=some y)
  (hQ:∀h' tk,IsEnumOut h' e d ((i:Int)+1) (.ref s.heap.objs.size) (s.heap.objs.size+1)->Oc h' d N n k l l1 l2 (i+1)->IsPair h' s.heap.objs.size x y->
   h'.get? (s.heap.objs.size+1)=some ⟨.type "tuple",none,.seq #[.int i tk,.ref s.heap.objs.size] 0,#[]⟩->h'.objs.size=s.heap.objs.size+2->
   (∀c o,c≠e->c≠d->c≠n->c≠k->c≠l->s.heap.get? c=some o->h'.get? c=some o)->Q (.ref (s.heap.objs.size+1)) {s with heap:=h',toks:=tk+1}):
  wpAny (model prog w) A (Builtin.«enumerate.__next__» ⟨[.ref e],[]⟩) (λfin s'=>∃v,fin=.done (.ret v)/\Q v s') E s:=by
 obtain⟨a,j,ds,tk,os⟩:=s;simp only[aa2,adU,afM,ahO]at hef;obtain⟨ez,eti,eto,e1,e2⟩:=hef;show wpAny _ _ (field (.ref e) 2>>=_) _ _ _;refine pP (adv O rfl (x:=.ref d) rfl ?_);refine pP (O9 D Z hl1 hl2 hx hy λf Z₁ P₁ T p=>?_)
 replace T:f.objs.size=a.objs.size+1:=T
 replace P₁:IsPair f a.objs.size x y:=P₁
 replace p:∀c o,c≠d->c≠n->c≠k->c≠l->a.get? c=some o->f.get? c=some o:=p
 have U:IsEnum f e d i m:=p _ _ ez eto e1 e2 O;have eT:a.objs.size≠e:=adI (aa_ O);show wpAny _ _ (field (.ref e) 3>>=_) _ _ ⟨f,j,ds,tk,os⟩;refine pP (adv U rfl (x:=rawInt i) rfl ?_);show wpAny _ _ (field (.ref e) 4>>=_) _ _ ⟨f,j,ds,tk,os⟩;refine pP (adv U rfl (x:=.none) rfl ?_);show wpAny _ _ (mkInt i>>=_) _ _ ⟨f,j,ds,tk,os⟩;refine pP (wpAny_mkInt ?_);show wpAny _ _ (setField (.ref e) 3 (rawInt ((i:Int)+1))>>=_) _ _ ⟨f,j,ds,tk+1,os⟩;refine pP (adg U (by simp) λJ Y r=>?_)
 replace r:Heap.SameBut e f J:=r
 replace Y:IsEnum J e d ((i:Int)+1) m:=Y
 show wpAny _ _ (setField (.ref e) 4 .none>>=_) _ _ ⟨J,j,ds,tk+1,os⟩;refine pP (adg Y (by simp) λg he₃ t=>?_)
 replace t:Heap.SameBut e J g:=t
 replace he₃:IsEnum g e d ((i:Int)+1) m:=he₃
 show wpAny _ _ (newTuple [.int i tk,.ref a.objs.size]>>=_) _ _ ⟨g,j,ds,tk+1,os⟩;refine pP (agd ?_);have sz₃:g.objs.size=a.objs.size+1:=by rw[t.1,r.1,T]
 have u:IsEnum (g.push ⟨.type "tuple",none,.seq #[.int i tk,.ref a.objs.size] 0,#[]⟩) e d ((i:Int)+1) m:=aaQ _ he₃;have z:∀c o,c≠e->f.get? c=some o->(g.push ⟨.type "tuple",none,.seq #[.int i tk,.ref a.objs.size] 0,#[]⟩).get? c=some o:=λc o hc q=>aaQ _ (t.extBut _ _ hc (r.extBut _ _ hc q));have ht₄:(g.push ⟨.type "tuple",none,.seq #[.int i tk,.ref a.objs.size] 0,#[]⟩:Heap).get? (a.objs.size+1)=some ⟨.type "tuple",none,.seq #[.int i tk,.ref a.objs.size] 0,#[]⟩:=by rw[<-sz₃];exact abb _ rfl
 have sz₄:(g.push ⟨.type "tuple",none,.seq #[.int i tk,.ref a.objs.size] 0,#[]⟩:Heap).objs.size=a.objs.size+2:=by rw[ab6,sz₃]
 show wpAny _ _ (Builtin.SmallTypes.ownedTupleIsFree (.ref e)>>=_) _ _ ⟨g.push ⟨.type "tuple",none,.seq #[.int i tk,.ref a.objs.size] 0,#[]⟩,j,ds,tk+1,os⟩;rw[sz₃];generalize(g.push ⟨.type "tuple",none,.seq #[.int i tk,.ref a.objs.size] 0,#[]⟩:Heap)=k₄ at u z ht₄ sz₄⊢;refine pP ?_;unfold Builtin.SmallTypes.ownedTupleIsFree;refine pP (adv u rfl (x:=.none) rfl (aaR ?_));simp only[adX];refine pP (afG ?_);refine pP (adv u rfl (x:=m) rfl ?_);refine pP (adg u (by simp) λL he₅ B=>?_)
 replace B:Heap.SameBut e k₄ L:=B
 replace he₅:IsEnum L e d ((i:Int)+1) (.ref a.objs.size):=he₅
 show wpAny _ _ (Builtin.SmallTypes.ownedTupleHandOut (.ref e) (.ref (a.objs.size+1))>>=_) _ _ ⟨L,j,ds,tk+1,os⟩;refine pP ?_;unfold Builtin.SmallTypes.ownedTupleHandOut;refine pP (adg he₅ (by simp) λk₆ he₆ C=>?_)
 replace C:Heap.SameBut e L k₆:=C
 replace he₆:IsEnumOut k₆ e d ((i:Int)+1) (.ref a.objs.size) (a.objs.size+1):=he₆
 refine adg he₆ (by simp) λM he₇ H=>?_
 replace H:Heap.SameBut e k₆ M:=H
 replace he₇:IsEnumOut M e d ((i:Int)+1) (.ref a.objs.size) (a.objs.size+1):=he₇
 have I:∀c o,c≠e->k₄.get? c=some o->M.get? c=some o:=λc o hc q=>H.extBut _ _ hc (C.extBut _ _ hc (B.extBut _ _ hc q));have elt:e<a.objs.size:=aa_ O;refine pP (agq (aaR ⟨_,rfl,hQ M tk he₇ ?_ ?_ ?_ ?_ ?_⟩))
 .refine Z₁.at λb hb o q=>?_
  simp only[aa2,adU,afM]at hb;have hbe:b≠e:=by rcases hb with rfl|rfl|rfl|rfl|rfl<;>exact ac6 (by assumption)
  exact I b o hbe (z b o hbe q)
 .exact I _ _ eT (z _ _ eT P₁)
 .exact I _ _ (adI (aci elt)) ht₄
 .rw[H.1,C.1,B.1,sz₄]
 .exact λc o c0 c1 c2 c3 c4 q=>I c o c0 (z c o c0 (p c o c1 c2 c3 c4 q))
def xP{e f m l g j l1 l2:Addr}{i:Nat}{xs ys:Array Value}{x y r:Value}{Q:Option Value->Shared->Prop}(D:ZipApart f m l g j l1 l2)(t:e∉[f,m,l,g,j])(n:IsEnum s.heap e f i r)
  (Z:Oc s.heap f m l g j l1 l2 i)(u:s.heap.IsList l1 xs)(v:s.heap.IsList l2 ys)(z:xs[i]?=some x)(B:ys[i]?=some y)
  (C:∀h' tk,IsEnumOut h' e f ((i:Int)+1) (.ref s.heap.objs.size) (s.heap.objs.size+1)->Oc h' f m l g j l1 l2 (i+1)->IsPair h' s.heap.objs.size x y->
   h'.get? (s.heap.objs.size+1)=some ⟨.type "tuple",none,.seq #[.int i tk,.ref s.heap.objs.size] 0,#[]⟩->h'.objs.size=s.heap.objs.size+2->
   (∀c o,c≠e->c≠f->c≠l->c≠g->c≠j->s.heap.get? c=some o->h'.get? c=some o)->Q (some (.ref (s.heap.objs.size+1))) {s with heap:=h',toks:=tk+1}):
  wpAny (model prog w) A (pyNext (.ref e)) Q E s:=by
 have p:s.TypeIs (.ref e) "enumerate":=⟨_,n,rfl⟩;unfold pyNext;exact pP (afa (adh (name:=Str.ofString "__next__") p aeQ (ade aeQ p agV
  (xO D t n Z u v z B λh' tk a b c d k q=>aaR (C h' tk a b c d k q)) (agM _))))
def xQ{e a j g d f l1 l2:Addr}{i:Nat}{xs ys:Array Value}{n:Value}{Q:Option Value->Shared->Prop}(t:A.handled=none)(D:ZipApart a j g d f l1 l2)(k:IsEnum s.heap e a i n)
  (Z:Oc s.heap a j g d f l1 l2 i)(p:s.heap.IsList l1 xs)(q:s.heap.IsList l2 ys)(m:xs[i]?=none\/ys[i]?=none)
  (u:∀h',(∀c o,c≠a->c≠g->c≠d->c≠f->s.heap.get? c=some o->h'.get? c=some o)->Q none {s with heap:=h'}):wpAny (model prog w) A (pyNext (.ref e)) Q E s:=by
 have l:s.TypeIs (.ref e) "enumerate":=⟨_,k,rfl⟩;unfold pyNext;refine pP (afa (adh (name:=Str.ofString "__next__") l aeQ (ade aeQ l agV ?_ (agM _))));show wpAny _ _ (field (.ref e) 2>>=_) _ _ _;refine pP (adv k rfl (x:=.ref a) rfl ?_);refine pP (O_ (by simp[t]) D Z p q m λh' x v r=>?_);obtain⟨o,y,hc⟩:=r;exact pP (ae4 (T:="StopIteration") (b:=true) ⟨o,y,hc⟩ ahu (aaR (u _ v)))
end
end MR
namespace MR
open PySem
open AutoSeq1 (wpAny_loadPart')
def vC(a d e:Addr):
  Meets (Builtin.«enumerate.__new__» ⟨[.type "enumerate",.ref a],[]⟩) (λ_ R s=>s.heap.get? a=some ⟨.type "zip",none,.fields #[.none,.bool false,.bool false,.ref d,.ref e],#[]⟩/\
   R (.ok (.ret (.ref s.heap.objs.size))) {s with heap:=s.heap.push ⟨.type "enumerate",none,.fields #[.none,.bool false,.ref a,rawInt 0,.none,.none],#[]⟩}):=.of_wp λprog w A R s h=>by
  obtain⟨f,g,ds,tk,os⟩:=s;obtain⟨hz,h⟩:=h;have j:=sub_enumerate;have b:IsZip (Shared.heap ⟨f,g,ds,tk,os⟩) a d e .none:=hz
  wp_walk using abU hz
  refine wpAny_stack_any λst=>aaR ?_;split
  .rename_i c _ _ _ _ _
   cases(c==Value.type "enumerate")
   .wp_walk using abU hz,agN b
    exact⟨_,rfl,h⟩
   .wp_walk using abU hz,agN b
    exact⟨_,rfl,h⟩
  .wp_walk using abU hz,agN b
   exact⟨_,rfl,h⟩
section
variable{prog:Program}{w:World}{A:Around}{E:Value->Shared->Prop}{s:Shared}
def xR{a c d:Addr}{Q:Value->Shared->Prop}(hz:IsZip s.heap a c d .none)
  (h:∀h',IsEnum h' s.heap.objs.size a 0 .none->h'.objs.size=s.heap.objs.size+1->(∀b o,s.heap.get? b=some o->h'.get? b=some o)->Q (.ref s.heap.objs.size) {s with heap:=h'}):
  wpAny (model prog w) A (call (.type "enumerate") [.ref a]) Q E s:=by
 refine callType_new F.called_enumerate (by decide) (F.typeCall_enumerate_1 _) (F.newCall_enumerate_1 _) (λobj=>F.args_object_init_2 obj _) F.entry_enumerate_new (vC a c d) ⟨hz,?_⟩;show _/\_;have e:IsEnum (s.heap.push ⟨.type "enumerate",none,.fields #[.none,.bool false,.ref a,rawInt 0,.none,.none],#[]⟩) s.heap.objs.size a 0 .none:=abb _ rfl;exact⟨⟨_,e,rfl⟩,h _ e (ab6 ..) λb o q=>aaQ _ q⟩
end
end MR
namespace MR
open PySem PySem.AutoSeq1
def Gq(l b:Addr)(a:Array Value)(n:Nat)(c:Array Value)(e:Nat)(f:Option Addr)(g:Array (Option Value))(p:¬(!a.isEmpty&&Builtin.List.listTooLong (a.size+c.size))=true)(j:a.size<=sizeLine)(k:a.size+c.size<=sizeLine+1):
  Meets (Builtin.«list.extend» ⟨[.ref l,.ref b],[]⟩) (λ_ R s=>s.heap.get? l=some ⟨.type "list",none,.seq a n,#[]⟩/\s.heap.get? b=some ⟨.type "tuple",f,.seq c e,g⟩/\R (.ok (.ret Value.none)) {s with heap:=s.heap.update l (Obj.mapSeq λx=>x++c),toks:=s.toks}):=.of_wp λprog w A R s h=>by
  obtain⟨q,r,ds,tk,os⟩:=s;obtain⟨d,m,h⟩:=h;have t:=idx_int;have u:=sub_tuple_tuple;have v:=sub_list_list;have y:=sub_tuple_list;have z:=sub_list_tuple;have o:(a++c).size<=sizeLine+1:=by rw[Array.size_append];exact k
  wp_walk using(afd d rfl (hz:=j) (_hz':=o)),abU d,abU m
  exact⟨_,rfl,h⟩
end MR
namespace MR
open PySem PySem.W PyProof.Rows
def Walk{b:Type}(f:Nat->Nat->Bool)(n:Nat):KasT b->(b->Prop)->Prop
|.ret a,Q=>Q a
|.ask i j k,Q=>i<n/\j<n/\Walk f n (k (f i j)) Q
theorem Walk.mono{c:Type}{f:Nat->Nat->Bool}{n:Nat}{Q R:c->Prop}(h:∀a,Q a->R a):∀{t:KasT c},Walk f n t Q->Walk f n t R
|.ret a,w=>h a w
|.ask i j k,⟨a,b,w⟩=>⟨a,b,Walk.mono h w⟩
theorem Walk.bind{c d:Type}{f:Nat->Nat->Bool}{n:Nat}{g:c->KasT d}{Q:d->Prop}:∀{t:KasT c},Walk f n t (λa=>Walk f n (g a) Q)->Walk f n (t.bind g) Q
|.ret a,w=>w
|.ask i j k,⟨a,b,w⟩=>⟨a,b,Walk.bind w⟩
section
variable(r:Nat->Nat)
def kk(p:Array Nat)(k:Nat):Nat:=r (p.getD k 0)
def CJ{p q:Array Nat}{j k:Nat}(h:p[j]?=q[k]?):kk r p j=kk r q k:=by
 unfold kk;rw[acS,acS,h]
def z6{p:Array Nat}{i j:Nat}(a:j<=p.size)(k:Nat):kk r (kas_rev p i j) k=if i<=k/\k<j then kk r p (i+j - 1 - k)else kk r p k:=by
 have h:=getElem?_mirror_all (i:=i) a k;by_cases c:i<=k/\k<j
 .rw[aaU c];rw[aaU c]at h;exact CJ r h
 .rw[aaz c];rw[aaz c]at h;exact CJ r h
def Pa{p:Array Nat}{a d:Nat}(hs:a<p.size)(b:d<=a)(k:Nat):kk r (bubble p a d) k=if k=a - d then kk r p a else if a - d<k/\k<=a then kk r p (k - 1)else kk r p k:=by
 have h:=getElem?_bubble hs d b k;by_cases c:k=a - d
 .rw[aaU c];rw[aaU c]at h;exact CJ r h
 .rw[aaz c];rw[aaz c]at h
  by_cases e:a - d<k/\k<=a
  .rw[aaU e];rw[aaU e]at h;exact CJ r h
  .rw[aaz e];rw[aaz e]at h;exact CJ r h
def Up(p:Array Nat)(b:Nat):Prop:=∀k,0<k->k<b->kk r p (k - 1)<=kk r p k
def Dn(p:Array Nat)(b:Nat):Prop:=∀k,0<k->k<b->kk r p k<=kk r p (k - 1)
theorem Up.le{p:Array Nat}{b:Nat}(h:Up r p b):∀(d i:Nat),i+d<b->kk r p i<=kk r p (i+d)
|0,i,_=>aaS _
|d+1,i,a=>by
 have e:=Up.le h d i (by grind);have c:=h (i+(d+1)) (by grind) a;rw[show i+(d+1) - 1=i+d by grind]at c;grind
def Up.le'{p:Array Nat}{b:Nat}(h:Up r p b){i j:Nat}(a:i<=j)(c:j<b):kk r p i<=kk r p j:=by
 have:=Up.le r h (j - i) i (by grind);rwa[show i+(j - i)=j by grind]at this
def Ord(n:Nat)(p:Array Nat):Prop:=p.Perm (List.toArray (List.range n))
theorem Ord.size{n:Nat}{p:Array Nat}(h:Ord n p):p.size=n:=by
 have:=h.size_eq;simpa using this
def Ord.lt{n:Nat}{p:Array Nat}(h:Ord n p){k:Nat}(b:k<n):p.getD k 0<n:=by
 have hs:=h.size;rw[acS,aa9 (by omega)];have a:p[k]∈List.toArray (List.range n):=(Array.Perm.mem_iff h).mp (Array.getElem_mem _);simpa using a
def Ord.rev{n:Nat}{p:Array Nat}(h:Ord n p)(i j:Nat):Ord n (kas_rev p i j):=(mirror_perm _ _ _ _).trans h
def Ord.bub{n:Nat}{p:Array Nat}(h:Ord n p)(i j:Nat):Ord n (bubble p i j):=(bubble_perm _ _ _).trans h
section
variable{n:Nat}
theorem vD{p:Array Nat}(b:Ord n p):∀(f a:Nat),1<=a->a+f<=n->Up r p a->Walk (λi j=>decide (r i<r j)) n (kas_asc p f a) λm=>a<=m/\m<=a+f/\Up r p m/\(m<a+f->kk r p m<kk r p (m - 1))
|0,a,_,_,h=>⟨aaS _,aaS _,h,λq=>absurd q (adY _)⟩
|f+1,a,l,o,h=>by
 refine⟨b.lt (by grind),b.lt (by grind),?_⟩;by_cases c:kk r p a<kk r p (a - 1)
 .have:decide (r (p.getD a 0)<r (p.getD (a - 1) 0))=true:=aaD c
  simp only[this,adX];exact⟨aaS _,by grind,h,λ_=>c⟩
 .have:decide (r (p.getD a 0)<r (p.getD (a - 1) 0))=false:=aat c
  simp only[this,aa7,acd];refine Walk.mono ?_ (vD b f (a+1) (by grind) (by grind) λk d s=>?_)
  .rintro m ⟨t,u,e,g⟩
   exact⟨by grind,by grind,e,λq=>g (by grind)⟩
  .rcases aeM k a with q|q
   .exact h k d q
   .have:k=a:=by grind
    subst this;grind
def Alike(p:Array Nat)(m q:Nat):Prop:=q+1<=m/\∀k,m - (q+1)<=k->k<m->kk r p k=kk r p (m - 1)
def yw{p:Array Nat}{m q:Nat}(b:m<=p.size)(h:Alike r p m q)(k:Nat):kk r (kas_rev p (m - (q+1)) m) k=kk r p k:=by
 obtain⟨d,a⟩:=h;rw[z6 r b];by_cases c:m - (q+1)<=k/\k<m
 .rw[aaU c,a k c.1 c.2,a _ (by omega) (by omega)]
 .rw[aaz c]
theorem nF:∀(f:Nat)(p:Array Nat)(m q:Nat),Ord n p->m+f<=n->Dn r p m->Alike r p m q->Walk (λi j=>decide (r i<r j)) n (kas_desc f p m q) λx=>Ord n x.1/\m<=x.2.1/\x.2.1<=m+f/\Dn r x.1 x.2.1/\Alike r x.1 x.2.1 x.2.2
|0,p,m,q,g,_,t,o=>⟨g,aaS _,aaS _,t,o⟩
|f+1,p,m,q,g,H,t,o=>by
 have hsz:=g.size;have I:=o.1;refine⟨g.lt (by grind),g.lt (by grind),?_⟩;by_cases c:kk r p m<kk r p (m - 1)
 .have e:decide (r (p.getD m 0)<r (p.getD (m - 1) 0))=true:=aaD c
  simp only[e,adX];have y:Dn r p (m+1):=λk s E=>by
   rcases aeM k m with l|l
   .exact t k s l
   .have:k=m:=by grind
    subst this;grind
  have z:∀A,Alike r A (m+1) 0:=λA=>⟨by grind,λk u v=>by rw[show k=m+1 - 1 by grind]⟩;by_cases B:q>0
  .rw[aaU B]
   have s:=yw r (p:=p) (by grind) o;refine Walk.mono ?_ (nF f (kas_rev p (m - (q+1)) m) (m+1) 0 (g.rev _ _) (by grind) (λk u v=>by rw[s,s];exact y k u v) (z _));rintro x ⟨a,b,c,d⟩;exact⟨a,by grind,by grind,d⟩
  .rw[aaz B]
   refine Walk.mono ?_ (nF f p (m+1) 0 g (by grind) y (z _));rintro x ⟨a,b,c,d⟩;exact⟨a,by grind,by grind,d⟩
 .have e:decide (r (p.getD m 0)<r (p.getD (m - 1) 0))=false:=aat c
  simp only[e,aa7,acd];refine⟨g.lt (by grind),g.lt (by grind),?_⟩;by_cases C:kk r p (m - 1)<kk r p m
  .have w:decide (r (p.getD (m - 1) 0)<r (p.getD m 0))=true:=aaD C
   simp only[w,adX];exact⟨g,aaS _,by show m<=m+(f+1);grind,t,o⟩
  .have w:decide (r (p.getD (m - 1) 0)<r (p.getD m 0))=false:=aat C
   simp only[w,aa7,acd];have D:kk r p m=kk r p (m - 1):=by grind
   refine Walk.mono ?_ (nF f p (m+1) (q+1) g (by grind) (λk s E=>?_) ⟨by grind,λk u v=>?_⟩)
   .rintro x ⟨a,b,c,d⟩
    exact⟨a,by grind,by grind,d⟩
   .rcases aeM k m with l|l
    .exact t k s l
    .have:k=m:=by grind
     subst this;grind
   .rw[show m+1 - 1=m by grind,D]
    rcases aeM k m with l|l
    .exact o.2 k (by grind) l
    .have:k=m:=by grind
     subst this;exact D
def WD{p:Array Nat}{m:Nat}(a:m<=p.size)(h:Dn r p m):Up r (kas_rev p 0 m) m:=by
 intro k c b;rw[z6 r a,z6 r a,aaU ⟨abe _,by grind⟩,aaU ⟨abe _,b⟩];have:=h (0+m - 1 - (k - 1)) (by grind) (by grind);rw[show 0+m - 1 - (k - 1) - 1=0+m - 1 - k by grind]at this;exact this
def vG{p:Array Nat}{m:Nat}(b:Ord n p)(c:1<=m)(e:m<=n)(h:Dn r p m):Walk (λi j=>decide (r i<r j)) n (kas_tail3 m n p) λx=>Ord n x.2/\1<=x.1/\x.1<=n/\Up r x.2 x.1:=by
 have hsz:=b.size;refine Walk.bind (Walk.mono ?_ (vD r (b.rev 0 m) (n - m) m c (by grind) (WD r (by grind) h)));rintro a ⟨f,g,d,_⟩;exact⟨b.rev 0 m,by show 1<=a;grind,by show a<=n;grind,d⟩
def oJ{p:Array Nat}{m:Nat}(s:Ord n p)(u:m+1<=n)(h:Dn r p (m+1)):Walk (λi j=>decide (r i<r j)) n (kas_descPart m n p) λx=>Ord n x.2/\1<=x.1/\x.1<=n/\Up r x.2 x.1:=by
 refine Walk.bind (Walk.mono ?_ (nF r (n - (m+1)) p (m+1) 0 s (by grind) h ⟨by grind,λk f g=>by rw[show k=m+1 - 1 by grind]⟩));rintro⟨t,v,q⟩ ⟨a,b,c,d,e⟩;dsimp only at a b c d e⊢;have hsz:=a.size;by_cases l:q>0
 .rw[aaU l]
  have o:=yw r (p:=t) (by grind) e;exact vG r (a.rev _ _) (by grind) (by grind) λk f g=>by rw[o,o];exact d k f g
 .rw[aaz l]
  exact vG r a (by grind) (by grind) d
def Gs{p:Array Nat}(d:Ord n p)(u:1<=n):Walk (λi j=>decide (r i<r j)) n (kas_count n p) λx=>Ord n x.2/\1<=x.1/\x.1<=n/\Up r x.2 x.1:=by
 have hsz:=d.size;refine Walk.bind (Walk.mono ?_ (vD r d (n - 1) 1 (aaS _) (by grind) λk a b=>by grind));rintro m ⟨v,w,f,s⟩;by_cases e:m=n
 .rw[aaU (by simpa using e)]
  exact⟨d,by show 1<=m;grind,by show m<=n;grind,f⟩
 .rw[aaz (by simpa using e)]
  have t:=s (by grind);by_cases o:m>1
  .rw[aaU o]
   refine⟨d.lt (by grind),d.lt (by grind),?_⟩;by_cases c:kk r p 0<kk r p (m - 1)
   .have e:decide (r (p.getD 0 0)<r (p.getD (m - 1) 0))=true:=aaD c
    simp only[e,adX];exact⟨d,by show 1<=m;grind,by show m<=n;grind,f⟩
   .have e:decide (r (p.getD 0 0)<r (p.getD (m - 1) 0))=false:=aat c
    simp only[e,aa7,acd];have g:∀k,k<m->kk r p k=kk r p (m - 1):=λk l=>by
     have y:=Up.le' r f (i:=0) (j:=k) (by grind) l;have z:=Up.le' r f (i:=k) (j:=m - 1) (by grind) (by grind);grind
    have l:∀k,kk r (kas_rev p 0 m) k=kk r p k:=λk=>by
     rw[z6 r (by grind)];by_cases c:0<=k/\k<m
     .rw[aaU c,g k c.2,g _ (by grind)]
     .rw[aaz c]
    refine oJ r (d.rev _ _) (by grind) λk a b=>?_;rw[l,l];rcases aeM k m with q|q
    .rw[g k q,g (k - 1) (by grind)];exact aaS _
    .have:k=m:=by grind
     subst this;grind
  .rw[aaz o]
   have:m=1:=by grind
   subst this;refine oJ r d (by grind) λk a b=>?_;have:k=1:=by grind
   subst this;grind
theorem oX{p:Array Nat}{k:Nat}(d:Ord n p)(s:k<n)(h:Up r p k):∀(f l q:Nat),q<=k->q - l<=f->l<=k->(∀j<l,kk r p j<=kk r p k)->(∀j,q<=j->j<k->kk r p k<kk r p j)->
  Walk (λi j=>decide (r i<r j)) n (kas_place p k f l q) λl=>l<=k/\(∀j<l,kk r p j<=kk r p k)/\∀j,l<=j->j<k->kk r p k<kk r p j
|0,l,q,u,v,g,m,o=>⟨g,m,λj a b=>o j (by grind) b⟩
|f+1,l,q,u,v,g,m,o=>by
 unfold kas_place;by_cases c:l>=q
 .rw[aaU c];exact⟨g,m,λj a b=>o j (by grind) b⟩
 .rw[aaz c]
  refine⟨d.lt s,d.lt (by grind),?_⟩;by_cases e:kk r p k<kk r p ((l+q)/2)
  .have t:decide (r (p.getD k 0)<r (p.getD ((l+q)/2) 0))=true:=aaD e
   simp only[t,adX];refine oX d s h f l ((l+q)/2) (by grind) (by grind) g m λj a b=>?_;have:=Up.le' r h a b;grind
  .have t:decide (r (p.getD k 0)<r (p.getD ((l+q)/2) 0))=false:=aat e
   simp only[t,aa7,acd];refine oX d s h f ((l+q)/2+1) q u (by grind) (by grind) (λj a=>?_) o;have:=Up.le' r h (show j<=(l+q)/2 by grind) (by grind);grind
theorem CK:∀(f:Nat)(p:Array Nat)(k:Nat),Ord n p->k+f=n->Up r p k->Walk (λi j=>decide (r i<r j)) n (kas_bin f p k) λq=>Ord n q/\Up r q n
|0,p,k,c,e,h=>by
 have:k=n:=by grind
 subst this;exact⟨c,h⟩
|f+1,p,k,c,e,h=>by
 have hsz:=c.size;refine Walk.bind (Walk.mono ?_ (oX r c (by grind) h k 0 k (aaS _) (by grind) (abe _) (λj a=>by grind) λj a b=>by grind));rintro l ⟨t,m,o⟩;refine CK f _ (k+1) (c.bub _ _) (by grind) λj a b=>?_;rw[Pa r (by grind) (by grind),Pa r (by grind) (by grind),show k - (k - l)=l by grind];by_cases g:j=l
 .subst g
  rw[aaU rfl,aaz (by grind),aaz (by grind)];exact m _ (by grind)
 .rw[aaz g]
  by_cases d:j - 1=l
  .rw[aaU d,aaU (by grind),show j - 1=l from d]
   exact ad8 (o l (aaS _) (by grind))
  .rw[aaz d]
   by_cases s:l<j
   .rw[aaU ⟨by grind,by grind⟩,aaU ⟨s,by grind⟩]
    exact h (j - 1) (by grind) (by grind)
   .rw[aaz (by grind),aaz (by grind)]
    exact h j a (by grind)
def LR(f:1<=n):Walk (λi j=>decide (r i<r j)) n (kas_sort n) λq=>Ord n q/\Up r q n:=by
 refine Walk.bind (Walk.mono ?_ (Gs r (Array.Perm.refl _) f));rintro⟨m,p⟩ ⟨a,b,c,d⟩;dsimp only at a b c d⊢;by_cases e:m<n
 .rw[aaU e]
  have:max m 1=m:=by grind
  rw[this];exact CK r _ p m a (by grind) d
 .rw[aaz e]
  have:m=n:=by grind
  subst this;exact⟨a,d⟩
end
end
def vH(a b:Nat):Builtin.bitAnd (a:Int) (b:Int)=((a&&& b:Nat):Int):=by
 unfold Builtin.bitAnd;rw[aaD (ad5 a),aaD (ad5 b)];simp
def CN(a:Nat):Builtin.bitNot (a:Int)= -(a:Int) - 1:=rfl
def Pb(x:Int):Builtin.bitNot (Builtin.bitNot x)=x:=by
 show -(-x - 1) - 1=x;grind
def Ju(a b:Nat):Builtin.bitOr (a:Int) (b:Int)=((a|||b:Nat):Int):=by
 unfold Builtin.bitOr Builtin.bitAnd;rw[aat (by rw[CN];grind),aat (by rw[CN];grind)];simp only[Pb,adP]
def yx{m t:Nat}(h:t<2^m):Builtin.bitXor ((2^m - 1:Nat):Int) (t:Int)=((2^m - 1 - t:Nat):Int):=by
 rw[bitXor_and,vH,Nat.and_comm,Nat.and_two_pow_sub_one_eq_mod,afE h];grind
def Tt(low a:Nat):Builtin.bitAnd ((2^low*(2*a+1):Nat):Int) (-((2^low*(2*a+1):Nat):Int))=((2^low:Nat):Int):=by
 have h:=kbt_low low (a:Int)
 push_cast
 exact h
def Pg(low:Nat):Builtin.Int.intBits ((2^low:Nat):Int)=low+1:=by
 unfold Builtin.Int.intBits;have b:(2:Nat)^low≠0:=adI (acJ low);have a:((((2^low:Nat):Int))==0)=false:=by rw[ad2];grind
 rw[a,aaz aaT,Int.natAbs_natCast,Nat.log2_two_pow]
def Tv(n k:Nat):Builtin.bitAnd ((n:Int)/2^((k:Int)).toNat) 1=if n.testBit k=true then 1 else 0:=by
 rw[adP];have e:(n:Int)/2^k=((n/2^k:Nat):Int):=by push_cast;rfl
 rw[e,show(1:Int)=((1:Nat):Int)from rfl,vH];have h:n/2^k&&& 1=if n.testBit k=true then 1 else 0:=by
  rw[Nat.and_one_is_mod,Nat.testBit_eq_decide_div_mod_eq];have:=afi (n/2^k) (show 0<2 by decide);by_cases q:n/2^k%2=1
  .simp[q]
  .simp[q];grind
 rw[h];split<;>rfl
end MR
namespace MR
open PySem PySem.W PyProof.Rows Vaneta
structure Vt{α:Type}(lt:α->α->Bool):Prop where
 Oz:∀a,lt a a=false
 tr:∀{a b c},lt a b=true->lt b c=true->lt a c=true
 tot:∀{a b},lt a b=false->lt b a=false->a=b
def Gv{c:Type}[DecidableEq c](d:c->c->Bool):List c->List c->Bool
|[],[]=>false
|[],_::_=>true
|_::_,[]=>false
|a::x,b::y=>if a=b then Gv d x y else d a b
def Vt.lex{k:Type}[DecidableEq k]{o:k->k->Bool}(h:Vt o):Vt (Gv o) where
 Oz:=λl=>by
  induction l with
  |nil=>rfl
  |cons a l g=>unfold Gv;rw[aaU rfl];exact g
 tr:=λ{x y z} f d=>by
  induction x generalizing y z with
  |nil=>
   cases y with
   |nil=>cases f
   |cons b y=>cases z with
    |nil=>cases d
    |cons c z=>rfl
  |cons a x g=>
   cases y with
   |nil=>cases f
   |cons b y=>
    cases z with
    |nil=>cases d
    |cons c z=>
     unfold Gv at f d⊢;by_cases m:a=b
     .subst m
      rw[aaU rfl]at f;by_cases j:a=c
      .subst j
       rw[aaU rfl]at d⊢;exact g f d
      .rw[aaz j]at d⊢
       exact d
     .rw[aaz m]at f
      by_cases j:b=c
      .subst j
       rw[aaz m];exact f
      .rw[aaz j]at d
       have n:=h.tr f d;rw[aaz (λq=>by subst q;rw[h.Oz]at n;cases n)];exact n
 tot:=λ{x y} f d=>by
  induction x generalizing y with
  |nil=>cases y with
   |nil=>rfl
   |cons b y=>cases f
  |cons a x g=>
   cases y with
   |nil=>cases d
   |cons b y=>
    unfold Gv at f d;by_cases e:a=b
    .subst e
     rw[aaU rfl]at f d;rw[g f d]
    .rw[aaz e]at f
     rw[aaz (ac6 e)]at d;exact absurd (h.tot f d) e
def ux:Vt (λa b:Int=>decide (a<b)) where
 Oz:=λa=>aat (by omega)
 tr:=λc d=>aaD (by have:=adk c;have:=adk d;omega)
 tot:=λc d=>by have:=afl c;have:=afl d;omega
abbrev ilx:List Int->List Int->Bool:=Gv λa b:Int=>decide (a<b)
def CP(x y:Nd):Bool:=if x.1=y.1 then ilx x.2 y.2 else decide (x.1<y.1)
def WK:Vt CP where
 Oz:=λa=>by unfold CP;rw[aaU rfl];exact ux.lex.Oz _
 tr:=λ{a b c} f d=>by
  unfold CP at f d⊢;by_cases j:a.1=b.1
  .rw[aaU j]at f
   by_cases g:b.1=c.1
   .rw[aaU g]at d
    rw[aaU (j.trans g)];exact ux.lex.tr f d
   .rw[aaz g]at d
    rw[aaz (by rw[j];exact g),j];exact d
  .rw[aaz j]at f
   by_cases g:b.1=c.1
   .rw[<-g,aaz j]
    exact f
   .rw[aaz g]at d
    have k:=adk f;have l:=adk d;rw[aaz (by omega)];exact aaD (by omega)
 tot:=λ{a b} f d=>by
  unfold CP at f d;by_cases e:a.1=b.1
  .rw[aaU e]at f
   rw[aaU e.symm]at d;exact Prod.ext e (ux.lex.tot f d)
  .rw[aaz e]at f
   rw[aaz (ac6 e)]at d;have:=afl f;have:=afl d;omega
abbrev CQ:List Nd->List Nd->Bool:=Gv CP
def uy:Vt CQ:=WK.lex
section
variable{α:Type}
theorem yC{p q:α->Bool}(h:∀z,p z=true->q z=true):∀{l:List α}{x:α},x∈l->q x=true->p x=false->l.countP p<l.countP q
|a::l,x,b,d,e=>by
 have f:l.countP p<=l.countP q:=List.countP_mono_left λz _=>h z;rw[ae5,ae5];rcases aa2.mp b with rfl|b
 .rw[d,e]
  simp;omega
 .have:=yC h b d e
  by_cases c:p a=true
  .rw[aaU c,aaU (h a c)];omega
  .rw[aaz c]
   split<;>omega
def rk(a:α->α->Bool)(ks:List α)(d:α)(i:Nat):Nat:=ks.countP λz=>a z (ks.getD i d)
def Vu{a:α->α->Bool}(h:Vt a){ks:List α}{d:α}{i j:Nat}(b:i<ks.length)(f:j<ks.length):decide (rk a ks d i<rk a ks d j)=a (ks.getD i d) (ks.getD j d):=by
 have mem:∀{i},i<ks.length->ks.getD i d∈ks:=λ{i} b=>by
  rw[acj,aa3 b];exact List.getElem_mem b
 have lt':∀{x y},x∈ks->a x y=true->(ks.countP λz=>a z x)<ks.countP λz=>a z y:=λ{x y} c e=>
  yC (λz hz=>h.tr hz e) c e (h.Oz x)
 unfold rk;generalize c:ks.getD i d=x;generalize g:ks.getD j d=y;cases e:a x y with
 |true=>exact aaD (lt' (c▸mem b) e)
 |false=>
  refine aat ?_;cases e2:a y x with
  |true=>
   have:=lt' (g▸mem f) e2;grind
  |false=>rw[h.tot e e2];grind
theorem tE{le:α->α->Prop}(j:∀a b,le a b->le b a->a=b):∀{l m:List α},l.Pairwise le->m.Pairwise le->l.Perm m->l=m
|[],m,_,_,p=>by rw[List.nil_perm.mp p]
|a::l,[],_,_,p=>by have:=p.length_eq;simp at this
|a::l,b::m,c,d,p=>by
 rw[ad3]at c d;have e:a=b:=by
  have f:a∈b::m:=p.mem_iff.mp aa0;have g:b∈a::l:=p.mem_iff.mpr aa0;rcases aa2.mp f with e|f
  .exact e
  .rcases aa2.mp g with e|g
   .exact e.symm
   .exact j a b (c.1 b g) (d.1 a f)
 subst e;rw[tE j c.2 d.2 ((List.perm_cons a).mp p)]
end
def CT{e:Type}{f:e->e->Bool}(h:Vt f){ks:List e}{d:e}{p:Array Nat}(g:Ord ks.length p)(hu:Up (rk f ks d) p ks.length):
  (p.toList.map λi=>ks.getD i d).Perm ks/\(p.toList.map λi=>ks.getD i d).Pairwise λa b=>f b a=false:=by
 have hs:=g.size;have o:p.toList.Perm (List.range ks.length):=agf.mp g;refine⟨?_,?_⟩
 .refine(o.map λi=>ks.getD i d).trans ?_
  have:(List.range ks.length).map (λi=>ks.getD i d)=ks:=by
   apply afv;intro i;rw[abV];by_cases c:i<ks.length
   .rw[af3 c,aa3 c]
    simp[acj,c]
   .rw[aeO (by simpa using Nat.le_of_not_lt c),aeO (by omega)]
    rfl
  rw[this]
 .rw[aeV,adL]
  intro i j c l r;rw[abh,hs]at c l;have m:∀k (n:k<ks.length),p.toList[k]'(by rw[abh,hs];exact n)=p.getD k 0:=λk n=>by
   rw[acS,aa9 (by omega)];rfl
  have q:=Up.le' (rk f ks d) hu (i:=i) (j:=j) (by omega) l;unfold kk at q;rw[m i c,m j l,<-Vu h (g.lt l) (g.lt c)];exact aat (by omega)
end MR
namespace MR
open PySem PySem.SeqAt
open AutoSeq1 (wpAny_loadPart')
open MeetsSeq MeetsSeq2 MeetsSeq3 SeqRoads2
def Tw(A:Around)(s:Shared)(x y:Value)(b:Bool):Prop:=∀(prog:Program)(w:World)(E:Value->Shared->Prop)(Q:Value->Shared->Prop),Q (.bool b) s->wpAny (model prog w) A (richCompare .Lt x y) Q E s
inductive Lex(A:Around)(s:Shared):List Value->List Value->Bool->Prop
|nn:Lex A s [] [] false
|nc (y:Value) (ys:List Value):Lex A s [] (y::ys) true
|cn (x:Value) (xs:List Value):Lex A s (x::xs) [] false
|eq {x y:Value} {xs ys:List Value} {b:Bool}:EqAt A s x y true->Lex A s xs ys b->Lex A s (x::xs) (y::ys) b
|ne {x y:Value} {xs ys:List Value} {b:Bool}:EqAt A s x y false->Tw A s x y b->Lex A s (x::xs) (y::ys) b
def CV(l b:Addr)(e a:Array Value)(n H:Nat)(I B:Option Addr)(J C:Array (Option Value)):
  Meets (Builtin.«tuple.__lt__» ⟨[.ref l,.ref b],[]⟩) (λA R s=>s.heap.get? l=some ⟨.type "tuple",I,.seq e n,J⟩/\s.heap.get? b=some ⟨.type "tuple",B,.seq a H,C⟩/\∃r,Lex A.in1 s e.toList a.toList r/\R (.ok (.ret (.bool r))) s):=.of_wp λprog w A R s h=>by
  obtain⟨v,z,ds,tk,os⟩:=s;obtain⟨L,M,r,N,h⟩:=h;have T:=AutoSeq1.sub_tuple_tuple
  wp_walk using abU L,abU M,afF _ (λt b m=>b.1=none/\m=⟨v,z,ds,tk,os⟩/\∃(vs f:List Value),t=vs.zip f/\Lex A.in1 ⟨v,z,ds,tk,os⟩ vs f r/\vs.length+a.size=f.length+e.size) _
  case turn=>
   rintro⟨x,y⟩ t c m ⟨hc,rfl,vs,f,hz,g,d⟩;cases g with
   |nn=>cases hz
   |nc y ys=>rw[List.zip_nil_left]at hz;cases hz
   |cn x xs=>rw[List.zip_nil_right]at hz;cases hz
   |eq o O=>
    rw[aeL]at hz;injection hz with j q;injection j with p k;subst p k;simp only[aae]at d;refine pP (o prog w _ _ ?_)
    wp_walk
    exact⟨rfl,rfl,_,_,q,O,by grind⟩
   |ne o D=>
    rw[aeL]at hz;injection hz with j q;injection j with p k;subst p k;refine pP (o prog w _ _ ?_);have E:=D prog w
    wp_walk using E
    exact⟨_,rfl,by simpa using h⟩
  case fin=>
   rintro⟨U,Y⟩ m ⟨u,rfl,vs,f,hz,g,d⟩;simp only at u;subst u;have Q:r=decide (e.size<a.size):=by
    cases g with
    |nn=>
     simp only[acg]at d;exact(aat (by grind)).symm
    |nc y ys=>
     simp only[acg,aae]at d;exact(aaD (by grind)).symm
    |cn x xs=>
     simp only[acg,aae]at d;exact(aat (by grind)).symm
    |eq=>rw[aeL]at hz;cases hz
    |ne=>rw[aeL]at hz;cases hz
   subst Q
   wp_walk
   exact⟨_,rfl,by simpa[Builtin.Tuple.tupleCompareSizes]using h⟩
  case h=>exact⟨rfl,rfl,e.toList,a.toList,rfl,N,by simp;grind⟩
def CW(l b:Addr)(c a:Array Value)(n D:Nat)(E x:Option Addr)(H z:Array (Option Value))(r:Bool):∀(k i:Nat),c.size - i=k->
  Meets (Builtin.«list.__eq__.loop» ⟨[.ref l,.ref b,rawInt i,rawInt 0],[]⟩) (λA R s=>s.heap.get? l=some ⟨.type "list",E,.seq c n,H⟩/\s.heap.get? b=some ⟨.type "list",x,.seq a D,z⟩/\
   i<=c.size/\i<=a.size/\Lex A.in1 s (c.toList.drop i) (a.toList.drop i) r/\R (.ok (.ret (.bool r))) s):=by
 intro k
 induction k with
 |zero=>
  intro i I prog w A R s h;obtain⟨J,L,ds,tk,os⟩:=s;obtain⟨e,f,M,N,d,h⟩:=h
  wp_walk using abU e,abU f
  have g:c[((i:Nat):Int).toNat]?=none:=by simp;grind
  have p:c.toList.drop i=[]:=by simp;grind
  rw[p]at d;rw[g]
  wp_walk using abU e,abU f
  show R (.ok (.ret (.bool (c.size<a.size)))) _;have q:r=decide (c.size<a.size):=by
   generalize hw:a.toList.drop i=T at d;have m:=congrArg List.length hw;rw[ace,abh]at m;cases d with
   |nn=>simp only[acg]at m;exact(aat (by grind)).symm
   |nc y ys=>simp only[aae]at m;exact(aaD (by grind)).symm
  rw[<-q];exact h
 |succ k O=>
  intro i I prog w A R s h;obtain⟨J,L,ds,tk,os⟩:=s;obtain⟨e,f,M,N,d,h⟩:=h
  wp_walk using abU e,abU f
  have v:i<c.size:=by grind
  have g:c[((i:Nat):Int).toNat]?=some c[i]:=by simp[v]
  have p:c.toList.drop i=c[i]::c.toList.drop (i+1):=by simp[ab_,v]
  have hc:((i:Int)+1)=((i+1:Nat):Int):=by push_cast;rfl
  rw[p]at d;by_cases u:i<a.size
  .have j:a[((i:Nat):Int).toNat]?=some a[i]:=by simp[u]
   have o:a.toList.drop i=a[i]::a.toList.drop (i+1):=by simp[ab_,u]
   rw[o]at d;rw[g,j];cases d with
   |eq t Q=>
    refine pP (t prog w _ _ ?_)
    wp_walk
    rw[hc];exact⟨aes plain_eq_loop _,adS entry_eq_loop (by
     rw[adA plain_eq_loop _];exact O (i+1) (by grind) prog w A R _ ⟨e,f,by grind,by grind,Q,h⟩)⟩
   |ne t B=>
    refine pP (t prog w _ _ ?_);have C:=B prog w
    wp_walk using abU e,abU f
    rw[g,j]
    wp_walk using C
    exact h
  .have j:a[((i:Nat):Int).toNat]?=none:=by simp;grind
   have o:a.toList.drop i=[]:=by simp;grind
   rw[o]at d;rw[g,j]
   wp_walk using abU e,abU f
   show R (.ok (.ret (.bool (c.size<a.size)))) _;have q:r=decide (c.size<a.size):=by
    cases d;exact(aat (by grind)).symm
   rw[<-q];exact h
def Gx(l b:Addr)(c a:Array Value)(n f:Nat)(g d:Option Addr)(j e:Array (Option Value))(r:Bool):
  Meets (Builtin.«list.__lt__» ⟨[.ref l,.ref b],[]⟩) (λA R s=>s.heap.get? l=some ⟨.type "list",g,.seq c n,j⟩/\s.heap.get? b=some ⟨.type "list",d,.seq a f,e⟩/\Lex A.in1 s c.toList a.toList r/\R (.ok (.ret (.bool r))) s):=by
 intro prog w A R s h;obtain⟨p,q,ds,tk,os⟩:=s;obtain⟨k,m,o,h⟩:=h;have t:=AutoSeq1.sub_list_list
 wp_walk using abU k,abU m
 exact⟨aes plain_eq_loop _,adS entry_eq_loop (by
  rw[adA plain_eq_loop _];exact CW l b c a n f g d j e r _ 0 rfl prog w A R _ ⟨k,m,abe _,abe _,by simpa using o,h⟩)⟩
end MR
namespace MR
open PySem PySem.SeqAt
abbrev Gy(x:Nd):PyData:=.tuple [.int x.1,.tuple (x.2.map PyData.int)]
def Jv(A:Around)(s:Shared)(a:Int)(t:Tok)(c:Int)(u:Tok):Tw A s (.int a t) (.int c u) (decide (a<c)):=λprog w E Q h=>
 (PyProof.Rows.lt_int h:wpAny (model prog w) A (compareOp .Lt (.int a t) (.int c u)) Q E s)
theorem CZ{A:Around}{s:Shared}:∀{n m:List Int}{us vs:List Value}{as f:List Addr},ReadsAll s.heap us (n.map PyData.int) as->ReadsAll s.heap vs (m.map PyData.int) f->Lex A s us vs (ilx n m)
|[],[],_,_,_,_,b,d=>by
 cases b;cases d;exact .nn
|[],_::_,_,_,_,_,b,d=>by
 cases b;cases d;exact .nc _ _
|_::_,[],_,_,_,_,b,d=>by
 cases b;cases d;exact .cn _ _
|a::n,c::m,_,_,_,_,b,d=>by
 cases b with
 |cons g t1=>
  cases d with
  |cons j t2=>
   cases g;cases j;rename_i k _ l;show Lex A s _ _ (if a=c then ilx n m else decide (a<c));by_cases e:a=c
   .rw[aaU e]
    have h:(a==c)=true:=by simpa using e
    exact .eq (h▸EqAt.int_int a _ c _) (CZ t1 t2)
   .rw[aaz e]
    have h:(a==c)=false:=by simpa using e
    exact .ne (h▸EqAt.int_int a _ c _) (Jv A s a _ c _)
def Ph{A:Around}{s:Shared}{p q:Addr}{o a:Obj}{vs b:Array Value}{n c:Nat}{r:Bool}(d:s.heap.get? p=some o)(e:o.cls=.type "tuple")(d1:o.data=.seq vs n)(f:s.heap.get? q=some a)(g:a.cls=.type "tuple")(d2:a.data=.seq b c)
  (hu:A.units<cLine)(l:Lex A.in1 s vs.toList b.toList r):Tw A s (.ref p) (.ref q) r:=by
 obtain⟨cls,m,data,t⟩:=o;obtain⟨u,j,data2,k⟩:=a;simp only at e d1 g d2;subst e d1 g d2;intro prog w E Q h;exact richCompare_meets_room (op:=.Lt) ⟨_,d,rfl⟩ ⟨_,f,rfl⟩ F.slot_tuple_lt F.entry_tuple_lt (F.args_tuple_lt_2 _ _) (CV p q vs b n c m j t k) ⟨d,f,r,l,(λx=>nomatch x),h⟩ hu
theorem kW:∀a b:List Int,PyData.eqvAll (a.map PyData.int) (b.map PyData.int)=decide (a=b)
|[],[]=>by simp[PyData.eqvAll]
|[],_::_=>by simp[PyData.eqvAll]
|_::_,[]=>by simp[PyData.eqvAll]
|x::a,y::b=>by
 rw[aaZ,aaZ];simp only[PyData.eqvAll,PyData.eqv,kW a b];by_cases h:x=y
 .subst h;by_cases c:a=b<;>simp[c]
 .simp[h]
theorem iy:∀n:List Int,PyData.canLayAll0 (n.map PyData.int)=true
|[]=>by simp[PyData.canLayAll0]
|i::n=>by
 rw[aaZ];simp[PyData.canLayAll0,PyData.canLay0,iy n]
theorem jC:∀n:List Int,PyData.depthAll (n.map PyData.int)<=1
|[]=>by simp[PyData.depthAll]
|i::n=>by
 rw[aaZ];have:=jC n;simp only[PyData.depthAll,PyData.depth];grind
def Tz{A:Around}{s:Shared}{u v:Value}{n m:List Int}{as a:List Addr}(b:Reads s.heap u (.tuple (n.map PyData.int)) as)(c:Reads s.heap v (.tuple (m.map PyData.int)) a)(hu:A.units+4<cLine):EqAt A s u v (decide (n=m)):=by
 have h:=eqAt_reads _ _ A s u v as a b c (by simp[PyData.canLay0,iy]) (by simp[PyData.canLay0,iy]) (by
  have:=jC n;simp only[PyData.depth];grind)
 simp only[PyData.eqv,kW]at h;exact h
def Y6{A:Around}{s:Shared}{u v:Value}{x y:Nd}{as f:List Addr}(g:Reads s.heap u (Gy x) as)(j:Reads s.heap v (Gy y) f)(hu:A.units+6<cLine):EqAt A s u v (decide (x=y)):=by
 have h:=eqAt_reads _ _ A s u v as f g j (by simp[PyData.canLay0,PyData.canLayAll0,iy]) (by simp[PyData.canLay0,PyData.canLayAll0,iy]) (by
  have:=jC x.2;simp only[Gy,PyData.depth,PyData.depthAll];grind)
 have e:PyData.eqv (Gy x) (Gy y)=decide (x=y):=by
  simp only[Gy,PyData.eqv,PyData.eqvAll,kW,adz];obtain⟨a,b⟩:=x;obtain⟨c,d⟩:=y;by_cases k:a=c<;>by_cases l:b=d<;>simp[k,l]
 rw[e]at h;exact h
def Y7{A:Around}{s:Shared}{u v:Value}{x y:Nd}{as f:List Addr}(g:Reads s.heap u (Gy x) as)(j:Reads s.heap v (Gy y) f)(hu:A.units+8<cLine):Tw A s u v (CP x y):=by
 cases g with
 |tuple k l d1 t1=>
  cases j with
  |tuple m n d2 t2=>
   refine Ph k l d1 m n d2 (by grind) ?_;generalize D:Array.toList _=l1 at t1⊢;generalize E:Array.toList _=l2 at t2⊢;cases t1 with
   |cons o t1=>
    cases t2 with
    |cons p t2=>
     cases t1 with
     |cons c t1=>
      cases t2 with
      |cons d t2=>
       cases t1;cases t2;cases o;cases p;unfold CP;by_cases e:x.1=y.1
       .rw[aaU e]
        have h:(x.1==y.1)=true:=by simpa using e
        refine .eq (h▸EqAt.int_int _ _ _ _) ?_;have a:=Tz (A:=A.in1) c d (by show A.units+1+4<cLine;grind);by_cases b:x.2=y.2
        .rw[aaD b]at a
         have q:ilx x.2 y.2=false:=by rw[b];exact ux.lex.Oz _
         rw[q];exact .eq a .nn
        .rw[aat b]at a
         refine .ne a ?_;cases c with
         |tuple r t w w1=>
          cases d with
          |tuple z B C w2=>exact Ph r t w z B C (by show A.units+1<cLine;grind) (CZ w1 w2)
       .rw[aaz e]
        have h:(x.1==y.1)=false:=by simpa using e
        exact .ne (h▸EqAt.int_int _ _ _ _) (Jv _ _ _ _ _ _)
theorem Jw{A:Around}{s:Shared}(hu:A.units+8<cLine):∀{l m:List Nd}{us vs:List Value}{as g:List Addr},ReadsAll s.heap us (l.map Gy) as->ReadsAll s.heap vs (m.map Gy) g->Lex A s us vs (CQ l m)
|[],[],_,_,_,_,a,b=>by
 cases a;cases b;exact .nn
|[],_::_,_,_,_,_,a,b=>by
 cases a;cases b;exact .nc _ _
|_::_,[],_,_,_,_,a,b=>by
 cases a;cases b;exact .cn _ _
|x::l,y::m,_,_,_,_,a,b=>by
 cases a with
 |cons d t1=>
  cases b with
  |cons f t2=>
   have c:=Y6 d f (A:=A) (by grind);show Lex A s _ _ (if x=y then CQ l m else CP x y);by_cases e:x=y
   .rw[aaU e]
    rw[aaD e]at c;exact .eq c (Jw hu t1 t2)
   .rw[aaz e]
    rw[aat e]at c;exact .ne c (Y7 d f hu)
end MR
namespace MR
def z7{a:Type}(L n:Nat)(l:List a):List a:=(l.zipIdx.filter λy=>n.testBit (L - 1 - y.2)).map (·.1)
def L_{a:Type}(L n:Nat)(l:List a)(x:a):z7 L n (l++[x])=z7 L n l++if n.testBit (L - 1 - l.length)=true then[x]else[]:=by
 unfold z7;rw[List.zipIdx_append,adn,aaY]
 congr 1
 simp only[afI,ag9,agQ];by_cases h:n.testBit (L - 1 - l.length)=true
 .simp[h]
 .simp[h]
theorem C_{c:Type}(n:Nat):∀(l:List c)(k:Nat),((l.zipIdx k).filter λy=>n.testBit (l.length+k - 1 - y.2)).map (·.1)=aG l n
|[],_=>rfl
|a::l,k=>by
 have b:=C_ n l (k+1);rw[show l.length+(k+1)=(a::l).length+k by rw[aae];grind]at b;rw[afI,adJ];unfold aG;have e:(a::l).length+k - 1 - k=l.length:=by rw[aae];grind
 dsimp only;rw[e];by_cases h:n.testBit l.length=true
 .rw[aaU h,aaU h,aaZ,b]
 .rw[aaz h,aaz h,b]
def TF{a:Type}(n:Nat)(l:List a):z7 l.length n l=aG l n:=C_ n l 0
def Pj{a:Type}(L n:Nat)(l:List a):(z7 L n l).length<=l.length:=by
 unfold z7;rw[aac];refine abJ (aeR _ _) ?_;rw[List.length_zipIdx];exact aaS _
end MR
namespace MR
open PySem PySem.W PySem.SeqAt PyProof.Rows
section
variable{prog:Program}{w:World}{A:Around}{E:Value->Shared->Prop}{s:Shared}
def Gz(h:Heap)(v:Value)(l:List Nd):Prop:=∃as,Reads h v (.list (l.map Gy)) as
def Gz.keep{h h':Heap}{v:Value}{l:List Nd}(x:Gz h v l)(k:∀b o,h.get? b=some o->h'.get? b=some o):Gz h' v l:=let⟨as,r⟩:=x;⟨as,Reads.keeps k r⟩
def Ma{u v:Value}{l m:List Nd}{Q:Bool->Shared->Prop}(hu:A.units+16<cLine)(k:Gz s.heap u l)(p:Gz s.heap v m)(h:Q (CQ l m) s):wpAny (model prog w) A (keyLt' oneType' u v) Q E s:=by
 obtain⟨as,q⟩:=k;obtain⟨J,r⟩:=p;cases q with
 |list c d d1 t1=>
  cases r with
  |list t e d2 t2=>
   rename_i a o vs n H b x y z I;obtain⟨cls,B,data,C⟩:=o;obtain⟨D,g,data2,j⟩:=x;simp only at d d1 e d2;subst d d1 e d2;rw[keyLt'_oneType,oneLt'_eq];simp only[adX];refine pP (wpAny_cRoomFor (by grind) ?_);have f:s.TypeIs (.ref a) "list":=⟨_,c,rfl⟩;refine pP (wpAny_callSpecialIfBound?_slot f F.slot_list_lt (afJ F.slot_list_lt f F.entry_list_lt (F.args_list_lt_2 _ _) (Gx a b vs y n z B g C j (CQ l m)) ⟨c,t,Jw (by show A.units+1+8<cLine;grind) t1 t2,?_⟩));exact adQ h
theorem Jx{c:Type}{b:Nat->Nat->(Bool->Shared->Prop)->Shared->Prop}{f:Nat->Nat->Bool}{n:Nat}(hc:∀i j C,i<n->j<n->C (f i j) s->b i j C s){Q:c->Shared->Prop}:∀{t:KasT c},Walk f n t (λa=>Q a s)->t.kasWp b Q s
|.ret a,h=>h
|.ask i j k,⟨d,e,g⟩=>hc i j _ d e (Jx hc g)
def getD_mem{a:Type}{l:List a}{i:Nat}(h:i<l.length)(d:a):l[i]?=some (l.getD i d):=by
 rw[acj,aa3 h];rfl
def fG(h:Heap)(a:Addr)(vs:List Value):Heap:=((h.update a (Obj.mapSeq λ_=>#[])).push (seqObj "tuple" vs.toArray 0)).push (seqObj "list" #[] 0)
def GF{a:Addr}{vs:List Value}{ks:List (List Nd)}{n:Nat}{P:PySem.Fin->Shared->Prop}(x:s.heap.get? a=some (seqObj "list" vs.toArray n))(z:ks.length=vs.length)(h64:vs.length<64)(hu:A.units+16<cLine)
  (B:∀(i:Nat)(v:Value)(l:List Nd),vs[i]?=some v->ks[i]?=some l->Gz (fG s.heap a vs) v l)
  (h:∀p:Array Nat,Ord ks.length p->Up (rk CQ ks []) p ks.length->P (.done (.ret .none)) {s with heap:=sortedHeap s.heap a vs (List.toArray (p.toList.map λi=>vs.getD i Value.none))}):
  wpAny (model prog w) A (Builtin.«list.sort» ⟨[.ref a],[]⟩) P E s:=by
 have ha:a<s.heap.objs.size:=aa_ x;obtain⟨y,N⟩:∃y,(s.heap.update a (Obj.mapSeq λ_=>(#[]:Array Value))).get? a=some (seqObj "list" #[] y):=⟨_,get?_update_seq x λ_=>#[]⟩;have O:(fG s.heap a vs).get? a=some (seqObj "list" #[] y):=aaQ _ (aaQ _ N);have D:vs.length<=sizeLine:=by rw[aa1];grind
 rw[list_sort_plain];refine pP (listItems_at x rfl ?_);refine pP (listUpdate_at x rfl ?_ (by rw[abd];exact D) (abe _));refine pP (seqEpoch_at N rfl ?_);refine pP (agd ?_ (by show vs.length<=_;exact D));refine pP (agw ?_ (abe _));refine acp ?_;show wpAny (model prog w) A _ P E {s with heap:=fG s.heap a vs};dsimp only;have fin:∀(b:SortSt)(p:Array Nat),p.size=vs.length->(arrOf b).map (·.2)=List.toArray (p.toList.map λi=>vs.getD i Value.none)->failedOf b=none->Ord ks.length p->Up (rk CQ ks []) p ks.length->
   wpAny (model prog w) A (do
    let touched:=(<-seqEpoch a) != y
    Builtin.List.listUpdate (.ref a) λ_=>(arrOf b).map (·.2)
    if let some e:=failedOf b then rule "list.sort.comparison-raised";throw e
    if touched then rule "list.sort.modified";raiseError "ValueError" "list modified during sort"
    ret .none) P E {s with heap:=fG s.heap a vs}:=λb p u M H I J=>by
  refine pP (seqEpoch_at O rfl ?_);refine pP (listUpdate_at O rfl ?_ (abe _) (by rw[M,abd,aac,abh,u];exact ahX D));rw[H];simp only[aeW,aa7,acd];refine aaR ?_;have:=h p I J;rw[<-M]at this;exact this
 by_cases L:vs.length<2
 .rw[aaU (by rw[abd];exact L),aaU (by rw[abd];exact L)]
  refine pP (aaR ?_);rw[StateT.run_pure];refine pP (aaR ?_);refine fin _ (List.toArray (List.range vs.length)) (by simp) ?_ rfl ?_ ?_
  .apply afH.mp
   show((vs.toArray.zip vs.toArray).map (·.2)).toList=_;apply afv;intro i;by_cases m:i<vs.length
   .simp[m,acj]
   .simp[m]
  .rw[z];exact Array.Perm.refl _
  .intro k hk hb
   grind
 .have U:¬vs.toArray.size<2:=by rw[abd];exact L
  rw[aaz U,aaz U];have Y:2<=vs.length:=by grind
  refine pP (kas_kind (T:=.type "list") Y (λv hv=>?_) (by decide) (by decide) ?_)
  .obtain⟨i,m⟩:=aeS.mp hv
   have hil:i<ks.length:=by rw[z];exact(aaV.mp m).1
   obtain⟨as,r⟩:=B i v _ m (aa3 hil);cases r with
   |list g c d t=>exact λA' Q' E' o kp q=>afq (T:="list") ⟨_,kp _ _ g,c⟩ q
  have est:SortSt.mk' oneType' (vs.toArray.zip vs.toArray) #[] 7 none=kas_st oneType' (pairsOf vs) (List.toArray (List.range vs.length)):=by
   have e:=kas_range (pairsOf vs);rw[pairsOf_size]at e;show SortSt.mk' oneType' (pairsOf vs) #[] 7 none=SortSt.mk' oneType' ((List.toArray (List.range vs.length)).map (kas_item (pairsOf vs))) #[] 7 none;rw[e]
  have ask:(kas_sort vs.length).kasWp (kas_cmp prog w A oneType' (pairsOf vs)) (λp o=>o={s with heap:=fG s.heap a vs}/\Ord ks.length p/\Up (rk CQ ks []) p ks.length) {s with heap:=fG s.heap a vs}:=by
   rw[<-kas_ask_eq];refine Jx (f:=λi j=>decide (rk CQ ks [] i<rk CQ ks [] j)) (n:=ks.length) (λi j C m hj hq=>?_) ?_
   .have q1:=B i _ _ (getD_mem (by grind) Value.none) (getD_mem m [])
    have q2:=B j _ _ (getD_mem (by grind) Value.none) (getD_mem hj []);refine Ma hu q1 q2 ?_;rw[<-Vu uy m hj];exact hq
   .rw[<-z]
    exact Walk.mono (λp u=>⟨rfl,u⟩) (LR (rk CQ ks []) (by grind))
  have run:=kas_runs (E:=E) (Q:=λ_ b o=>∃p:Array Nat,o={s with heap:=fG s.heap a vs}/\p.size=vs.length/\arrOf b=p.map (kas_item (pairsOf vs))/\failedOf b=none/\Ord ks.length p/\Up (rk CQ ks []) p ks.length)
   Y h64 (λp' b o a1 a2 a3 a4=>⟨p',a4.1,a1,a2,a3,a4.2⟩) ask
  rw[<-est]at run;refine pP (adM run ?_ λ_ _ e=>e);rintro⟨⟨⟩,b⟩ o ⟨p,rfl,u,har,H,I,J⟩;dsimp only;refine fin b p u ?_ H I J;apply afH.mp;rw[har,Array.map_map,agL];exact ae8 λi _=>by show(kas_item (pairsOf vs) i).2=_;rw[kas_item_eq]
def z8{l:Addr}{vs:List Value}{ks:List (List Nd)}{Q:Value->Shared->Prop}(k:s.heap.IsList l vs.toArray)(g:ks.length=vs.length)(j:vs.length<64)(hu:A.units+32<cLine)
  (r:∀(i:Nat)(v:Value)(l:List Nd),vs[i]?=some v->ks[i]?=some l->Gz s.heap v l)
  (h:∀(h':Heap)(D:Addr)(n:Nat)(p:Array Nat),Ord ks.length p->Up (rk CQ ks []) p ks.length->s.heap.objs.size<=D->h'.get? D=some (seqObj "list" (List.toArray (p.toList.map λi=>vs.getD i Value.none)) n)->
   (∀b o,s.heap.get? b=some o->h'.get? b=some o)->Q (.ref D) {s with heap:=h'}):
  wpAny (model prog w) A (call (.builtin "sorted") [.ref l]) Q E s:=by
 have f:vs.length<=sizeLine:=by rw[aa1];grind
 refine aex kind_sorted plain_sorted entry_sorted (args_sorted1 _) ?_;unfold Builtin.«sorted»;refine pP (m:=checkCount "sorted" 1 1 _) (aaR ?_);refine pP (collect_list k ?_ f);refine pP (agw ?_ f);have hsz:((s.heap.push (seqObj "list" #[] 0)).update s.heap.objs.size (Obj.mapSeq (·++vs.toArray))).objs.size=s.heap.objs.size+1:=by
  rw[Heap.size_update,size_push']
 have c:(((s.heap.push (seqObj "list" #[] 0)).update s.heap.objs.size (Obj.mapSeq (·++vs.toArray))).push (seqObj "list" vs.toArray 0)).get? (s.heap.objs.size+1)=some (seqObj "list" vs.toArray 0):=by
  rw[<-hsz];exact abb _ rfl
 have keep:∀b o,s.heap.get? b=some o->(((s.heap.push (seqObj "list" #[] 0)).update s.heap.objs.size (Obj.mapSeq (·++vs.toArray))).push (seqObj "list" vs.toArray 0)).get? b=some o:=λb o q=>by
  have a:b<s.heap.objs.size:=aa_ q;rw[agr _ _ _ (by rw[hsz];exact abt (aci a)),af5 _ _ _ _ (abt a),agr _ _ _ (abt a)];exact q
 generalize H:(((s.heap.push (seqObj "list" #[] 0)).update s.heap.objs.size (Obj.mapSeq (·++vs.toArray))).push (seqObj "list" vs.toArray 0):Heap)=d at c keep;show wpAny _ _ _ _ _ {s with heap:=d};rw[hsz];have e:∀b o,s.heap.get? b=some o->(fG d (s.heap.objs.size+1) vs).get? b=some o:=λb o q=>by
  have a:b<s.heap.objs.size:=aa_ q;unfold fG;refine aaQ _ (aaQ _ ?_);rw[af5 _ _ _ _ (abt (aci a))];exact keep b o q
 refine pP (acp (ade slot_list_sort ⟨_,c,rfl⟩ entry_list_sort (GF (s:={s with heap:=d}) c g j (by show A.units+1+1+16<cLine;grind) (λi v l t u=>(r i v l t u).keep e) λp x y=>⟨_,rfl,aaR ⟨_,rfl,?_⟩⟩) (args_list_sort _)));have z:=abN (Obj.mapSeq λ_=>(#[]:Array Value)) c rfl;have B:=aaQ (seqObj "list" #[] 0) (aaQ (seqObj "tuple" vs.toArray 0) z);have C:=abN (Obj.mapSeq λ_=>List.toArray (p.toList.map λi=>vs.getD i Value.none)) B rfl;refine h _ _ _ p x y (aic _) C λb o q=>?_;have a:b<s.heap.objs.size:=aa_ q;unfold sortedHeap;rw[af5 _ _ _ _ (abt (aci a))];exact e b o q
end
end MR
namespace MR
open Vaneta
def rD(Na Nb:List Name){j:Nat}(a:j<2^(Na++Nb).length):(choices (Na++Nb))[j]?=some (aG Na (j/2^Nb.length)++aG Nb (j%2^Nb.length))/\j/2^Nb.length<2^Na.length/\j%2^Nb.length<2^Nb.length:=by
 have b:j%2^Nb.length<2^Nb.length:=afi _ (acJ _);refine⟨?_,?_,b⟩
 .rw[iV _ j a,<-oG Na Nb _ _ b]
  congr 2
  have:=afQ j (2^Nb.length);rw[ad6]at this;exact this.symm
 .rw[Nat.div_lt_iff_lt_mul (acJ _),<-Nat.pow_add,<-aad]
  exact a
def TJ{Na Nb:List Name}{A:Formula}{n low:Nat}(k:n<2^Na.length)(b:low<2^Nb.length)(l:truth (aG Na n++aG Nb low) A=false)(m:∀o<n,∀c<2^Nb.length,truth (aG Na o++aG Nb c) A=true)
  (p:∀c<low,truth (aG Na n++aG Nb c) A=true):(choices (Na++Nb)).find? (λc=> !truth c A)=some (aG Na n++aG Nb low):=by
 have a:n*2^Nb.length+low<2^(Na++Nb).length:=by
  rw[aad,Nat.pow_add];have:n*2^Nb.length+2^Nb.length<=2^Na.length*2^Nb.length:=by
   rw[<-Nat.succ_mul];exact Nat.mul_le_mul_right _ k
  grind
 have d:(n*2^Nb.length+low)/2^Nb.length=n:=by
  rw[afx,Nat.add_mul_div_right _ _ (acJ _),Nat.div_eq_of_lt b,agQ]
 have q:(n*2^Nb.length+low)%2^Nb.length=low:=by
  rw[afx,Nat.add_mul_mod_self_right,afE b]
 refine Js (i:=n*2^Nb.length+low) ?_ (by rw[l];rfl) λj e y f=>?_
 .have:=(rD Na Nb a).1
  rw[d,q]at this;exact this
 .obtain⟨r,t,s⟩:=rD Na Nb (afo e a)
  rw[r]at f;cases f;have g:j/2^Nb.length<=n:=by
   rw[<-d];exact Nat.div_le_div_right (ad8 e)
  rcases Nat.lt_or_eq_of_le g with h|h
  .rw[m _ h _ s];rfl
  .rw[h,p]
   .rfl
   .have:=afQ j (2^Nb.length)
    rw[h,ad6]at this;grind
def TQ{Na Nb:List Name}{A:Formula}(d:∀e<2^Na.length,∀c<2^Nb.length,truth (aG Na e++aG Nb c) A=true):(choices (Na++Nb)).find? (λc=> !truth c A)=none:=by
 rw[af8];intro c hc;obtain⟨j,a⟩:=aeS.mp hc;have b:j<2^(Na++Nb).length:=by
  have:=(aaV.mp a).1;rwa[iw]at this
 obtain⟨f,g,k⟩:=rD Na Nb b;rw[f]at a;cases a;rw[d _ g _ k];simp
def oY{m t:Nat}(a:t<2^m){c:Nat}(hc:c<m):(2^m - 1 - t).testBit c= !t.testBit c:=by
 have e:(2:Nat)^m - 1 - t=2^m - (t+1):=by grind
 rw[e,afV a,aaD hc,afc]
def WL{m t c:Nat}(a:t<2^m)(hc:t.testBit c=true):c<m:=by
 rcases aeM c m with h|h
 .exact h
 .have:t<2^c:=abG a (aeB (by decide) h)
  rw[agU this]at hc;cases hc
def all_true{m t:Nat}(a:t<2^m)(b:2^m - 1 - t=0){c:Nat}(hc:c<m):t.testBit c=true:=by
 have:=oY a hc;rw[b]at this;simpa using this.symm
end MR
namespace L2
open PySem PySem.Spec PyProof.Rows
abbrev Key:=Sum Int Str
def yD:Key->Value->Bool
|.inl k,v=>Value.isInt k v
|.inr x,v=>Value.isStrOf x v
def abx(w:World):Key->Int
|.inl k=>hashInt k
|.inr x=>hashStr w x
def dh:∀{k:Key}{v:Value},yD k v=true->(Ex2 λi t=>k=Sum.inl i/\v=Value.int i t)\/(Ex2 λx t=>k=Sum.inr x/\v=Value.str x t)
|.inl i,v,h=>by
 obtain⟨t,e⟩:=afs (k:=i) (v:=v) h;exact .inl ⟨i,t,rfl,e⟩
|.inr x,v,h=>by
 obtain⟨t,e⟩:=Value.isStrOf_shape (x:=x) (v:=v) h;exact .inr ⟨x,t,rfl,e⟩
def Mg(i:Int)(t:Tok):yD (.inl i) (.int i t)=true:=by simp[yD,Value.isInt]
def Mh(x:Str)(t:Tok):yD (.inr x) (.str x t)=true:=by simp[yD,Value.isStrOf]
def WM(a b:Int):decide ((Sum.inl a:Key)=Sum.inl b)=(a==b):=by
 by_cases e:a=b
 .subst e;simp
 .have h:¬(Sum.inl a:Key)=Sum.inl b:=λq=>e (ahw q)
  rw[aat h];exact(ad2.mpr e).symm
def WQ(a b:Str):decide ((Sum.inr a:Key)=Sum.inr b)=decide (a=b):=by
 by_cases e:a=b
 .subst e;simp
 .have h:¬(Sum.inr a:Key)=Sum.inr b:=λq=>e (Sum.inr.inj q)
  rw[aat h,aat e]
def WR(a:Int)(b:Str):decide ((Sum.inl a:Key)=Sum.inr b)=false:=aat (λq=>nomatch q)
def WT(a:Str)(b:Int):decide ((Sum.inr a:Key)=Sum.inl b)=false:=aat (λq=>nomatch q)
def h_(prog:Program)(w:World):PySem.KeyKind prog w Key where
 is:=yD
 hash:=abx w
 inj:=λv a b g f=>by
  rcases dh g with⟨i,t,rfl,rfl⟩|⟨x,t,rfl,rfl⟩
  .rcases dh f with⟨j,u,rfl,e⟩|⟨y,u,rfl,e⟩
   .injection e with c _;rw[c]
   .exact nomatch e
  .rcases dh f with⟨j,u,rfl,e⟩|⟨y,u,rfl,e⟩
   .exact nomatch e
   .injection e with c _;rw[c]
 byValue:=λk v h=>by
  rcases dh h with⟨i,t,rfl,rfl⟩|⟨x,t,rfl,rfl⟩<;>rfl
 pyHash:=λd h=>by
  rcases dh d with⟨i,t,rfl,rfl⟩|⟨x,t,rfl,rfl⟩
  .exact wpAny_pyHash_int h
  .exact wpAny_pyHash_str h
 eqBool:=λhu d h=>by
  rcases dh hu with⟨i,t,rfl,rfl⟩|⟨x,t,rfl,rfl⟩
  .rcases dh d with⟨j,u,rfl,rfl⟩|⟨y,u,rfl,rfl⟩
   .rw[WM]at h;exact wpAny_eqBool_int h
   .rw[WR]at h;exact SeqAt.EqAt.int_str i t y u _ _ _ _ h
  .rcases dh d with⟨j,u,rfl,rfl⟩|⟨y,u,rfl,rfl⟩
   .rw[WT]at h;exact SeqAt.EqAt.str_int x t j u _ _ _ _ h
   .rw[WQ]at h;exact wpAny_eqBool_str h
 «strs»:=λk x t v h=>by
  rcases dh h with⟨i,u,rfl,e⟩|⟨y,u,rfl,e⟩
  .exact nomatch e
  .injection e with c _
   subst c;cases v<;>rfl
def Dc(prog:Program)(w:World)(i:Int)(t:Tok):(h_ prog w).is (.inl i) (.int i t)=true:=Mg i t
def Dd(prog:Program)(w:World)(x:Str)(t:Tok):(h_ prog w).is (.inr x) (.str x t)=true:=Mh x t
inductive V where
 |non|bl (b:Bool)|int (i:Int)|str (x:Str)|uc (b:Array UInt8)|flt (b:UInt64)|ref (a:Addr)|ty (n:String)
 deriving DecidableEq
def RelV:V->Value->Prop
|.non,u=>u=Value.none
|.bl b,u=>u=Value.bool b
|.int i,u=>∃t,u=Value.int i t
|.str x,u=>∃t,u=Value.str x t
|.uc b,u=>∃t,u=Value.bytes b t
|.flt b,u=>∃t,u=Value.float b t
|.ref a,u=>u=Value.ref a
|.ty n,u=>u=Value.type n
abbrev Vals:List V->List Value->Prop:=Paired RelV
theorem Vals.length{xs:List V}{us:List Value}(r:Vals xs us):xs.length=us.length:=abC r
theorem Vals.get:∀{xs:List V}{us:List Value}{i:Nat}{x:V},Vals xs us->xs[i]?=some x->∃u,us[i]?=some u/\RelV x u
|_,_,_,_,.nil,e=>by simp at e
|_,_,0,_,.cons r _,e=>by simp at e;subst e;exact⟨_,rfl,r⟩
|_,_,i+1,x,.cons _ t,e=>by
 obtain⟨u,a,b⟩:=Vals.get (i:=i) (x:=x) t (by simpa using e);exact⟨u,by simpa using a,b⟩
theorem Vals.set{x:V}{u:Value}(r:RelV x u):∀{xs:List V}{us:List Value}(i:Nat),Vals xs us->Vals (xs.set i x) (us.set i u)
|_,_,_,.nil=>.nil
|_,_,0,.cons _ t=>.cons r t
|_,_,i+1,.cons q t=>.cons q (Vals.set r i t)
theorem Vals.append:∀{xs ys:List V}{us a:List Value},Vals xs us->Vals ys a->Vals (xs++ys) (us++a)
|_,_,_,_,.nil,s=>s
|_,_,_,_,.cons r t,s=>.cons r (Vals.append t s)
theorem Vals.take:∀{xs:List V}{us:List Value}(n:Nat),Vals xs us->Vals (xs.take n) (us.take n)
|_,_,0,_=>.nil
|_,_,_+1,.nil=>.nil
|_,_,n+1,.cons r t=>.cons r (Vals.take n t)
theorem Vals.drop:∀{xs:List V}{us:List Value}(n:Nat),Vals xs us->Vals (xs.drop n) (us.drop n)
|_,_,0,r=>r
|_,_,_+1,.nil=>.nil
|_,_,n+1,.cons _ t=>Vals.drop n t
def oh:Option V->Option Value->Prop
|some v,some u=>RelV v u
|none,none=>True
|_,_=>False
def KV{a:Type}:List (a×V)->List (a×Value)->Prop:=Paired λ(p:a×V)(q:a×Value)=>p.1=q.1/\RelV p.2 q.2
def kV:Key->V
|.inl i=>.int i
|.inr x=>.str x
inductive HO where
|lst (xs:List V)
|tup (xs:List V)
|dK (kvs:List (Key×V))|dT (kvs:List (List Key×V))
|set (S:Int->Bool) (n:Nat)
|ins (C dx:Addr) (fs:List (Str×V))
|own (x:Addr)
|xd (fs:List (Str×V))
|met (f x:Addr)
|rng (lo hi:Int)
|xq (o:Obj) (u:HO)
|WW (ps:Array Value)
|ext (φ:Heap->Prop)
abbrev Hp:=Addr->Option HO
def upd(H:Hp)(a:Addr)(o:HO):Hp:=λb=>if b=a then some o else H b
def ak{H:Hp}{a:Addr}{o:HO}:upd H a o a=some o:=by unfold upd;rw[aaU rfl]
def aU{H:Hp}{a b:Addr}{o:HO}(h:b≠a):upd H a o b=H b:=by unfold upd;rw[aaz h]
def TV{H:Hp}{a:Addr}{o u:HO}:upd (upd H a o) a u=upd H a u:=by
 funext b;unfold upd;split<;>rfl
def gJ{H:Hp}{a b:Addr}{o u:HO}(h:H a=some o)(h':H b=some u)(d:o≠u):a≠b:=by
 intro e;subst e;rw[h]at h';exact d (abk h')
def aW{H:Hp}{a b:Addr}{o:HO}(h:H a=some o)(h':H b=none):a≠b:=by
 intro e;subst e;rw[h]at h';cases h'
section
variable(P:Program)(w:World)
def fQ(H:Hp)(h:Heap)(a:Addr):HO->Prop
|.lst xs=>xs.length<=sizeLine/\∃(c:List Value)(n:Nat),Vals xs c/\h.get? a=some {cls:=.type "list",data:=.seq c.toArray n}
|.tup xs=>xs.length<=sizeLine/\∃c:List Value,Vals xs c/\IsTup h a c.toArray
|.dK d=>d.length<=sizeLine/\(a==sysModules)=false/\∃vs,KV d vs/\h.DictOf (h_ P w) a vs
|.dT d=>d.length<=sizeLine/\(a==sysModules)=false/\∃xs:List (List Key×Addr×Value),
  Paired (λ(p:List Key×V)(q:List Key×Addr×Value)=>p.1=q.1/\H q.2.1=some (.tup (p.1.map kV))/\RelV p.2 q.2.2) d xs/\
  ∃o k r,h.get? a=some o/\o.ExactDict/\o.data=.dict k r/\k.toList=xs.map (entryOfKey (tupleKind (h_ P w)))/\(xs.map (·.1)).Nodup
|.set S n=>h.SetOf (intKind P w) a S n
|.ins C g e=>H g=some (.own a)/\e.length<=1000/\g≠a/\h.get? a=some (instObj C g)/\
  ∃b,h.Ns1 g b/\(∀f,oh (e.lookup f) (b f))/\PySem.Within b (e.map (·.1))
|.own _=>∃o,h.get? a=some o
|.xd e=>∃b,h.Ns1 a b/\∀f,oh (e.lookup f) (b f)
|.rng lo s=>∃t u v,h.get? a=some {cls:=.type "range",data:=.fields #[.int lo t,.int s u,.int 1 v]}
|.xq o u=>h.get? a=some o/\fQ H h a u
|.WW ps=>h.get? a=some {cls:=.none,data:=.fields ps}
|.met f x=>h.get? a=some (methodObj (.ref f) (.ref x))
|.ext j=>j h/\(∃o,h.get? a=some o)/\∀l m:Heap,j l->(∀o,l.get? a=some o->m.get? a=some o)->j m
def qw(H:Hp)(h:Heap):Prop:=∀a o,H a=some o->fQ P w H h a o
end
section
variable{P:Program}{w:World}{H H':Hp}{h h':Heap}{a:Addr}{o:HO}
theorem fQ.lt(x:fQ P w H h a o):a<h.objs.size:=by
 cases o with
 |lst xs=>obtain⟨_,_,_,_,e⟩:=x;exact aa_ e
 |tup xs=>obtain⟨_,_,_,p⟩:=x;exact p.lt
 |dK b=>obtain⟨_,_,_,_,o,_,_,e,_⟩:=x;exact aa_ e
 |dT b=>obtain⟨_,_,_,_,o,_,_,e,_⟩:=x;exact aa_ e
 |set S n=>obtain⟨o,_,_,_,e,_⟩:=x;exact aa_ e
 |ins C d c=>obtain⟨_,_,_,e,_⟩:=x;exact aa_ e
 |own y=>obtain⟨_,e⟩:=x;exact aa_ e
 |xd c=>obtain⟨_,⟨_,_,_,e,_⟩,_⟩:=x;exact aa_ e
 |rng lo g=>obtain⟨_,_,_,e⟩:=x;exact aa_ e
 |xq j u=>obtain⟨e,_⟩:=x;exact aa_ e
 |WW ps=>exact aa_ (show h.get? a=some _ from x)
 |met f y=>exact aa_ (show h.get? a=some _ from x)
 |ext k=>obtain⟨_,⟨_,e⟩,_⟩:=x;exact aa_ e
theorem Paired.dY{e g:Type}{F G:e->g->Prop}:∀{c:List e}{d:List g},Paired F c d->(∀a b,F a b->G a b)->Paired G c d
|_,_,.nil,_=>.nil
|_,_,.cons r t,f=>.cons (f _ _ r) (Paired.dY t f)
def fQ.stay(x:fQ P w H h a o)(k:∀b u,(b=a\/H b=some (.own a))->h.get? b=some u->h'.get? b=some u)
  (D:∀b,H b=some (.own a)->H' b=some (.own a))(E:∀b xs,H b=some (.tup xs)->H' b=some (.tup xs)):fQ P w H' h' a o:=by
 induction o with
 |lst xs=>obtain⟨z,m,n,r,e⟩:=x;exact⟨z,m,n,r,k _ _ (.inl rfl) e⟩
 |tup xs=>obtain⟨z,m,r,g,e,c⟩:=x;exact⟨z,m,r,g,k _ _ (.inl rfl) e,c⟩
 |dK B=>obtain⟨z,y,vs,r,g,j,l,e,c⟩:=x;exact⟨z,y,vs,r,g,j,l,k _ _ (.inl rfl) e,c⟩
 |dT B=>
  obtain⟨z,y,xs,r,g,j,l,e,c⟩:=x;exact⟨z,y,xs,Paired.dY r λp q z=>⟨z.1,E _ _ z.2.1,z.2.2⟩,g,j,l,k _ _ (.inl rfl) e,c⟩
 |set S n=>obtain⟨g,j,l,t,e,c⟩:=x;exact⟨g,j,l,t,k _ _ (.inl rfl) e,c⟩
 |ins C N I=>
  obtain⟨d,z,J,e,s,⟨A,j,l,L,c⟩,r⟩:=x;exact⟨D _ d,z,J,k _ _ (.inl rfl) e,s,⟨A,j,l,k _ _ (.inr d) L,c⟩,r⟩
 |own y=>obtain⟨g,e⟩:=x;exact⟨g,k _ _ (.inl rfl) e⟩
 |xd I=>obtain⟨s,⟨A,j,l,e,c⟩,r⟩:=x;exact⟨s,⟨A,j,l,k _ _ (.inl rfl) e,c⟩,r⟩
 |rng lo O=>obtain⟨t,u,v,e⟩:=x;exact⟨t,u,v,k _ _ (.inl rfl) e⟩
 |xq g u M=>obtain⟨e,q⟩:=x;exact⟨k _ _ (.inl rfl) e,M q⟩
 |WW ps=>
  have e:h.get? a=some {cls:=.none,data:=.fields ps}:=x;show h'.get? a=some {cls:=.none,data:=.fields ps};exact k a _ (.inl rfl) e
 |met f y=>
  have e:h.get? a=some (methodObj (.ref f) (.ref y)):=x;show h'.get? a=some (methodObj (.ref f) (.ref y));exact k a _ (.inl rfl) e
 |ext Q=>obtain⟨p,⟨o,e⟩,st⟩:=x;exact⟨st _ _ p λo q=>k _ _ (.inl rfl) q,⟨o,k _ _ (.inl rfl) e⟩,st⟩
theorem qw.lt(x:qw P w H h)(e:H a=some o):a<h.objs.size:=(x a o e).lt
def qw.fresh(x:qw P w H h)(e:h.objs.size<=a):H a=none:=by
 cases q:H a with
 |none=>rfl
 |some u=>exact absurd (abG (x.lt q) e) (adY _)
def qw.kept(x:qw P w H h)(k:∀b u,h.get? b=some u->h'.get? b=some u):qw P w H h':=λa o e=>
 (x a o e).stay (λb u _ q=>k b u q) (λ_ q=>q) λ_ _ q=>q
def qw.laid(x:qw P w H h)(k:∀b u,h.get? b=some u->h'.get? b=some u)(j:h.objs.size<=a)(g:fQ P w (upd H a o) h' a o):qw P w (upd H a o) h':=λb u e=>by
 have d:=x.fresh j;by_cases f:b=a
 .subst f;rw[ak]at e;cases e;exact g
 .rw[aU f]at e
  exact(x b u e).stay (λc v _ q=>k c v q) (λc q=>by rw[aU (aW q d)];exact q) λc xs q=>by rw[aU (aW q d)];exact q
end
def Rd(H:Hp)(a:Addr)(u:HO):Prop:=H a=some u\/∃o,H a=some (.xq o u)
def Rd.ok{P:Program}{w:World}{H:Hp}{h:Heap}{a:Addr}{u:HO}(r:Rd H a u)(x:qw P w H h):fQ P w H h a u:=by
 rcases r with r|⟨o,r⟩
 .exact x a u r
 .obtain⟨_,q⟩:=x a _ r
  exact q
def Y8:Option HO->Prop
|some (.lst _)=>True
|some (.dK _)=>True
|some (.dT _)=>True
|some (.set _ _)=>True
|some (.ins _ _ _)=>True
|some (.ext _)=>True
|_=>False
section
variable{P:Program}{w:World}{H:Hp}{h h':Heap}{x e:Addr}{o':HO}
def qw.write(ok:qw P w H h)(d:Y8 (H x))(j:e=x\/H e=some (.own x))(k:∀b u,b≠e->h.get? b=some u->h'.get? b=some u)(n:∃u,h'.get? e=some u)
  (o:fQ P w (upd H x o') h' x o'):qw P w (upd H x o') h':=λb u q=>by
 have g:∀c y,H c=some (.own y)->c≠x:=λc y r z=>by subst z;rw[r]at d;exact d
 have m:∀c xs,H c=some (.tup xs)->c≠x:=λc xs r z=>by subst z;rw[r]at d;exact d
 by_cases f:b=x
 .subst f;rw[ak]at q;cases q;exact o
 .rw[aU f]at q
  by_cases a:b=e
  .have l:H b=some (.own x):=by
    rcases j with z|z
    .exact absurd (a.trans z) f
    .rw[a];exact z
   rw[q]at l;cases l;obtain⟨v,p⟩:=n;exact⟨v,by rw[a];exact p⟩
  .refine(ok b u q).stay (λc v hc r=>k c v ?_ r) (λc r=>by rw[aU (g c b r)];exact r) λc xs r=>by rw[aU (m c xs r)];exact r
   rcases hc with rfl|hc
   .exact a
   .rintro rfl
    rcases j with z|z
    .exact g c b hc z
    .rw[hc]at z;cases z;exact f rfl
end
structure Un(fs ex:List Addr)(H H':Hp)(h h':Heap):Prop where
 keep:∀b o,h.get? b=some o->H b=none->b∉fs->b∉ex->h'.get? b=some o
 slot:∀b o,h.get? b=some o->H b=none->b∈fs->b∉ex->∃sl,h'.get? b=some {o with slots:=sl}
 free:∀b o,h.get? b=some o->H b=none->b∉ex->H' b=none
 there:∀b o,h.get? b=some o->b∉ex->∃o',h'.get? b=some o'
 tups:∀b xs,H b=some (.tup xs)->H' b=some (.tup xs)
 z9:∀b o u,H b=some (.xq o u)->H' b=some (.xq o u)
 Dg:∀b ps,H b=some (.WW ps)->∃more,H' b=some (.WW (ps++more))
section
variable{fs fs' ex ex':List Addr}{H H1 H2:Hp}{h h1 h2 h':Heap}{a x e:Addr}{o:HO}
def Un.any(u:Un fs ex H H1 h h1){b:Addr}{c:Obj}(q:h.get? b=some c)(n:H b=none)(d:b∉ex):∃g,h1.get? b=some {c with slots:=g}:=by
 by_cases f:b∈fs
 .exact u.slot b c q n f d
 .exact⟨c.slots,u.keep b c q n f d⟩
def Un.kept(k:∀b u,h.get? b=some u->h'.get? b=some u):Un fs ex H H h h':=⟨λb c q _ _ _=>k b c q,λb c q _ _ _=>⟨c.slots,k b c q⟩,λ_ _ _ n _=>n,λb c q _=>⟨c,k b c q⟩,λ_ _ q=>q,λ_ _ _ q=>q,λ_ ps q=>⟨#[],by rw[q];simp⟩⟩
def Un.refl:Un fs ex H H h h:=Un.kept λ_ _ q=>q
def Un.laid(k:∀b u,h.get? b=some u->h'.get? b=some u)(d:h.objs.size<=a)(c:H a=none):Un fs ex H (upd H a o) h h' where
 keep:=λb u q _ _ _=>k b u q
 slot:=λb u q _ _ _=>⟨u.slots,k b u q⟩
 free:=λb u q n _=>by rw[aU (abt (abG (aa_ q) d))];exact n
 there:=λb u q _=>⟨u,k b u q⟩
 tups:=λb xs q=>by rw[aU (aW q c)];exact q
 z9:=λb u xs q=>by rw[aU (aW q c)];exact q
 Dg:=λb ps q=>⟨#[],by rw[aU (aW q c),q];simp⟩
def Un.write(c:Y8 (H x))(m:e=x\/H e=some (.own x))(k:∀b u,b≠e->h.get? b=some u->h'.get? b=some u)(l:∃u,h'.get? e=some u):Un fs ex H (upd H x o) h h':=by
 have g:∀b,H b=none->b≠x:=λb n z=>by subst z;rw[n]at c;exact c
 have j:∀b,H b=none->b≠e:=λb n z=>by
  subst z;rcases m with r|r
  .exact g b n r
  .rw[n]at r;cases r
 have d:∀b u,H b=some u->¬Y8 (some u)->b≠x:=λb u q nm z=>by subst z;rw[q]at c;exact nm c
 refine⟨λb u q n _ _=>k b u (j b n) q,λb u q n _ _=>⟨u.slots,k b u (j b n) q⟩,λb u q n _=>by rw[aU (g b n)];exact n,λb u q _=>?_,
  λb xs q=>by rw[aU (d b _ q λz=>z)];exact q,λb u xs q=>by rw[aU (d b _ q λz=>z)];exact q,λb ps q=>⟨#[],by rw[aU (d b _ q λz=>z),q];simp⟩⟩
 by_cases f:b=e
 .subst f;exact l
 .exact⟨u,k b u f q⟩
end
def trk(h:Heap)(H:Hp):List Addr:=(List.range h.objs.size).filter λa=>(H a).isSome
def z_(h:Heap)(H:Hp):Heap:=PySem.W.hideAll h (trk h H)
def Mi(h:Heap)(H:Hp):(z_ h H).objs.size=h.objs.size:=PySem.W.hideAll_size _ _
def Pk{h:Heap}{H:Hp}{b:Addr}{o:Obj}(e:h.get? b=some o)(n:H b=none):(z_ h H).get? b=some o:=PySem.W.hideAll_get _ e λa=>by
  have q:(H b).isSome=true:=(aez.mp a).2;rw[n]at q;simp at q
def TX{h:Heap}{H:Hp}{b:Addr}{o:Obj}(e:(z_ h H).get? b=some o):h.get? b=some o/\H b=none:=by
 have a:h.get? b=some o:=PySem.W.of_hideAll (trk h H) e;refine⟨a,?_⟩;cases q:H b with
 |none=>rfl
 |some x=>
  have c:b∈trk h H:=aez.mpr ⟨ad9.mpr (aa_ a),by simp[q]⟩;have z:(z_ h H).get? b=none:=PySem.W.hideAll_none (trk h H) c;rw[z]at e;cases e
structure Mod(K:Frag)(mg:Str->Option Value)(base:Heap):Prop where
 WX:K.In base
 glob:base.Ns mainGlobals mg
 blt:∃mb,base.Ns builtinsNs mb/\∀x:Str,x≠"__name__"->mb x=bootBuiltins x
 nolimit:base.NoLimit
structure Cx where
 prog:Program
 w:World
 K:Frag
 mg:Str->Option Value
 base:Heap
 A:Around
 N:List Str
 s_0:Shared
 Y9:Hp
 env:Env
 outer:List Env
 stack:List Env
 ex:List Addr
 fn:Str->Bool
 calm:Bool
 pn:List (Addr×Obj)
 xe:Value->Shared->Prop
def frs(l:List Env):List Addr:=l.filterMap (·.frame)
abbrev Cx.fs(X:Cx):List Addr:=frs X.outer
def Yy(sc:Scope)(x:Str):Prop:=sc.names.lookup x=some .local\/sc.names.lookup x=some .cell\/sc.names.lookup x=some .free
def Loc(sc:Scope)(x:Str):Prop:=sc.names.lookup x=some .local\/sc.names.lookup x=some .cell
def Look(env:Env)(h:Heap)(m:Str->Option Value)(x:Str)(u:Value):Prop:=(env.kindOf x=some .local/\m x=some u)\/((env.kindOf x=some .cell\/env.kindOf x=some .free)/\∃c,env.cells.lookup x=some c/\h.IsCell c (some u))
structure Cx.Ok(X:Cx):Prop where
 mod:Mod X.K X.mg X.base
 kind:X.env.scope.kind=.function
 glob:X.env.globals=mainGlobals
 blt:X.env.builtins=builtinsNs
 above:X.s_0.heap.objs.size<=X.env.locals
 inj:∀x y c,X.env.cells.lookup x=some c->X.env.cells.lookup y=some c->x=y
 has:∀x,(X.env.kindOf x=some .cell\/X.env.kindOf x=some .free)->∃c,X.env.cells.lookup x=some c
 cab:∀x c,X.fn x=true->X.env.cells.lookup x=some c->X.s_0.heap.objs.size<=c
 hd:X.calm=true->X.A.handled=none
 frames:X.A.frames=some X.stack
 stk:X.stack=X.outer\/(X.stack=X.env::X.outer/\X.env.frame=some X.env.locals)
 exf:∀b∈X.ex,b≠X.env.locals/\∀x c,X.env.cells.lookup x=some c->c≠b
 bs:∀b o,X.base.get? b=some o->X.s_0.heap.get? b=some o/\X.Y9 b=none
 TY:X.base.objs.size<=X.s_0.heap.objs.size
 Pn:∀b o,X.base.get? b=some o->b∉X.ex
 Pq:∀b∈X.ex,b∉X.fs
 ud:X.s_0.heap.FunFrames X.base X.outer
 WY:∀b∈X.fs,X.Y9 b=none
structure Inv(X:Cx)(pins:List (Addr×Obj))(σ:List (Option V))(H:Hp)(s:Shared):Prop where
 ok:X.Ok
 os:s.os=X.s_0.os
 bare:AllBare s.gens
 base:Un X.fs X.ex X.Y9 H X.s_0.heap s.heap
 loc:∃m,s.heap.Ns X.env.locals m/\∀(i:Nat)(x:Str)(v:V),X.N[i]?=some x->σ[i]?=some (some v)->Yy X.env.scope x->∃u,RelV v u/\Look X.env s.heap m x u
 cell:∀x c,X.env.cells.lookup x=some c->∃v,s.heap.IsCell c v
 free:H X.env.locals=none
 lW:∀x c,X.env.cells.lookup x=some c->H c=none
 pin:∀p∈X.pn++pins,s.heap.get? p.1=some p.2/\H p.1=none/\p.1≠X.env.locals/\p.1∉X.fs/\∀v,p.2.data≠.cell v
 hok:qw X.prog X.w H s.heap
 len:σ.length=X.N.length
section
variable{X:Cx}{pins:List (Addr×Obj)}{σ:List (Option V)}{H H':Hp}{s:Shared}{h':Heap}
def Cx.Ok.aby(ok:X.Ok){b:Addr}{o:Obj}(e:X.base.get? b=some o):b∉X.fs:=λa=>by
 have:=(ok.ud.mem a).1;rw[e]at this;cases this
theorem Inv.bs(I:Inv X pins σ H s):∀b o,X.base.get? b=some o->s.heap.get? b=some o/\H b=none:=λb o e=>
 ⟨I.base.keep b o (I.ok.bs b o e).1 (I.ok.bs b o e).2 (I.ok.aby e) (I.ok.Pn b o e),I.base.free b o (I.ok.bs b o e).1 (I.ok.bs b o e).2 (I.ok.Pn b o e)⟩
def Inv.bk(I:Inv X pins σ H s):∀b o,X.base.get? b=some o->s.heap.get? b=some o:=λb o e=>(I.bs b o e).1
theorem Inv.mod(I:Inv X pins σ H s):Mod X.K X.mg X.base:=I.ok.mod
def Inv.Dh(I:Inv X pins σ H s):X.K.In s.heap:=I.ok.mod.WX.keeps I.bk
theorem Inv.lt(I:Inv X pins σ H s):X.env.locals<s.heap.objs.size:=let⟨_,hn,_⟩:=I.loc;hn.lt
def Inv.sz(I:Inv X pins σ H s):X.s_0.heap.objs.size<=s.heap.objs.size:=abJ I.ok.above (ad8 I.lt)
def Inv.abz(I:Inv X pins σ H s){a:Addr}(h:s.heap.objs.size<=a):a∉X.fs:=λb=>by
 obtain⟨_,o,c,_⟩:=I.ok.ud.mem b;exact absurd (abG (aa_ c) (abJ I.sz h)) (adY _)
def Inv.cne(I:Inv X pins σ H s):∀x c,X.env.cells.lookup x=some c->c≠X.env.locals:=λx c e z=>by
 obtain⟨v,o,a,b⟩:=I.cell x c e;obtain⟨m,⟨g,j,k,d,f,_⟩,_⟩:=I.loc;rw[z,d]at a;cases a;rw[f]at b;cases b
theorem Inv.ud(I:Inv X pins σ H s):s.heap.FunFrames X.base X.outer:=by
 have f:∀(l:List Env),(∀b∈frs l,b∈X.fs)->X.s_0.heap.FunFrames X.base l->s.heap.FunFrames X.base l:=by
  intro l
  induction l with
  |nil=>intro _ _;trivial
  |cons env r g=>
   intro hs j;obtain⟨k,⟨L,o,a,m,n,p⟩,q⟩:=j;have c:L∈X.fs:=hs L (by unfold frs;rw[aei,a];exact aa0);obtain⟨t,e⟩:=I.base.slot L o n (I.ok.WY L c) c λz=>I.ok.Pq L z c;exact⟨k,⟨L,_,a,m,e,p⟩,g (λb d=>hs b (by unfold frs;rw[aei,a];exact aaX _ d)) q⟩
 exact f X.outer (λ_ d=>d) I.ok.ud
theorem Inv.stack(I:Inv X pins σ H s):s.heap.FunFrames X.base X.stack:=by
 rcases I.ok.stk with e|⟨e,a⟩
 .rw[e];exact I.ud
 .rw[e]
  obtain⟨m,b,_⟩:=I.loc;refine .cons (by rw[I.ok.kind];decide) a b ?_ I.ud;exact Heap.get?_none_of_le (abJ I.ok.TY I.ok.above)
def Inv.GJ(I:Inv X pins σ H s):∀b∈frs X.stack,b∈X.env.locals::X.fs:=λb a=>by
 rcases I.ok.stk with e|⟨e,c⟩
 .rw[e]at a;exact aaX _ a
 .rw[e]at a
  unfold frs at a;rw[aei,c]at a;exact a
def Inv.Jy(I:Inv X pins σ H s):∀b∈frs X.stack,H b=none:=λb a=>by
 rcases aa2.mp (I.GJ b a)with e|a
 .rw[e];exact I.free
 .obtain⟨_,o,c,_⟩:=I.ok.ud.mem a
  exact I.base.free b o c (I.ok.WY b a) λz=>I.ok.Pq b z a
def Inv.step{g':Array GenState}{t':Nat}{d':Drawn}{ch:List Addr}(I:Inv X pins σ H s)
  (t:∀b∈ch,(b∈X.ex\/X.s_0.heap.objs.size<=b)/\b≠X.env.locals/\(∀x c,X.env.cells.lookup x=some c->c≠b)/\∀p∈X.pn++pins,p.1≠b)
  (keep:∀b o,b≠X.env.locals->b∉X.fs->b∉ch->s.heap.get? b=some o->H b=none->h'.get? b=some o)
  (slot:∀b o,b≠X.env.locals->b∈X.fs->b∉ch->s.heap.get? b=some o->H b=none->∃C,h'.get? b=some {o with slots:=C})(free:∀b o,b∉ch->s.heap.get? b=some o->H b=none->H' b=none)
  (there:∀b o,b∉ch->s.heap.get? b=some o->∃y,h'.get? b=some y)
  (tups:∀b xs,H b=some (.tup xs)->H' b=some (.tup xs))(z9:∀b o u,H b=some (.xq o u)->H' b=some (.xq o u))(Dg:∀b ps,H b=some (.WW ps)->∃more,H' b=some (.WW (ps++more)))
  (T:∀m,s.heap.Ns X.env.locals m->h'.Ns X.env.locals m)(O:qw X.prog X.w H' h')(U:AllBare g'):
  Inv X pins σ H' {s with heap:=h',gens:=g',drawn:=d',toks:=t'}:=by
 have J:∀b o,X.s_0.heap.get? b=some o->b≠X.env.locals:=λb o e=>abt (abG (aa_ e) I.ok.above);have B:∀b o,X.s_0.heap.get? b=some o->b∉X.ex->b∉ch:=λb o e a g=>by
  rcases(t b g).1 with z|z
  .exact a z
  .exact absurd (abG (aa_ e) z) (adY _)
 have E:∀x c,X.env.cells.lookup x=some c->∀v,s.heap.IsCell c v->h'.IsCell c v:=λx c e v ⟨o,j,D⟩=>by
  have w:c∉ch:=λz=>(t c z).2.2.1 x c e rfl;by_cases hc:c∈X.fs
  .obtain⟨C,q⟩:=slot c o (I.cne x c e) hc w j (I.lW x c e)
   exact⟨_,q,D⟩
  .exact⟨o,keep c o (I.cne x c e) hc w j (I.lW x c e),D⟩
 refine⟨I.ok,I.os,U,⟨λb o e n g a=>?_,λb o e n g a=>?_,λb o e n a=>?_,λb o e a=>?_,λb xs e=>tups b xs (I.base.tups b xs e),λb o xs e=>z9 b o xs (I.base.z9 b o xs e),λb ps e=>?_⟩,?_,λx c e=>?_,?_,λx c e=>?_,λp L=>?_,O,I.len⟩
 .exact keep b o (J b o e) g (B b o e a) (I.base.keep b o e n g a) (I.base.free b o e n a)
 .obtain⟨C,f⟩:=I.base.slot b o e n g a
  obtain⟨Q,A⟩:=slot b _ (J b o e) g (B b o e a) f (I.base.free b o e n a);exact⟨Q,A⟩
 .obtain⟨y,f⟩:=I.base.there b o e a
  exact free b y (B b o e a) f (I.base.free b o e n a)
 .obtain⟨y,f⟩:=I.base.there b o e a
  exact there b y (B b o e a) f
 .obtain⟨Y,f⟩:=I.base.Dg b ps e
  obtain⟨m2,A⟩:=Dg b _ f;exact⟨Y++m2,by rw[A,Array.append_assoc]⟩
 .obtain⟨m,hn,hl⟩:=I.loc
  refine⟨m,T m hn,λi x v f A e3=>?_⟩;obtain⟨u,r,l⟩:=hl i x v f A e3;refine⟨u,r,?_⟩;rcases l with l|⟨k,c,e,z⟩
  .exact .inl l
  .exact .inr ⟨k,c,e,E x c e _ z⟩
 .obtain⟨v,z⟩:=I.cell x c e
  exact⟨v,E x c e v z⟩
 .obtain⟨m,⟨o,_,_,j,_⟩,_⟩:=I.loc
  exact free _ o (λz=>(t _ z).2.1 rfl) j I.free
 .obtain⟨v,o,j,D⟩:=I.cell x c e
  exact free c o (λz=>(t c z).2.2.1 x c e rfl) j (I.lW x c e)
 .obtain⟨e,n,M,N,d⟩:=I.pin p L
  have w:p.1∉ch:=λz=>(t p.1 z).2.2.2 p L rfl;exact⟨keep p.1 p.2 M N w e n,free p.1 p.2 w e n,M,N,d⟩
def Inv.un{t':Nat}(I:Inv X pins σ H s)(u:Un X.fs [] H H' s.heap h')(f:qw X.prog X.w H' h'):Inv X pins σ H' {s with heap:=h',toks:=t'}:=by
 obtain⟨m,⟨o,l,p,d,r⟩,_⟩:=id I.loc;obtain⟨q,j⟩:=u.any d I.free (by simp);exact I.step (g':=s.gens) (d':=s.drawn) (ch:=[]) (λ_ z=>nomatch z) (λb o _ a _ e n=>u.keep b o e n a (by simp)) (λb o _ a _ e n=>u.slot b o e n a (by simp)) (λb o _ e n=>u.free b o e n (by simp)) (λb o _ e=>u.there b o e (by simp)) u.tups u.z9 u.Dg (λt k=>by
  obtain⟨v,es',g,c,r'⟩:=k;rw[d]at c;cases c;exact⟨_,es',g,j,r'⟩) f I.bare
def Inv.call{g':Array GenState}{t':Nat}{d':Drawn}{ch:List Addr}(I:Inv X pins σ H s)(u:Un (frs X.stack) ch H H' s.heap h')(j:qw X.prog X.w H' h')(l:AllBare g')
  (d:∀b∈ch,(b∈X.ex\/X.s_0.heap.objs.size<=b)/\b≠X.env.locals/\(∀x c,X.env.cells.lookup x=some c->c≠b)/\∀p∈X.pn++pins,p.1≠b):
  Inv X pins σ H' {s with heap:=h',gens:=g',drawn:=d',toks:=t'}:=by
 obtain⟨m,⟨o,v,w,g,r⟩,_⟩:=id I.loc;obtain⟨y,a⟩:=u.any g I.free λz=>(d _ z).2.1 rfl;exact I.step (ch:=ch) d (λb o a q hc e n=>u.keep b o e n (λz=>(aa2.mp (I.GJ b z)).elim a q) hc) (λb o _ _ hc e n=>u.any e n hc) (λb o hc e n=>u.free b o e n hc) (λb o hc e=>u.there b o e hc) u.tups u.z9 u.Dg (λA t=>by
  obtain⟨B,es',k,f,r'⟩:=t;rw[g]at f;cases f;exact⟨_,es',k,a,r'⟩) j l
def Inv.turned{t':Nat}{a:Addr}(I:Inv X pins σ H s)(k:∀b o,b≠a->s.heap.get? b=some o->h'.get? b=some o)(g:H a=none)(f:a≠X.env.locals)
  (j:a∈X.ex\/X.s_0.heap.objs.size<=a)(l:∀x c,X.env.cells.lookup x=some c->c≠a)(t:∀p∈X.pn++pins,p.1≠a):Inv X pins σ H {s with heap:=h',toks:=t'}:=by
 have d:∀b u,H b=some u->b≠a:=λb u e z=>by rw[z,g]at e;cases e
 refine I.step (g':=s.gens) (d':=s.drawn) (ch:=[a]) (λb w=>?_) (λb o _ _ hc e _=>k b o (λz=>hc (by simp[z])) e) (λb o _ _ hc e _=>⟨o.slots,k b o (λz=>hc (by simp[z])) e⟩) (λ_ _ _ _ n=>n)
  (λb o hc e=>⟨o,k b o (λz=>hc (by simp[z])) e⟩) (λ_ _ e=>e) (λ_ _ _ e=>e) (λb ps e=>⟨#[],by rw[e];simp⟩) (λm y=>?_) (λb u e=>?_) I.bare
 .have e:b=a:=by simpa using w
  subst e;exact⟨j,f,l,t⟩
 .obtain⟨o,A,B,C,r⟩:=y
  exact⟨o,A,B,k _ o (ac6 f) C,r⟩
 .refine(I.hok b u e).stay (λc v hc q=>k c v ?_ q) (λ_ q=>q) λ_ _ q=>q
  rcases hc with z|z
  .rw[z];exact d b u e
  .exact d c _ z
def Inv.tok(I:Inv X pins σ H s)(t:Nat):Inv X pins σ H {s with toks:=t}:=I.un (h':=s.heap) (t':=t) Un.refl I.hok
theorem Inv.kept{t':Nat}(I:Inv X pins σ H s)(k:∀b u,s.heap.get? b=some u->h'.get? b=some u):Inv X pins σ H {s with heap:=h',toks:=t'}:=I.un (Un.kept k) (I.hok.kept k)
theorem Inv.laid{a:Addr}{o:HO}{t':Nat}(I:Inv X pins σ H s)(k:∀b u,s.heap.get? b=some u->h'.get? b=some u)(c:s.heap.objs.size<=a)(d:fQ X.prog X.w (upd H a o) h' a o):
  Inv X pins σ (upd H a o) {s with heap:=h',toks:=t'}:=I.un (Un.laid k c (I.hok.fresh c)) (I.hok.laid k c d)
theorem Inv.write{x e:Addr}{o:HO}{t':Nat}(I:Inv X pins σ H s)(c:Y8 (H x))(d:e=x\/H e=some (.own x))(k:∀b u,b≠e->s.heap.get? b=some u->h'.get? b=some u)(a:∃u,h'.get? e=some u)
  (f:fQ X.prog X.w (upd H x o) h' x o):Inv X pins σ (upd H x o) {s with heap:=h',toks:=t'}:=I.un (Un.write c d k a) (I.hok.write c d k a f)
def Inv.weak{a:List (Option V)}(I:Inv X pins σ H s)(b:a.length=σ.length)(w:∀(i:Nat) v,a[i]?=some (some v)->σ[i]?=some (some v)):Inv X pins a H s:=⟨I.ok,I.os,I.bare,I.base,let⟨m,hn,hl'⟩:=I.loc;⟨m,hn,λi x v c d e=>hl' i x v c (w i v d) e⟩,I.cell,I.free,I.lW,I.pin,I.hok,b.trans I.len⟩
def Inv.Jz{a:List (Addr×Obj)}(I:Inv X pins σ H s)(h:∀p∈a,s.heap.get? p.1=some p.2/\H p.1=none/\p.1≠X.env.locals/\p.1∉X.fs/\∀v,p.2.data≠.cell v):Inv X a σ H s:=⟨I.ok,I.os,I.bare,I.base,I.loc,I.cell,I.free,I.lW,λp b=>(aa4.mp b).elim (λz=>I.pin p (afL _ z)) (h p),I.hok,I.len⟩
def vI{N:List Str}(c:N.Nodup){i j:Nat}{x:Str}(a:N[i]?=some x)(b:N[j]?=some x):i=j:=by
 obtain⟨f,d⟩:=aaV.mp a;obtain⟨g,e⟩:=aaV.mp b;exact(List.getElem_inj c).mp (d.trans e.symm)
def yE{M:Model}{A:Around}{E:Value->Shared->Prop}{i:Nat}{x:Str}{v:V}{u:Value}{Q:Unit->Shared->Prop}(I:Inv X pins σ H s)(hN:X.N.Nodup)(C:X.N[i]?=some x)(g:Loc X.env.scope x)(r:RelV v u)
  (h:∀T,Inv X pins (σ.set i (some v)) H T->(∃a,Heap.SameBut a s.heap T.heap/\(a=X.env.locals\/X.env.cells.lookup x=some a))->Q () T)(hf:X.fn x=true\/X.env.scope.names.lookup x=some .local:=by first|exact .inl rfl|exact .inr rfl|assumption):wpAny M A (storeName X.env x u) Q E s:=by
 obtain⟨m,U,hl⟩:=id I.loc;have hcls:(X.env.scope.kind==.class||(X.env.scope.kind==.module&&X.env.locals != X.env.globals))=false:=by rw[I.ok.kind];rfl
 have hiσ:i<σ.length:=by rw[I.len];exact(aaV.mp C).1
 have N:=I.cne;have tracked:∀{a:Addr}{h':Heap},(∃o,s.heap.get? a=some o/\H a=none)->Heap.SameBut a s.heap h'->qw X.prog X.w H h':=λ{a h'} ha hs b ob e=>by
  obtain⟨_,_,hfree⟩:=ha;refine(I.hok b ob e).stay (λc D hc q=>(hs.2 c ?_).trans q) (λ_ q=>q) λ_ _ q=>q;rintro rfl;rcases hc with rfl|hc
  .rw[hfree]at e;cases e
  .rw[hfree]at hc;cases hc
 rcases g with t|t
 .refine wpAny_storeName_local t U (λh' hn' hs=>?_) hcls
  obtain⟨oL,_,_,hoL,_⟩:=id U;refine h _ ⟨I.ok,I.os,I.bare,⟨λb o e n w g=>?_,λb o e n w g=>?_,I.base.free,λb o e g=>?_,I.base.tups,I.base.z9,I.base.Dg⟩,⟨_,hn',λj y Y f l e3=>?_⟩,λy c e=>?_,I.free,I.lW,λp hp=>?_,tracked ⟨oL,hoL,I.free⟩ hs,by simpa using I.len⟩ ⟨_,hs,.inl rfl⟩
  .exact(hs.2 b (abt (abG (aa_ e) I.ok.above))).trans (I.base.keep b o e n w g)
  .obtain⟨sl,f⟩:=I.base.slot b o e n w g
   exact⟨sl,(hs.2 b (abt (abG (aa_ e) I.ok.above))).trans f⟩
  .obtain⟨o',f⟩:=I.base.there b o e g
   exact⟨o',(hs.2 b (abt (abG (aa_ e) I.ok.above))).trans f⟩
  .by_cases B:j=i
   .subst B
    rw[C]at f;cases f;rw[aen hiσ]at l;cases l;exact⟨u,r,.inl ⟨t,by simp⟩⟩
   .rw[aed (ac6 B)]at l
    obtain⟨u',r',q⟩:=hl j y Y f l e3;refine⟨u',r',?_⟩;rcases q with⟨k,e⟩|⟨k,c,e,z⟩
    .refine .inl ⟨k,?_⟩
     have:y≠x:=λe=>B (vI hN f (e▸C));simp[this,e]
    .exact .inr ⟨k,c,e,z.sameBut hs (N y c e)⟩
  .obtain⟨D,z⟩:=I.cell y c e
   exact⟨D,z.sameBut hs (N y c e)⟩
  .obtain⟨e,n,J,nf,d⟩:=I.pin p hp
   exact⟨(hs.2 p.1 J).trans e,n,J,nf,d⟩
 .have O:X.fn x=true:=by
   rcases hf with z|z
   .exact z
   .rw[z]at t;cases t
  obtain⟨c,hc⟩:=I.ok.has x (.inl t);obtain⟨D,z⟩:=I.cell x c hc;refine wpAny_storeName_cell I.ok.kind t hc z (λh' hc' hs=>?_);obtain⟨oc,hoc,abB⟩:=id z;refine h {s with heap:=h'} ⟨I.ok,I.os,I.bare,⟨λb o e n w g=>?_,λb o e n w g=>?_,I.base.free,λb o e g=>?_,I.base.tups,I.base.z9,I.base.Dg⟩,⟨m,U.sameBut hs (ac6 (N x c hc)),λj y Y f l e3=>?_⟩,λy L e=>?_,I.free,I.lW,λp hp=>?_,tracked ⟨oc,hoc,I.lW x c hc⟩ hs,by simpa using I.len⟩ ⟨c,hs,.inr hc⟩
  .exact(hs.2 b (abt (abG (aa_ e) (I.ok.cab x c O hc)))).trans (I.base.keep b o e n w g)
  .obtain⟨sl,f⟩:=I.base.slot b o e n w g
   exact⟨sl,(hs.2 b (abt (abG (aa_ e) (I.ok.cab x c O hc)))).trans f⟩
  .obtain⟨o',f⟩:=I.base.there b o e g
   exact⟨o',(hs.2 b (abt (abG (aa_ e) (I.ok.cab x c O hc)))).trans f⟩
  .by_cases B:j=i
   .subst B
    rw[C]at f;cases f;rw[aen hiσ]at l;cases l;exact⟨u,r,.inr ⟨.inl t,c,hc,hc'⟩⟩
   .rw[aed (ac6 B)]at l
    obtain⟨u',r',q⟩:=hl j y Y f l e3;refine⟨u',r',?_⟩;rcases q with q|⟨k,L,e,z'⟩
    .exact .inl q
    .refine .inr ⟨k,L,e,z'.sameBut hs ?_⟩
     rintro rfl;exact B (vI hN f (I.ok.inj _ _ _ e hc▸C))
  .by_cases hcc:L=c
   .subst hcc;exact⟨_,hc'⟩
   .obtain⟨w2,z2⟩:=I.cell y L e
    exact⟨w2,z2.sameBut hs hcc⟩
  .obtain⟨e,n,J,nf,d⟩:=I.pin p hp
   refine⟨(hs.2 p.1 ?_).trans e,n,J,nf,d⟩;intro q;rw[q,hoc]at e;have q':oc=p.2:=abk e;exact d D (by rw[<-q'];exact abB)
def vJ{M:Model}{A:Around}{E:Value->Shared->Prop}{i:Nat}{x:Str}{v:V}{u:Value}{Q:Unit->Shared->Prop}(I:Inv X pins σ H s)(b:X.N.Nodup)(c:X.N[i]?=some x)(d:Loc X.env.scope x)(r:RelV v u)
  (h:∀a,Inv X pins (σ.set i (some v)) H a->Q () a)(e:X.fn x=true\/X.env.scope.names.lookup x=some .local:=by first|exact .inl rfl|exact .inr rfl|assumption):wpAny M A (storeName X.env x u) Q E s:=yE I b c d r (λa f _=>h a f) e
def Inv.call'{a:Shared}{ch:List Addr}(I:Inv X pins σ H s)(g:a.os=s.os)(u:Un (frs X.stack) ch H H' s.heap a.heap)(d:qw X.prog X.w H' a.heap)(j:AllBare a.gens)
  (f:∀b∈ch,(b∈X.ex\/X.s_0.heap.objs.size<=b)/\b≠X.env.locals/\(∀x c,X.env.cells.lookup x=some c->c≠b)/\∀p∈X.pn++pins,p.1≠b):Inv X pins σ H' a:=by
 obtain⟨h',g',d',t',k⟩:=a;have e:k=s.os:=g;subst e;exact I.call (g':=g') (t':=t') (d':=d') u d j f
end
abbrev XK:=Value->Option Addr->Hp->Prop
abbrev St:=List (Option V)
abbrev VK:=V->Hp->Prop
abbrev TE:=St->Hp->VK->Prop
abbrev TT:=St->Hp->(Bool->Hp->Prop)->Prop
abbrev TA:=St->Hp->(List V->Hp->Prop)->Prop
structure Ends where
 nx:St->Hp->Prop
 rt:VK
 bk:St->Hp->Prop:=λ_ _=>False
 ct:St->Hp->Prop:=λ_ _=>False
abbrev TS:=Ends->St->Hp->Prop
def EP(X:Cx)(pins:List (Addr×Obj))(b:St)(Q:VK)(u:Value)(c:Shared):Prop:=Ex2 λv a=>dF (Inv X pins b a c) (RelV v u) (Q v a)
def TP(X:Cx)(pins:List (Addr×Obj))(c:St)(Q:Bool->Hp->Prop)(b:Bool)(d:Shared):Prop:=∃a,Inv X pins c a d/\Q b a
def AP(X:Cx)(pins:List (Addr×Obj))(b:St)(Q:List V->Hp->Prop)(us:List Value)(c:Shared):Prop:=Ex2 λvs a=>dF (Inv X pins b a c) (Vals vs us) (Q vs a)
def SP(X:Cx)(pins:List (Addr×Obj))(D:Ends)(f:Flow)(c:Shared):Prop:=
 match f with
 |.next=>Ex2 λb a=>Inv X pins b a c/\D.nx b a
 |.brk=>Ex2 λb a=>Inv X pins b a c/\D.bk b a
 |.cont=>Ex2 λb a=>Inv X pins b a c/\D.ct b a
 |.ret u=>sV λv b a=>dF (Inv X pins b a c) (RelV v u) (D.rt v a)
def PE(X:Cx)(e:Expr)(t:TE):Prop:=∀(pins:List (Addr×Obj))(s:Shared)(a:St)(H:Hp)(Q:VK),Inv X pins a H s->t a H Q->wpAny (model X.prog X.w) X.A (eval e X.env) (EP X pins a Q) X.xe s
def PT(X:Cx)(e:Expr)(t:TT):Prop:=∀(pins:List (Addr×Obj))(s:Shared)(a:St)(H:Hp)(Q:Bool->Hp->Prop),Inv X pins a H s->t a H Q->wpAny (model X.prog X.w) X.A (isTrue e X.env (eval e X.env)) (TP X pins a Q) X.xe s
def PW(X:Cx)(e:Expr)(t:TT):Prop:=∀(whole:Sem Value)(pins:List (Addr×Obj))(s:Shared)(a:St)(H:Hp)(Q:Bool->Hp->Prop),Inv X pins a H s->t a H Q->wpAny (model X.prog X.w) X.A (isTrue e X.env whole) (TP X pins a Q) X.xe s
def PW.pt{X:Cx}{e:Expr}{t:TT}(h:PW X e t):PT X e t:=h _
def PA(X:Cx)(c:List Expr)(t:TA):Prop:=∀(b:Pos)(pins:List (Addr×Obj))(s:Shared)(a:St)(H:Hp)(Q:List V->Hp->Prop),Inv X pins a H s->t a H Q->wpAny (model X.prog X.w) X.A (spliced (backTo b (starEach c X.env))) (AP X pins a Q) X.xe s
def PS(X:Cx)(st:Stmt)(t:TS):Prop:=∀(pins:List (Addr×Obj))(s:Shared)(a:St)(H:Hp)(D:Ends),Inv X pins a H s->t D a H->wpAny (model X.prog X.w) X.A (exec st X.env) (SP X pins D) X.xe s
def Fw(X:Cx)(st:List Stmt)(t:TS):Prop:=∀(pins:List (Addr×Obj))(s:Shared)(a:St)(H:Hp)(D:Ends),Inv X pins a H s->t D a H->wpAny (model X.prog X.w) X.A (execs st X.env) (SP X pins D) X.xe s
def cV{b:Type}{t:Sem b}{Q c:b->Shared->Prop}{M:Model}{A:Around}{E:Value->Shared->Prop}{s:Shared}(h:wpAny M A t Q E s)(d:∀a s,Q a s->c a s):wpAny M A t c E s:=adM h d λ_ _ x=>x
section
variable{X:Cx}
inductive gU(i:Nat)(σ:St)(H:Hp)(Q:VK):Prop
|mk v (_:σ[i]?=some (some v)) (_:Q v H)
def tC(v:V):TE:=λ_ H Q=>Q v H
def W0{i:Nat}{x:Str}{f:Pos}(j:X.N[i]?=some x)(k:Yy X.env.scope x)(b:(x==("__debug__":Str))=false:=by decide)(g:(x==("__classdict__":Str))=false:=by decide):PE X (.Name x f) (gU i):=by
 intro pins s n H Q I h;obtain⟨v,e,h⟩:=h;obtain⟨m,o,p⟩:=I.loc;obtain⟨u,r,l⟩:=p i x v j e k;have fin:EP X pins n Q u s:=⟨v,H,I,r,h⟩;rcases l with⟨a,q⟩|⟨a,c,hc,d⟩
 .exact wpAny_Name (wpAny_loadName_local I.ok.kind a o q fin) b
 .rcases a with a|a
  .exact wpAny_Name (wpAny_loadName_cell I.ok.kind a hc d fin) b
  .exact wpAny_Name (wpAny_loadName_free I.ok.kind a hc d fin g) b
def aD{i j pos}:PE X (.Constant (.int i) j pos) (tC (.int i)):=λ_ _ _ H _ I h=>wpAny_Constant_int ⟨.int i,H,I.tok _,⟨_,rfl⟩,h⟩
def tG{b j pos}:PE X (.Constant (.bool b) j pos) (tC (.bl b)):=λ_ _ _ H _ I h=>Constant_bool ⟨.bl b,H,I,rfl,h⟩
def b_{j pos}:PE X (.Constant .none j pos) (tC .non):=λ_ _ _ H _ I h=>Constant_none ⟨.non,H,I,rfl,h⟩
def Gl(X:Cx)(x:Str):Prop:=X.env.kindOf x=some .globalImplicit
def Aa{E:Value->Shared->Prop}{pins:List (Addr×Obj)}{s:Shared}{b:St}{H:Hp}{x:Str}{u:Value}{a:Pos}{Q:Value->Shared->Prop}(I:Inv X pins b H s)(c:Gl X x)(d:X.mg x=some u)(h:Q u s)
  (e:(x==("__debug__":Str))=false:=by decide):wpAny (model X.prog X.w) X.A (eval (.Name x a) X.env) Q E s:=agg I.ok.kind c (Calls.loadGlobal_global (by rw[I.ok.glob];exact I.mod.glob.keeps I.bk) d h) e
def lX{E:Value->Shared->Prop}{pins:List (Addr×Obj)}{s:Shared}{b:St}{H:Hp}{x:Str}{u:Value}{a:Pos}{Q:Value->Shared->Prop}(I:Inv X pins b H s)(c:Gl X x)(d:X.mg x=none)(e:bootBuiltins x=some u)(h:Q u s)
  (f:x≠"__name__":=by decide)(g:(x==("__debug__":Str))=false:=by decide):wpAny (model X.prog X.w) X.A (eval (.Name x a) X.env) Q E s:=by
 obtain⟨l,j,k⟩:=I.mod.blt;exact agg I.ok.kind c (Calls.loadGlobal_builtin (by rw[I.ok.glob];exact I.mod.glob.keeps I.bk) d (by rw[I.ok.blt];exact j.keeps I.bk) ((k x f).trans e) h) g
def JB{x:Str}{v:V}{u:Value}{a:Pos}(b:Gl X x)(c:X.mg x=some u)(r:RelV v u)(d:(x==("__debug__":Str))=false:=by decide):PE X (.Name x a) (tC v):=λ_ _ _ H _ I h=>Aa I b c ⟨v,H,I,r,h⟩ d
variable{a b:Expr}{ta tb:TE}{pos:Pos}
inductive IsB(x:V)(Q:Bool->Prop):Prop
|mk (c:Bool) (h:x=.bl c) (q:Q c)
def tB(t:TE):TT:=λd H Q=>t d H λx e=>IsB x λc=>Q c e
def cu{e:Expr}{t:TE}(h:PE X e t)(c:∀whole,isTrue e X.env whole=(do let v<-whole;standAt e.pos;holding [v] (truthy v)):=by intro _;rfl):PT X e (tB t):=by
 intro pins s f H Q I hw;refine isTrue_plain (cV (h pins s f H _ I hw) λv m ⟨x,g,j,k,l⟩=>?_) (c _);obtain⟨d,rfl,q⟩:=l;cases k;exact adQ ⟨g,j,q⟩
variable{tA tB':TT}{rest:List Expr}
def abD(t u:TT):TT:=λd H Q=>t d H λc e=>if c=true then u d e Q else Q false e
def tOr(t u:TT):TT:=λd H Q=>t d H λc e=>if c=true then Q true e else u d e Q
def Y_(t:TT):TT:=λd H Q=>t d H λc e=>Q (!c) e
def JC(d:PT X a tA):PW X (.BoolOp .And [a] pos) tA:=by
 intro g pins s f H Q I h;refine isTrue_and (cV (d pins s f H Q I h) λc j e=>?_);cases c with
 |true=>exact isTrue_and_nil e
 |false=>exact e
def Ab(d:PT X a tA):PW X (.BoolOp .Or [a] pos) tA:=by
 intro g pins s f H Q I h;refine isTrue_or (cV (d pins s f H Q I h) λc j e=>?_);cases c with
 |false=>exact isTrue_or_nil e
 |true=>exact e
def Pr(j:PT X a tA)(k:PW X (.BoolOp .And (b::rest) pos) tB'):PW X (.BoolOp .And (a::b::rest) pos) (abD tA tB'):=by
 intro l pins s d H Q I h;refine isTrue_and (cV (j pins s d H _ I h) λc m ⟨e,f,g⟩=>?_);cases c with
 |true=>exact k l pins m d e Q f g
 |false=>exact⟨e,f,g⟩
def Di(j:PT X a tA)(k:PW X (.BoolOp .Or (b::rest) pos) tB'):PW X (.BoolOp .Or (a::b::rest) pos) (tOr tA tB'):=by
 intro l pins s d H Q I h;refine isTrue_or (cV (j pins s d H _ I h) λc m ⟨e,f,g⟩=>?_);cases c with
 |true=>exact⟨e,f,g⟩
 |false=>exact k l pins m d e Q f g
def cO(d:PT X a tA):PT X (.UnaryOp .Not a pos) (Y_ tA):=by
 intro pins s e H Q I h;exact isTrue_not (d pins s e H (λc f=>Q (!c) f) I h)
def Za(ta tb:TE):TE:=λd H Q=>ta d H λx e=>∃c,x=.bl c/\if c=true then tb d e Q else Q (.bl false) e
def abE(ta tb:TE):TE:=λd H Q=>ta d H λx e=>∃c,x=.bl c/\if c=true then Q (.bl true) e else tb d e Q
def GK{op}{t:TE}(h:PE X a t):PE X (.BoolOp op [a] pos) t:=λpins s c H Q I hw=>BoolOp_one (h pins s c H Q I hw)
def W2(j:PE X a ta)(k:PE X (.BoolOp .And (b::rest) pos) tb):PE X (.BoolOp .And (a::b::rest) pos) (Za ta tb):=by
 intro pins s e H Q I h;refine BoolOp_and (cV (j pins s e H _ I h) λv l ⟨x,f,g,m,d⟩=>?_);obtain⟨c,rfl,d⟩:=d;cases m;refine adQ ?_;cases c with
 |true=>exact k pins l e f Q g d
 |false=>exact⟨.bl false,f,g,rfl,d⟩
def Pu(j:PE X a ta)(k:PE X (.BoolOp .Or (b::rest) pos) tb):PE X (.BoolOp .Or (a::b::rest) pos) (abE ta tb):=by
 intro pins s e H Q I h;refine BoolOp_or (cV (j pins s e H _ I h) λv l ⟨x,f,g,m,d⟩=>?_);obtain⟨c,rfl,d⟩:=d;cases m;refine adQ ?_;cases c with
 |false=>exact k pins l e f Q g d
 |true=>exact⟨.bl true,f,g,rfl,d⟩
def Zb(t:TT)(ta tb:TE):TE:=λd H Q=>t d H λc e=>if c=true then ta d e Q else tb d e Q
def dO{c:Expr}(hc:PT X c tA)(l:PE X a ta)(m:PE X b tb):PE X (.IfExp c a b pos) (Zb tA ta tb):=by
 intro pins s e H Q I h;refine wpAny_IfExp (cV (hc pins s e H _ I h) λd f ⟨g,j,k⟩=>?_);cases d with
 |true=>exact l pins f e g Q j k
 |false=>exact m pins f e g Q j k
end
def aV(K:Frag)(H:Hp)(a:Addr)(xs:List V):Prop:=Rd H a (.lst xs)\/
  sV λ(o:Obj)(b:Array Value)(n:Nat)=>Fz (K.lookup a=some o) (o.cls=.type "list") (o.dict=none) (o.data=.seq b n) (b.size<=sizeLine) (Vals xs b.toList)
def dG(K:Frag)(H:Hp)(a:Addr)(xs:List V):Prop:=Rd H a (.tup xs)\/
  sV λ(o:Obj)(b:Array Value)(n:Nat)=>xZ (K.lookup a=some o) (o.cls=.type "tuple") (o.data=.seq b n) (b.size<=sizeLine) (Vals xs b.toList)
def abF:Value->Option V
|.none=>some .non
|.bool b=>some (.bl b)
|.int i _=>some (.int i)
|.str x _=>some (.str x)
|.bytes b _=>some (.uc b)
|.float b _=>some (.flt b)
|.ref a=>some (.ref a)
|.type n=>some (.ty n)
|_=>none
def RelV.abs{x:V}{u:Value}(r:RelV x u):abF u=some x:=by
 cases x with
 |non=>cases r;rfl
 |bl _=>cases r;rfl
 |int _=>obtain⟨t,rfl⟩:=r;rfl
 |str _=>obtain⟨t,rfl⟩:=r;rfl
 |uc _=>obtain⟨t,rfl⟩:=r;rfl
 |flt _=>obtain⟨t,rfl⟩:=r;rfl
 |ref _=>cases r;rfl
 |ty _=>cases r;rfl
def RelV.inj{x y:V}{u:Value}(r:RelV x u)(q:RelV y u):x=y:=abk (r.abs.symm.trans q.abs)
theorem Vals.inj:∀{xs ys:List V}{us:List Value},Vals xs us->Vals ys us->xs=ys
|_,_,_,.nil,.nil=>rfl
|_,_,_,.cons r t,.cons r' t'=>by rw[r.inj r',Vals.inj t t']
section
variable{X:Cx}{pins:List (Addr×Obj)}{σ:St}{H:Hp}{s:Shared}{a:Addr}{xs ys:List V}
def aV.of{K:Frag}(h:H a=some (.lst xs)):aV K H a xs:=.inl (.inl h)
def Inv.list(I:Inv X pins σ H s)(h:aV X.K H a xs):∃b:List Value,dF (Vals xs b) (PlainL s.heap a b.toArray) (xs.length<=sizeLine):=by
 rcases h with h|⟨o,b,n,c,hc,d,hs,hz,r⟩
 .obtain⟨z,b,n,r,e⟩:=h.ok I.hok
  exact⟨b,r,⟨_,n,e,rfl,rfl,rfl⟩,z⟩
 .refine⟨b.toList,r,⟨o,n,I.Dh a o c,hc,d,by simpa using hs⟩,?_⟩
  have e:=r.length;simp only[abh]at e;grind
def Inv.tuple(I:Inv X pins σ H s)(h:dG X.K H a xs):∃b:List Value,dF (Vals xs b) (IsTup s.heap a b.toArray) (xs.length<=sizeLine):=by
 rcases h with h|⟨o,b,n,c,hc,hs,hz,r⟩
 .obtain⟨z,b,r,p⟩:=h.ok I.hok
  exact⟨b,r,p,z⟩
 .refine⟨b.toList,r,⟨o,I.Dh a o c,hc,n,by simpa using hs⟩,?_⟩
  have e:=r.length;simp only[abh]at e;omega
def Inv.lY(I:Inv X pins σ H s)(h:aV X.K H a xs)(h':aV X.K H a ys):xs=ys:=by
 obtain⟨c,r,⟨o,n,e,_,_,d⟩,_⟩:=I.list h;obtain⟨its',r',⟨f,g,b,_,_,d'⟩,_⟩:=I.list h';rw[e]at b;cases b;rw[d]at d';injection d' with d1 _;have:c=its':=by simpa using congrArg Array.toList d1
 subst this;exact r.inj r'
def Inv.Mj(I:Inv X pins σ H s)(h:dG X.K H a xs)(h':dG X.K H a ys):xs=ys:=by
 obtain⟨c,r,⟨o,e,_,n,d⟩,_⟩:=I.tuple h;obtain⟨its',r',⟨f,b,_,g,d'⟩,_⟩:=I.tuple h';rw[e]at b;cases b;rw[d]at d';injection d' with d1 _;have:c=its':=by simpa using congrArg Array.toList d1
 subst this;exact r.inj r'
end
abbrev Cx.wish(X:Cx)(E:Value->Shared->Prop):Cx:={X with xe:=E}
abbrev Cx.Zc(X:Cx):Cx:=X.wish λ_ _=>False
theorem Cx.Ok.wish{X:Cx}(ok:X.Ok)(E:Value->Shared->Prop):(X.wish E).Ok:=⟨ok.mod,ok.kind,ok.glob,ok.blt,ok.above,ok.inj,ok.has,ok.cab,ok.hd,ok.frames,ok.stk,ok.exf,ok.bs,ok.TY,ok.Pn,ok.Pq,ok.ud,ok.WY⟩
def Cx.Ok.lZ{X:Cx}{E:Value->Shared->Prop}(ok:(X.wish E).Ok):X.Ok:=⟨ok.mod,ok.kind,ok.glob,ok.blt,ok.above,ok.inj,ok.has,ok.cab,ok.hd,ok.frames,ok.stk,ok.exf,ok.bs,ok.TY,ok.Pn,ok.Pq,ok.ud,ok.WY⟩
section
variable{X:Cx}{pins:List (Addr×Obj)}{σ:St}{H:Hp}{s:Shared}{E:Value->Shared->Prop}
theorem Inv.wish(I:Inv X pins σ H s)(E:Value->Shared->Prop):Inv (X.wish E) pins σ H s:=⟨I.ok.wish E,I.os,I.bare,I.base,I.loc,I.cell,I.free,I.lW,I.pin,I.hok,I.len⟩
theorem Inv.lZ(I:Inv (X.wish E) pins σ H s):Inv X pins σ H s:=⟨I.ok.lZ,I.os,I.bare,I.base,I.loc,I.cell,I.free,I.lW,I.pin,I.hok,I.len⟩
theorem SP.lZ{D:Ends}{f:Flow}{c:Shared}(h:SP (X.wish E) pins D f c):SP X pins D f c:=by
 cases f with
 |next=>obtain⟨a,b,I,q⟩:=h;exact⟨a,b,I.lZ,q⟩
 |brk=>obtain⟨a,b,I,q⟩:=h;exact⟨a,b,I.lZ,q⟩
 |cont=>obtain⟨a,b,I,q⟩:=h;exact⟨a,b,I.lZ,q⟩
 |ret u=>obtain⟨v,a,b,I,r,q⟩:=h;exact⟨v,a,b,I.lZ,r,q⟩
theorem Fw.Zc{st:List Stmt}{t:TS}(h:Fw X.Zc st t):Fw X st t:=λpins s σ H D I hw=>
 adM (h pins s σ H D (I.wish _) hw) (λ_ _ q=>q.lZ) λ_ _ z=>False.elim z
end
section
variable{X:Cx}{st:Stmt}{rest:List Stmt}{t u:TS}{e:Expr}{te:TE}{pos:Pos}
def yF:TS:=λD a H=>D.nx a H
def uf(t u:TS):TS:=λD a H=>t {D with nx:=u D} a H
def aO:Fw X [] yF:=λ_ _ a H _ I h=>afX ⟨a,H,I,h⟩
def ao(b:PS X st t)(c:Fw X rest u):Fw X (st::rest) (uf t u):=by
 intro pins s d H D I h;refine wpAny_execs_cons (cV (b pins s d H {D with nx:=u D} I h) λf g q=>?_);cases f with
 |next=>
  obtain⟨a,j,k,q⟩:=q;exact c pins g a j D k q
 |ret v=>exact q
 |brk=>exact q
 |cont=>exact q
def au(a:PS X st t):Fw X [st] t:=by
 intro pins s b H D I h;refine wpAny_execs_cons (cV (a pins s b H D I h) λf c q=>?_);cases f with
 |next=>exact afX q
 |ret v=>exact q
 |brk=>exact q
 |cont=>exact q
def Inv.quiet{pins:List (Addr×Obj)}{a:St}{H:Hp}{s:Shared}(I:Inv X pins a H s):interactive X.env=false:=by simp[interactive,I.ok.kind]
def JD(te:TE):TS:=λD a H=>te a H λ_ b=>D.nx a b
def bH(b:PE X e te)(hs:swapsWith e none pos.line X.env=pure false:=by rfl):PS X (.Expr e pos) (JD te):=by
 intro pins s a H D I h;exact wpAny_Expr_any (cV (b pins s a H _ I h) λv g ⟨x,c,d,j,f⟩=>⟨a,c,d,f⟩) I.quiet hs
def Ac(te:TE):TS:=λD a H=>te a H D.rt
def aF(b:PE X e te):PS X (.Return (some e) pos) (Ac te):=by
 intro pins s a H D I h;exact wpAny_Return_some (cV (b pins s a H _ I h) λv j ⟨x,c,d,f,g⟩=>⟨x,a,c,d,f,g⟩)
def W3(c:TT)(t u:TS):TS:=λD a H=>c a H λb d=>if b=true then t D a d else u D a d
def aZ{c:Expr}{a b:List Stmt}{g:TT}(hc:PT X c g)(n:Fw X a t)(o:Fw X b u):PS X (.If c a b pos) (W3 g t u):=by
 intro pins s f H D I h;refine wpAny_If (cV (hc pins s f H _ I h) λd j ⟨k,l,m⟩=>?_);cases d with
 |true=>exact n pins j f k D l m
 |false=>exact o pins j f k D l m
end
abbrev TG:=V->St->Hp->(St->Hp->Prop)->Prop
abbrev Yz:=List V->St->Hp->(St->Hp->Prop)->Prop
def PG(X:Cx)(d:Expr)(t:TG):Prop:=∀(pins:List (Addr×Obj))(s:Shared)(b:St)(H:Hp)(v:V)(u:Value)(Q:St->Hp->Prop),Inv X pins b H s->RelV v u->t v b H Q->
  wpAny (model X.prog X.w) X.A (assign d X.env u) (λ_ e=>Ex2 λa c=>Inv X pins a c e/\Q a c) X.xe s
def PGs(X:Cx)(d:List Expr)(t:Yz):Prop:=∀(pins:List (Addr×Obj))(s:Shared)(b:St)(H:Hp)(vs:List V)(us:List Value)(Q:St->Hp->Prop),Inv X pins b H s->Vals vs us->t vs b H Q->
  wpAny (model X.prog X.w) X.A (assignInOrder ((assignEach d X.env).map (·.2)) us) (λ_ e=>Ex2 λa c=>Inv X pins a c e/\Q a c) X.xe s
abbrev lK:=V->V->V->Hp->(Hp->Prop)->Prop
def Zd(X:Cx)(t:lK):Prop:=∀(pins:List (Addr×Obj))(s:Shared)(a:St)(H:Hp)(o i v:V)(b c u:Value)(Q:Hp->Prop),Inv X pins a H s->RelV o b->RelV i c->RelV v u->t o i v H Q->
  wpAny (model X.prog X.w) X.A (setItem b c u) (λ_ e=>∃d,Inv X pins a d e/\Q d) X.xe s
abbrev TIp:=V->V->Hp->VK->Prop
def PIp(X:Cx)(op:Operator)(t:TIp):Prop:=∀(pins:List (Addr×Obj))(s:Shared)(a:St)(H:Hp)(x y:V)(v u:Value)(Q:VK),Inv X pins a H s->RelV x v->RelV y u->t x y H Q->
  wpAny (model X.prog X.w) X.A (inplaceOp op v u) (EP X pins a Q) X.xe s
section
variable{X:Cx}{pos:Pos}
def gA(i:Nat):TG:=λv a H Q=>Q (a.set i (some v)) H
def nG{i:Nat}{x:Str}(a:X.N.Nodup)(b:X.N[i]?=some x)(c:Loc X.env.scope x)(d:X.fn x=true\/X.env.scope.names.lookup x=some .local:=by first|exact .inl rfl|exact .inr rfl|assumption):PG X (.Name x pos) (gA i):=by
 intro pins s f H v u Q I r h;exact wpAny_assign_Name (vJ I a b c r (λg e=>⟨_,H,e,h⟩) d)
def T3:Yz:=λvs a H Q=>vs=[]/\Q a H
inductive qy(t:TG)(u:Yz)(vs:List V)(σ:St)(H:Hp)(Q:(St->Hp->Prop)):Prop
|mk v r (_:vs=v::r) (_:t v σ H λσ' H'=>u r σ' H' Q)
def JF:PGs X [] T3:=by
 intro pins s a H vs us Q I r h;obtain⟨e,h⟩:=h;subst e;cases r;exact assignInOrder_nil ⟨a,H,I,h⟩
def mj{e:Expr}{a:List Expr}{t:TG}{u:Yz}(c:PG X e t)(d:PGs X a u)
  (hs:(assignEach (e::a) X.env).map (·.2)=assign e X.env::(assignEach a X.env).map (·.2):=by rfl):PGs X (e::a) (qy t u):=by
 intro pins s f H vs us Q I r h;obtain⟨v,o,g,h⟩:=h;subst g;cases r with
 |cons r j=>
  rw[hs];refine assignInOrder_cons (cV (c pins s f H _ _ _ I r h) λ_ k ⟨b,l,m,n⟩=>?_);exact d pins k b l _ _ Q m j n
inductive Px(K:Frag)(n:Nat)(t:Yz)(v:V)(σ:St)(H:Hp)(Q:(St->Hp->Prop)):Prop
|mk a xs (_:v=.ref a) (_:dG K H a xs) (_:xs.length=n) (_:t xs σ H Q)
def Py{c:List Expr}{k:Nat}{t:Yz}{n:Nat}(hc:X.calm=true)(h:PGs X c t)
  (j:(assignEach c X.env).length=n:=by rfl)(g:(assignEach c X.env).findIdx? (·.1)=none:=by rfl):PG X (.Tuple c k pos) (Px X.K n t):=by
 intro pins s d H v u Q I r hw;obtain⟨a,xs,l,m,p,hw⟩:=hw;subst l;cases r;obtain⟨y,f,q,hz⟩:=I.tuple m;refine assign_Tuple_tuple (I.ok.hd hc) q (by simp[j,<-p,f.length]) g λh' w=>?_;have x:Inv X pins d H {s with heap:=h'}:=I.kept (t':=s.toks) λb o e=>w b o (abt (aa_ e)) e;exact h pins _ d H xs _ Q x (by simpa using f) hw
def abH(b c:TE)(t:lK):TG:=λv a H Q=>b a H λo d=>c a d λi e=>t o i v e λf=>Q a f
def GP{o i:Expr}{d e:TE}{t:lK}(f:PE X o d)(g:PE X i e)(hs:Zd X t)
  (j:∀v,assign (.Subscript o i pos) X.env v=(do
   let a<-holding [v] (eval o X.env)
   let b<-holding [v,a] (eval i X.env)
   standAt pos
   holding [v,a,b] (setItem a b v)
   release [v,a,b] []):=by intro _;rfl):PG X (.Subscript o i pos) (abH d e t):=by
 intro pins s c H v u Q I r h;rw[j];refine pP (acp (cV (f pins s c H _ I h) λa k ⟨x,l,m,n,p⟩=>?_));refine pP (acp (cV (g pins k c l _ m p) λb q ⟨y,w,z,A,B⟩=>?_));refine pP (ahM (pP (acp (cV (hs pins q c w x y v a b u _ z n A r B) λ_ J ⟨C,D,E⟩=>?_))));exact wpAny_release ⟨c,C,D,E⟩
def qz(b:TE)(g:TG):TS:=λD a H=>b a H λx c=>g x a c D.nx
def GQ{a e:Expr}{b:TE}{g:TG}(d:PE X e b)(f:PG X a g)(hs:swapsWithSole [a] e pos.line X.env=pure false:=by rfl)(hw:swappedStores [a] e X.env=pure none:=by rfl)
  (j:(assignEach [a] X.env).map (·.2)=[assign a X.env]:=by rfl):PS X (.Assign [a] e pos) (qz b g):=by
 intro pins s c H D I h;refine wpAny_Assign_stores (cV (d pins s c H _ I h) λv k ⟨x,l,m,n,o⟩=>?_) hs hw;rw[j];exact cV (f pins k c l x v _ m n o) λ_ p q=>q
def Ad{i:Nat}{x:Str}{e:Expr}{b:TE}{a:Pos}(c:X.N.Nodup)(d:X.N[i]?=some x)(f:Loc X.env.scope x)(g:PE X e b)(hs:swapsWith e (some (.Name x a)) pos.line X.env=pure false:=by rfl)(j:X.fn x=true\/X.env.scope.names.lookup x=some .local:=by first|exact .inl rfl|exact .inr rfl|assumption):
  PS X (.Assign [.Name x a] e pos) (qz b (gA i)):=by
 intro pins s k H D I h;refine wpAny_Assign_Name (cV (g pins s k H _ I h) λv q ⟨y,l,m,n,o⟩=>?_) hs;exact vJ m c d f n (λr p=>⟨_,l,p,o⟩) j
inductive Ze(i:Nat)(te:TE)(ti:TIp)(D:Ends)(σ:St)(H:Hp):Prop
|mk x (_:σ[i]?=some (some x)) (_:te σ H λy H1=>ti x y H1 λz H2=>D.nx (σ.set i (some z)) H2)
def mq{i:Nat}{x:Str}{e:Expr}{d:TE}{op:Operator}{f:TIp}{p:Pos}(B:X.N.Nodup)(g:X.N[i]?=some x)(b:Loc X.env.scope x)(C:PE X e d)(E:PIp X op f)(J:X.fn x=true\/X.env.scope.names.lookup x=some .local:=by first|exact .inl rfl|exact .inr rfl|assumption):
  PS X (.AugAssign (.Name x p) op e pos) (Ze i d f):=by
 intro pins s j H D I h;obtain⟨v,L,h⟩:=h;obtain⟨m,M,N⟩:=I.loc;have A:Yy X.env.scope x:=by rcases b with k|k;exact .inl k;exact .inr (.inl k)
 obtain⟨u,r,l⟩:=N i x v g L A;refine wpAny_AugAssign_Name ?_;have n:wpAny (model X.prog X.w) X.A (eval e X.env) (λw q=>wpAny (model X.prog X.w) X.A (inplaceOp op u w) (λr t=>wpAny (model X.prog X.w) X.A (storeName X.env x r) (λ_=>SP X pins D .next) X.xe t) X.xe q) X.xe s:=by
  refine cV (C pins s j H _ I h) λw O ⟨y,Q,T,U,Y⟩=>?_;refine cV (E pins O j Q v y u w _ T r U Y) λz s2 ⟨zv,H2,I2,r2,q2⟩=>?_;exact vJ I2 B g b r2 (λs3 I3=>⟨_,H2,I3,q2⟩) J
 rcases l with⟨a,hm⟩|⟨a,c,hc,o⟩
 .exact wpAny_loadName_local I.ok.kind a M hm n
 .rcases a with a|a
  .exact wpAny_loadName_cell I.ok.kind a hc o n
  .rcases b with k|k
   .have:X.env.scope.names.lookup x=some .free:=a
    rw[k]at this;cases this
   .have:X.env.scope.names.lookup x=some .free:=a
    rw[k]at this;cases this
inductive ipI(f:Int->Int->Int)(x:V)(y:V)(H:Hp)(Q:VK):Prop
|mk i j (_:x=.int i) (_:y=.int j) (_:Q (.int (f i j)) H)
def mz:PIp X .Add (ipI λi j=>i+j):=by
 intro pins s e H x y v u Q I a b h;obtain⟨i,j,c,d,q⟩:=h;subst c;subst d;obtain⟨t,rfl⟩:=a;obtain⟨t',rfl⟩:=b;exact iadd_int ⟨.int _,H,I.tok _,⟨_,rfl⟩,q⟩
end
section
variable{X:Cx}{pos:Pos}
inductive Pz(c:TT)(tb:TS)(D:Ends)(σ:St)(H:Hp):Prop
 |mk (W:Nat->St->Hp->Prop) (_:(∃m,W m σ H)) (_:∀m σ H,W m σ H->
 c σ H λb H1=>if b=true then∃N:St->Hp->Prop,(∀σ' H',N σ' H'->∃m',m'<m/\W m' σ' H')/\tb {D with nx:=N,ct:=N,bk:=D.nx} σ H1 else D.nx σ H1)
def iz{c:Expr}{q:List Stmt}{t:TT}{u:TS}(w:PassesOwn (model X.prog X.w) X.A X.env X.xe)(hc:PT X c t)(C:Fw X q u):PS X (.While c q [] pos) (Pz t u):=by
 intro pins s E H D I h;obtain⟨W,⟨J,w0⟩,turn⟩:=h;refine wpAny_While (codeAny_whileLoop (λn L=>Ex2 λr x=>Inv X pins r x L/\W n r x) ?_ J ⟨E,H,I,w0⟩);rintro n M ⟨e,y,O,w1⟩;refine aeA w (cV (hc pins M e y _ O (turn n e y w1)) λb Q ⟨z,A,g⟩=>?_);cases b with
 |true=>
  obtain⟨N,B,g⟩:=g;rw[aaU rfl];refine aeA w (cV (C pins Q e z _ A g) λf T j=>?_);cases f with
  |next=>
   obtain⟨a,d,k,l⟩:=j;obtain⟨m,o,p⟩:=B a d l;exact⟨m,o,a,d,k,p⟩
  |cont=>
   obtain⟨a,d,k,l⟩:=j;obtain⟨m,o,p⟩:=B a d l;exact⟨m,o,a,d,k,p⟩
  |brk=>exact j
  |ret v=>exact j
 |false=>
  rw[aaz aaT];exact afX ⟨e,z,A,g⟩
end
structure It where
 go:Nat->Hp->Prop
 Od:Nat->Hp->V->Hp->Prop
 stop:Nat->Hp->Prop
def rE(X:Cx)(pins:List (Addr×Obj))(H:Hp)(b:Addr):Prop:=H b=none/\b≠X.env.locals/\b∉X.fs/\(b∈X.ex\/X.s_0.heap.objs.size<=b)/\(∀x c,X.env.cells.lookup x=some c->c≠b)/\∀p∈X.pn++pins,p.1≠b
def Inv.GR{X:Cx}{pins:List (Addr×Obj)}{f:St}{H d:Hp}{s:Shared}{b:Addr}(I:Inv X pins f H s)(a:s.heap.objs.size<=b)(g:d b=none):rE X pins d b:=by
 refine⟨g,adI (abG I.lt a),I.abz a,.inr (abJ I.sz a),λx c e z=>?_,λp j z=>?_⟩
 .obtain⟨v,q⟩:=I.cell x c e
  exact absurd (abG q.lt (by rw[z];exact a)) (adY _)
 .exact absurd (abG (aa_ (I.pin p j).1) (by rw[z];exact a)) (adY _)
structure Turn(P:Program)(w:World)(K:Frag)(tg:Expr)(J:It)(fp:List Addr)(it:Addr)(tn:Nat->Heap->Prop):Prop where
 mem:it∈fp
 obj:∀i h,tn i h->∀b∈fp,∃o,h.get? b=some o/\∀v,o.data≠.cell v
 keep:∀i h h',tn i h->(∀b∈fp,∀o,h.get? b=some o->h'.get? b=some o)->tn i h'
 item:∀(X:Cx),X.prog=P->X.w=w->X.K=K->X.calm=true->∀(i:Nat)(pins:List (Addr×Obj))(s:Shared)(σ:St)(H:Hp)(E:Value->Shared->Prop),Inv X pins σ H s->(∀b∈fp,rE X pins H b)->tn i s.heap->J.go i H->
  wpAny (model P w) X.A (pyNext (.ref it)) (λr s1=>∃u,r=some u/\
   wpAny (model P w) X.A (letOwnedTupleGo tg (.ref it) u) (λ_ s2=>Ex2 λx H'=>xZ (Inv X pins σ H' s2) (RelV x u) (J.Od i H x H') (tn (i+1) s2.heap) (∀b∈fp,H' b=none)) E s1) E s
 done:∀(X:Cx),X.prog=P->X.w=w->X.K=K->X.calm=true->∀(i:Nat)(pins:List (Addr×Obj))(s:Shared)(σ:St)(H:Hp)(E:Value->Shared->Prop),Inv X pins σ H s->(∀b∈fp,rE X pins H b)->tn i s.heap->J.stop i H->
  wpAny (model P w) X.A (pyNext (.ref it)) (λr s1=>r=none/\Inv X pins σ H s1) E s
 self:∀(A:Around)(i:Nat)(s:Shared)(Q:Value->Shared->Prop)(E:Value->Shared->Prop),tn i s.heap->Q (.ref it) s->wpAny (model P w) A (pyIter (.ref it)) Q E s
abbrev TI:=St->Hp->(It->Hp->Prop)->Prop
def PIE(X:Cx)(pins:List (Addr×Obj))(j:St)(k:Expr)(R:It->Hp->Prop)(g:Value)(c:Shared):Prop:=Oa λ(d:Addr)(e:List Addr)(f:Nat->Heap->Prop)(J:It)(a:Hp)=>Fz (g=.ref d) (Inv X pins j a c) (Turn X.prog X.w X.K k J e d f) (f 0 c.heap) (∀b∈e,rE X pins a b) (R J a)
def PI(X:Cx)(c b:Expr)(d:TI):Prop:=∀(pins:List (Addr×Obj))(s:Shared)(a:St)(H:Hp)(R:It->Hp->Prop),Inv X pins a H s->d a H R->
  wpAny (model X.prog X.w) X.A (eval b X.env) (λv e=>wpAny (model X.prog X.w) X.A (pyIter v) (PIE X pins a c R) X.xe e) X.xe s
def JG{M:Model}{A:Around}{E:Value->Shared->Prop}{s:Shared}{b:Expr}{c:Addr}{u:Value}{o:Obj}{n:String}{vs:Array Value}{Q:Unit->Shared->Prop}(d:s.heap.get? c=some o)(hc:o.cls=.type n)(e:o.data=.fields vs)
  (f:["enumerate","zip","dict_itemiterator","dict_reverseitemiterator","odict_iterator","itertools.zip_longest","itertools.pairwise"].contains n=false)(a:Q () s):wpAny M A (letOwnedTupleGo b (.ref c) u) Q E s:=by
 unfold letOwnedTupleGo;cases b<;>first
  |exact aaR a
  |(cases u<;>first
    |exact aaR a
    |(refine pP (agS d ?_)
      rw[hc,e];show wpAny M A (if(["enumerate","zip","dict_itemiterator","dict_reverseitemiterator","odict_iterator","itertools.zip_longest","itertools.pairwise"].contains n&&vs[0]?==some (rawInt _))=true then _ else _) Q E s;rw[aaz (by intro h;rw[f,ae1]at h;cases h)];exact aaR a))
def Vv(K:Frag)(a:Addr):It:=⟨λi H=>Ex2 λxs x=>aV K H a xs/\xs[i]?=some x,λi H x b=>b=H/\∀xs,aV K H a xs->xs[i]?=some x,λi H=>∃xs,aV K H a xs/\xs.length<=i⟩
def Zf(K:Frag)(a:Addr):It:=⟨λi H=>Ex2 λxs x=>dG K H a xs/\xs[i]?=some x,λi H x b=>b=H/\∀xs,dG K H a xs->xs[i]?=some x,λi H=>∃xs,dG K H a xs/\xs.length<=i⟩
def S8(lo:Int)(n:Nat):It:=⟨λi _=>i<n,λi H x a=>a=H/\x=.int (lo+i),λi _=>n<=i⟩
def Ml{P:Program}{w:World}{K:Frag}{N:Expr}(a f:Addr):Turn P w K N (Vv K a) [f] f (λi h=>h.IsListIter f a i) where
 mem:=by simp
 obj:=λi h st b g=>by
  have e:b=f:=by simpa using g
  subst e;obtain⟨o,e,c,d⟩:=st;exact⟨o,e,λv z=>by rw[d]at z;cases z⟩
 keep:=λi h h' st k=>st.at λo e=>k f (by simp) o e
 item:=by
  intro X m hw n hc i pins s L H E I j st q;subst m hw n;obtain⟨xs,x,l,r⟩:=q;obtain⟨M,t,p,hz⟩:=I.list l;obtain⟨u,hu,O⟩:=t.get r;obtain⟨y,A,Q,B,C,D⟩:=j f (by simp);refine wpAny_pyNext_list_item st p.isList (x:=u) (by simpa using hu) λh' J T=>?_;have U:Inv X pins L H {s with heap:=h'}:=I.turned (t':=s.toks) (λb o g e=>(T.2 b g).trans e) y A B C D;obtain⟨o,e,c,d⟩:=id J;exact⟨u,rfl,JG (s:={s with heap:=h'}) e c d (by decide) ⟨x,H,U,O,⟨rfl,λys Y=>by rw[I.lY Y l];exact r⟩,J,λb g=>(j b g).1⟩⟩
 done:=by
  intro X m hw n hc i pins s L H E I j st q;subst m hw n;obtain⟨xs,l,r⟩:=q;obtain⟨M,t,p,hz⟩:=I.list l;obtain⟨y,A,Q,B,C,D⟩:=j f (by simp);have hl:=t.length;exact wpAny_pyNext_list_end (I.ok.hd hc) st p.isList (by simp;grind) λh' eb=>⟨rfl,I.turned (t':=s.toks) (λb o g e=>eb b o g e) y A B C D⟩
 self:=λ_ _ _ _ _ st h=>wpAny_pyIter_listiter st h
def GX{P:Program}{w:World}{K:Frag}{N:Expr}(a f:Addr):Turn P w K N (Zf K a) [f] f (λi h=>h.IsTupleIter f a i) where
 mem:=by simp
 obj:=λi h st b g=>by
  have e:b=f:=by simpa using g
  subst e;obtain⟨o,e,c,d⟩:=st;exact⟨o,e,λv z=>by rw[d]at z;cases z⟩
 keep:=λi h h' st k=>st.at λo e=>k f (by simp) o e
 item:=by
  intro X n hw q hc i pins s M H E I j st r;subst n hw q;obtain⟨xs,x,l,t⟩:=r;obtain⟨m,y,p,hz⟩:=I.tuple l;obtain⟨u,hu,O⟩:=y.get t;obtain⟨A,B,Q,C,D,J⟩:=j f (by simp);refine wpAny_pyNext_tuple_item st (show s.heap.IsTuple a m.toArray from p) (x:=u) (by simpa using hu) λh' L T=>?_;have U:Inv X pins M H {s with heap:=h'}:=I.turned (t':=s.toks) (λb o g e=>(T.2 b g).trans e) A B C D J;obtain⟨o,e,c,d⟩:=id L;exact⟨u,rfl,JG (s:={s with heap:=h'}) e c d (by decide) ⟨x,H,U,O,⟨rfl,λys Y=>by rw[I.Mj Y l];exact t⟩,L,λb g=>(j b g).1⟩⟩
 done:=by
  intro X n hw q hc i pins s M H E I j st r;subst n hw q;obtain⟨xs,l,t⟩:=r;obtain⟨m,y,p,hz⟩:=I.tuple l;obtain⟨A,B,Q,C,D,J⟩:=j f (by simp);have hl:=y.length;exact wpAny_pyNext_tuple_end (I.ok.hd hc) st (show s.heap.IsTuple a m.toArray from p) (by simp;omega) λh' eb=>⟨rfl,I.turned (t':=s.toks) (λb o g e=>eb b o g e) A B C D J⟩
 self:=λ_ _ _ _ _ st h=>wpAny_pyIter_tupleiter st h
def GZ{P:Program}{w:World}{K:Frag}{y:Expr}(a:Addr)(lo:Int)(n:Nat):Turn P w K y (S8 lo n) [a] a (λi h=>IsRangeIter h a (lo+(i:Nat)*1) ((n:Int) - (i:Nat)) 1) where
 mem:=by simp
 obj:=λi h st b c=>by
  have e:b=a:=by simpa using c
  subst e;exact⟨_,st,λv z=>by
   have A:Data.fields _=Data.cell v:=z;cases A⟩
 keep:=λi h h' st k=>k a (by simp) _ st
 item:=by
  intro X f hw g hc i pins s x H E I d st j;subst f hw g;obtain⟨l,m,B,p,q,r⟩:=d a (by simp);have W:=Walks.range (prog:=X.prog) (w:=X.w) (I.ok.hd hc) a lo 1 n;refine W.item i s _ _ j st λv h' tk C u kk=>?_;obtain⟨t,rfl⟩:=C;have D:Inv X pins x H {s with heap:=h',toks:=tk}:=I.turned (λb o c e=>kk b o (by simpa using c) e) l m p q r;refine⟨_,rfl,JG (s:={s with heap:=h',toks:=tk}) (n:="range_iterator") u rfl rfl (by decide) ⟨.int (lo+i),H,D,⟨t,?_⟩,⟨rfl,rfl⟩,u,λb c=>(d b c).1⟩⟩;rw[Int.mul_one]
 done:=by
  intro X f hw g hc i pins s x H E I d st j;subst f hw g;obtain⟨l,m,B,p,q,r⟩:=d a (by simp);exact wpAny_pyNext_range_end (I.ok.hd hc) st (by have:n<=i:=j;grind) λh' J=>⟨rfl,I.turned (t':=s.toks) (λb o c e=>J b o c e) l m p q r⟩
 self:=λ_ _ _ _ _ st h=>wpAny_pyIter_rangeiter st h
section
variable{X:Cx}{tg:Expr}
def Vw(K:Frag)(c:TE):TI:=λd H R=>c d H λx b=>∃a,dF (x=.ref a) (∃xs,aV K b a xs) (R (Vv K a) b)
def Zg(K:Frag)(c:TE):TI:=λd H R=>c d H λx b=>∃a,dF (x=.ref a) (∃xs,dG K b a xs) (R (Zf K a) b)
def fH{l:Expr}{f:TE}(g:PE X l f):PI X tg l (Vw X.K f):=by
 intro pins s j H R I h;refine cV (g pins s j H _ I h) λv c ⟨x,k,d,m,n⟩=>?_;obtain⟨a,e,⟨xs,r⟩,q⟩:=n;subst e;cases m;obtain⟨u,w,p,hz⟩:=d.list r;refine agn p.isList ?_;refine⟨c.heap.objs.size,[c.heap.objs.size],_,_,k,rfl,d.kept (t':=c.toks) λb o e=>aaQ _ e,Ml a _,⟨_,abb _ rfl,rfl,rfl⟩,λb t=>?_,q⟩;have e:b=c.heap.objs.size:=by simpa using t
 subst e;exact d.GR (aaS _) (d.hok.fresh (aaS _))
def W4{l:Expr}{f:TE}(j:PE X l f):PI X tg l (Zg X.K f):=by
 intro pins s k H R I h;refine cV (j pins s k H _ I h) λv c ⟨x,m,d,n,r⟩=>?_;obtain⟨a,e,⟨xs,t⟩,q⟩:=r;subst e;cases n;obtain⟨g,w,p,hz⟩:=d.tuple t;refine wpAny_pyIter_tuple (show c.heap.IsTuple a g.toArray from p) ?_;refine⟨c.heap.objs.size,[c.heap.objs.size],_,_,m,rfl,d.kept (t':=c.toks) λb o e=>aaQ _ e,GX a _,⟨_,abb _ rfl,rfl,rfl⟩,λb u=>?_,q⟩;have e:b=c.heap.objs.size:=by simpa using u
 subst e;exact d.GR (aaS _) (d.hok.fresh (aaS _))
def Dj{pins:List (Addr×Obj)}{c:St}{H:Hp}{s:Shared}{R:It->Hp->Prop}{E:Value->Shared->Prop}{lo a:Int}{t u v:Tok}{tk:Nat}(I:Inv X pins c H s)(f: -(2^62)<=lo)(g:lo<2^62)(j: -(2^62)<=a)(k:a<2^62)
  (q:R (S8 lo (a - lo).toNat) H):wpAny (model X.prog X.w) X.A (pyIter (.ref s.heap.objs.size)) (PIE X pins c tg R) E {s with heap:=s.heap.push {cls:=.type "range",data:=.fields #[.int lo t,.int a u,.int 1 v]},toks:=tk}:=by
 refine wpAny_pyIter_range (IsRange.new ..) (small_one f g j k) ?_;have d:Inv X pins c H {s with heap:=s.heap.push {cls:=.type "range",data:=.fields #[.int lo t,.int a u,.int 1 v]},toks:=tk}:=I.kept λb o e=>aaQ _ e;refine⟨(s.heap.push {cls:=.type "range",data:=.fields #[.int lo t,.int a u,.int 1 v]}).objs.size,[(s.heap.push {cls:=.type "range",data:=.fields #[.int lo t,.int a u,.int 1 v]}).objs.size],_,_,H,rfl,
  d.kept (t':=tk) λb o e=>aaQ _ e,GZ _ lo (a - lo).toNat,?_,λb l=>?_,q⟩
 .have m:lo+((0:Nat):Int)*1=lo:=by simp
  have n:(((a - lo).toNat:Nat):Int) - ((0:Nat):Int)=Builtin.Range.rangeSize lo a 1:=by rw[rangeSize_one];split<;>grind
  show IsRangeIter _ _ (lo+((0:Nat):Int)*1) ((((a - lo).toNat:Nat):Int) - ((0:Nat):Int)) 1;rw[m,n];exact abb _ rfl
 .have e:b=(s.heap.push {cls:=.type "range",data:=.fields #[.int lo t,.int a u,.int 1 v]}).objs.size:=by simpa using l
  subst e;exact d.GR (aaS _) (d.hok.fresh (aaS _))
def Zh(a:TA):TI:=λb H R=>a b H λvs c=>∃j:Int,lM (vs=[.int j]) (-(2^62)<=j) (j<2^62) (R (S8 0 j.toNat) c)
def Zi(a:TA):TI:=λb H R=>a b H λvs c=>Ex2 λ(i j:Int)=>dF (vs=[.int i,.int j]) (-(2^62)<=i/\i<2^62/\ -(2^62)<=j/\j<2^62) (R (S8 i (j - i).toNat) c)
def jP{a:Expr}{d:TA}{p c:Pos}(f:Gl X "range")(g:X.mg "range"=none)(k:PA X [a] d)(hs:starEach [a] X.env=[(false,eval a X.env)]:=by rfl):PI X tg (.Call (.Name "range" p) [a] [] c) (Zh d):=by
 intro pins s l H R I h;refine Call_ (lX I f g boot_range (adt (cV (k c pins s l H _ I h) λus v ⟨vs,w,m,n,b⟩=>?_) hs rfl));obtain⟨j,e,b,o,q⟩:=b;subst e;cases n with
 |cons r u=>
  cases u;obtain⟨t,rfl⟩:=r;exact call_range_1 (Dj m (by grind) (by grind) b o (by simpa using q))
def Mp{a b:Expr}{k:TA}{p f:Pos}(l:Gl X "range")(m:X.mg "range"=none)(n:PA X [a,b] k)(hs:starEach [a,b] X.env=[(false,eval a X.env),(false,eval b X.env)]:=by rfl)(g:starEach [b] X.env=[(false,eval b X.env)]:=by rfl):
  PI X tg (.Call (.Name "range" p) [a,b] [] f) (Zi k):=by
 intro pins s o H R I h;refine Call_ (lX I l m boot_range (adt (cV (n f pins s o H _ I h) λus z ⟨vs,A,u,v,c⟩=>?_) (by rw[hs,g]) (by rw[g];rfl)));obtain⟨i,j,e,⟨c,w,x,y⟩,q⟩:=c;subst e;cases v with
 |cons r d=>
  cases d with
  |cons r' d=>
   cases d;obtain⟨t,rfl⟩:=r;obtain⟨t',rfl⟩:=r';exact call_range_2 (Dj u c w x y q)
def abI(f:TI)(g:TG)(j:TS):TS:=λD a H=>f a H λJ k=>∃W:Nat->Nat->St->Hp->Prop,(∃m,W 0 m a k)/\∀i m a H,W i m a H->
 (J.stop i H/\D.nx a H)\/(J.go i H/\∃N:St->Hp->Prop,(∀c b,N c b->∃d,d<m/\W (i+1) d c b)/\∀x b,J.Od i H x b->g x a b λe l=>j {D with nx:=N,ct:=N,bk:=D.nx} e l)
def vK(a:List Addr)(h:Heap):List (Addr×Obj):=a.filterMap λb=>(h.get? b).map λo=>(b,o)
def oZ{a:List Addr}{h:Heap}{b:Addr}{o:Obj}(c:b∈a)(e:h.get? b=some o):(b,o)∈vK a h:=af9.mpr ⟨b,c,by rw[e];rfl⟩
def Mq{a:List Addr}{h:Heap}{p:Addr×Obj}(c:p∈vK a h):p.1∈a/\h.get? p.1=some p.2:=by
 obtain⟨b,d,e⟩:=af9.mp c;cases q:h.get? b with
 |none=>rw[q]at e;cases e
 |some o=>
  rw[q]at e;have f:(b,o)=p:=abk e;subst f;exact⟨d,q⟩
def Inv.pinned{pins:List (Addr×Obj)}{c:St}{H:Hp}{s:Shared}{a:List Addr}(I:Inv X pins c H s)(j:∀b∈a,rE X pins H b)(k:∀b∈a,∃o,s.heap.get? b=some o/\∀v,o.data≠.cell v):Inv X (pins++vK a s.heap) c H s:=I.Jz λp l=>(aa4.mp l).elim (λz=>I.pin p (adF _ z)) λz=>by
  obtain⟨f,e⟩:=Mq z;obtain⟨m,n,q,_⟩:=j p.1 f;obtain⟨o,g,d⟩:=k p.1 f;rw[e]at g;cases g;exact⟨e,m,n,q,d⟩
def Inv.qC{pins pl:List (Addr×Obj)}{a:St}{H:Hp}{s:Shared}(I:Inv X (pins++pl) a H s):Inv X pins a H s:=I.Jz λp b=>I.pin p (adF _ (afL _ b))
def cW{B:Expr}{O:List Stmt}{Y:TI}{g:TG}{tb:TS}{pos:Pos}(w:PassesOwn (model X.prog X.w) X.A X.env X.xe)(hc:X.calm=true)(hi:PI X tg B Y)(hg:PG X tg g)(c:Fw X O tb)
  (hs:∀x,foldedSetIterable B X.env x=pure x:=by intro _;rfl):PS X (.For tg B O [] pos) (abI Y g tb):=by
 intro pins s σ H D I h;refine wpAny_For (cV (hi pins s σ H _ I h) λv s1 h1=>cV h1 λitv s2 h2=>?_) hs;obtain⟨it,y,tn,J,H2,e,I2,T,st2,f2,W,⟨m0,w0⟩,turn⟩:=h2;subst e;have C:∀{l:Hp},(∀b∈y,l b=none)->∀b∈y,rE X pins l b:=λhn b c=>⟨hn b c,(f2 b c).2⟩;refine codeAny_forLoop_any (λn s'=>sV λi q l=>lM (Inv X pins q l s') (tn i s'.heap) (∀b∈y,l b=none) (W i n q l)) ?_ m0 ⟨0,σ,H2,I2,st2,λb c=>(f2 b c).1,w0⟩;rintro n s3 ⟨i,t,A,I3,Q,U,w3⟩;rcases turn i n t A w3 with⟨stop,qn⟩|⟨go,N,hN,step⟩
 .refine aeA w (cV (T.done X rfl rfl rfl hc i pins s3 t A X.xe I3 (C U) Q stop) λr s4 ⟨L,I4⟩=>?_)
  subst L;exact afX ⟨t,A,I4,qn⟩
 .refine aeA w (cV (T.item X rfl rfl rfl hc i pins s3 t A X.xe I3 (C U) Q go) λr s4 ⟨u,L,h4⟩=>?_)
  subst L;refine aeA w (cV h4 λ_ s5 ⟨x,H5,I5,r5,y5,E,fr5⟩=>?_);have I5':=I5.pinned (C fr5) (T.obj _ _ E);refine aeA w (cV (hg _ s5 t H5 x u _ I5' r5 (step x H5 y5)) λ_ s6 ⟨σ6,H6,I6,q6⟩=>?_);refine aeA w (cV (c _ s6 σ6 H6 _ I6 q6) λf M p=>?_);have again:∀{a:St}{j:Hp},Inv X (pins++vK y s5.heap) a j M->N a j->∃m,m<n/\sV λi q l=>lM (Inv X pins q l M) (tn i M.heap) (∀b∈y,l b=none) (W i m q l):=λ{a j} k z=>by
   obtain⟨m',hm,w7⟩:=hN a j z;refine⟨m',hm,i+1,a,j,k.qC,T.keep _ _ _ E λb c o e=>(k.pin (b,o) (adF _ (adF _ (oZ c e)))).1,λb c=>?_,w7⟩;obtain⟨o,e,d⟩:=T.obj _ _ E b c;exact(k.pin (b,o) (adF _ (adF _ (oZ c e)))).2.1
  cases f with
  |next=>obtain⟨a,j,k,z⟩:=p;exact again k z
  |cont=>obtain⟨a,j,k,z⟩:=p;exact again k z
  |brk=>obtain⟨a,j,k,p⟩:=p;exact⟨a,j,k.qC,p⟩
  |ret v=>obtain⟨x7,a,j,k,r7,p⟩:=p;exact⟨x7,a,j,k.qC,r7,p⟩
end
def dR{K:Frag}{a:Addr}{xs:List V}{g:TG}{l:TS}{D:Ends}{b:St}{H:Hp}(Pv:Nat->St->Hp->Prop)(o:Pv 0 b H)(r:∀i b H,i<=xs.length->Pv i b H->aV K H a xs)
  (hs:∀i x b H,xs[i]?=some x->Pv i b H->g x b H λd j=>l {D with nx:=Pv (i+1),ct:=Pv (i+1),bk:=D.nx} d j)(s:∀b H,Pv xs.length b H->D.nx b H):
  ∃W:Nat->Nat->St->Hp->Prop,(∃m,W 0 m b H)/\∀i m b H,W i m b H->
   ((Vv K a).stop i H/\D.nx b H)\/((Vv K a).go i H/\∃N:St->Hp->Prop,(∀f c,N f c->∃n,n<m/\W (i+1) n f c)/\∀x c,(Vv K a).Od i H x c->g x b c λd j=>l {D with nx:=N,ct:=N,bk:=D.nx} d j):=by
 refine⟨λi m b H=>m=xs.length - i/\i<=xs.length/\Pv i b H,⟨xs.length,by simp,abe _,o⟩,?_⟩;rintro i m b H ⟨rfl,t,p⟩;have q:=r i b H t p;by_cases k:i<xs.length
 .refine .inr ⟨⟨xs,xs[i],q,by simp[k]⟩,Pv (i+1),λf c u=>⟨xs.length - (i+1),by grind,rfl,k,u⟩,λx c y=>?_⟩
  obtain⟨e,y⟩:=y;subst e;exact hs i x b _ (y xs q) p
 .have e:i=xs.length:=by grind
  subst e;exact .inl ⟨⟨xs,q,aaS _⟩,s b H p⟩
def nH{lo:Int}{n:Nat}{g:TG}{k:TS}{D:Ends}{a:St}{H:Hp}(Pv:Nat->St->Hp->Prop)(o:Pv 0 a H)
  (hs:∀i a H,i<n->Pv i a H->g (.int (lo+i)) a H λc j=>k {D with nx:=Pv (i+1),ct:=Pv (i+1),bk:=D.nx} c j)(q:∀a H,Pv n a H->D.nx a H):
  ∃W:Nat->Nat->St->Hp->Prop,(∃m,W 0 m a H)/\∀i m a H,W i m a H->
   ((S8 lo n).stop i H/\D.nx a H)\/((S8 lo n).go i H/\∃N:St->Hp->Prop,(∀d b,N d b->∃l,l<m/\W (i+1) l d b)/\∀x b,(S8 lo n).Od i H x b->g x a b λc j=>k {D with nx:=N,ct:=N,bk:=D.nx} c j):=by
 refine⟨λi m a H=>m=n - i/\i<=n/\Pv i a H,⟨n,by simp,abe _,o⟩,?_⟩;rintro i m a H ⟨rfl,s,p⟩;by_cases f:i<n
 .refine .inr ⟨f,Pv (i+1),λd b r=>⟨n - (i+1),by grind,rfl,f,r⟩,λx b y=>?_⟩
  obtain⟨e,y⟩:=y;subst e y;exact hs i a _ f p
 .have e:i=n:=by grind
  subst e;exact .inl ⟨aaS _,q a H p⟩
abbrev R2:=V->V->Hp->VK->Prop
def o_(X:Cx)(f:Value->Value->Sem Value)(r:R2):Prop:=∀(pins:List (Addr×Obj))(s:Shared)(a:St)(H:Hp)(x y:V)(v u:Value)(Q:VK),Inv X pins a H s->RelV x v->RelV y u->r x y H Q->
  wpAny (model X.prog X.w) X.A (f v u) (EP X pins a Q) X.xe s
def UnR(X:Cx)(f:Value->Sem Value)(r:V->Hp->VK->Prop):Prop:=∀(pins:List (Addr×Obj))(s:Shared)(a:St)(H:Hp)(x:V)(v:Value)(Q:VK),Inv X pins a H s->RelV x v->r x H Q->
  wpAny (model X.prog X.w) X.A (f v) (EP X pins a Q) X.xe s
def iW(X:Cx)(f:Value)(r:List V->Hp->VK->Prop):Prop:=∀(pins:List (Addr×Obj))(s:Shared)(a:St)(H:Hp)(xs:List V)(us:List Value)(Q:VK),Inv X pins a H s->Vals xs us->r xs H Q->
  wpAny (model X.prog X.w) X.A (call f us) (EP X pins a Q) X.xe s
def YB(r:R2)(b c:TE):TE:=λa H Q=>b a H λx d=>c a d λy e=>r x y e Q
def tUn(r:V->Hp->VK->Prop)(a:TE):TE:=λb H Q=>a b H λx c=>r x c Q
inductive rI(C:Int->Int->Prop)(g:Int->Int->V)(x:V)(y:V)(H:Hp)(Q:VK):Prop
|mk i j (_:x=.int i) (_:y=.int j) (_:C i j) (_:Q (g i j) H)
inductive PB(g:Int->Int->V)(x:V)(y:V)(H:Hp)(Q:VK):Prop
|mk i j (_:x=.int i) (_:y=.int j) (_:Q (g i j) H)
inductive rU(g:Int->V)(x:V)(H:Hp)(Q:VK):Prop
|mk i (_:x=.int i) (_:Q (g i) H)
section
variable{X:Cx}{a b c:Expr}{ta tb tc:TE}{pos:Pos}
def W5(m:PE X a ta)(n:PE X b tb){pins:List (Addr×Obj)}{s:Shared}{d:St}{H:Hp}{R:V->V->Hp->Prop}(I:Inv X pins d H s)
  (h:ta d H λx j=>tb d j λy e=>R x y e){Q:Value->Shared->Prop}{f:Value->Value->Sem Value}
  (o:∀v u g x y e,Inv X pins d e g->RelV x v->RelV y u->R x y e->wpAny (model X.prog X.w) X.A (f v u) Q X.xe g):
  wpAny (model X.prog X.w) X.A (eval a X.env) (λv k=>wpAny (model X.prog X.w) X.A (eval b X.env) (λu l=>wpAny (model X.prog X.w) X.A (f v u) Q X.xe l) X.xe k) X.xe s:=by
 refine cV (m pins s d H _ I h) λv p ⟨x,j,q,r,t⟩=>?_;refine cV (n pins p d j _ q t) λu g ⟨y,e,w,z,A⟩=>?_;exact o v u g x y e w r z A
def bO{op:Operator}{r:R2}(d:o_ X (binaryOp op) r)(e:PE X a ta)(f:PE X b tb):PE X (.BinOp a op b pos) (YB r ta tb):=by
 intro pins s g H Q I h;exact wpAny_BinOp (W5 e f I h λv u j x y k l m n q=>d pins j g k x y v u Q l m n q)
def JH{op:UnaryOp}{r:V->Hp->VK->Prop}(e:UnR X (unaryOp op) r)(f:PE X a ta):PE X (.UnaryOp op a pos) (tUn r ta):=by
 intro pins s d H Q I h;exact UnaryOp_ (cV (f pins s d H _ I h) λv g ⟨x,j,k,l,m⟩=>e pins g d j x v Q k l m)
def opI{f:Value->Value->Sem Value}{C:Int->Int->Prop}{g:Int->Int->Int}
  (rule:∀(i j:Int)(t u:Tok)(s:Shared)(Q:Value->Shared->Prop)(E:Value->Shared->Prop),C i j->Q (.int (g i j) s.toks) {s with toks:=s.toks+1}->wpAny (model X.prog X.w) X.A (f (.int i t) (.int j u)) Q E s):
  o_ X f (rI C λi j=>.int (g i j)):=by
 intro pins s k H x y v u Q I d e h;obtain⟨i,j,rfl,rfl,hc,q⟩:=h;obtain⟨t,rfl⟩:=d;obtain⟨t',rfl⟩:=e;exact rule i j t t' s _ _ hc ⟨.int (g i j),H,I.tok _,⟨_,rfl⟩,q⟩
def PJ{f:Value->Value->Sem Value}{g:Int->Int->Int}
  (rule:∀(i j:Int)(t u:Tok)(s:Shared)(Q:Value->Shared->Prop)(E:Value->Shared->Prop),Q (.int (g i j) s.toks) {s with toks:=s.toks+1}->wpAny (model X.prog X.w) X.A (f (.int i t) (.int j u)) Q E s):
  o_ X f (PB λi j=>.int (g i j)):=by
 intro pins s k H x y v u Q I d e h;obtain⟨i,j,rfl,rfl,q⟩:=h;obtain⟨t,rfl⟩:=d;obtain⟨t',rfl⟩:=e;exact rule i j t t' s _ _ ⟨.int (g i j),H,I.tok _,⟨_,rfl⟩,q⟩
def W6{f:Value->Value->Sem Value}{g:Int->Int->Bool}
  (rule:∀(i j:Int)(t u:Tok)(s:Shared)(Q:Value->Shared->Prop)(E:Value->Shared->Prop),Q (.bool (g i j)) s->wpAny (model X.prog X.w) X.A (f (.int i t) (.int j u)) Q E s):
  o_ X f (PB λi j=>.bl (g i j)):=by
 intro pins s k H x y v u Q I d e h;obtain⟨i,j,rfl,rfl,q⟩:=h;obtain⟨t,rfl⟩:=d;obtain⟨t',rfl⟩:=e;exact rule i j t t' s _ _ ⟨.bl (g i j),H,I,rfl,q⟩
def abK(i j:Int):Prop:=0<=j/\j<=1000000/\i.natAbs<2^64
def G8(k:Nat):(0:Int)<=2^k:=by
 rw[two_pow_cast];exact ad5 _
def iY:o_ X (binaryOp .Add) (PB λi j=>.int (i+j)):=PJ λ_ _ _ _ _ _ _ q=>add_int q
def vL:o_ X (binaryOp .Sub) (PB λi j=>.int (i - j)):=PJ λ_ _ _ _ _ _ _ q=>sub_int q
def vM:o_ X (binaryOp .LShift) (rI abK λi j=>.int (i*2^j.toNat)):=opI λ_ _ _ _ _ _ _ hc q=>lshift_int_small hc.1 hc.2.1 hc.2.2 q
def W7:o_ X (binaryOp .RShift) (rI (λ_ j=>0<=j) λi j=>.int (i/2^j.toNat)):=opI λi j _ _ _ _ _ hc q=>
 rshift_int hc (by rw[Int.fdiv_eq_ediv_of_nonneg i (G8 _)];exact q)
def G9:o_ X (binaryOp .BitAnd) (PB λi j=>.int (Builtin.bitAnd i j)):=PJ λ_ _ _ _ _ _ _ q=>and_int q
def Zj:o_ X (binaryOp .BitOr) (PB λi j=>.int (Builtin.bitOr i j)):=PJ λ_ _ _ _ _ _ _ q=>or_int q
def PK:o_ X (binaryOp .BitXor) (PB λi j=>.int (Builtin.bitXor i j)):=PJ λ_ _ _ _ _ _ _ q=>xor_int q
def unI{f:Value->Sem Value}{g:Int->Int}
  (rule:∀(i:Int)(t:Tok)(s:Shared)(Q:Value->Shared->Prop)(E:Value->Shared->Prop),Q (.int (g i) s.toks) {s with toks:=s.toks+1}->wpAny (model X.prog X.w) X.A (f (.int i t)) Q E s):
  UnR X f (rU λi=>.int (g i)):=by
 intro pins s e H x v Q I d h;obtain⟨i,rfl,q⟩:=h;obtain⟨t,rfl⟩:=d;exact rule i t s _ _ ⟨.int (g i),H,I.tok _,⟨_,rfl⟩,q⟩
def Ae:UnR X (unaryOp .USub) (rU λi=>.int (-i)):=unI λ_ _ _ _ _ q=>neg_int q
end
def Zk:V->V->Bool
|.non,.non=>true|.non,.int _=>true|.int _,.non=>true|.non,.bl _=>true|.bl _,.non=>true|.non,.str _=>true|.str _,.non=>true
|.int _,.int _=>true|.bl _,.bl _=>true|.str _,.str _=>true|.uc _,.uc _=>true
|.int _,.str _=>true|.str _,.int _=>true|.bl _,.str _=>true|.str _,.bl _=>true
|_,_=>false
def rEq:R2:=λx y H Q=>Zk x y=true/\Q (.bl (decide (x=y))) H
def rNe:R2:=λx y H Q=>Zk x y=true/\Q (.bl (!decide (x=y))) H
def JK{i j:Int}:decide (V.int i=V.int j)=(i==j):=by
 rw[afg];simp
def PL{i j:Bool}:decide (V.bl i=V.bl j)=(i==j):=by
 rw[afg];simp
def JL{i j:Str}:decide (V.str i=V.str j)=(i==j):=by
 rw[afg];simp
def JM{i j:Array UInt8}:decide (V.uc i=V.uc j)=(i.toList==j.toList):=by
 rw[afg];cases i;cases j;simp
section
variable{X:Cx}{a b c:Expr}{ta tb tc:TE}{pos:Pos}
def bV{pins:List (Addr×Obj)}{d:St}{H:Hp}{s:Shared}{Q:VK}{k f:Bool}(I:Inv X pins d H s)(q:Q (.bl k) H)(e:k=f):EP X pins d Q (.bool f) s:=by
 subst e;exact⟨.bl k,H,I,rfl,q⟩
def dU:o_ X (compareOp .Eq) rEq:=by
 intro pins s f H x y v u Q I e d h;obtain⟨hs,q⟩:=h;cases x with
 |non=>
  cases e;cases y with
  |non=>cases d;exact PySem.EqNone.eq_none_none (bV I q (by simp))
  |bl j=>cases d;exact PySem.EqNone.eq_none_bool (bV I q (by simp))
  |int j=>obtain⟨t',rfl⟩:=d;exact PySem.EqNone.eq_none_int (bV I q (by simp))
  |str j=>obtain⟨t',rfl⟩:=d;exact PySem.EqNone.eq_none_str (bV I q (by simp))
  |_=>exact absurd (show false=true from hs) aaT
 |bl i=>
  cases e;cases y with
  |non=>cases d;exact PySem.EqNone.eq_bool_none (bV I q (by simp))
  |bl j=>cases d;exact eq_bool (bV I q PL)
  |str j=>obtain⟨t',rfl⟩:=d;exact PySem.EqMixed.eq_bool_str (bV I q (by simp))
  |_=>exact absurd (show false=true from hs) aaT
 |int i=>
  obtain⟨t,rfl⟩:=e;cases y with
  |non=>cases d;exact PySem.EqNone.eq_int_none (bV I q (by simp))
  |int j=>obtain⟨t',rfl⟩:=d;exact eq_int (bV I q JK)
  |str j=>obtain⟨t',rfl⟩:=d;exact PySem.EqMixed.eq_int_str (bV I q (by simp))
  |_=>exact absurd (show false=true from hs) aaT
 |str i=>
  obtain⟨t,rfl⟩:=e;cases y with
  |non=>cases d;exact PySem.EqNone.eq_str_none (bV I q (by simp))
  |bl j=>cases d;exact PySem.EqMixed.eq_str_bool (bV I q (by simp))
  |int j=>obtain⟨t',rfl⟩:=d;exact PySem.EqMixed.eq_str_int (bV I q (by simp))
  |str j=>obtain⟨t',rfl⟩:=d;exact eq_str (bV I q JL)
  |_=>exact absurd (show false=true from hs) aaT
 |uc i=>
  obtain⟨t,rfl⟩:=e;cases y with
  |uc j=>obtain⟨t',rfl⟩:=d;exact PySem.W.eq_bytes (bV I q JM)
  |_=>exact absurd (show false=true from hs) aaT
 |_=>cases y<;>exact absurd (show false=true from hs) aaT
def yG:o_ X (compareOp .NotEq) rNe:=by
 intro pins s f H x y v u Q I e d h;obtain⟨hs,q⟩:=h;cases x with
 |non=>
  cases e;cases y with
  |non=>cases d;exact PySem.EqNone.ne_none_none (bV I q (by simp))
  |bl j=>cases d;exact PySem.EqNone.ne_none_bool (bV I q (by simp))
  |int j=>obtain⟨t',rfl⟩:=d;exact PySem.EqNone.ne_none_int (bV I q (by simp))
  |str j=>obtain⟨t',rfl⟩:=d;exact PySem.EqNone.ne_none_str (bV I q (by simp))
  |_=>exact absurd (show false=true from hs) aaT
 |bl i=>
  cases e;cases y with
  |non=>cases d;exact PySem.EqNone.ne_bool_none (bV I q (by simp))
  |bl j=>cases d;exact ne_bool (bV I q (congrArg not PL))
  |str j=>obtain⟨t',rfl⟩:=d;exact PySem.EqMixed.ne_bool_str (bV I q (by simp))
  |_=>exact absurd (show false=true from hs) aaT
 |int i=>
  obtain⟨t,rfl⟩:=e;cases y with
  |non=>cases d;exact PySem.EqNone.ne_int_none (bV I q (by simp))
  |int j=>obtain⟨t',rfl⟩:=d;exact ne_int (bV I q (congrArg not JK))
  |str j=>obtain⟨t',rfl⟩:=d;exact PySem.EqMixed.ne_int_str (bV I q (by simp))
  |_=>exact absurd (show false=true from hs) aaT
 |str i=>
  obtain⟨t,rfl⟩:=e;cases y with
  |non=>cases d;exact PySem.EqNone.ne_str_none (bV I q (by simp))
  |bl j=>cases d;exact PySem.EqMixed.ne_str_bool (bV I q (by simp))
  |int j=>obtain⟨t',rfl⟩:=d;exact PySem.EqMixed.ne_str_int (bV I q (by simp))
  |str j=>obtain⟨t',rfl⟩:=d;exact ne_str (bV I q (congrArg not JL))
  |_=>exact absurd (show false=true from hs) aaT
 |uc i=>
  obtain⟨t,rfl⟩:=e;cases y with
  |uc j=>obtain⟨t',rfl⟩:=d;exact PySem.W.ne_bytes (bV I q (congrArg not JM))
  |_=>exact absurd (show false=true from hs) aaT
 |_=>cases y<;>exact absurd (show false=true from hs) aaT
def yH:o_ X (compareOp .Lt) (PB λi j=>.bl (decide (i<j))):=W6 λ_ _ _ _ _ _ _ q=>lt_int q
def jQ:o_ X (compareOp .LtE) (PB λi j=>.bl (decide (i<=j))):=W6 λ_ _ _ _ _ _ _ q=>le_int q
def tH:o_ X (compareOp .Gt) (PB λi j=>.bl (decide (j<i))):=W6 λ_ _ _ _ _ _ _ q=>gt_int q
def iZ:o_ X (compareOp .Is) (λx y H Q=>y=.non/\Q (.bl (decide (x=.non))) H):=by
 intro pins s f H x y v u Q I d e h;obtain⟨rfl,q⟩:=h;cases e;refine is_none_gen (bV I q ?_);cases x<;>first
  |(cases d;rfl)
  |(obtain⟨t,rfl⟩:=d;rfl)
def aR(b:Expr){op:CmpOp}(h:op≠.In:=by decide)(d:op≠.NotIn:=by decide):behindInMarks op b=false:=by
 have e:(op==CmpOp.In)=false:=by cases op<;>first|rfl|exact absurd rfl h
 have f:(op==CmpOp.NotIn)=false:=by cases op<;>first|rfl|exact absurd rfl d
 cases b<;>simp[behindInMarks,e,f]
def jq{op:CmpOp}{r:R2}(d:o_ X (compareOp op) r)(e:PE X a ta)(f:PE X b tb)(g:behindInMarks op b=false):PE X (.Compare a [op] [b] pos) (YB r ta tb):=by
 intro pins s j H Q I h;exact wpAny_Compare1 (W5 e f I h λv u k x y l m n o q=>d pins k j l x y v u Q m n o q) g
def JN(t:TE):TT:=λd H Q=>t d H λx e=>IsB x λk=>Q k e
def aK{op:CmpOp}{r:R2}(f:o_ X (compareOp op) r)(g:PE X a ta)(j:PE X b tb)(l:behindInMarks op b=false):PT X (.Compare a [op] [b] pos) (JN (YB r ta tb)):=by
 intro pins s d H Q I h;refine wpAny_isTrue_Compare1 (cV (g pins s d H _ I h) λv m ⟨x,n,o,p,q⟩=>cV (j pins m d n _ o q) λu t ⟨y,w,A,B,C⟩=>
  cV (f pins t d w x y v u _ A p B C) λc M ⟨z,D,E,J,k,e,L⟩=>?_) l
 subst e;cases J;exact adQ ⟨D,E,L⟩
def PN(r r':R2)(ta tb tc:TE):TE:=λd H Q=>ta d H λx f=>tb d f λy g=>r x y g λz e=>∃k,z=.bl k/\
 (if k=true then tc d e λj l=>r' y j l Q else Q (.bl false) e)
def vN{op g:CmpOp}{r r':R2}(p:o_ X (compareOp op) r)(o:o_ X (compareOp g) r')(q:PE X a ta)(t:PE X b tb)(hc:PE X c tc)
  (w:lastMarks [op,g] [b,c]=false:=by with_unfolding_all rfl):PE X (.Compare a [op,g] [b,c] pos) (PN r r' ta tb tc):=by
 intro pins s f H Q I h;refine Compare_chain (cV (q pins s f H _ I h) λv A ⟨x,B,C,D,E⟩=>chain_link (cV (t pins A f B _ C E) λu J ⟨y,L,M,j,N⟩=>
  cV (p pins J f L x y v u _ M D j N) λd O ⟨z,l,m,T,k,e,n⟩=>?_)) w
 subst e;cases T;refine adQ ?_;cases k with
 |false=>exact ite_ff ⟨.bl false,l,m,rfl,n⟩
 |true=>exact ite_tt (chain_last (cV (hc pins O f l _ m n) λU Y ⟨z',H4,I4,r4,q4⟩=>o pins Y f H4 y z' u U Q I4 j r4 q4))
def vO{op g:CmpOp}{r r':R2}(p:o_ X (compareOp op) r)(o:o_ X (compareOp g) r')(q:PE X a ta)(t:PE X b tb)(hc:PE X c tc)
  (w:lastMarks [op,g] [b,c]=false:=by with_unfolding_all rfl):PT X (.Compare a [op,g] [b,c] pos) (JN (PN r r' ta tb tc)):=by
 intro pins s f H Q I h;refine isTrue_chain (cV (q pins s f H _ I h) λv A ⟨x,B,C,D,E⟩=>test_link (cV (t pins A f B _ C E) λu J ⟨y,L,M,j,N⟩=>
  cV (p pins J f L x y v u _ M D j N) λd O ⟨z,l,m,T,k,e,n⟩=>?_)) w
 subst e;cases T;refine adQ ?_;cases k with
 |false=>
  obtain⟨k',U,Y⟩:=n;cases U;exact ite_ff ⟨l,m,Y⟩
 |true=>
  refine ite_tt (test_last (cV (hc pins O f l _ m n) λw' s4 ⟨z',H4,I4,r4,q4⟩=>cV (o pins s4 f H4 y z' u w' _ I4 j r4 q4) λd' s5 ⟨z2,H5,I5,r5,k2,e2,q5⟩=>?_));subst e2;cases r5;exact adQ ⟨H5,I5,q5⟩
def vP:(sizeLine:Nat)<2^63:=by rw[aa1];decide
def vals1{x:V}{us:List Value}(r:Vals [x] us):∃u,us=[u]/\RelV x u:=by
 cases r with
 |cons d e=>cases e;exact⟨_,rfl,d⟩
def vals2{x y:V}{us:List Value}(r:Vals [x,y] us):Ex2 λu d=>dF (us=[u,d]) (RelV x u) (RelV y d):=by
 cases r with
 |cons e f=>
  cases f with
  |cons g j=>cases j;exact⟨_,_,rfl,e,g⟩
def Mr(hc:X.calm=true):iW X (.builtin "max") (λxs H Q=>Ex2 λi j=>xs=[.int i,.int j]/\Q (.int (if j>i then j else i)) H):=by
 intro pins s e H xs us Q I r h;obtain⟨i,j,rfl,q⟩:=h;obtain⟨u,f,rfl,⟨t,rfl⟩,⟨t',rfl⟩⟩:=vals2 r;refine max_two_ints (I.ok.hd hc) λh' tk k=>⟨_,H,I.kept k,?_,q⟩;by_cases d:j>i
 .rw[aaU d,aaU d];exact⟨_,rfl⟩
 .rw[aaz d,aaz d];exact⟨_,rfl⟩
end
structure G_(h:Heap)(x dx C:Addr)(mA:Str->Option Value):Prop where
 obj:h.get? x=some (instObj C dx)
 ns:h.Ns1 dx mA
 ne:dx≠x
def Ms{h:Heap}{b:Addr}{c:Str->Option Value}(n:h.Ns1 b c):∃d,h.get? b=some d/\∀name,lookIn name d=some (c name):=by
 obtain⟨o,f,s,j,k,l,_,m⟩:=n;refine⟨o,j,λname=>?_⟩;have e:=m name;unfold nsFind findBy at e;rw[<-Array.find?_toList]at e;unfold lookIn;rw[k];dsimp only;split
 .rename_i y q
  rw[q]at e;exact congrArg some e
 .rename_i q
  rw[q]at e;have a:f.toList.any (·.refKey)=false:=by
   rw[afy];intro y p;obtain⟨z,t,g⟩:=l y (Array.mem_toList_iff.mp p);simp[DictEntry.refKey,g]
  have r:¬f.toList.any (·.refKey)=true:=by rw[a];exact aaT
  rw[aaz r];exact congrArg some e
def G_.look{h:Heap}{x b C:Addr}{c:Str->Option Value}(I:G_ h x b C c):∃a,PySem.W.InstAt h x (instObj C b) C (some a)/\∀name,lookIn name a=some (c name):=
 let⟨a,ho,hl⟩:=Ms I.ns
 ⟨a,⟨I.obj,rfl,rfl,ho⟩,hl⟩
section
variable{prog:Program}{w:World}{A:Around}{E:Value->Shared->Prop}{s:Shared}{K:Frag}{x dx C f:Addr}{mA:Str->Option Value}{name:Str}{v:Value}
def get_map{a:Bool}{Q:Value->Shared->Prop}(X:K.In s.heap)(I:G_ s.heap x dx C mA)(c:plainGet K C name=true)(d:hasDictIn K C=true)
  (e:findIn K (.ref C) name=some none)(g:mA name=some v)(b:handedIn v=true)(h:Q v {s with toks:=s.toks+1}):
  wpAny (model prog w) A (getAttr (.ref x) name a) Q E s:=by
 obtain⟨k,J,j⟩:=I.look;exact PySem.W.get_value X J (af6 c).1 (PySem.W.findObj_own d e rfl (by rw[j,g])) b h
def PX{pl:Sem Bool}{Q:Value×List Value->Shared->Prop}(X:K.In s.heap)(I:G_ s.heap x dx C mA)(a:plainGet K C name=true)
  (b:findIn K (.ref C) name=some (some (.ref f)))(c:isFn K (.ref f)=true)(d:mA name=none)(h:Q (.ref f,[.ref x]) s):
  wpAny (model prog w) A (getMethod (.ref x) name pl) Q E s:=by
 obtain⟨e,J,g⟩:=I.look;exact PySem.W.method_fn X J (af6 a).1 (af6 a).2 b (afk.mp c) (by show(lookIn name e).map (·.isSome)=some false;rw[g,d];rfl) h
def T5{e:List Str}{Q:Unit->Shared->Prop}(X:K.In s.heap)(I:G_ s.heap x dx C mA)
  (hs:findIn K (.ref C) "__setattr__"=some (some (.builtin "object.__setattr__")))(m:plainOver K C=true)(n:takerIn K C name=some none)(o:hasDictIn K C=true)
  (hw:PySem.Within mA e)(hsz:e.length<=sizeLine)
  (h:∀h',G_ h' x dx C (λy=>if y=name then some v else mA y)->Heap.SameBut dx s.heap h'->Q () {s with heap:=h',toks:=s.toks+2}):
  wpAny (model prog w) A (setAttr (.ref x) name v) Q E s:=by
 obtain⟨u,J,z⟩:=I.look;refine PySem.W.set_plain X J hs (PySem.W.osa_open (s:={s with toks:=s.toks+1}) (r:=none) X J m n λb=>?_);obtain⟨B,hc,g⟩:=PySem.W.any_some o;have p:s.heap.get? x=some ⟨.ref C,some dx,.plain,#[]⟩:=I.obj;refine pP (aaR (pP (pP (wpAny_loadPart p (pP (PySem.W.Looks.here (s:={s with toks:=s.toks+1}) (PySem.W.looks_clsIn X hc) ?_))))));rw[g];refine aaR (a:=some dx) (pP (aaR (pP ?_)));refine wpAny_nsSet1 (s:={s with toks:=s.toks+1}) I.ns λh' c d=>?_;obtain⟨D,q,t,j,k,l⟩:=c.count (PySem.Within.cons name v hw);refine pP (wpAny_lookBehind j (by rw[k];exact pastItsLine_dict (abJ l (by rw[aae];grind))) ?_);exact aaR (h _ ⟨(d.2 _ (ac6 I.ne)).trans I.obj,c,I.ne⟩ d)
def P0{R:Result->Shared->Prop}{vs:List Value}{a:List (Str×Value)}(X:K.In s.heap)(b:makesIn K C=true)
  (c:findIn K (.ref C) "__init__"=some (some (.ref f)))(e:PySem.W.typeIn K (.ref f)=some (.type "function"))
  (h:codeAny (model prog w) (A.under (.builtin "type.__call__" ⟨.ref C::vs,a⟩)) (.call (.ref f) ⟨.ref (s.heap.objs.size+1)::vs,a⟩) (PySem.W.InitBack (s.heap.objs.size+1) R)
   {s with heap:=(s.heap.push emptyDict).push (instObj C s.heap.objs.size)}):
  codeAny (model prog w) A (.call (.ref C) ⟨vs,a⟩) R s:=by
 obtain⟨j,g,d,t,os⟩:=s;exact PySem.W.make_core (PySem.W.makes_of X b) (PySem.W.looks_findIn X c) (λself=>PySem.W.bind_fn X self e) (.inl rfl) h
end
def jj(f:Str)(v:V):List (Str×V)->List (Str×V)
|[]=>[(f,v)]
|(g,x)::r=>if g=f then(g,v)::r else(g,x)::jj f v r
theorem eO(f g:Str)(v:V):∀c:List (Str×V),(jj f v c).lookup g=if g=f then some v else c.lookup g
|[]=>by
 show List.lookup g [(f,v)]=_;by_cases h:g=f
 .have a:(g==f)=true:=afk.mpr h
  simp only[List.lookup,a,aaU h]
 .have a:(g==f)=false:=ad2.mpr h
  simp only[List.lookup,a,aaz h]
|(k,x)::r=>by
 have d:=eO f g v r;rw[show jj f v ((k,x)::r)=(if k=f then(k,v)::r else(k,x)::jj f v r)from rfl];by_cases b:k=f
 .rw[aaU b]
  by_cases h:g=k
  .have a:(g==k)=true:=afk.mpr h
   simp only[List.lookup,a,aaU (h.trans b)]
  .have a:(g==k)=false:=ad2.mpr h
   simp only[List.lookup,a,aaz (λe:g=f=>h (e.trans b.symm))]
 .rw[aaz b]
  by_cases h:g=k
  .have a:(g==k)=true:=afk.mpr h
   simp only[List.lookup,a,aaz (λe:g=f=>b (h.symm.trans e))]
  .have a:(g==k)=false:=ad2.mpr h
   simp only[List.lookup,a];exact d
theorem rF(f:Str)(v:V):∀a:List (Str×V),f∈(jj f v a).map (·.1)/\∀g,g∈a.map (·.1)->g∈(jj f v a).map (·.1)
|[]=>⟨by simp[jj],λg h=>by simp at h⟩
|(k,x)::r=>by
 obtain⟨c,d⟩:=rF f v r;rw[show jj f v ((k,x)::r)=(if k=f then(k,v)::r else(k,x)::jj f v r)from rfl];by_cases b:k=f
 .rw[aaU b]
  subst b;exact⟨by simp,λg h=>by simpa using h⟩
 .rw[aaz b]
  refine⟨?_,λg h=>?_⟩
  .rw[aaZ]
   exact aaX _ c
  .rw[aaZ]at h⊢
   rcases aa2.mp h with e|e
   .exact aa2.mpr (.inl e)
   .exact aaX _ (d g e)
theorem tK(f:Str)(v:V):∀a:List (Str×V),(jj f v a).length<=a.length+1
|[]=>by simp[jj]
|(k,x)::r=>by
 have c:=tK f v r;rw[show jj f v ((k,x)::r)=(if k=f then(k,v)::r else(k,x)::jj f v r)from rfl];by_cases b:k=f
 .rw[aaU b,aae,aae];grind
 .rw[aaz b,aae,aae];grind
def oh.some_of{v:V}{o:Option Value}(r:oh (some v) o):∃u,o=some u/\RelV v u:=by
 cases o with
 |none=>exact(show False from r).elim
 |some u=>exact⟨u,rfl,r⟩
def oh.none_of{o:Option Value}(r:oh none o):o=none:=by
 cases o with
 |none=>rfl
 |some u=>exact(show False from r).elim
def Mt{v:V}{u:Value}(r:RelV v u):handedIn u=true:=by
 cases v with
 |non=>cases(show u=Value.none from r);rfl
 |bl b=>cases(show u=Value.bool b from r);rfl
 |int i=>obtain⟨t,e⟩:=(show∃t,u=Value.int i t from r);cases e;rfl
 |str x=>obtain⟨t,e⟩:=(show∃t,u=Value.str x t from r);cases e;rfl
 |uc b=>obtain⟨t,e⟩:=(show∃t,u=Value.bytes b t from r);cases e;rfl
 |flt b=>obtain⟨t,e⟩:=(show∃t,u=Value.float b t from r);cases e;rfl
 |ref a=>cases(show u=Value.ref a from r);rfl
 |ty n=>cases(show u=Value.type n from r);rfl
section
variable{P:Program}{w:World}{H H':Hp}{h h':Heap}{a C dx:Addr}{fs fs':List (Str×V)}
def Af(c:qw P w H h)(e:H a=some (.ins C dx fs)):∃b,xZ (G_ h a dx C b) (∀f,oh (fs.lookup f) (b f)) (PySem.Within b (fs.map (·.1))) (fs.length<=1000) (H dx=some (.own a)):=by
 obtain⟨d,z,g,j,b,n,r,q⟩:=(show fQ P w H h a (.ins C dx fs)from c a _ e);exact⟨b,⟨j,n,g⟩,r,q,z,d⟩
end
structure Cls(K:Frag)(C:Addr):Prop where
 pg:plainGet K C Str.empty=true
 hd:hasDictIn K C=true
 po:plainOver K C=true
 sa:findIn K (.ref C) "__setattr__"=some (some (.builtin "object.__setattr__"))
def Cls.get{K:Frag}{C:Addr}(c:Cls K C)(f:Str):plainGet K C f=true:=c.pg
def mC(K:Frag)(C:Addr)(f:Str):Prop:=findIn K (.ref C) f=some none
def mC.taker{K:Frag}{C:Addr}{f:Str}(n:mC K C f):takerIn K C f=some none:=by
 unfold takerIn;rw[show findIn K (.ref C) f=some none from n];rfl
structure Meth(K:Frag)(C:Addr)(m:Str)(f:Addr):Prop where
 at_:findIn K (.ref C) m=some (some (.ref f))
 fn:isFn K (.ref f)=true
 kp:keepIn K (.ref f)=true
section
variable{X:Cx}{pins:List (Addr×Obj)}{σ:St}{H:Hp}{s:Shared}{a C dx:Addr}{fs:List (Str×V)}{f:Str}{v:V}{A:Around}{E:Value->Shared->Prop}
def Hf{b:Bool}{Q:Value->Shared->Prop}(I:Inv X pins σ H s)(e:H a=some (.ins C dx fs))(c:Cls X.K C)(n:mC X.K C f)(l:fs.lookup f=some v)
  (h:∀u d,Inv X pins σ H d->RelV v u->Q u d):wpAny (model X.prog X.w) A (getAttr (.ref a) f b) Q E s:=by
 obtain⟨j,O,r,_,_,_⟩:=Af I.hok e;obtain⟨u,hu,g⟩:=oh.some_of (v:=v) (o:=j f) (by rw[<-l];exact r f);exact get_map I.Dh O (c.get f) c.hd n hu (Mt g) (h u _ (I.tok _) g)
def vQ{m:Str}{g:Addr}{pl:Sem Bool}{Q:Value×List Value->Shared->Prop}(I:Inv X pins σ H s)(e:H a=some (.ins C dx fs))(c:Cls X.K C)(k:Meth X.K C m g)(l:fs.lookup m=none)
  (h:Q (.ref g,[.ref a]) s):wpAny (model X.prog X.w) A (getMethod (.ref a) m pl) Q E s:=by
 obtain⟨b,O,r,_,_,_⟩:=Af I.hok e;have d:b m=none:=oh.none_of (by rw[<-l];exact r m);exact PX I.Dh O (c.get m) k.at_ k.fn d h
def Hg{y:V}{u:Value}{Q:Unit->Shared->Prop}(I:Inv X pins σ H s)(e:H a=some (.ins C dx fs))(c:Cls X.K C)(n:mC X.K C f)(J:fs.length<1000)(p:RelV y u)
  (h:∀j,Inv X pins σ (upd H a (.ins C dx (jj f y fs))) j->Q () j):wpAny (model X.prog X.w) A (setAttr (.ref a) f u) Q E s:=by
 obtain⟨k,O,r,l,_,m⟩:=Af I.hok e;have hz:(fs.map (·.1)).length<=sizeLine:=by rw[aac,aa1];grind
 refine T5 I.Dh O c.sa c.po n.taker c.hd l hz λh' d t=>h _ ?_;have w:∃o,h'.get? dx=some o:=let⟨o,_,_,e',_⟩:=d.ns;⟨o,e'⟩
 refine I.write (x:=a) (e:=dx) (by rw[e];exact True.intro) (.inr m) (λb q B z=>(t.2 b B).trans z) w ?_;refine⟨by rw[aU O.ne];exact m,?_,O.ne,d.obj,_,d.ns,λg=>?_,λg D=>?_⟩
 .have:=tK f y fs;grind
 .show oh ((jj f y fs).lookup g) (if g=f then some u else k g)
  rw[eO];by_cases q:g=f
  .rw[aaU q,aaU q];exact p
  .rw[aaz q,aaz q];exact r g
 .by_cases q:g=f
  .rw[q];exact(rF f y fs).1
  .refine(rF f y fs).2 g (l g λz=>D ?_)
   show(if g=f then some u else k g)=none;rw[aaz q];exact z
def Inv.made(I:Inv X pins σ H s):Inv X pins σ (upd (upd H s.heap.objs.size (.own (s.heap.objs.size+1))) (s.heap.objs.size+1) (.ins C s.heap.objs.size []))
  {s with heap:=(s.heap.push emptyDict).push (instObj C s.heap.objs.size)}:=by
 have c:(s.heap.push emptyDict).get? s.heap.objs.size=some emptyDict:=abb s.heap rfl;have g:((s.heap.push emptyDict).push (instObj C s.heap.objs.size)).get? (s.heap.objs.size+1)=some (instObj C s.heap.objs.size):=by
  have:=abb (s.heap.push emptyDict) (o:=instObj C s.heap.objs.size) rfl;rwa[ab6]at this
 have j:(s.heap.push emptyDict).Ns s.heap.objs.size (λ_=>none):=⟨emptyDict,#[],_,c,rfl,(λe k=>absurd k (by simp)),λ_=>rfl⟩;have l:=I.laid (a:=s.heap.objs.size) (o:=.own (s.heap.objs.size+1)) (h':=s.heap.push emptyDict) (t':=s.toks) (λb u q=>aaQ _ q) (aaS _) ⟨_,c⟩;refine l.laid (a:=s.heap.objs.size+1) (o:=.ins C s.heap.objs.size []) (t':=s.toks) (λb u q=>aaQ _ q) (agW (ab6 _ _)) ?_;have d:s.heap.objs.size≠s.heap.objs.size+1:=abt (adD _);refine⟨by rw[aU d,ak],abe _,d,g,λ_=>none,(Heap.Ns1.of_empty j).at λo q=>aaQ _ q,λ_=>True.intro,λy m=>absurd rfl m⟩
def T6{prog:Program}{w:World}{env:Env}{e:Expr}{f:Str}{c:Pos}{s:Shared}{Q:Value->Shared->Prop}(d:attributeBase e f env (eval e env)=eval e env)
  (h:wpAny (model prog w) A (eval e env) (λo b=>wpAny (model prog w) A (getAttr o f true) Q E b) E s):wpAny (model prog w) A (eval (.Attribute e f c) env) Q E s:=Attribute_any_ h (by rw[arm_eval_Attribute,d])
end
def W8(K:Frag)(d:TE)(f:Str):TE:=λe H Q=>d e H λx b=>Oa λa C g c v=>Fz (x=.ref a) (b a=some (.ins C g c)) (Cls K C) (mC K C f) (c.lookup f=some v) (Q v b)
def Zm(K:Frag)(g tv:TE)(f:Str):TS:=λD b H=>tv b H λy j=>g b j λx d=>Ft λa C e c=>Fz (x=.ref a) (d a=some (.ins C e c)) (Cls K C) (mC K C f) (c.length<1000) (D.nx b (upd d a (.ins C e (jj f y c))))
def Zn(X:Cx)(op:Operator)(rd:V->V->Hp->VK->Prop):Prop:=∀(pins:List (Addr×Obj))(s:Shared)(a:St)(H:Hp)(x y:V)(u v:Value)(Q:VK),Inv X pins a H s->RelV x u->RelV y v->rd x y H Q->wpAny (model X.prog X.w) X.A (inplaceOp op u v) (EP X pins a Q) X.xe s
section
variable{X:Cx}{o e value:Expr}{f:Str}{pos pos' tpos:Pos}{ta tv:TE}
def fM(b:PE X e ta)(d:attributeBase e f X.env (eval e X.env)=eval e X.env):PE X (.Attribute e f pos) (W8 X.K ta f):=by
 intro pins s g H Q I h;refine T6 d (cV (b pins s g H _ I h) λu w ⟨x,j,k,m,a,C,y,z,v,ex,p,c,n,l,q⟩=>?_);subst ex;obtain rfl:u=Value.ref a:=m;exact Hf k p c n l λA B r t=>⟨v,j,r,t,q⟩
def rG(d:PE X o ta)(g:PE X value tv)(hs:swapsWith value (some (.Attribute o f pos')) pos.line X.env=pure false):PS X (.Assign [.Attribute o f pos'] value pos) (Zm X.K ta tv f):=by
 intro pins s b H D I h;refine plainObj_wpAny_Assign_Attribute (cV (g pins s b H _ I h) λu j ⟨y,k,m,p,q⟩=>cV (d pins j b k _ m q) λr B ⟨x,E,t,v,a,C,J,L,ex,w,c,n,l,z⟩=>?_) hs;subst ex;obtain rfl:r=Value.ref a:=v;exact Hg t w c n l p λM A=>⟨b,_,A,z⟩
end
structure bI(k:Nat)(A:Around):Prop where
 hd:A.handled=none
 dp:A.depth+3*k+5<recursionLimit
 un:A.units+16*k+200<cLine
def bI.mono{j k:Nat}{A:Around}(r:bI k A)(h:j<=k):bI j A:=⟨r.hd,by have:=r.dp;grind,by have:=r.un;grind⟩
theorem bI.deeper{k:Nat}{A:Around}(r:bI (k+1) A)(env:Env):bI k (A.deeper env):=⟨r.hd,by have:=r.dp;show A.depth+1+3*k+5<_;grind,by have:=r.un;show A.units+3+16*k+200<_;grind⟩
def Hh{A:Around}{C:Addr}{us:List Value}{a:List (Str×Value)}:(A.under (.builtin "type.__call__" ⟨.ref C::us,a⟩)).depth=A.depth+1:=by
 first|rfl|simp[Around.under,Code.weight,Code.isCreation,Code.isGuard,Code.isCaller,Code.frames,Code.isFrame,guardIds]
def Hi{A:Around}{C:Addr}{us:List Value}{a:List (Str×Value)}:(A.under (.builtin "type.__call__" ⟨.ref C::us,a⟩)).units=A.units+1:=by
 first|rfl|simp[Around.under,Code.cUnits,Code.frames,Code.isFrame]
def bI.make{k:Nat}{A:Around}(r:bI (k+1) A)(C:Addr)(us:List Value)(a:List (Str×Value)):bI k (A.under (.builtin "type.__call__" ⟨.ref C::us,a⟩)):=⟨r.hd,by have:=r.dp;rw[Hh];grind,by have:=r.un;rw[Hi];grind⟩
theorem bI.depth{k:Nat}{A:Around}(r:bI k A):A.depth<recursionLimit:=by have:=r.dp;grind
theorem bI.units{k:Nat}{A:Around}(r:bI k A):A.units+64<cLine:=by have:=r.un;grind
def iB:TA:=λ_ H Q=>Q [] H
def d_(b:TE)(tr:TA):TA:=λa H Q=>b a H λx c=>tr a c λxs d=>Q (x::xs) d
section
variable{X:Cx}{e:Expr}{es:List Expr}{te:TE}{t:TA}{pos:Pos}
def aq:PA X [] iB:=λ_ _ _ _ H Q I h=>ags ⟨[],H,I,.nil,h⟩
def aj(b:PE X e te)(c:PA X es t)(hs:starEach (e::es) X.env=(false,eval e X.env)::starEach es X.env:=by rfl):PA X (e::es) (d_ te t):=by
 intro pos pins s a H Q I h;rw[hs];show wpAny _ _ (spliced ((false,eval e X.env)::backTo pos (starEach es X.env))) _ _ s;refine afm (cV (b pins s a H _ I h) λu d ⟨x,f,g,j,k⟩=>?_);exact cV (c pos pins d a f _ g k) λus p ⟨xs,l,m,n,o⟩=>⟨x::xs,l,m,.cons j n,o⟩
def Zo(t:TA):TE:=λb H Q=>t b H λxs a=>xs.length<=sizeLine/\∀p,a p=none->Q (.ref p) (upd a p (.tup xs))
def abM(t:TA):TE:=λb H Q=>t b H λxs a=>xs.length<=sizeLine/\∀p,a p=none->Q (.ref p) (upd a p (.lst xs))
def dw{x1}(h:PA X es t):PE X (.Tuple es x1 pos) (Zo t):=by
 intro pins s f H Q I g;refine wpAny_Tuple_spliced (cV (h pos pins s f H _ I g) λus a ⟨xs,c,d,r,z,q⟩=>⟨by rw[<-r.length];exact z,?_⟩);have j:c a.heap.objs.size=none:=d.hok.fresh (aaS _);refine⟨.ref a.heap.objs.size,upd c a.heap.objs.size (.tup xs),d.laid (t':=a.toks) (λb u e=>aaQ _ e) (aaS _) ?_,rfl,q _ j⟩;exact⟨z,us,r,⟨_,abb _ rfl,rfl,_,rfl⟩⟩
def aQ(h:PA X es t):PE X (.List es pos) (abM t):=by
 intro pins s f H Q I g;refine wpAny_List_spliced (cV (h pos pins s f H _ I g) λus a ⟨xs,c,d,r,z,q⟩=>⟨by rw[<-r.length];exact z,?_⟩);have j:c a.heap.objs.size=none:=d.hok.fresh (aaS _);refine⟨.ref a.heap.objs.size,upd c a.heap.objs.size (.lst xs),d.laid (t':=a.toks) (λb u e=>aaQ _ e) (aaS _) ?_,rfl,q _ j⟩;exact⟨z,us,0,r,abb _ rfl⟩
end
abbrev Sp:=List V->Hp->VK->XK->Prop
abbrev P_:=List Env->Hp->Shared->XK->Value->Shared->Prop
structure Hj(P:Program)(w:World)(K:Frag)(mg:Str->Option Value)(base:Heap)(A:Around)(outer:List Env)(s:Shared)(H:Hp):Prop where
 frames:A.frames=some outer
 mod:Mod K mg base
 bs:∀b o,base.get? b=some o->s.heap.get? b=some o/\H b=none
 TY:base.objs.size<=s.heap.objs.size
 ud:s.heap.FunFrames base outer
 WY:∀b∈frs outer,H b=none
 hok:qw P w H s.heap
 bare:AllBare s.gens
def CE(outer:List Env)(P:Program)(w:World)(H:Hp)(s:Shared)(Q:VK)(u:Value)(a:Shared):Prop:=Ex2 λv b=>Fz (a.os=s.os) (AllBare a.gens) (Un (frs outer) [] H b s.heap a.heap) (qw P w b a.heap) (RelV v u) (Q v b)
def CR(CX:P_)(outer:List Env)(P:Program)(w:World)(H:Hp)(s:Shared)(Q:VK)(E:XK)(r:Result)(a:Shared):Prop:=
 match r with
 |.ok (.ret u)=>CE outer P w H s Q u a
 |.ok _=>False
 |.error e=>CX outer H s E e a
structure i_(P:Program)(w:World)(K:Frag)(mg:Str->Option Value)(base:Heap)(CX:P_)(k:Nat)(f:Addr)(fd:FuncData)(ps:List Str)(sp:Sp):Prop where
 len:∀vs H Q E,sp vs H Q E->vs.length=ps.length
 run:∀(A:Around)(outer:List Env)(s:Shared)(H:Hp)(args:Args)(us:List Value)(vs:List V)(Q:VK)(E:XK),bI k A->Hj P w K mg base A outer s H->BindsTo s fd args (ps.zip us)->Vals vs us->sp vs H Q E->
  codeAny (model P w) A (.call (.ref f) args) (CR CX outer P w H s Q E) s
def Hj.make{P:Program}{w:World}{K:Frag}{mg:Str->Option Value}{base:Heap}{A:Around}{outer:List Env}{s:Shared}{H:Hp}(e:Hj P w K mg base A outer s H)(C:Addr)(us:List Value)(a:List (Str×Value)):
  Hj P w K mg base (A.under (.builtin "type.__call__" ⟨.ref C::us,a⟩)) outer s H:=⟨by first|exact e.frames|(simpa[Around.under,Code.envs,Code.isFrame,pushEnvs]using e.frames),e.mod,e.bs,e.TY,e.ud,e.WY,e.hok,e.bare⟩
section
variable{X:Cx}{pins:List (Addr×Obj)}{σ:St}{H:Hp}{s s':Shared}
def Inv.env0(I:Inv X pins σ H s):Hj X.prog X.w X.K X.mg X.base X.A X.stack s H:=⟨I.ok.frames,I.ok.mod,I.bs,abJ I.ok.TY I.sz,I.stack,I.Jy,I.hok,I.bare⟩
def Inv.after{Q:VK}{u:Value}(I:Inv X pins σ H s)(h:CE X.stack X.prog X.w H s Q u s'):EP X pins σ Q u s':=by
 obtain⟨v,f,os,a,j,c,r,q⟩:=h;obtain⟨k,g,d,t,e⟩:=s';obtain rfl:e=s.os:=os;exact⟨v,f,I.call (h':=k) (g':=g) (d':=d) (t':=t) (ch:=[]) j c a (λb z=>absurd z (by simp)),r,q⟩
end
def vR(sp:Sp)(xr:List V)(E:XK)(t:TA):TE:=λa H Q=>t a H λvs b=>sp (vs++xr) b Q E
def Dk(C:Addr)(m:Str)(sp:Sp)(xr:List V)(E:XK)(e:TE)(t:TA):TE:=λb H Q=>e b H λx c=>sV λa f d=>lM (x=.ref a) (c a=some (.ins C f d)) (d.lookup m=none) (t b c λvs g=>sp (x::(vs++xr)) g Q E)
def Zq(C:Addr)(sp:Sp)(xr:List V)(E:XK)(t:TA):TE:=λc H Q=>t c H λvs b=>∀x a,b x=none->b a=none->a≠x->
 sp (.ref x::(vs++xr)) (upd (upd b a (.own x)) x (.ins C a [])) (λv d=>v=.non/\Q (.ref x) d) E
def Binds(K:Frag)(a:FuncData)(ps:List Str)(ds:List Value):Prop:=∀(s:Shared)(us:List Value),K.In s.heap->(us++ds).length=ps.length->BindsTo s a ⟨us,[]⟩ (ps.zip (us++ds))
def Binds.all{K:Frag}{a:FuncData}{ps:List Str}(h:∀us:List Value,us.length=ps.length->bindArgs a ⟨us,[]⟩=pure (ps.zip us)):Binds K a ps []:=λs us _ b=>by
 rw[acQ]at b⊢;exact .of_eq (h us b)
def Passes(CX:P_)(X:Cx)(E:XK):Prop:=∀(pins:List (Addr×Obj))(b:St)(H:Hp)(s:Shared)(e:Value)(a:Shared),Inv X pins b H s->CX X.stack H s E e a->X.xe e a
section
variable{X:Cx}{CX:P_}{k:Nat}{f C:Addr}{fd:FuncData}{ps:List Str}{sp:Sp}{xr:List V}{ds:List Value}{E:XK}{x m:Str}{p pos apos:Pos}{e o:Expr}{es:List Expr}{ta:TE}{t:TA}
def Ag{pins:List (Addr×Obj)}{b:St}{H:Hp}{s:Shared}{Q:VK}{us:List Value}{vs:List V}(F:i_ X.prog X.w X.K X.mg X.base CX k f fd ps sp)(d:bI k X.A)(g:Binds X.K fd ps ds)(j:Vals xr ds)(l:Passes CX X E)
  (I:Inv X pins b H s)(r:Vals vs us)(h:sp (vs++xr) H Q E):wpAny (model X.prog X.w) X.A (call (.ref f) us) (EP X pins b Q) X.xe s:=by
 have c:Vals (vs++xr) (us++ds):=r.append j;have n:(us++ds).length=ps.length:=by rw[<-c.length];exact F.len _ _ _ _ h
 refine wpAny_call (aft (F.run X.A X.stack s H ⟨us,[]⟩ (us++ds) (vs++xr) Q E d I.env0 (g s us I.Dh n) c h) λr q a=>?_);cases r with
 |error e=>exact l pins b H s e q I a
 |ok v=>
  cases v with
  |ret u=>exact I.after a
  |next=>exact False.elim a
  |brk=>exact False.elim a
  |cont=>exact False.elim a
def aB(F:i_ X.prog X.w X.K X.mg X.base CX k f fd ps sp)(d:bI k X.A)(g:Gl X x)(j:X.mg x=some (.ref f))(l:keepIn X.K (.ref f)=true)(n:Binds X.K fd ps ds)(u:Vals xr ds)(v:Passes CX X E)
  (w:PA X (e::es) t)(b:(x==("__debug__":Str))=false:=by decide)(y:starEach (e::es) X.env=(false,eval e X.env)::starEach es X.env:=by rfl)(c:(backTo pos (starEach es X.env)).any (·.1)=false:=by rfl):
  PE X (.Call (.Name x p) (e::es) [] pos) (vR sp xr E t):=by
 intro pins s z H Q I h;refine afn (Aa I g j ?_ b);refine agh (h₀:=X.base) I.ok.mod.WX l (cV (w pos pins s z H _ I h) λus A ⟨vs,B,a,r,q⟩=>⟨a.Dh,?_⟩) y c;exact Ag F d n u v a r q
def jr{pl:Sem Bool}(w:PE X o ta)(c:Cls X.K C)(b:Meth X.K C m f)(F:i_ X.prog X.w X.K X.mg X.base CX k f fd ps sp)(y:bI k X.A)(z:Binds X.K fd ps ds)(A:Vals xr ds)(B:Passes CX X E)(D:PA X (e::es) t)
  (n:starEach (e::es) X.env=(false,eval e X.env)::starEach es X.env:=by rfl)(v:(backTo pos (starEach es X.env)).any (·.1)=false:=by rfl)
  (J:eval (.Call (.Attribute o m apos) (e::es) [] pos) X.env=(do
   let ov<-eval o X.env
   standAt apos.atName
   let(f,first)<-holding [ov] (getMethod ov m pl)
   callWith pos f first (backTo pos (starEach (e::es) X.env)) (backToKw pos (keywordEach [] X.env))):=by rfl):
  PE X (.Call (.Attribute o m apos) (e::es) [] pos) (Dk C m sp xr E ta t):=by
 intro pins s d H Q I h;refine ahl (pl:=pl) (cV (w pins s d H _ I h) λu L ⟨x,M,g,N,a,U,Y,ex,O,l,q⟩=>?_) J;subst ex;obtain rfl:u=Value.ref a:=N;refine vQ g O c b l ?_;refine agh (first:=[.ref a]) (h₀:=X.base) I.ok.mod.WX b.kp (cV (D pos pins L d M _ g q) λus s2 ⟨vs,H2,j,r,T⟩=>⟨j.Dh,?_⟩) n v;exact Ag (us:=.ref a::us) (vs:=.ref a::vs) F y z A B j (.cons rfl r) T
def dW{pl:Sem Bool}(g:PE X o ta)(c:Cls X.K C)(d:Meth X.K C m f)(F:i_ X.prog X.w X.K X.mg X.base CX k f fd ps sp)(j:bI k X.A)(n:Binds X.K fd ps ds)(r:Vals xr ds)(v:Passes CX X E)
  (w:eval (.Call (.Attribute o m apos) [] [] pos) X.env=(do
   let ov<-eval o X.env
   standAt apos.atName
   let(f,first)<-holding [ov] (getMethod ov m pl)
   callWith pos f first (backTo pos (starEach [] X.env)) (backToKw pos (keywordEach [] X.env))):=by rfl):
  PE X (.Call (.Attribute o m apos) [] [] pos) (Dk C m sp xr E ta iB):=by
 intro pins s y H Q I h;refine ahl (pl:=pl) (cV (g pins s y H _ I h) λu B ⟨x,D,b,z,a,J,L,ex,A,l,q⟩=>?_) w;subst ex;obtain rfl:u=Value.ref a:=z;refine vQ b A c d l ?_;exact ahK (first:=[.ref a]) b.Dh d.kp (Ag (us:=[.ref a]) (vs:=[.ref a]) F j n r v b (.cons rfl .nil) q)
structure Mk(K:Frag)(C f:Addr):Prop where
 makes:makesIn K C=true
 init:findIn K (.ref C) "__init__"=some (some (.ref f))
 fn:isFn K (.ref f)=true
 kp:keepIn K (.ref C)=true
def Qa{pins:List (Addr×Obj)}{d:St}{H:Hp}{s:Shared}{Q:VK}{us:List Value}{vs:List V}(M:Mk X.K C f)(F:i_ X.prog X.w X.K X.mg X.base CX k f fd ps sp)(l:bI (k+1) X.A)(n:Binds X.K fd ps ds)(q:Vals xr ds)
  (w:Passes CX X E)(I:Inv X pins d H s)(r:Vals vs us)
  (h:∀x b,H x=none->H b=none->b≠x->sp (.ref x::(vs++xr)) (upd (upd H b (.own x)) x (.ins C b [])) (λv y=>v=.non/\Q (.ref x) y) E):
  wpAny (model X.prog X.w) X.A (call (.ref C) us) (EP X pins d Q) X.xe s:=by
 have g:=h (s.heap.objs.size+1) s.heap.objs.size (I.hok.fresh (aic _)) (I.hok.fresh (aaS _)) (abt (adD _));have c:=Inv.made (C:=C) I;have j:Vals (V.ref (s.heap.objs.size+1)::(vs++xr)) (Value.ref (s.heap.objs.size+1)::(us++ds)):=.cons rfl (r.append q);have z:(Value.ref (s.heap.objs.size+1)::us++ds).length=ps.length:=by
  have e:=j.length;rw[F.len _ _ _ _ g]at e;exact e.symm
 refine wpAny_call (P0 (f:=f) I.Dh M.makes M.init (afk.mp M.fn) (aft (F.run _ X.stack _ _ ⟨Value.ref (s.heap.objs.size+1)::us,[]⟩ (Value.ref (s.heap.objs.size+1)::(us++ds)) _ _ E (l.make C us [])
  (c.env0.make C us []) (n _ (Value.ref (s.heap.objs.size+1)::us) c.Dh z) j g) λr A a=>?_))
 cases r with
 |error e=>exact w pins d _ _ e A c a
 |ok B=>
  cases B with
  |ret u=>
   obtain⟨v,D,J,L,ev,N⟩:=c.after a;subst ev;exact⟨L,⟨V.ref (s.heap.objs.size+1),D,J,rfl,N⟩⟩
  |next=>exact False.elim a
  |brk=>exact False.elim a
  |cont=>exact False.elim a
def Qc(M:Mk X.K C f)(F:i_ X.prog X.w X.K X.mg X.base CX k f fd ps sp)(b:bI (k+1) X.A)(c:Gl X x)(d:X.mg x=some (.ref C))(g:Binds X.K fd ps ds)(j:Vals xr ds)(l:Passes CX X E)
  (a:(x==("__debug__":Str))=false:=by decide):PE X (.Call (.Name x p) [] [] pos) (Zq C sp xr E iB):=by
 intro pins s n H Q I h;refine afn (Aa I c d ?_ a);exact ahK I.Dh M.kp (Qa (us:=[]) M F b g j l I .nil h)
end
structure aJ(N P:List Str)(sc:Scope):Prop where
 kind:sc.kind=.function
 co:sc.isCoroutine=false
 gen:sc.isGenerator=false
 nd:N.Nodup
 pre:N.take P.length=P
 par:∀x∈P,sc.names.lookup x=some .local\/sc.names.lookup x=some .cell
 W9:∀y∈sc.names,y.2≠.free
theorem yI{kindOf:Str->Option NameKind}{x:Str}:∀{a:List (Str×Value)}{m:Str->Option Value},(∀v,(x,v)∉a)->bindL kindOf a m x=m x
|[],_,_=>rfl
|(n,v)::r,m,h=>by
 unfold bindL;rw[yI λw hw=>h w (aaX _ hw)];split
 .have:x≠n:=by rintro rfl;exact h v aa0
  simp[this]
 .rfl
theorem yJ{kindOf:Str->Option NameKind}{x:Str}:∀{a:List (Str×Value)}{m:Str->Option Value},(∀v,(x,v)∉a)->bindC kindOf a m x=m x
|[],_,_=>rfl
|(n,v)::r,m,h=>by
 unfold bindC;rw[yJ λw hw=>h w (aaX _ hw)];split
 .rfl
 .have:x≠n:=by rintro rfl;exact h v aa0
  simp[this]
theorem yK{kindOf:Str->Option NameKind}{x:Str}{v:Value}:∀{P:List Str}{vs:List Value}{i:Nat}{m:Str->Option Value},P.Nodup->P[i]?=some x->vs[i]?=some v->kindOf x=some .local->
  bindL kindOf (P.zip vs) m x=some v
|[],_,_,_,_,h,_,_=>by simp at h
|_::_,[],_,_,_,_,h,_=>by simp at h
|p::P,w::vs,0,m,c,a,b,d=>by
 simp at a b;subst a;subst b;show bindL kindOf ((p,w)::P.zip vs) m p=_;unfold bindL;rw[yI λv e=>(adC.mp c).1 (aha e).1,aaU d];simp
|p::P,w::vs,i+1,m,c,a,b,d=>by
 show bindL kindOf ((p,w)::P.zip vs) m x=_;unfold bindL;exact yK (i:=i) (adC.mp c).2 (by simpa using a) (by simpa using b) d
theorem yL{kindOf:Str->Option NameKind}{x:Str}{v:Value}:∀{P:List Str}{vs:List Value}{i:Nat}{m:Str->Option Value},P.Nodup->P[i]?=some x->vs[i]?=some v->kindOf x≠some .local->
  bindC kindOf (P.zip vs) m x=some v
|[],_,_,_,_,h,_,_=>by simp at h
|_::_,[],_,_,_,_,h,_=>by simp at h
|p::P,w::vs,0,m,c,a,b,d=>by
 simp at a b;subst a;subst b;show bindC kindOf ((p,w)::P.zip vs) m p=_;unfold bindC;rw[yJ λv e=>(adC.mp c).1 (aha e).1,aaz d];simp
|p::P,w::vs,i+1,m,c,a,b,d=>by
 show bindC kindOf ((p,w)::P.zip vs) m x=_;unfold bindC;exact yL (i:=i) (adC.mp c).2 (by simpa using a) (by simpa using b) d
def start(N:List Str)(vs:List V):St:=vs.map some++List.replicate (N.length - vs.length) none
def Hl(CX:P_)(P:Program)(w:World)(K:Frag)(mg:Str->Option Value)(base:Heap)(N:List Str)(b:Str)(a:Scope)(f:Addr)(c:Value)(A:Around)(outer:List Env)(s:Shared)(H:Hp)(E:XK):Cx where
 prog:=P
 w:=w
 K:=K
 mg:=mg
 base:=base
 A:=A.deeper (envOfC b a s.heap.objs.size f c)
 N:=N
 s_0:=s
 Y9:=H
 env:=envOfC b a s.heap.objs.size f c
 outer:=outer
 stack:=envOfC b a s.heap.objs.size f c::outer
 ex:=[]
 calm:=true
 fn:=λ_=>true
 pn:=[]
 xe:=λe g=>wpAny (model P w) (A.deeper (envOfC b a s.heap.objs.size f c)) (leaving (envOfC b a s.heap.objs.size f c) e) (λ_ d=>CX outer H s E e d) (λj d=>CX outer H s E j d) g
def Dl{sc:Scope}{n:Nat}{x:Str}(h:sc.names.lookup x=some .cell):∃c,(cellsFrom n sc.names []).lookup x=some c:=by
 have q:=agX sc.names n [] (.inl h);exact agy.mp q
def Mu{CX:P_}{P:Program}{w:World}{K:Frag}{mg:Str->Option Value}{base:Heap}{N ps:List Str}{o:Str}{j:Scope}{f:Addr}{t:Value}{A:Around}{outer:List Env}{s I:Shared}{H:Hp}{E:XK}{us:List Value}{vs:List V}
  (S:aJ N ps j)(L:A.handled=none)(g:Hj P w K mg base A outer s H)(T:vs.length=ps.length)(r:Vals vs us)
  (x:InCallC s s.heap.objs.size (bindL (envOfC o j s.heap.objs.size f t).kindOf (ps.zip us) λ_=>none) (cellsFrom (s.heap.objs.size+1) j.names []) (bindC (envOfC o j s.heap.objs.size f t).kindOf (ps.zip us) λ_=>none) I):
  Inv (Hl CX P w K mg base N o j f t A outer s H E) [] (start N vs) H I:=by
 have Q:ps.length<=N.length:=by have:=congrArg List.length S.pre;rw[abg]at this;grind
 obtain⟨B,tk,rfl,J⟩:=x.done;have D:∀b:Addr,b∉(Hl CX P w K mg base N o j f t A outer s H E).ex:=λb z=>absurd (show b∈([]:List Addr)from z) (by simp);refine⟨⟨g.mod,S.kind,rfl,rfl,aaS _,λy z c B d=>?_,λy l=>?_,λy c _ h=>?_,λ_=>L,Around.frames_deeper g.frames,.inr ⟨rfl,rfl⟩,λb z=>absurd z (D b),g.bs,g.TY,λb _ _=>D b,λb z=>absurd z (D b),g.ud,g.WY⟩,
  rfl,g.bare,Un.kept J,⟨_,x.toInCall.ns,λi y v B d U=>?_⟩,λy c h=>⟨_,x.cell y c h⟩,g.hok.fresh (aaS _),λy c h=>?_,λp m=>absurd (show p∈([]:List (Addr×Obj))from m) (by simp),g.hok.kept J,?_⟩
 .exact name_of_addr x.apart (ab9 B) (ab9 d)
 .have l:j.names.lookup y=some .cell\/j.names.lookup y=some .free:=l
  rcases l with l|l
  .exact Dl l
  .exact absurd rfl (S.W9 _ (ab9 l))
 .exact ad8 (x.above y c (ab9 h))
 .have C:i<vs.length:=by
   unfold start at d;by_cases C:i<vs.length
   .exact C
   .rw[abA (by simpa using C)]at d
    rw[List.getElem?_replicate]at d;split at d<;>cases d
  have M:vs[i]?=some v:=by
   unfold start at d;rw[acR (by simpa using C),abV]at d;cases e:vs[i]? with
   |none=>rw[e]at d;cases d
   |some a=>rw[e]at d;cases d;rfl
  obtain⟨u,hu,O⟩:=r.get M;have m:ps[i]?=some y:=by
   rw[<-S.pre,ad7 (by grind)];exact B
  have Gy:ps.Nodup:=by rw[<-S.pre];exact S.nd.sublist (ahU _ _)
  refine⟨u,O,?_⟩;rcases S.par y (aa6 m)with k|k
  .exact .inl ⟨k,yK Gy m hu k⟩
  .obtain⟨c,e⟩:=Dl (n:=s.heap.objs.size+1) k
   refine .inr ⟨.inl k,c,e,?_⟩;have q:=x.cell y c e;rw[yL Gy m hu (by show j.names.lookup y≠_;rw[k];decide)]at q;exact q
 .exact g.hok.fresh (ad8 (x.above y c (ab9 h)))
 .unfold start
  show _=N.length;rw[aad,aac,ahm];grind
def Zr{CX:P_}{P:Program}{w:World}{K:Frag}{mg:Str->Option Value}{base:Heap}{k:Nat}{f:Addr}{name d:Str}{C:Arguments}{m:List Stmt}{a:Scope}{O kV D T g ct oc:Value}{U od:Option Addr}
  {osl:Array (Option Value)}{N ps:List Str}{sp:Sp}(lk:K.lookup f=some ⟨oc,od,.func (fnOf name d C m a O kV D T U g ct),osl⟩)(hcd:codeIn K g d=true)(S:aJ N ps a)
  (L:∀vs H Q E,sp vs H Q E->vs.length=ps.length)
  (hbody:∀(A:Around)(outer:List Env)(s:Shared)(H:Hp)(vs:List V)(Q:VK)(E:XK),bI k (A.deeper (envOfC d a s.heap.objs.size f g))->sp vs H Q E->
   ∃t,Fw (Hl CX P w K mg base N d a f g A outer s H E) m t/\t {nx:=λ_ c=>Q .non c,rt:=Q} (start N vs) H):
  i_ P w K mg base CX (k+1) f (fnOf name d C m a O kV D T U g ct) ps sp:=by
 refine⟨L,λA outer s H args us vs Q E p j hb r M=>?_⟩;have hl:=L _ _ _ _ M;have Y:K.In s.heap:=j.mod.WX.keeps λb o e=>(j.bs b o e).1;have lim:s.heap.NoLimit:=j.mod.nolimit.keeps λb o e=>(j.bs b o e).1;have hkind:∀y∈ps.zip us,a.names.lookup y.1=some .local\/(a.names.lookup y.1=some .cell/\((cellsFrom (s.heap.objs.size+1) a.names []).lookup y.1).isSome=true):=λ⟨n,v⟩ hy=>by
  rcases S.par n (aha hy).1 with q|q
  .exact .inl q
  .exact .inr ⟨q,agX _ _ _ (.inl q)⟩
 refine codeAny_call_function p.depth (Y _ _ lk) rfl S.co S.gen rfl (PySem.W.codeRec_of Y hcd) (hb _ _ _ _ ?_);refine wpAny_newFunctionEnv_cells S.kind hkind λenv he s1 x=>?_;subst he;refine⟨lim.keeps x.toInCall.keep,codeAny_func ?_⟩;obtain⟨t,ht,hq⟩:=hbody A outer s H vs Q E (p.deeper _) M;have I:Inv (Hl CX P w K mg base N d a f g A outer s H E) [] (start N vs) H s1:=Mu S p.hd j hl r x;refine adM (ht [] s1 (start N vs) H _ I hq) (λfl z hs=>?_) λe z hs=>hs;have fin:∀{l:St}{c:Hp}{v:V}{u:Value},Inv (Hl CX P w K mg base N d a f g A outer s H E) [] l c z->RelV v u->Q v c->CE outer P w H s Q u z:=
  λ{l c v u} J B q=>⟨v,c,J.os,J.bare,J.base,J.hok,B,q⟩
 cases fl with
 |ret u=>
  obtain⟨v,l,c,J,B,q⟩:=hs;exact fin J B q
 |next=>
  obtain⟨l,c,J,q⟩:=hs;exact fin (v:=V.non) (u:=Value.none) J rfl q
 |brk=>
  obtain⟨_,_,_,q⟩:=hs;exact False.elim q
 |cont=>
  obtain⟨_,_,_,q⟩:=hs;exact False.elim q
section
variable{X:Cx}{x:Str}{p pos:Pos}{e:Expr}{es:List Expr}{t:TA}{id T:String}{r:List V->Hp->VK->Prop}
def JQ(r:List V->Hp->VK->Prop)(t:TA):TE:=λa H Q=>t a H λvs b=>r vs b Q
def aY(hc:iW X (.builtin id) r)(d:Gl X x)(f:X.mg x=none)(g:bootBuiltins x=some (.builtin id))(j:PA X (e::es) t)(k:x≠"__name__":=by decide)(b:(x==("__debug__":Str))=false:=by decide)
  (l:starEach (e::es) X.env=(false,eval e X.env)::starEach es X.env:=by rfl)(c:(backTo pos (starEach es X.env)).any (·.1)=false:=by rfl):PE X (.Call (.Name x p) (e::es) [] pos) (JQ r t):=by
 intro pins s a H Q I h;refine afn (lX I d f g ?_ k b);exact PyProof.Rows.callWith_builtin1 (cV (j pos pins s a H _ I h) λus m ⟨vs,n,o,q,u⟩=>hc pins m a n vs us Q o q u) l c
def fJ(hc:iW X (.type T) r)(d:Gl X x)(f:X.mg x=none)(g:bootBuiltins x=some (.type T))(j:PA X (e::es) t)(k:x≠"__name__":=by decide)(b:(x==("__debug__":Str))=false:=by decide)
  (l:starEach (e::es) X.env=(false,eval e X.env)::starEach es X.env:=by rfl)(c:(backTo pos (starEach es X.env)).any (·.1)=false:=by rfl):PE X (.Call (.Name x p) (e::es) [] pos) (JQ r t):=by
 intro pins s a H Q I h;refine afn (lX I d f g ?_ k b);exact adt (cV (j pos pins s a H _ I h) λus m ⟨vs,n,o,q,u⟩=>hc pins m a n vs us Q o q u) l c
end
end L2
namespace HT
open PySem PyProof.Rows
section
variable{prog:Program}{w:World}{A:Around}{E:Value->Shared->Prop}{s:Shared}
def xT(n d:Nat):Option Int->Nat
|none=>d
|some v=>if v<0 then(v+(n:Int)).toNat else min v.toNat n
def vU(n d:Nat):xT n d none=d:=rfl
def qD(n d k:Nat):xT n d (some (k:Int))=min k n:=by
 show(if(k:Int)<0 then((k:Int)+(n:Int)).toNat else min (k:Int).toNat n)=min k n;rw[aaz (by grind),adP]
end
end HT
variable{P:PySem.Program}{w:PySem.World}{K:Frag}{mg:PySem.Str->Option PySem.Value}{base:PySem.Heap}
namespace L2
open PySem PySem.Spec PyProof.Rows
abbrev TO:=St->Hp->(Option Int->Hp->Prop)->Prop
def PO(X:Cx)(e:Option Expr)(t:TO):Prop:=∀(pins:List (Addr×Obj))(s:Shared)(a:St)(H:Hp)(Q:Option Int->Hp->Prop),Inv X pins a H s->t a H Q->
  wpAny (model X.prog X.w) X.A (evalPart e X.env) (λu c=>Ex2 λo b=>dF (Inv X pins a b c) (IsPart u o) (Q o b)) X.xe s
def T7:TO:=λ_ H Q=>Q none H
def Qd(t:TE):TO:=λa H Q=>t a H λx b=>∃i,x=.int i/\Q (some i) b
section
variable{X:Cx}{e:Expr}{te:TE}{lo hi:Option Expr}{tl th:TO}{pos p2:Pos}
def uz:PO X none T7:=by
 intro pins s a H Q I h;rw[evalPart_none];exact aaR ⟨none,H,I,.none,h⟩
def cT(h:PE X e te):PO X (some e) (Qd te):=by
 intro pins s a H Q I hw;rw[evalPart_some];refine cV (h pins s a H _ I hw) λu g ⟨x,b,c,d,f⟩=>?_;obtain⟨i,rfl,q⟩:=f;obtain⟨t,rfl⟩:=d;exact⟨some i,b,c,.int i t,q⟩
def SlR(X:Cx)(r:V->Option Int->Option Int->Hp->VK->Prop):Prop:=∀(pins:List (Addr×Obj))(s:Shared)(a:St)(H:Hp)(x:V)(v b c:Value)(lo hi:Option Int)(d:Addr)(Q:VK),Inv X pins a H s->RelV x v->s.heap.IsSliceOf d b c .none->IsPart b lo->IsPart c hi->r x lo hi H Q->
  Ex2 λT id=>dF (typeLookup (.type T) "__getitem__"=pure (some (.builtin id))) (s.TypeIs v T) (wpAny (model X.prog X.w) X.A (getItem v (.ref d)) (EP X pins a Q) X.xe s)
def tSl(r:V->Option Int->Option Int->Hp->VK->Prop)(te:TE)(tl th:TO):TE:=λa H Q=>te a H λx b=>tl a b λl c=>th a c λu d=>r x l u d Q
def eU{r:V->Option Int->Option Int->Hp->VK->Prop}(j:SlR X r)(k:PE X e te)(m:PO X lo tl)(hu:PO X hi th):PE X (.Subscript e (.Slice lo hi none p2) pos) (tSl r te tl th):=by
 intro pins s c H Q I h;refine Subscript_ (cV (k pins s c H _ I h) λv n ⟨x,o,p,t,w⟩=>?_);refine wpAny_Slice (cV (m pins n c o _ p w) λd y ⟨l,z,A,pl,B⟩=>cV (hu pins y c z _ A B) λf a ⟨u,g,C,D,E⟩=>?_);rw[evalPart_none];refine aaR ?_;have J:Inv X pins c g {a with heap:=a.heap.push {cls:=.type "slice",data:=.fields #[d,f,.none]}}:=C.kept (t':=a.toks) λb O q=>aaQ _ q;obtain⟨T,id,L,M,N⟩:=j pins {a with heap:=a.heap.push {cls:=.type "slice",data:=.fields #[d,f,.none]}} c g x v d f l u a.heap.objs.size Q J t (Heap.IsSliceOf.new ..) pl D E;show wpAny (model X.prog X.w) X.A (subscriptTail e (.Slice lo hi none p2) v (.ref a.heap.objs.size)) (EP X pins c Q) X.xe {a with heap:=a.heap.push {cls:=.type "slice",data:=.fields #[d,f,.none]}};exact tail_any (ops:=[.ref a.heap.objs.size,v]) M L N (by with_unfolding_all rfl)
def jD(xs:List V)(lo hi:Option Int):List V:=(xs.drop (HT.xT xs.length 0 lo)).take (HT.xT xs.length xs.length hi - HT.xT xs.length 0 lo)
def Dm(xs:List V)(lo hi:Option Int):(jD xs lo hi).length<=xs.length:=by
 unfold jD;rw[abg,ace];grind
end
def Oe(n:Nat)(i:Int):Option Nat:=if 0<=i then(if i<n then some i.toNat else none)else if -(n:Int)<=i then some (i+n).toNat else none
def Fx{a:Type}(xs:List a)(i:Int):Option a:=(Oe xs.length i).bind λj=>xs[j]?
def JR{n:Nat}{i:Int}{j:Nat}(h:Oe n i=some j):seqIndex? i n=some j/\j<n/\ -(n:Int)<=i/\i<n:=by
 unfold Oe at h;by_cases b:0<=i
 .rw[aaU b]at h
  by_cases a:i<n
  .rw[aaU a]at h
   have e:i.toNat=j:=abk h;exact⟨by rw[seqIndex_of b a,e],by grind,by grind,a⟩
  .rw[aaz a]at h;cases h
 .rw[aaz b]at h
  by_cases a: -(n:Int)<=i
  .rw[aaU a]at h
   have e:(i+n).toNat=j:=abk h;exact⟨by rw[seqIndex_neg (by grind) a,e],by grind,a,by grind⟩
  .rw[aaz a]at h;cases h
def Ah{a:Type}{xs:List a}{i:Int}{v:a}(h:Fx xs i=some v):∃j,xZ (seqIndex? i xs.length=some j) (xs[j]?=some v) (j<xs.length) (-(xs.length:Int)<=i) (i<xs.length):=by
 unfold Fx at h;cases e:Oe xs.length i with
 |none=>rw[e]at h;cases h
 |some j=>
  rw[e]at h;obtain⟨b,c,d,f⟩:=JR e;exact⟨j,b,h,c,d,f⟩
def aL{a:Type}{xs:List a}{j:Nat}{v:a}(h:xs[j]?=some v):Fx xs (j:Int)=some v:=by
 have b:j<xs.length:=(aaV.mp h).1;have e:Oe xs.length (j:Int)=some j:=by
  unfold Oe;rw[aaU (by grind),aaU (by grind)];simp
 unfold Fx;rw[e];exact h
def Qe{a:Type}(xs:List a)(v:a):Fx (xs++[v]) (-1)=some v:=by
 have b:(xs++[v]).length=xs.length+1:=by simp
 have e:Oe (xs++[v]).length (-1)=some xs.length:=by
  unfold Oe;rw[b,aaz (by decide),aaU (by grind)]
  congr 1
  grind
 unfold Fx;rw[e];show(xs++[v])[xs.length]?=some v;simp
def T8(b:Expr):Prop:=∀o i,subscripted b false o i=operate [o,i] (getItem o i)
def S9(X:Cx)(r:R2):Prop:=∀(c a:Expr)(pins:List (Addr×Obj))(s:Shared)(b:St)(H:Hp)(x y:V)(v u:Value)(Q:VK),Inv X pins b H s->RelV x v->RelV y u->r x y H Q->
  subscripted a false v u=operate [v,u] (getItem v u)->wpAny (model X.prog X.w) X.A (subscriptTail c a v u) (EP X pins b Q) X.xe s
def Zt(X:Cx)(id:String)(r:V->List V->Hp->VK->Prop):Prop:=∀(pins:List (Addr×Obj))(s:Shared)(a:St)(H:Hp)(x:V)(xs:List V)(v:Value)(us:List Value)(Q:VK),Inv X pins a H s->RelV x v->Vals xs us->r x xs H Q->
  wpAny (model X.prog X.w) X.A (call (.builtin id) (v::us)) (EP X pins a Q) X.xe s
section
variable{X:Cx}{a b:Expr}{ta tb:TE}{pos:Pos}
def S9.or{r r':R2}(h:S9 X r)(h':S9 X r'):S9 X (λx y H Q=>r x y H Q\/r' x y H Q):=by
 intro c d pins s e H x y v u Q I f g q hs;rcases q with q|q
 .exact h c d pins s e H x y v u Q I f g q hs
 .exact h' c d pins s e H x y v u Q I f g q hs
def aP{r:R2}(c:S9 X r)(d:PE X a ta)(e:PE X b tb)(hs:T8 b):PE X (.Subscript a b pos) (YB r ta tb):=by
 intro pins s f H Q I h;exact Subscript_ (W5 d e I h λv u g x y j k l m q=>c a b pins g f j x y v u Q k l m q (hs _ _))
inductive W_(K:Frag)(x:V)(y:V)(H:Hp)(Q:VK):Prop
|mk p xs i v (_:x=.ref p) (_:y=.int i) (_:aV K H p xs) (_:Fx xs i=some v) (_:Q v H)
inductive T9(K:Frag)(x:V)(y:V)(H:Hp)(Q:VK):Prop
|mk p xs i v (_:x=.ref p) (_:y=.int i) (_:dG K H p xs) (_:Fx xs i=some v) (_:Q v H)
inductive Xa(x:V)(y:V)(H:Hp)(Q:VK):Prop
|mk z i c (_:x=.str z) (_:y=.int i) (_:z.length<=sizeLine) (_:Fx z.cps.toList i=some c) (_:Q (.str ⟨#[c]⟩) H)
def aN:S9 X (W_ X.K):=by
 intro L M pins s e H x y v u Q I m n h hs;obtain⟨p,xs,i,z,rfl,rfl,o,A,q⟩:=h;cases m;obtain⟨t,rfl⟩:=n;obtain⟨k,r,pl,hz⟩:=I.list o;obtain⟨j,c,B,N,C,D⟩:=Ah A;obtain⟨w,f,l⟩:=r.get B;have E:=r.length;have O:=vP;have fin:EP X pins e Q w s:=⟨z,H,I,l,q⟩;by_cases g:0<=i
 .have d:i.toNat=j:=by
   rw[seqIndex_of g D]at c;exact abk c
  exact item_listR pl.isList g (by grind) (by rw[d];simpa using f) fin hs
 .have d:(i+(k.toArray.size:Int)).toNat=j:=by
   rw[seqIndex_neg (by grind) C]at c;rw[abd,<-E];exact abk c
  exact subscriptTail_builtinR (x:=w) pl.isList.typeIs slot_list_getitem.lookup
   (wpAny_getItem_list_neg (Q:=λr J=>r=w/\EP X pins e Q r J) pl.isList (by grind) (by rw[abd]<;>grind) (by grind) (by rw[d];simpa using f) ⟨rfl,fin⟩) hs
def bN:S9 X (T9 X.K):=by
 intro B C pins s c H x y v u Q I e f h hs;obtain⟨p,xs,i,z,rfl,rfl,g,k,q⟩:=h;cases e;obtain⟨t,rfl⟩:=f;obtain⟨D,r,pl,hz⟩:=I.tuple g;obtain⟨j,l,m,E,J,L⟩:=Ah k;obtain⟨w,n,d⟩:=r.get m;have o:=r.length;have M:=vP;have fin:EP X pins c Q w s:=⟨z,H,I,d,q⟩;exact subscriptTail_builtinR (x:=w) pl.typeIs slot_tuple_getitem.lookup
  (getItem_tuple (j:=j) (Q:=λr A=>r=w/\EP X pins c Q r A) pl (by grind) (by grind) (by rw[abd,<-o];exact l) (by simpa using n) ⟨rfl,fin⟩) hs
def Xb:S9 X Xa:=by
 intro r w pins s A H x y v u Q I e f h hs;obtain⟨z,i,c,rfl,rfl,hz,g,q⟩:=h;obtain⟨t,rfl⟩:=e;obtain⟨t',rfl⟩:=f;obtain⟨j,d,k,B,l,m⟩:=Ah g;have n:z.cps.toList.length=z.length:=by simp[Str.length]
 rw[n]at d l m;have C:=vP;exact tail_any (typeIs_str s z t) slot_str_getitem.lookup (getItem_str (c:=c) (by
  have o:decide (i< -(2^63:Int))=false:=aat (by grind);have p:decide (i>=2^63)=false:=aat (by grind);rw[o,p,afb]) (by rw[d];simpa using k) ⟨.str ⟨#[c]⟩,H,I.tok _,⟨_,rfl⟩,q⟩) hs
def rIx(K:Frag):R2:=λx y H Q=>W_ K x y H Q\/T9 K x y H Q\/Xa x y H Q
def Xc:S9 X (rIx X.K):=aN.or (bN.or Xb)
def Ho(c:List Value)(n j:Nat)(u:Value):Obj.mapSeq (·.setIfInBounds j u) {cls:=.type "list",data:=.seq c.toArray n}={cls:=.type "list",data:=.seq (c.set j u).toArray n}:=by
 simp[Obj.mapSeq]
theorem Inv.lst{pins:List (Addr×Obj)}{d:St}{H:Hp}{s:Shared}{p:Addr}{xs:List V}(I:Inv X pins d H s)(h:H p=some (.lst xs)):
  Ex2 λ(c:List Value)(n:Nat)=>dF (Vals xs c) (s.heap.get? p=some {cls:=.type "list",data:=.seq c.toArray n}) (xs.length<=sizeLine):=by
 obtain⟨z,c,n,r,e⟩:=I.hok p _ h;exact⟨c,n,r,e,z⟩
def Inv.Xd{pins:List (Addr×Obj)}{g:St}{H:Hp}{s:Shared}{p:Addr}{xs ys:List V}{d its':List Value}{n c:Nat}{f:Obj->Obj}(I:Inv X pins g H s)(h:H p=some (.lst xs))
  (k:s.heap.get? p=some {cls:=.type "list",data:=.seq d.toArray n})(j:f {cls:=.type "list",data:=.seq d.toArray n}={cls:=.type "list",data:=.seq its'.toArray c})(r:Vals ys its')(hz:ys.length<=sizeLine)(t:Nat):
  Inv X pins g (upd H p (.lst ys)) {s with heap:=s.heap.update p f,toks:=t}:=by
 have e:(s.heap.update p f).get? p=some {cls:=.type "list",data:=.seq its'.toArray c}:=by
  rw[abN f k (by rw[j]<;>rfl),j]
 refine I.write (x:=p) (e:=p) (by rw[h];trivial) (.inl rfl) (λb u l q=>(ac5 _ _ (ac6 l)).trans q) ⟨_,e⟩ ?_
 exact⟨hz,its',c,r,e⟩
inductive Vx(o:V)(i:V)(v:V)(H:Hp)(Q:(Hp->Prop)):Prop
|mk p xs k j (_:o=.ref p) (_:i=.int k) (_:H p=some (.lst xs)) (_:Oe xs.length k=some j) (_:Q (upd H p (.lst (xs.set j v))))
def set_list:Zd X Vx:=by
 intro pins s z H o i v E J u Q I A B C h;obtain⟨p,xs,k,j,rfl,rfl,l,D,q⟩:=h;cases A;obtain⟨t,rfl⟩:=B;obtain⟨g,n,r,d,hz⟩:=I.lst l;obtain⟨c,L,m,w⟩:=JR D;have e:=r.length;have M:=vP;have x:Inv X pins z (upd H p (.lst (xs.set j v))) {s with heap:=s.heap.update p (Obj.mapSeq (·.setIfInBounds j u))}:=
  I.Xd l d (Ho g n j u) (r.set C j) (by rw[ahb];exact hz) s.toks
 by_cases y:0<=k
 .have f:k.toNat=j:=by
   rw[seqIndex_of y w]at c;exact abk c
  exact PySem.W.ki_setAt d y (by grind) (by rw[abd,<-e];exact w) (by rw[f];exact⟨_,x,q⟩)
 .have f:(k+(g.toArray.size:Int)).toNat=j:=by
   rw[seqIndex_neg (by grind) m]at c;rw[abd,<-e];exact abk c
  exact PySem.W.ki_setBack d (by grind) (by rw[abd,<-e];exact m) (by grind) (by rw[f];exact⟨_,x,q⟩)
def Ai(lo c:Option Int)(n:Nat):(sliceBounds lo c none n).1=((HT.xT n 0 lo:Nat):Int)/\(sliceBounds lo c none n).2.1=((HT.xT n n c:Nat):Int)/\(sliceBounds lo c none n).2.2=1:=by
 refine⟨?_,?_,rfl⟩
 .cases lo with
  |none=>simp[sliceBounds,HT.xT]
  |some i=>
   simp only[sliceBounds,HT.xT,Option.getD_none,show(1:Int)>0 by decide,adX];by_cases h:i<0
   .simp only[h,adX]<;>grind
   .simp only[h,acd]<;>grind
 .cases c with
  |none=>simp[sliceBounds,HT.xT]
  |some i=>
   simp only[sliceBounds,HT.xT,Option.getD_none,show(1:Int)>0 by decide,adX];by_cases h:i<0
   .simp only[h,adX]<;>grind
   .simp only[h,acd]<;>grind
def xU(c:List Value)(lo d:Option Int):slicePick c.toArray lo d none=((c.drop (HT.xT c.length 0 lo)).take (HT.xT c.length c.length d - HT.xT c.length 0 lo)).toArray:=by
 obtain⟨e,f,g⟩:=Ai lo d c.toArray.size;unfold slicePick;rw[e,f,g];simp only[sliceRange_one,pick_run,abd]<;>rfl
inductive Xe(K:Frag)(x:V)(lo:Option Int)(hi:Option Int)(H:Hp)(Q:VK):Prop
|mk a xs (_:x=.ref a) (_:aV K H a xs) (_:∀p,H p=none->Q (.ref p) (upd H p (.lst (jD xs lo hi))))
def gK:SlR X (Xe X.K):=by
 intro pins s l H x v m n lo c p Q I f hs pl g h;obtain⟨a,xs,rfl,j,q⟩:=h;cases f;obtain⟨k,r,d,hz⟩:=I.list j;have e:=r.length;refine⟨"list",_,slot_list_getitem.lookup,d.isList.typeIs,?_⟩;refine wpAny_getItem_list_slice d.isList hs pl g .none (by simp) ?_ (by rw[abd]<;>grind)
 rw[xU,<-e];refine⟨.ref s.heap.objs.size,_,I.laid (t':=s.toks) (o:=.lst (jD xs lo c)) (λb t q=>aaQ _ q) (aaS _) ?_,rfl,q _ (I.hok.fresh (aaS _))⟩;exact⟨abJ (Dm xs lo c) hz,_,0,(r.drop (HT.xT xs.length 0 lo)).take (HT.xT xs.length xs.length c - HT.xT xs.length 0 lo),abb _ rfl⟩
def tL:V->Bool
|.non=>true
|.bl _=>true
|.int _=>true
|.str _=>true
|_=>false
def Vy:V->V->Bool
|.non,.non=>true
|.bl a,.bl b=>a==b
|.bl a,.int b=>(if a then 1 else 0)==b
|.int a,.bl b=>a==(if b then 1 else 0)
|.int a,.int b=>a==b
|.str a,.str b=>a==b
|_,_=>false
def Xf{A:Around}{s:Shared}{y x:V}{u v:Value}(d:RelV y u)(c:RelV x v)(f:tL y=true)(e:tL x=true):SeqAt.EqAt A s u v (Vy y x):=by
 cases y with
 |non=>
  cases d;cases x with
  |non=>cases c;exact SeqAt.EqAt.same _
  |bl b=>cases c;exact SeqAt.EqAt.none_bool b
  |int b=>obtain⟨t,rfl⟩:=c;exact SeqAt.EqAt.none_int b t
  |str b=>obtain⟨t,rfl⟩:=c;exact SeqAt.EqAt.none_str b t
  |_=>exact absurd (show false=true from e) aaT
 |bl a=>
  cases d;cases x with
  |non=>cases c;exact SeqAt.EqAt.bool_none a
  |bl b=>cases c;exact SeqAt.EqAt.bool_bool a b
  |int b=>obtain⟨t,rfl⟩:=c;exact SeqAt.EqAt.bool_int a b t
  |str b=>obtain⟨t,rfl⟩:=c;exact SeqAt.EqAt.bool_str a b t
  |_=>exact absurd (show false=true from e) aaT
 |int a=>
  obtain⟨t',rfl⟩:=d;cases x with
  |non=>cases c;exact SeqAt.EqAt.int_none a t'
  |bl b=>cases c;exact SeqAt.EqAt.int_bool a t' b
  |int b=>obtain⟨t,rfl⟩:=c;exact SeqAt.EqAt.int_int a t' b t
  |str b=>obtain⟨t,rfl⟩:=c;exact SeqAt.EqAt.int_str a t' b t
  |_=>exact absurd (show false=true from e) aaT
 |str a=>
  obtain⟨t',rfl⟩:=d;cases x with
  |non=>cases c;exact SeqAt.EqAt.str_none a t'
  |bl b=>cases c;exact SeqAt.EqAt.str_bool a t' b
  |int b=>obtain⟨t,rfl⟩:=c;exact SeqAt.EqAt.str_int a t' b t
  |str b=>obtain⟨t,rfl⟩:=c;exact SeqAt.EqAt.str_str a t' b t
  |_=>exact absurd (show false=true from e) aaT
 |_=>exact absurd (show false=true from f) aaT
def T_(x:V)(u:Value):Bool:=match u with
|.none=>Vy .non x
|.bool b=>Vy (.bl b) x
|.int i _=>Vy (.int i) x
|.str z _=>Vy (.str z) x
|_=>false
def Qg{x y:V}{u:Value}(r:RelV y u)(f:tL y=true):T_ x u=Vy y x:=by
 cases y with
 |non=>cases r;rfl
 |bl b=>cases r;rfl
 |int i=>obtain⟨t,rfl⟩:=r;rfl
 |str z=>obtain⟨t,rfl⟩:=r;rfl
 |_=>exact absurd (show false=true from f) aaT
theorem Aj{x:V}:∀{xs:List V}{us:List Value},Vals xs us->xs.all tL=true->us.any (T_ x)=xs.any λy=>Vy y x
|_,_,.nil,_=>rfl
|y::xs,u::us,.cons r t,f=>by
 rw[ado,aa8]at f;rw[aeN,aeN,Qg r f.1,Aj t f.2]
theorem vV{A:Around}{s:Shared}{x:V}{v:Value}(c:RelV x v)(d:tL x=true):∀{xs:List V}{us:List Value},Vals xs us->xs.all tL=true->∀u∈us,SeqAt.EqAt A s u v (T_ x u)
|_,_,.nil,_=>λu hu=>by cases hu
|y::xs,u::us,.cons r t,f=>λe hu=>by
 rw[ado,aa8]at f;rcases aa2.mp hu with rfl|hu
 .rw[Qg r f.1];exact Xf r c f.1 d
 .exact vV c d t f.2 e hu
def inV(x:V)(xs:List V):Bool:=xs.any λy=>Vy y x
inductive rIn(K:Frag)(neg:Bool)(x:V)(y:V)(H:Hp)(Q:VK):Prop
|mk p xs (_:y=.ref p) (_:aV K H p xs\/dG K H p xs) (_:tL x=true) (_:xs.all tL=true) (_:Q (.bl (if neg then !inV x xs else inV x xs)) H)
def nJ:o_ X (compareOp .In) (rIn X.K false):=by
 intro pins s k H x y v u Q I f j h;obtain⟨p,xs,rfl,d,g,e,q⟩:=h;cases j;rcases d with d|d
 .obtain⟨c,r,pl,hz⟩:=I.list d
  refine SeqAt.in_listAt (T_ x) pl.isList (λw hw=>vV f g r e w (by simpa using hw)) ⟨.bl _,H,I,rfl,?_⟩;rw[show c.toArray.any (T_ x)=c.any (T_ x)by simp,Aj r e];exact q
 .obtain⟨c,r,pl,hz⟩:=I.tuple d
  refine SeqAt.in_tupleAt (T_ x) pl (λw hw=>vV f g r e w (by simpa using hw)) ⟨.bl _,H,I,rfl,?_⟩;rw[show c.toArray.any (T_ x)=c.any (T_ x)by simp,Aj r e];exact q
def aX:iW X (.builtin "len") (λxs H Q=>Ex2 λp ys=>dF (xs=[.ref p]) (aV X.K H p ys\/dG X.K H p ys) (Q (.int ys.length) H)):=by
 intro pins s g H xs us Q I r h;obtain⟨p,ys,rfl,c,q⟩:=h;obtain⟨u,rfl,f⟩:=vals1 r;cases f;have j:=vP;rcases c with c|c
 .obtain⟨e,r',pl,hz⟩:=I.list c
  have d:=r'.length;exact Calls.call_len_list pl.isList (by simp only[abd]<;>grind) ⟨.int ys.length,H,I.tok _,⟨s.toks+1,by rw[abd,d]⟩,q⟩
 .obtain⟨e,r',pl,hz⟩:=I.tuple c
  have d:=r'.length;exact len_tuple pl (by simp only[abd]<;>grind) ⟨.int ys.length,H,I.tok _,⟨s.toks+1,by rw[abd,d]⟩,q⟩
def kY:iW X (.type "list") (λxs H Q=>Ex2 λp ys=>dF (xs=[.ref p]) (aV X.K H p ys\/dG X.K H p ys) (∀l,H l=none->Q (.ref l) (upd H l (.lst ys)))):=by
 intro pins s v H xs us Q I r h;obtain⟨p,ys,rfl,f,q⟩:=h;obtain⟨u,rfl,w⟩:=vals1 r;cases w;have fin:∀(c:List Value),Vals ys c->ys.length<=sizeLine->∀(h':Heap)(d:Nat),(∀b m,s.heap.get? b=some m->h'.get? b=some m)->
   h'.get? s.heap.objs.size=some {cls:=.type "list",dict:=none,data:=.seq c.toArray d,slots:=#[]}->EP X pins v Q (.ref s.heap.objs.size) {s with heap:=h'}:=λc r' hz h' d g e=>
  ⟨.ref s.heap.objs.size,_,I.laid (t':=s.toks) g (aaS _) (show fQ X.prog X.w _ h' _ (.lst ys)from⟨hz,c,d,r',e⟩),rfl,q _ (I.hok.fresh (aaS _))⟩
 rcases f with f|f
 .obtain⟨c,r',pl,hz⟩:=I.list f
  have t:=r'.length;obtain⟨o,j,hc,n,k⟩:=pl.isList;exact call_list_seq p (.inl rfl) j hc k (λh' d g e=>fin c r' hz h' d g e) (by simp only[abd]<;>omega)
 .obtain⟨c,r',pl,hz⟩:=I.tuple f
  have t:=r'.length;obtain⟨o,j,hc,n,k⟩:=pl;exact call_list_seq p (.inr rfl) j hc k (λh' d g e=>fin c r' hz h' d g e) (by simp only[abd]<;>omega)
def fU:iW X (.type "tuple") (λxs H Q=>Ex2 λp ys=>xs=[.ref p]/\((aV X.K H p ys/\∀l,H l=none->Q (.ref l) (upd H l (.tup ys)))\/(dG X.K H p ys/\Q (.ref p) H))):=by
 intro pins s f H xs us Q I r h;obtain⟨p,ys,rfl,h⟩:=h;obtain⟨u,rfl,j⟩:=vals1 r;cases j;rcases h with⟨d,q⟩|⟨d,q⟩
 .obtain⟨c,r',pl,hz⟩:=I.list d
  have n:=r'.length;refine call_tuple_list pl.isList (λh' k=>?_) (by simp only[abd]<;>omega)
  have g:Inv X pins f H {s with heap:=h'}:=I.kept (t':=s.toks) k;have m:Inv X pins f (upd H h'.objs.size (.tup ys)) {s with heap:=h'.push {cls:=.type "tuple",data:=.seq c.toArray}}:=
   g.laid (t':=s.toks) (λb o e=>aaQ _ e) (aaS _) (show fQ X.prog X.w _ _ _ (.tup ys)from⟨hz,c,r',IsTup.new _ _⟩)
  exact⟨.ref h'.objs.size,_,m,rfl,q _ (g.hok.fresh (aaS _))⟩
 .obtain⟨c,r',pl,hz⟩:=I.tuple d
  exact call_tuple_same pl ⟨.ref p,H,I,rfl,q⟩
def tyV(K:Frag)(T:String)(x:V)(H:Hp):Prop:=match x with
|.str _=>T="str"
|.int _=>T="int"
|.ref p=>(T="list"/\∃xs,aV K H p xs)\/(T="tuple"/\∃o,dF (K.lookup p=some o) (o.cls=.type "tuple") (o.dict=none))\/
  (T="dict"/\((∃c,H p=some (.dK c))\/∃c,H p=some (.dT c)))\/(T="set"/\Ex2 λS n=>H p=some (.set S n))
|_=>False
def Qh{pins:List (Addr×Obj)}{m:St}{H:Hp}{s:Shared}{T:String}{x:V}{v:Value}(I:Inv X pins m H s)(r:RelV x v)(f:tyV X.K T x H):
  s.TypeIs v T/\∀a,v=.ref a->∃k,s.heap.get? a=some k/\k.dict=none:=by
 cases x with
 |str z=>
  obtain⟨t,rfl⟩:=r;cases(show T="str" from f);exact⟨typeIs_str s z t,λ_ e=>nomatch e⟩
 |int i=>
  obtain⟨t,rfl⟩:=r;cases(show T="int" from f);exact⟨typeIs_int s i t,λ_ e=>nomatch e⟩
 |ref p=>
  cases r;rcases f with⟨rfl,xs,q⟩|⟨rfl,o,d,hc,g⟩|⟨rfl,d⟩|⟨rfl,S,n,d⟩
  .obtain⟨u,_,pl,_⟩:=I.list q
   refine⟨pl.isList.typeIs,λa e=>?_⟩;cases e;obtain⟨o,n,e,c,g,_⟩:=pl;exact⟨o,e,g⟩
  .refine⟨⟨o,I.Dh p o d,hc⟩,λa e=>?_⟩
   cases e;exact⟨o,I.Dh _ o d,g⟩
  .have z:∃o,s.heap.get? p=some o/\o.ExactDict:=by
    rcases d with⟨l,d⟩|⟨l,d⟩
    .obtain⟨_,_,_,_,o,_,_,e,ex,_⟩:=I.hok p _ d
     exact⟨o,e,ex⟩
    .obtain⟨_,_,_,_,o,_,_,e,ex,_⟩:=I.hok p _ d
     exact⟨o,e,ex⟩
   obtain⟨o,e,ex⟩:=z;refine⟨⟨o,e,ex.1⟩,λa j=>?_⟩;cases j;exact⟨o,e,ex.2.1⟩
  .obtain⟨o,_,_,_,e,ex,_⟩:=I.hok p _ d
   refine⟨⟨o,e,ex.1⟩,λa j=>?_⟩;cases j;exact⟨o,e,ex.2.1⟩
 |_=>exact False.elim f
def Xg(K:Frag)(T:String)(r:V->List V->Hp->VK->Prop)(d:TE):TE:=λe H Q=>d e H λx c=>tyV K T x c/\r x [] c Q
def tBM(K:Frag)(T:String)(r:V->List V->Hp->VK->Prop)(e:TE)(t:TA):TE:=λc H Q=>e c H λx d=>tyV K T x d/\t c d λxs f=>r x xs f Q
variable{o e:Expr}{es:List Expr}{to:TE}{t:TA}{name:Str}{apos cpos:Pos}{T id:String}{r:V->List V->Hp->VK->Prop}
def fO(l:PlainAttrs T)(slot:Slot T name id)(k:typeOf (.builtin id)=pure (.type "method_descriptor"))(m:Zt X id r)(n:PE X o to)
  (g:attributeBase o name X.env (eval o X.env)=eval o X.env:=by rfl)(j:(apos.endLine==cpos.line)=true:=by rfl):PE X (.Call (.Attribute o name apos) [] [] cpos) (Xg X.K T r to):=by
 intro pins s c H Q I h;refine wpAny_Call_method0_late g j (cV (n pins s c H _ I h) λv p ⟨x,q,d,f,u,w⟩=>?_);obtain⟨y,z⟩:=Qh d f u;exact⟨T,id,l,slot,k,y,z,afz rfl (PySem.evalArgs_none (m pins p c q x [] v [] Q d f .nil w))⟩
def dD(p:PlainAttrs T)(slot:Slot T name id)(n:typeOf (.builtin id)=pure (.type "method_descriptor"))(q:Zt X id r)(u:PE X o to)(w:PA X (e::es) t)
  (k:attributeBase o name X.env (eval o X.env)=eval o X.env:=by rfl)
  (m:((backTo cpos (starEach (e::es) X.env)).all (λx=> !x.1)&&(backToKw cpos (keywordEach [] X.env)).all (λx=>x.1.isSome)
   &&decide ((e::es).length+([]:List Keyword).length+(if([]:List Keyword).isEmpty then 0 else 1)<30))=true:=by rfl)
  (l:(apos.endLine==cpos.line)=true:=by rfl)(hs:starEach (e::es) X.env=(false,eval e X.env)::starEach es X.env:=by rfl)(j:(backTo cpos (starEach es X.env)).any (·.1)=false:=by rfl):
  PE X (.Call (.Attribute o name apos) (e::es) [] cpos) (tBM X.K T r to t):=by
 intro pins s c H Q I h;refine wpAny_Call_method_late k m l rfl (cV (u pins s c H _ I h) λv y ⟨x,z,d,f,A,B⟩=>?_);obtain⟨C,D⟩:=Qh d f A;refine⟨T,id,p,slot,n,C,D,?_⟩;have g:=w cpos pins y c z _ d B;rw[hs]at g⊢;refine afz (by show(false||(backTo cpos (starEach es X.env)).any (·.1))=false;rw[j]<;>rfl) (Calls.evalArgs_plain ?_)
 exact cV g λus E ⟨vs,J,L,M,N⟩=>q pins E c J x vs v us Q L f M N
end
def Zu(X:Cx)(id:String)(r:V->List V->Hp->VK->Prop):Prop:=∀(pins:List (Addr×Obj))(s:Shared)(a:St)(H:Hp)(x:V)(xs:List V)(v:Value)(us:List Value)(Q:VK),Inv X pins a H s->RelV x v->Vals xs us->r x xs H Q->
  wpAny (model X.prog X.w) X.A (call (.builtin id) (v::us)) (EP X pins a Q) X.xe s
def Vals.one:∀{x:V}{us:List Value},Vals [x] us->∃u,us=[u]/\RelV x u
|_,_,.cons r .nil=>⟨_,rfl,r⟩
def Vals.zero:∀{us:List Value},Vals [] us->us=[]
|_,.nil=>rfl
theorem Vals.dropLast{xs:List V}{us:List Value}(h:Vals xs us):Vals xs.dropLast us.dropLast:=by
 induction h with
 |nil=>exact .nil
 |cons r t a=>
  cases t with
  |nil=>exact .nil
  |cons q t'=>exact .cons r a
def Hq{c:Type}(l:List c):l.eraseIdx (l.length - 1)=l.dropLast:=by
 induction l with
 |nil=>rfl
 |cons a r d=>
  cases r with
  |nil=>rfl
  |cons b r=>
   have e:(a::b::r).length - 1=((b::r).length - 1)+1:=by
    have f:(a::b::r).length=r.length+2:=rfl;have g:(b::r).length=r.length+1:=rfl;grind
   rw[e,List.eraseIdx_cons_succ,d]
   all_goals rfl
section
variable{X:Cx}{pins:List (Addr×Obj)}{σ:St}{H:Hp}{s:Shared}{l b:Addr}{xs ys zs:List V}
def Inv.Ua{a its':List Value}{n:Nat}{f:Array Value->Array Value}{t':Nat}(I:Inv X pins σ H s)(c:H l=some (.lst xs))
  (e:s.heap.get? l=some {cls:=.type "list",data:=.seq a.toArray n})(d:f a.toArray=its'.toArray)(g:Vals ys its')(hz:ys.length<=sizeLine):
  Inv X pins σ (upd H l (.lst ys)) {s with heap:=s.heap.update l (Obj.mapSeq f),toks:=t'}:=by
 have q:=PySem.IsL.update e f;rw[d]at q;refine I.write (x:=l) (e:=l) (by rw[c];exact trivial) (.inl rfl) (λk u j hu=>(ac5 s.heap (Obj.mapSeq f) (ac6 j)).trans hu) ⟨_,q⟩ ?_;exact⟨hz,its',_,g,q⟩
def Inv.abQ{a:List Value}{t':Nat}(I:Inv X pins σ H s)(c:Vals ys a)(hz:ys.length<=sizeLine):
  Inv X pins σ (upd H s.heap.objs.size (.lst ys)) {s with heap:=s.heap.push {cls:=.type "list",data:=.seq a.toArray},toks:=t'}:=I.laid (λ_ _ q=>aaQ _ q) (aaS _) ⟨hz,a,0,c,abb _ rfl⟩
theorem Inv.fresh(I:Inv X pins σ H s):H s.heap.objs.size=none:=I.hok.fresh (aaS _)
def Inv.Dq(I:Inv X pins σ H s)(c:H l=some (.lst xs)):xs.length<=sizeLine/\Ex2 λ(a:List Value)(n:Nat)=>dF (Vals xs a) (xs.length=a.length) (s.heap.get? l=some {cls:=.type "list",data:=.seq a.toArray n}):=by
 obtain⟨z,a,n,r,e⟩:=I.hok l _ c;exact⟨z,a,n,r,r.length,e⟩
def Dr{n:Nat}(h:n<=sizeLine):Builtin.List.listTooLong n=false:=by
 unfold Builtin.List.listTooLong;exact aat (by grind)
end
section
variable{X:Cx}
inductive Ak(x:V)(vs:List V)(H:Hp)(Q:VK):Prop
|mk l xs y (_:x=.ref l) (_:vs=[y]) (_:H l=some (.lst xs)) (_:xs.length<sizeLine) (_:Q .non (upd H l (.lst (xs++[y]))))
def bY:Zu X "list.append" Ak:=by
 intro pins s g H x vs v us Q I c d h;obtain⟨l,xs,y,rfl,rfl,b,hz,q⟩:=h;cases c;obtain⟨u,rfl,f⟩:=d.one;obtain⟨z,a,n,r,j,e⟩:=I.Dq b;refine afJ F.slot_list_append ⟨_,e,rfl⟩ F.entry_list_append (F.args_list_append_2 _ _) (PySem.list_append l a.toArray n u (by rw[abd];grind)) ⟨e,?_⟩;refine⟨.non,_,I.Ua (its':=a++[u]) b e (by simp) (r.append (.cons f .nil)) ?_,rfl,q⟩;rw[aad,abj];grind
inductive JT(x:V)(vs:List V)(H:Hp)(Q:VK):Prop
|mk l b xs zs (_:x=.ref l) (_:vs=[.ref b]) (_:H l=some (.lst xs)) (_:H b=some (.lst zs)) (_:xs.length+zs.length<=sizeLine) (_:Q .non (upd H l (.lst (xs++zs))))
def gW:Zu X "list.extend" JT:=by
 intro pins s y H x vs v us Q I g j h;obtain⟨l,b,xs,zs,rfl,rfl,d,k,hz,q⟩:=h;cases g;obtain⟨u,rfl,m⟩:=j.one;cases m;obtain⟨z,a,n,r,A,e⟩:=I.Dq d;obtain⟨B,c,o,p,w,t⟩:=I.Dq k;have hsz:a.toArray.size+c.toArray.size<=sizeLine:=by rw[abd,abd];grind
 have f:¬(!a.toArray.isEmpty&&Builtin.List.listTooLong (a.toArray.size+c.toArray.size))=true:=by
  rw[Dr hsz,afr];exact aaT
 refine afJ F.slot_list_extend ⟨_,e,rfl⟩ F.entry_list_extend (F.args_list_extend_2 _ _)
  (AutoSeq1.list_extend_list_list_0 l a.toArray n b c.toArray o f (by rw[abd];grind) (by grind)) ⟨e,t,?_⟩
 refine⟨.non,_,I.Ua (its':=a++c) d e (by simp) (r.append p) ?_,rfl,q⟩;rw[aad];grind
inductive Ub(x:V)(vs:List V)(H:Hp)(Q:VK):Prop
|mk l xs y (_:x=.ref l) (_:vs=[]) (_:H l=some (.lst xs)) (_:xs[xs.length - 1]?=some y) (_:Q y (upd H l (.lst xs.dropLast)))
def fZ:Zu X "list.pop" Ub:=by
 intro pins s o H x vs v us Q I f g h;obtain⟨l,xs,y,rfl,rfl,b,j,q⟩:=h;cases f;have c:=g.zero;subst c;obtain⟨z,a,n,r,k,e⟩:=I.Dq b;obtain⟨u,hu,m⟩:=r.get j;have d:a.toArray[a.toArray.size - 1]?=some u:=by
  show a.toArray[a.length - 1]?=some u;rw[<-abf,<-k];exact hu
 refine afJ F.slot_list_pop ⟨_,e,rfl⟩ F.entry_list_pop (F.args_list_pop_1 _) (MeetsSeq.list_pop_last l a.toArray n u d (by rw[abd];grind)) ⟨e,?_⟩;refine⟨y,_,I.Ua (its':=a.dropLast) b e ?_ r.dropLast ?_,m,q⟩
 .show a.toArray.eraseIdxIfInBounds (a.toArray.size - 1)=a.dropLast.toArray
  rw[abd,List.eraseIdxIfInBounds_toArray,Hq]
 .rw[List.length_dropLast]
  grind
inductive Xh(x:V)(y:V)(H:Hp)(Q:VK):Prop
|mk l b xs zs (_:x=.ref l) (_:y=.ref b) (_:H l=some (.lst xs)) (_:H b=some (.lst zs)) (_:xs.length+zs.length<=sizeLine) (_:∀p,H p=none->Q (.ref p) (upd H p (.lst (xs++zs))))
def f9:o_ X (binaryOp .Add) Xh:=by
 intro pins s t H x y v u Q I d f h;obtain⟨l,b,xs,zs,rfl,rfl,g,j,hz,q⟩:=h;cases d;cases f;obtain⟨z,c,n,r,w,e⟩:=I.Dq g;obtain⟨A,a,B,k,p,m⟩:=I.Dq j;refine PySem.P.add_list e m ?_ (by rw[abd,abd];omega);have o:c.toArray++a.toArray=(c++a).toArray:=by simp
 rw[o];exact⟨.ref _,_,I.abQ (t':=s.toks) (r.append k) (by rw[aad];omega),rfl,q _ I.fresh⟩
end
theorem Vals.ints:∀{a:List Int}{us:List Value},Vals (a.map V.int) us->IntsAre us a
|[],us,h=>by
 rw[ah3]at h;cases h;exact IntsAre.nil
|n::a,us,h=>by
 rw[aaZ]at h;cases h with
 |cons r t=>
  obtain⟨k,rfl⟩:=r;exact IntsAre.cons n k (Vals.ints t)
theorem Vals.bls:∀{a:List Bool}{us:List Value},Vals (a.map V.bl) us->us=a.map Value.bool
|[],us,h=>by
 rw[ah3]at h;cases h;rfl
|b::a,us,h=>by
 rw[aaZ]at h;cases h with
 |cons r t=>
  cases r;rw[Vals.bls t,aaZ]
def Vals.Hr{a:Addr}{us:List Value}(r:Vals [V.ref a] us):us=[Value.ref a]:=by
 cases r with
 |cons r t=>
  cases t;cases r;rfl
section
variable{prog:Program}{w:World}{A:Around}{E:Value->Shared->Prop}{s:Shared}{l:Addr}{its:List Value}{ns:List Int}{Q:Value->Shared->Prop}
def Uc(f:A.handled=none)(a:s.heap.IsList l its.toArray)(c:IntsAre its ns)
  (h:∀h' tk t',(∀b o,s.heap.get? b=some o->h'.get? b=some o)->Q (.int ns.sum t') {s with heap:=h',toks:=tk}):wpAny (model prog w) A (call (.builtin "sum") [.ref l]) Q E s:=by
 obtain⟨xs,e⟩:=c.allInts.items;have d:numsOf (intItems xs).toList=ns:=by rw[<-e];exact c.numsOf
 rw[nums_intItems]at d;rw[e]at a;refine PySem.sum_intListG f a λh' tk t' g=>?_;have:=h h' tk t' g;rw[preSum_eq,ac3 (by simp),d];exact this
end
section
variable{X:Cx}
inductive Zv(K:Frag)(vs:List V)(H:Hp)(Q:VK):Prop
|mk (a:Addr) (ns:List Int) (_:vs=[V.ref a]) (_:aV K H a (ns.map V.int)) (_:Q (.int ns.sum) H)
def Qi(hc:X.calm=true):iW X (.builtin "sum") (Zv X.K):=by
 intro pins s f H vs us Q I r h;obtain⟨a,g,rfl,hs,q⟩:=h;obtain⟨e,b,c,_⟩:=I.list hs;rw[Vals.Hr r];exact Uc (I.ok.hd hc) c.isList b.ints λh' tk t' d=>⟨.int _,H,I.kept d,⟨_,rfl⟩,q⟩
end
def Qj{prog:Program}{w:World}{A:Around}{E:Value->Shared->Prop}{s:Shared}{l:Addr}{c:Array Value}{Q:Value->Shared->Prop}(b:s.heap.IsList l c)
  (h:∀a:Shared,a={s with heap:=s.heap.push {cls:=.type "list_iterator",data:=.fields #[.ref l,.int 0 0]}}->
   (a.heap.IsListIter s.heap.objs.size l 0/\a.heap.IsList l c)->l≠s.heap.objs.size->Q (.ref s.heap.objs.size) a):wpAny (model prog w) A (pyIter (.ref l)) Q E s:=by
 have d:l<s.heap.objs.size:=by obtain⟨_,e,_⟩:=b;exact aa_ e
 exact agn b (h _ rfl ⟨⟨_,abb _ rfl,rfl,rfl⟩,b.push _⟩ (abt d))
def Ds{prog:Program}{w:World}{A:Around}{a:List Bool}{c:List Value}(e:c=a.map Value.bool):
  TruthOf prog w A (λi v=>c.toArray[i]?=some v) (λi=>a.getD i false):=λi v s Q E g j=>by
 have d:c[i]?=some v:=by simpa using g
 rw[e,abV]at d;obtain⟨b,k,rfl⟩:=abP.mp d;have l:a.getD i false=b:=by rw[acj,k]<;>rfl
 have f:Q (a.getD i false) s:=j;rw[l]at f;exact adQ f
theorem all_range:∀a:List Bool,(List.range a.length).all (λi=>a.getD i false)=a.all id
|[]=>rfl
|b::a=>by
 rw[aae,List.range_succ_eq_map,ado,aeo,ado,<-all_range a]
 all_goals rfl
section
variable{X:Cx}
inductive Zw(K:Frag)(vs:List V)(H:Hp)(Q:VK):Prop
|mk (a:Addr) (bs:List Bool) (_:vs=[V.ref a]) (_:aV K H a (bs.map V.bl)) (_:Q (.bl (bs.all id)) H)
def pq(hc:X.calm=true):iW X (.builtin "all") (Zw X.K):=by
 intro pins s t H vs us Q I r h;obtain⟨a,u,rfl,hs,q⟩:=h;obtain⟨f,j,k,_⟩:=I.list hs;rw[Vals.Hr r];have d:=j.bls;refine call_all_walk (Qj k.isList λp l st g=>?_);subst l;refine⟨_,_,_,_,_,_,_,rfl,Walks.list (A:=X.A.in1) (I.ok.hd hc) _ a g f.toArray,st,Ds d,λh' tk m=>?_⟩;refine⟨.bl _,H,I.kept λb o e=>m b o (λc=>?_) (aaQ _ e),?_,q⟩
 .rcases aa2.mp c with n|c
  .exact absurd (n▸aa_ e) (adY _)
  .cases c
 .show Value.bool _=Value.bool _
  rw[<-all_range,d,abd,aac]
end
mutual
inductive Dp(K:Frag)(H:Hp):V->PyData->Prop
|non:Dp K H .non .none
|bl (b:Bool):Dp K H (.bl b) (.bool b)
|int (i:Int):Dp K H (.int i) (.int i)
|str (x:Str):Dp K H (.str x) (.str x)
|lst {a:Addr} {xs:List V} {ds:List PyData}:aV K H a xs->jc K H xs ds->Dp K H (.ref a) (.list ds)
|tup {a:Addr} {xs:List V} {ds:List PyData}:dG K H a xs->jc K H xs ds->Dp K H (.ref a) (.tuple ds)
inductive jc (K:Frag) (H:Hp):List V->List PyData->Prop
|nil:jc K H [] []
|cons {v:V} {vs:List V} {d:PyData} {ds:List PyData}:Dp K H v d->jc K H vs ds->jc K H (v::vs) (d::ds)
end
section
variable{X:Cx}{pins:List (Addr×Obj)}{σ:St}{H:Hp}{s:Shared}
mutual
theorem Dp.reads(I:Inv X pins σ H s):∀(d:PyData)(v:V)(u:Value),Dp X.K H v d->RelV v u->∃as,Reads s.heap u d as
|.none,_,_,h,r=>by
 cases h;cases r;exact⟨_,Reads.none⟩
|.bool b,_,_,h,r=>by
 cases h;cases r;exact⟨_,Reads.bool b⟩
|.int i,_,_,h,r=>by
 cases h;obtain⟨t,rfl⟩:=r;exact⟨_,Reads.int i t⟩
|.str x,_,_,h,r=>by
 cases h;obtain⟨t,rfl⟩:=r;exact⟨_,Reads.str x t⟩
|.list ds,_,_,h,r=>by
 cases h with
 |lst hs ha=>
  cases r;obtain⟨its,rv,⟨o,n,ho,hc,_,hd⟩,_⟩:=I.list hs;obtain⟨as,hr⟩:=Dp.readsAll I ds _ its ha rv;exact⟨_,Reads.list ho hc hd hr⟩
|.tuple ds,_,_,h,r=>by
 cases h with
 |tup hs ha=>
  cases r;obtain⟨its,rv,⟨o,ho,hc,n,hd⟩,_⟩:=I.tuple hs;obtain⟨as,hr⟩:=Dp.readsAll I ds _ its ha rv;exact⟨_,Reads.tuple ho hc hd hr⟩
|.dict _,_,_,h,_=>by cases h
theorem Dp.readsAll (I:Inv X pins σ H s):∀(ds:List PyData)(vs:List V)(us:List Value),jc X.K H vs ds->Vals vs us->∃as,ReadsAll s.heap us ds as
|[],_,_,h,r=>by
 cases h;cases r;exact⟨_,ReadsAll.nil⟩
|d::ds,_,_,h,r=>by
 cases h with
 |cons h1 h2=>
  cases r with
  |cons r1 r2=>
   obtain⟨as,q1⟩:=Dp.reads I d _ _ h1 r1;obtain⟨bs,q2⟩:=Dp.readsAll I ds _ _ h2 r2;exact⟨_,ReadsAll.cons q1 q2⟩
end
end
section
variable{X:Cx}
inductive Mv(K:Frag)(x:V)(y:V)(H:Hp)(Q:VK):Prop
|mk d e (_:Dp K H x d) (_:Dp K H y e) (_:SeqAt.shaped d=true) (_:SeqAt.shaped e=true) (_:Q (.bl (PyData.eqv d e)) H)
inductive Xi(K:Frag)(x:V)(y:V)(H:Hp)(Q:VK):Prop
|mk d e (_:Dp K H x d) (_:Dp K H y e) (_:SeqAt.shaped d=true) (_:SeqAt.shaped e=true) (_:Q (.bl (!PyData.eqv d e)) H)
def pA(hu:X.A.units+64<cLine):o_ X (compareOp .Eq) (Mv X.K):=by
 intro pins s m H x y v u Q I a b h;obtain⟨d,e,c,f,g,j,q⟩:=h;obtain⟨as,k⟩:=Dp.reads I d x v c a;obtain⟨n,l⟩:=Dp.reads I e y u f b;exact SeqAt.compareEq_shaped k l g j hu ⟨.bl _,H,I,rfl,q⟩
def Hs(hu:X.A.units+64<cLine):o_ X (compareOp .NotEq) (Xi X.K):=by
 intro pins s m H x y v u Q I a b h;obtain⟨d,e,c,f,g,j,q⟩:=h;obtain⟨as,k⟩:=Dp.reads I d x v c a;obtain⟨n,l⟩:=Dp.reads I e y u f b;exact SeqAt.compareNe_shaped k l g j hu ⟨.bl _,H,I,rfl,q⟩
end
abbrev Qk(h:Heap)(c:Addr)(v:Option Value):Prop:=h.IsCell c v
def abR(a sc:Scope):Scope:={a with names:=a.names.map λ(n,k)=>if(k==.free&&sc.kind==.function&&sc.names.lookup n==some .cell)then(n,.cell)else(n,k)}
def cB(cells:List (Str×Addr)):List (Str×NameKind)->List (Str×Addr)->List (Str×Addr)
|[],acc=>acc
|(n,k)::r,acc=>if k==.free then cB cells r ((n,(cells.lookup n).getD 0)::acc)else cB cells r acc
theorem qF(env:Env)(f:Str×NameKind->List (Str×Addr)->Sem (ForInStep (List (Str×Addr))))
  (d:∀n k c,f (n,k) c=if k==.free then(do let a<-cellOf env n;pure (.yield ((n,a)::c)))else pure (.yield c)):
  ∀(names:List (Str×NameKind))(acc:List (Str×Addr)),(∀y∈names,y.2=.free->∃c,env.cells.lookup y.1=some c)->forIn names acc f=pure (cB env.cells names acc)
|[],acc,_=>by rw[ae2];rfl
|(n,k)::r,acc,h=>by
 rw[afe,d];have g:=λacc=>qF env f d r acc λy j=>h y (aaX _ j);unfold cB;by_cases b:(k==NameKind.free)=true
 .rw[aaU b,aaU b]
  obtain⟨c,hc⟩:=h (n,k) aa0 (by simpa using b);have e:cellOf env n=pure c:=by unfold cellOf;rw[hc]
  rw[e];have l:(env.cells.lookup n).getD 0=c:=by rw[hc];rfl
  rw[l];exact g _
 .rw[aaz b,aaz b]
  exact g _
def Ht{a:Scope}{env:Env}(h:∀y∈a.names,y.2=.free->∃c,env.cells.lookup y.1=some c):closureFor a env=pure (cB env.cells a.names []):=by
 simp only[closureFor];rw[qF env _ (λn k c=>rfl) a.names [] h];rfl
theorem mem_lookup{a:Type}:∀{l:List (Str×a)}{n:Str}{c:a},(n,c)∈l->∃b,l.lookup n=some b
|(k,v)::r,n,c,h=>by
 rw[aeu];cases hb:n==k with
 |true=>exact⟨_,rfl⟩
 |false=>
  rcases aa2.mp h with e|h
  .cases e;simp at hb
  .exact mem_lookup h
theorem jt{cells:List (Str×Addr)}:∀{names:List (Str×NameKind)}{acc:List (Str×Addr)}{n:Str}{c:Addr},(n,c)∈cB cells names acc->(n,c)∈acc\/((n,.free)∈names/\c=(cells.lookup n).getD 0)
|[],_,_,_,h=>.inl h
|(m,k)::r,acc,n,c,h=>by
 unfold cB at h;split at h
 .rename_i a
  have a:k=.free:=by simpa using a
  rcases jt h with h|⟨b,d⟩
  .rcases aa2.mp h with e|h
   .cases e;exact .inr ⟨a▸aa0,rfl⟩
   .exact .inl h
  .exact .inr ⟨aaX _ b,d⟩
 .rcases jt h with h|⟨b,d⟩
  .exact .inl h
  .exact .inr ⟨aaX _ b,d⟩
theorem mD{cells:List (Str×Addr)}:∀{names:List (Str×NameKind)}{acc:List (Str×Addr)}{p:Str×Addr},p∈acc->p∈cB cells names acc
|[],_,_,h=>h
|(m,k)::r,acc,p,h=>by
 unfold cB;split
 .exact mD (aaX _ h)
 .exact mD h
theorem mG{cells:List (Str×Addr)}:∀{names:List (Str×NameKind)}{acc:List (Str×Addr)}{n:Str},(n,.free)∈names->(n,(cells.lookup n).getD 0)∈cB cells names acc
|(m,k)::r,acc,n,h=>by
 unfold cB;rcases aa2.mp h with e|h
 .cases e
  exact mD aa0
 .split
  .exact mG h
  .exact mG h
theorem jR:∀{names:List (Str×NameKind)}{h:Heap}{acc:List (Str×Addr)}{x:Str}{c:Addr},(x,c)∈cellsFrom h.objs.size names acc->
  (x,c)∈acc\/((x,.cell)∈names/\h.objs.size<=c/\Qk (pushCells h names) c none)
|[],_,_,_,_,h=>.inl h
|(n,k)::r,h,acc,x,c,a=>by
 unfold cellsFrom at a;unfold pushCells;split at a
 .rename_i b
  rw[aaU b];have b:k=.cell:=by simpa using b
  rw[<-ab6 h {cls:=.type "cell",data:=.cell none}]at a;rcases jR a with a|⟨f,d,g⟩
  .rcases aa2.mp a with e|a
   .cases e
    exact .inr ⟨b▸aa0,aaS _,_,afY r _ _ _ (abb _ rfl),rfl⟩
   .exact .inl a
  .rw[ab6]at d
   exact .inr ⟨aaX _ f,afA d,g⟩
 .rename_i b
  rw[aaz b];rcases jR a with a|⟨f,d,g⟩
  .exact .inl a
  .exact .inr ⟨aaX _ f,d,g⟩
theorem nM:∀{names:List (Str×NameKind)}{n:Nat}{acc:List (Str×Addr)}{p:Str×Addr},p∈acc->p∈cellsFrom n names acc
|[],_,_,_,h=>h
|(m,k)::r,n,acc,p,h=>by
 unfold cellsFrom;split
 .exact nM (aaX _ h)
 .exact nM h
theorem rH:∀{names:List (Str×NameKind)}{n:Nat}{acc:List (Str×Addr)}{x:Str},(x,.cell)∈names->∃c,(x,c)∈cellsFrom n names acc
|(m,k)::r,n,acc,x,h=>by
 unfold cellsFrom;rcases aa2.mp h with e|h
 .cases e
  exact⟨n,nM aa0⟩
 .split
  .exact rH h
  .exact rH h
theorem rJ:∀{names:List (Str×NameKind)}{h:Heap}{acc:List (Str×Addr)}{x y:Str}{c:Addr},(∀p∈acc,p.2<h.objs.size)->(∀x y c,(x,c)∈acc->(y,c)∈acc->x=y)->
  (x,c)∈cellsFrom h.objs.size names acc->(y,c)∈cellsFrom h.objs.size names acc->x=y
|[],_,_,_,_,_,_,g,f,d=>g _ _ _ f d
|(n,k)::r,h,acc,x,y,c,j,g,f,d=>by
 unfold cellsFrom at f d;split at f
 .rename_i l
  rw[aaU l]at d;rw[<-ab6 h {cls:=.type "cell",data:=.cell none}]at f d;refine rJ (h:=h.push _) (λp m=>?_) (λx y c a b=>?_) f d
  .rw[ab6]
   rcases aa2.mp m with rfl|m
   .exact adD _
   .exact aci (j p m)
  .rcases aa2.mp a with e|a<;>rcases aa2.mp b with o|b
   .cases e;cases o;rfl
   .cases e;exact absurd (j _ b) (adY _)
   .cases o;exact absurd (j _ a) (adY _)
   .exact g _ _ _ a b
 .rename_i l
  rw[aaz l]at d;exact rJ j g f d
def Dt{M:Model}{A:Around}{E:Value->Shared->Prop}{s:Shared}{a:Scope}{e:Addr}{b:List (Str×Addr)}{g:Str}{j:Option Addr}{code:Value}{f:Env}{d:Addr}{Q:Env->Shared->Prop}
  (h:Q (newEnv a s.heap.objs.size e (cellsFrom (s.heap.objs.size+1) a.names b) g j code (some f) d)
   {s with heap:=pushCells (s.heap.push {cls:=.type "dict",data:=.dict #[]}) a.names}):
  wpAny M A (newFunctionEnv a e b [] g j code (some f) d) Q E s:=by
 simp only[newFunctionEnv,Option.isSome_some,adX];refine pP (wpAny_alloc ?_);refine pP (wpAny_layCells _ (λn k c=>rfl) a.names b _ _ ?_);rw[show({s with heap:=s.heap.push {cls:=.type "dict",data:=.dict #[]}}:Shared).heap.objs.size=s.heap.objs.size+1 from ab6 ..];rw[ae2];exact pP (aaR (aaR h))
theorem mH{sc:Scope}:∀{names:List (Str×NameKind)}{x:Str}{k:NameKind},
  (names.map λ(n,k)=>if(k==NameKind.free&&sc.kind==.function&&sc.names.lookup n==some .cell)then(n,NameKind.cell)else(n,k)).lookup x=some k->
  ∃b,names.lookup x=some b/\(k=b\/(b=.free/\k=.cell))
|[],_,_,h=>by simp at h
|(n,a)::r,x,k,h=>by
 have c:=@mH sc r x k;have h':List.lookup x ((if(a==NameKind.free&&sc.kind==.function&&sc.names.lookup n==some .cell)=true then(n,NameKind.cell)else(n,a))::(r.map _))=some k:=h;cases hx:x==n with
 |true=>
  simp only[aeu,hx];by_cases hc:(a==NameKind.free&&sc.kind==.function&&sc.names.lookup n==some .cell)=true
  .rw[aaU hc]at h'
   simp only[aeu,hx]at h';cases h';simp only[aa8,afk]at hc;exact⟨a,rfl,.inr ⟨hc.1.1,rfl⟩⟩
  .rw[aaz hc]at h'
   simp only[aeu,hx]at h';cases h';exact⟨_,rfl,.inl rfl⟩
 |false=>
  simp only[aeu,hx];by_cases hc:(a==NameKind.free&&sc.kind==.function&&sc.names.lookup n==some .cell)=true
  .rw[aaU hc]at h'
   simp only[aeu,hx]at h';exact c h'
  .rw[aaz hc]at h'
   simp only[aeu,hx]at h';exact c h'
structure Du(N:List Str)(sc scope:Scope)(own:List (Str×Nat)):Prop where
 kind:scope.kind=.function
 uniq:∀y∈scope.names,scope.names.lookup y.1=some y.2
 ix:∀p∈own,N[p.2]?=some p.1
 free:∀y∈scope.names,y.2=.free->sc.names.lookup y.1=some .cell\/sc.names.lookup y.1=some .free
 own:∀y∈scope.names,y.2=.local\/y.2=.cell->y.1∈own.map (·.1)\/y.1∉N
def wipe(a:St):List Nat->St
|[]=>a
|v::vs=>(wipe a vs).set v none
theorem mJ(a:St):∀vs:List Nat,(wipe a vs).length=a.length
|[]=>rfl
|v::vs=>by unfold wipe;rw[ahb,mJ a vs]
theorem rK{a:St}{i:Nat}{x:V}:∀{vs:List Nat},(wipe a vs)[i]?=some (some x)->a[i]?=some (some x)/\i∉vs
|[],h=>⟨h,by simp⟩
|v::vs,h=>by
 unfold wipe at h;by_cases b:v=i
 .subst b
  by_cases c:v<(wipe a vs).length
  .rw[aen c]at h;cases h
  .rw[aeO (by simpa using c)]at h;cases h
 .rw[aed b]at h
  obtain⟨d,f⟩:=rK h;exact⟨d,by simp only[aa2,ahO];exact⟨λe=>b e.symm,f⟩⟩
abbrev Cx.blk(X:Cx)(s:Shared)(H:Hp)(a:Scope)(b:Env)(c:List Addr):Cx:={X with s_0:=s,Y9:=H,env:=b,outer:=X.stack,ex:=c,fn:=λx=>a.names.lookup x==some .cell,pn:=[],xe:=λ_ _=>False}
section
variable{X:Cx}{pins:List (Addr×Obj)}{σ:St}{H:Hp}{s:Shared}
def Dv{f:Scope}{own:List (Str×Nat)}{fp:List Addr}(I:Inv X pins σ H s)(ok:Du X.N X.env.scope f own)(hN:X.N.Nodup)(J:∀b∈fp,rE X pins H b/\b<s.heap.objs.size):
  Inv (X.blk s H f (compEnvC f (cellsFrom (s.heap.objs.size+1) f.names (cB X.env.cells f.names [])) s.heap.objs.size X.env) fp) [] (wipe σ (own.map (·.2))) H {s with heap:=pushCells (s.heap.push {cls:=.type "dict",data:=.dict #[]}) f.names}:=by
 have hfree:∀y∈f.names,y.2=.free->∃c,X.env.cells.lookup y.1=some c:=λy u e=>by
  rcases ok.free y u e with k|k
  .exact I.ok.has _ (.inl k)
  .exact I.ok.has _ (.inr k)
 generalize N:compEnvC f (cellsFrom (s.heap.objs.size+1) f.names (cB X.env.cells f.names [])) s.heap.objs.size X.env=d;have T:∀b o,s.heap.get? b=some o->(pushCells (s.heap.push {cls:=.type "dict",data:=.dict #[]}) f.names).get? b=some o:=λb o e=>afY _ _ _ _ (aaQ _ e);have U:d.locals=s.heap.objs.size:=by rw[<-N];rfl
 have D:d.cells=cellsFrom (s.heap.objs.size+1) f.names (cB X.env.cells f.names []):=by rw[<-N];rfl
 have hsc:d.scope=abR f X.env.scope:=by rw[<-N];rfl
 rw[<-ab6 s.heap {cls:=.type "dict",data:=.dict #[]}]at D;have O:∀{y c},(y,c)∈cB X.env.cells f.names []->X.env.cells.lookup y=some c/\c<s.heap.objs.size:=λ{y c} j=>by
  rcases jt j with j|⟨g,rfl⟩
  .cases j
  .obtain⟨c,hc⟩:=hfree _ g rfl
   rw[hc];obtain⟨w,z⟩:=I.cell _ _ hc;exact⟨rfl,z.lt⟩
 have mem:∀{y c},d.cells.lookup y=some c->(X.env.cells.lookup y=some c/\c<s.heap.objs.size)\/(s.heap.objs.size+1<=c/\Qk (pushCells (s.heap.push {cls:=.type "dict",data:=.dict #[]}) f.names) c none):=λ{y c} e=>by
  rw[D]at e;rcases jR (ab9 e)with j|⟨_,v,h3⟩
  .exact .inl (O j)
  .rw[ab6]at v;exact .inr ⟨v,h3⟩
 have look:∀{y},f.names.lookup y=some .free->∃c,d.cells.lookup y=some c/\X.env.cells.lookup y=some c:=λ{y} Y=>by
  have u:(y,NameKind.free)∈f.names:=ab9 Y;obtain⟨c',l⟩:=mem_lookup (nM (names:=f.names) (n:=(s.heap.push {cls:=.type "dict",data:=.dict #[]}).objs.size) (mG (cells:=X.env.cells) (acc:=[]) u));rw[<-D]at l;refine⟨c',l,?_⟩;rw[D]at l;rcases jR (ab9 l)with j|⟨g,_,_⟩
  .exact(O j).1
  .have:=ok.uniq _ g
   rw[Y]at this;cases this
 have okB:(X.blk s H f d fp).Ok:=by
  refine⟨I.ok.mod,by show d.scope.kind=_;rw[hsc];exact ok.kind,by show d.globals=_;rw[<-N];exact I.ok.glob,by show d.builtins=_;rw[<-N];exact I.ok.blt,by show s.heap.objs.size<=d.locals;rw[U];exact aaS _,
   λy z c x A=>?_,λy u=>?_,λy c z e=>?_,I.ok.hd,I.ok.frames,.inl rfl,λb B=>⟨?_,λy c e z=>?_⟩,I.bs,abJ I.ok.TY I.sz,λb o e B=>?_,λb B z=>?_,I.stack,I.Jy⟩
  .have x:d.cells.lookup y=some c:=x
   have A:d.cells.lookup z=some c:=A;rw[D]at x A;refine rJ (λp M=>?_) (λy z c a b=>I.ok.inj y z c (O a).1 (O b).1) (ab9 x) (ab9 A);rw[ab6];exact aci (O (y:=p.1) (c:=p.2) M).2
  .show∃c,d.cells.lookup y=some c
   have L:∀k,d.kindOf y=some k->(k=.cell\/k=.free)->∃c,d.cells.lookup y=some c:=λk E hk'=>by
    unfold Env.kindOf at E;rw[hsc]at E;obtain⟨C,e,r⟩:=mH E;have:C=.cell\/C=.free:=by
     rcases r with rfl|⟨rfl,_⟩
     .exact hk'
     .exact .inr rfl
    rcases this with rfl|rfl
    .obtain⟨c,j⟩:=rH (n:=(s.heap.push {cls:=.type "dict",data:=.dict #[]}).objs.size) (acc:=cB X.env.cells f.names []) (ab9 e)
     obtain⟨c',l⟩:=mem_lookup j;exact⟨c',by rw[D];exact l⟩
    .obtain⟨c,g,_⟩:=look e
     exact⟨c,g⟩
   rcases u with u|u
   .exact L _ u (.inl rfl)
   .exact L _ u (.inr rfl)
  .have z:(f.names.lookup y==some NameKind.cell)=true:=z
   have z:f.names.lookup y=some .cell:=by simpa using z
   have e:d.cells.lookup y=some c:=e;rw[D]at e;rcases jR (ab9 e)with j|⟨_,v,_⟩
   .rcases jt j with j|⟨g,_⟩
    .cases j
    .have q:=ok.uniq _ g
     rw[z]at q;cases q
   .rw[ab6]at v
    exact afA v
  .show b≠d.locals
   rw[U];exact abt (J b B).2
  .have e:d.cells.lookup y=some c:=e
   rcases mem e with⟨g,_⟩|⟨g,_⟩
   .exact(J b B).1.2.2.2.2.1 y c g z
   .have v:s.heap.objs.size+1<=b:=by rw[<-z];exact g
    exact absurd (abG (J b B).2 (afA v)) (adY _)
  .rcases(J b B).1.2.2.2.1 with z|z
   .exact I.ok.Pn b o e z
   .exact absurd (abG (aa_ e) (abJ I.ok.TY z)) (adY _)
  .rcases aa2.mp (I.GJ b z)with z|z
   .exact(J b B).1.2.1 z
   .exact(J b B).1.2.2.1 z
 refine⟨okB,rfl,I.bare,Un.kept T,⟨λ_=>none,?_,λi y av x A t=>?_⟩,λy c e=>?_,?_,λy c e=>?_,λp M=>?_,I.hok.kept T,by rw[mJ];exact I.len⟩
 .show Heap.Ns _ d.locals _
  rw[U];exact Heap.Ns.keeps (Heap.Ns.new ..) λb o e=>afY _ _ _ _ e
 .obtain⟨A,hne⟩:=rK A
  have Q:f.names.lookup y=some .free/\(d.kindOf y=some .cell\/d.kindOf y=some .free):=by
   have L:∀k,d.scope.names.lookup y=some k->k=.local\/k=.cell\/k=.free->f.names.lookup y=some .free/\(d.kindOf y=some .cell\/d.kindOf y=some .free):=λk E hk'=>by
    have hk0:=E;rw[hsc]at E;obtain⟨C,e,r⟩:=mH E;have no:¬(C=.local\/C=.cell):=λhh=>by
     rcases ok.own _ (ab9 e) hh with l|l
     .obtain⟨p,M,hpy⟩:=aa5.mp l
      have t:=ok.ix p M;have:p.1=y:=hpy;rw[this]at t;exact hne (aa5.mpr ⟨p,M,vI hN t x⟩)
     .exact l (aa6 x)
    rcases r with rfl|⟨rfl,rfl⟩
    .rcases hk' with rfl|rfl|rfl
     .exact absurd (.inl rfl) no
     .exact absurd (.inr rfl) no
     .exact⟨e,.inr hk0⟩
    .exact⟨e,.inl hk0⟩
   have t:Yy d.scope y:=t;rcases t with t|t|t
   .exact L _ t (.inl rfl)
   .exact L _ t (.inr (.inl rfl))
   .exact L _ t (.inr (.inr rfl))
  obtain⟨m,hn,Y⟩:=I.loc;have abS:Yy X.env.scope y:=(ok.free _ (ab9 Q.1) rfl).elim (λk=>.inr (.inl k)) (λk=>.inr (.inr k));obtain⟨w,r,q⟩:=Y i y av x A abS;refine⟨w,r,.inr ⟨Q.2,?_⟩⟩;obtain⟨c,g,v⟩:=look Q.1;rcases q with⟨k,_⟩|⟨_,c',l,z⟩
  .have k:X.env.scope.names.lookup y=some .local:=k
   rcases ok.free _ (ab9 Q.1) rfl with C|C<;>rw[show X.env.scope.names.lookup y=_ from C]at k<;>cases k
  .rw[v]at l;cases l
   exact⟨c,g,z.keeps T⟩
 .have e:d.cells.lookup y=some c:=e
  rcases mem e with⟨g,_⟩|⟨_,z⟩
  .obtain⟨w,z⟩:=I.cell y c g
   exact⟨w,z.keeps T⟩
  .exact⟨_,z⟩
 .show H d.locals=none
  rw[U];exact I.hok.fresh (aaS _)
 .have e:d.cells.lookup y=some c:=e
  rcases mem e with⟨g,_⟩|⟨g,_⟩
  .exact I.lW y c g
  .exact I.hok.fresh (afA g)
 .exact absurd (show p∈([]:List (Addr×Obj))++[]from M) (by simp)
def Xj{E:Value->Shared->Prop}{D:Addr}{xs:List V}{y:V}{v:Value}{Q:Value->Shared->Prop}(I:Inv X pins σ H s)(c:H D=some (.lst xs))(hz:xs.length<sizeLine)(r:RelV y v)
  (h:∀d,Inv X pins σ (upd H D (.lst (xs++[y]))) d->Q .none d):wpAny (model X.prog X.w) X.A (call (.builtin "list.append") [.ref D,v]) Q E s:=by
 obtain⟨l,g,n,f,e⟩:=I.hok D _ c;have m:=f.length;refine append_at (hsz:=by rw[abd];omega) e λh' j a=>?_;refine h {s with heap:=h'} (I.write (t':=s.toks) (by rw[c];trivial) (.inl rfl) (λb u k q=>(j.2 b k).trans q) ⟨_,a⟩ ⟨by rw[aad];exact hz,g++[v],n+1,f.append (.cons r .nil),?_⟩);rw[a];simp
def Zx(X:Cx)(a:List Expr)(t:TT):Prop:=∀(pins:List (Addr×Obj))(s:Shared)(σ:St)(H:Hp)(Q:Bool->Hp->Prop),Inv X pins σ H s->t σ H Q->
  wpAny (model X.prog X.w) X.A (forIn a true λc r=>if r=true then do let ok<-isTrue c X.env (eval c X.env);pure (ForInStep.yield ok)else pure (ForInStep.yield r)) (TP X pins σ Q) X.xe s
def abT:TT:=λ_ H Q=>Q true H
def dj:Zx X [] abT:=λ_ _ _ H _ I h=>wpAny_tests_nil ⟨H,I,h⟩
def uD{c:Expr}{t:TT}(h:PT X c t):Zx X [c] t:=λpins s σ H Q I hw=>wpAny_tests_one (h pins s σ H Q I hw)
end
def Mw{b:Type}{t:Sem b}{Q c:b->Shared->Prop}{M:Model}{A:Around}{E:Value->Shared->Prop}{s:Shared}(h:wpAny M A t Q (λ_ _=>False) s)(d:∀a s,Q a s->c a s):wpAny M A t c E s:=adM h d λ_ _ z=>False.elim z
def Al{prog:Program}{w:World}{A:Around}{R:Result->Shared->Prop}{s:Shared}{j b p:Expr}{k:List Expr}{l:Scope}{B:Pos}{d acc:Value}{env:Env}(I:Nat->Shared->Prop)
  (turn:∀n s,I n s->wpAny (model prog w) A (pyNext d) (λr f=>match r with
   |none=>R (.ok .next) f
   |some v=>wpAny (model prog w) A (letOwnedTupleGo b d v) (λ_ o=>wpAny (model prog w) A (assign b env v) (λ_ q=>
     wpAny (model prog w) A (forIn k true λc r=>if r=true then do let ok<-isTrue c env (eval c env);pure (ForInStep.yield ok)else pure (ForInStep.yield r)) (λok g=>
      if ok=true then wpAny (model prog w) A (eval j env) (λx t=>
       wpAny (model prog w) A (call (.builtin "list.append") [acc,x]) (λ_ u=>∃m,m<n/\I m u) (notedBy (model prog w) A env λe a=>R (.error e) a) t) (notedBy (model prog w) A env λe a=>R (.error e) a) g
      else∃m,m<n/\I m g) (notedBy (model prog w) A env λe a=>R (.error e) a) q) (notedBy (model prog w) A env λe a=>R (.error e) a) o) (notedBy (model prog w) A env λe a=>R (.error e) a) f) (notedBy (model prog w) A env λe a=>R (.error e) a) s)
  (n:Nat)(h:I n s):
  codeAny (model prog w) A (.compLoop (.ListComp j [⟨b,p,k,0⟩] l B) 0 d acc env) R s:=by
 refine codeAny_loop rfl I (λn s J=>?_) n h;show wpAny _ A ((compTurn (.ListComp j [⟨b,p,k,0⟩] l B) 0 d acc env).onRaise (λx=>do noteFrame x env;theTreesLotGoes x)) _ _ s
 refine wpAny_noted ?_;rw[compTurn_list];refine pP (ahM (pP (adM (turn n s J) (λr f y=>?_) λ_ _ h'=>h')));cases r with
 |none=>exact aaR y
 |some v=>
  refine pP (adM y (λ_ o C=>?_) λ_ _ h'=>h');refine pP (adM C (λ_ q D=>pP (adM D (λok g z=>?_) λ_ _ h'=>h')) λ_ _ h'=>h');cases ok with
  |false=>exact aaR ⟨rfl,z⟩
  |true=>
   exact pP (pP (adM z (λx t E=>pP (adM E (λ_ u H=>aaR (aaR ⟨rfl,H⟩)) λ_ _ h'=>h')) λ_ _ h'=>h'))
section
variable{X:Cx}
def YC(n:TI)(g:TG)(o:TT)(p:TE)(vs:List Nat):TE:=λd H Q=>n d H λJ f=>∀D,f D=none->∃W:Nat->Nat->Hp->Prop,(∃m,W 0 m (upd f D (.lst [])))/\∀i m H,W i m H->
 (J.stop i H/\Q (.ref D) H)\/(J.go i H/\∃e:Hp->Prop,(∀a,e a->∃j,j<m/\W (i+1) j a)/\∀x a,J.Od i H x a->g x (wipe d vs) a λc q=>wipe c vs=wipe d vs/\o c q λb k=>
  if b=true then p c k λy l=>∃acc,dF (l D=some (.lst acc)) (acc.length<sizeLine) (e (upd l D (.lst (acc++[y]))))else e k)
def JV{pins:List (Addr×Obj)}{s:Shared}{B:St}{H:Hp}{Q:VK}{elt tg O:Expr}{ifs:List Expr}{a:Scope}{own:List (Str×Nat)}{pos pos':Pos}{wi:TI}{g:TG}{tt:TT}{te:TE}{use:Option (Value->Sem Unit)}{Qf:Value->Shared->Prop}
  (hc:X.calm=true)(hN:X.N.Nodup)(I:Inv X pins B H s)(hi:PI X tg O wi)(ok:Du X.N X.env.scope a own)
  (hg:∀(s:Shared)(H:Hp)(C:Addr)(cl:List (Str×Addr))(f:List Addr),PG (X.blk s H a (compEnvC a cl C X.env) f) tg g)(ht:∀(s:Shared)(H:Hp)(C:Addr)(cl:List (Str×Addr))(f:List Addr),Zx (X.blk s H a (compEnvC a cl C X.env) f) ifs tt)
  (he:∀(s:Shared)(H:Hp)(C:Addr)(cl:List (Str×Addr))(f:List Addr),PE (X.blk s H a (compEnvC a cl C X.env) f) elt te)(hs:∀x,foldedSetIterable O X.env x=pure x)
  (h:YC wi g tt te (own.map (·.2)) B H Q)
  (hRR:∀D C w m t,Inv X pins B t w->Q (.ref D) t->w.heap.Ns C m->rE X pins t C->compPost (model X.prog X.w) X.A X.xe use Qf (.ref D) C (.ok .next) w):
  wpAny (model X.prog X.w) X.A (comprehension (.ListComp elt [⟨tg,O,ifs,0⟩] a pos) a X.env pos' (newList []) false (eval O X.env) use) Qf X.xe s:=by
 have hfree:∀y∈a.names,y.2=.free->∃c,X.env.cells.lookup y.1=some c:=λy hy e=>by
  rcases ok.free y hy e with k|k
  .exact I.ok.has _ (.inl k)
  .exact I.ok.has _ (.inr k)
 refine wpAny_comprehension_free (use:=use) rfl hs (Ht hfree) ok.kind (λy hy e=>by rw[ok.uniq y hy,e])
  (cV (hi pins s B H _ I h) λxv s1 hx=>cV hx λitv U h2=>?_)
 obtain⟨it,f,tn,J,L,e,I2,T,st2,f2,q⟩:=h2;subst e;refine adO (Dt ?_) (by show 0<=sizeLine;decide);generalize hD:U.heap.objs.size=D;have hDn:L D=none:=I2.hok.fresh (agW hD);obtain⟨W,⟨m0,w0⟩,turn⟩:=q D hDn;generalize hs3:({U with heap:=U.heap.push {cls:=.type "list",data:=.seq ([]:List Value).toArray}}:Shared)=d;have I3:Inv X pins B (upd L D (.lst [])) d:=by
  rw[<-hs3];refine I2.laid (t':=U.toks) (λb o e=>aaQ _ e) (agW hD) ⟨abe _,[],0,.nil,?_⟩;rw[<-hD];exact abb _ rfl
 have h3:d.heap=U.heap.push {cls:=.type "list",data:=.seq ([]:List Value).toArray}:=by rw[<-hs3]
 have sz:∀b∈f,b<U.heap.objs.size:=λb l=>by
  obtain⟨o,e,_⟩:=T.obj _ _ st2 b l;exact aa_ e
 have M:∀b∈f,rE X pins (upd L D (.lst [])) b/\b<d.heap.objs.size:=λb l=>by
  have hlt:=sz b l;refine⟨⟨?_,(f2 b l).2⟩,by rw[h3,ab6];exact aci hlt⟩;rw[aU (by rw[<-hD];exact abt hlt)];exact(f2 b l).1
 have st3:tn 0 d.heap:=T.keep _ _ _ st2 λb _ o e=>by rw[h3];exact aaQ _ e
 have I4:=Dv I3 ok hN M;have pg:=hg d (upd L D (.lst [])) d.heap.objs.size (cellsFrom (d.heap.objs.size+1) a.names (cB X.env.cells a.names [])) f;have pt:=ht d (upd L D (.lst [])) d.heap.objs.size (cellsFrom (d.heap.objs.size+1) a.names (cB X.env.cells a.names [])) f;have pe:=he d (upd L D (.lst [])) d.heap.objs.size (cellsFrom (d.heap.objs.size+1) a.names (cB X.env.cells a.names [])) f;show codeAny _ _ (.compStart (.ListComp elt [⟨tg,O,ifs,0⟩] a pos) 0 (.ref it) (.ref D) (compEnvC a (cellsFrom (d.heap.objs.size+1) a.names (cB X.env.cells a.names [])) d.heap.objs.size X.env)) (compPost (model X.prog X.w) X.A X.xe use Qf (.ref D) d.heap.objs.size) {d with heap:=pushCells (d.heap.push {cls:=.type "dict",data:=.dict #[]}) a.names};have nfp:∀b∈f,(upd L D (.lst [])) b=none:=λb l=>(M b l).1.1;generalize hce:compEnvC a (cellsFrom (d.heap.objs.size+1) a.names (cB X.env.cells a.names [])) d.heap.objs.size X.env=A at I4 pg pt pe⊢;have cL:A.locals=d.heap.objs.size:=by subst hce;rfl
 generalize hH3:upd L D (.lst [])=E at I3 I4 pg pt pe w0 nfp M;generalize hs4:({d with heap:=pushCells (d.heap.push {cls:=.type "dict",data:=.dict #[]}) a.names}:Shared)=s4 at I4⊢;have st4:tn 0 s4.heap:=T.keep _ _ _ st3 λb _ o e=>by rw[<-hs4];exact afY _ _ _ _ (aaQ _ e)
 have stat:∀{σ':St}{t:Hp}{w:Shared},Inv (X.blk d E a A f) [] σ' t w->(∀b∈f,t b=none)->∀b∈f,rE (X.blk d E a A f) [] t b:=λ{σ' t w} Y hn b l=>
  ⟨hn b l,(Y.ok.exf b l).1,Y.ok.Pq b l,.inl l,λx c e=>(Y.ok.exf b l).2 x c e,λp hp=>absurd (show p∈([]:List (Addr×Obj))++[]from hp) (by simp)⟩
 have loop:codeAny (model X.prog X.w) X.A (.compLoop (.ListComp elt [⟨tg,O,ifs,0⟩] a pos) 0 (.ref it) (.ref D) A) (compPost (model X.prog X.w) X.A X.xe use Qf (.ref D) d.heap.objs.size) s4:=by
  refine Al (λn w=>Ex2 λi t=>lM (Inv (X.blk d E a A f) [] (wipe B (own.map (·.2))) t w) (tn i w.heap) (∀b∈f,t b=none) (W i n t)) ?_ m0 ⟨0,E,I4,st4,nfp,w0⟩;rintro n s5 ⟨i,N,I5,st5,n5,w5⟩;rcases turn i n N w5 with⟨stop,qq⟩|⟨go,Nx,hNx,step⟩
  .have td:=T.done (X.blk d E a A f) rfl rfl rfl hc i [] s5 _ N (λ_ _=>False) I5 (stat I5 n5) st5 stop
   refine Mw td λr s6 ⟨hr,I6⟩=>?_;subst hr;have I7:Inv X pins B N s6:=I3.call' (ch:=f) I6.os I6.base I6.hok I6.bare λb l=>⟨(M b l).1.2.2.2.1,(M b l).1.2.1,(M b l).1.2.2.2.2.1,(M b l).1.2.2.2.2.2⟩;have nC:N d.heap.objs.size=none:=by
    have z:N A.locals=none:=I6.free;rw[cL]at z;exact z
   obtain⟨m,hn,_⟩:=I6.loc;have hn:s6.heap.Ns A.locals m:=hn;rw[cL]at hn;exact hRR D d.heap.objs.size s6 m N I7 qq hn (I3.GR (aaS _) nC)
  .have ti:=T.item (X.blk d E a A f) rfl rfl rfl hc i [] s5 _ N (λ_ _=>False) I5 (stat I5 n5) st5 go
   refine Mw ti λr s6 ⟨u,hr,h6⟩=>?_;subst hr;refine Mw h6 λ_ s7 ⟨x,H7,I7,r7,y7,st7,n7⟩=>?_;have I7':=I7.pinned (stat I7 n7) (T.obj _ _ st7);refine Mw (pg _ s7 _ H7 x u _ I7' r7 (step x H7 y7)) λ_ s8 ⟨σ8,H8,I8,hw8,q8⟩=>?_;refine Mw (pt _ s8 σ8 H8 _ I8 q8) λb s9 ⟨H9,I9,q9⟩=>?_;have fin:∀{w:Shared}{t:Hp},Inv (X.blk d E a A f) ([]++vK f s7.heap) σ8 t w->Nx t->∃m,m<n/\Ex2 λi t=>lM (Inv (X.blk d E a A f) [] (wipe B (own.map (·.2))) t w) (tn i w.heap) (∀b∈f,t b=none) (W i m t):=λ{w t} Y nx=>by
    obtain⟨m',hm,w'⟩:=hNx t nx;have Zy:∀b∈f,∀o,s7.heap.get? b=some o->w.heap.get? b=some o/\t b=none:=λb l o e=>
     let z:=Y.pin (b,o) (adF _ (adF _ (oZ l e)))
     ⟨z.1,z.2.1⟩
    have hl:(wipe B (own.map (·.2))).length=σ8.length:=by rw[<-hw8,mJ]
    refine⟨m',hm,i+1,t,(Y.qC (pins:=[])).weak hl (λj v e=>?_),T.keep _ _ _ st7 λb l o e=>(Zy b l o e).1,λb l=>?_,w'⟩
    .rw[<-hw8]at e
     exact(rK e).1
    .obtain⟨o,e,_⟩:=T.obj _ _ st7 b l
     exact(Zy b l o e).2
   cases b with
   |false=>
    simp only[aa7,acd]at q9⊢;exact fin I9 q9
   |true=>
    simp only[adX]at q9⊢;refine Mw (pe _ s9 σ8 H9 _ I9 q9) λz s10 ⟨yv,H10,I10,r10,acc,abW,abX,nx⟩=>?_;exact Xj (X:=X.blk d E a A f) I10 abW abX r10 λs11 I11=>fin I11 nx
 exact codeAny_compStart_list loop (T.self X.A 0 _ _ _ st4 loop)
def iJ{k j d:Expr}{l:List Expr}{a:Scope}{own:List (Str×Nat)}{t:Pos}{n:TI}{g:TG}{p:TT}{r:TE}(hc:X.calm=true)(u:X.N.Nodup)(v:PI X j d n)(ok:Du X.N X.env.scope a own)
  (w:∀(s:Shared)(H:Hp)(C:Addr)(cl:List (Str×Addr))(c:List Addr),PG (X.blk s H a (compEnvC a cl C X.env) c) j g)(y:∀(s:Shared)(H:Hp)(C:Addr)(cl:List (Str×Addr))(c:List Addr),Zx (X.blk s H a (compEnvC a cl C X.env) c) l p)
  (z:∀(s:Shared)(H:Hp)(C:Addr)(cl:List (Str×Addr))(c:List Addr),PE (X.blk s H a (compEnvC a cl C X.env) c) k r)(hs:∀x,foldedSetIterable d X.env x=pure x:=by intro _;rfl):
  PE X (.ListComp k [⟨j,d,l,0⟩] a t) (YC n g p r (own.map (·.2))):=by
 intro pins s σ H Q I h;rw[eval_ListComp];refine JV hc u I v ok w y z hs h λD C A m B E q J f=>⟨m,J,λh'' L=>?_⟩;obtain⟨M,N,f2,O,T,U⟩:=f;exact⟨.ref D,B,E.turned (t':=A.toks) (λb o Y e=>(L.2 b Y).trans e) M N O T U,rfl,q⟩
def mK{i:Nat}{y:Str}{r:Pos}{n j d:Expr}{k:List Expr}{c:Scope}{own:List (Str×Nat)}{p B:Pos}{t:TI}{g:TG}{u:TT}{w:TE}(hc:X.calm=true)(J:X.N.Nodup)(Y:X.N[i]?=some y)(E:X.env.scope.names.lookup y=some .local)
  (Q:swapsWith (.ListComp n [⟨j,d,k,0⟩] c p) (some (.Name y r)) B.line X.env=pure true)(hi:PI X j d t)(ok:Du X.N X.env.scope c own)
  (hg:∀(s:Shared)(H:Hp)(C:Addr)(cl:List (Str×Addr))(l:List Addr),PG (X.blk s H c (compEnvC c cl C X.env) l) j g)(ht:∀(s:Shared)(H:Hp)(C:Addr)(cl:List (Str×Addr))(l:List Addr),Zx (X.blk s H c (compEnvC c cl C X.env) l) k u)
  (he:∀(s:Shared)(H:Hp)(C:Addr)(cl:List (Str×Addr))(l:List Addr),PE (X.blk s H c (compEnvC c cl C X.env) l) n w)(hs:∀x,foldedSetIterable d X.env x=pure x:=by intro _;rfl):
  PS X (.Assign [.Name y r] (.ListComp n [⟨j,d,k,0⟩] c p) B) (qz (YC t g u w (own.map (·.2))) (gA i)):=by
 intro pins s M H D I h;rw[exec_Assign_Name_used _ _ _ _ Q];refine pP (ahM (pP ?_));show wpAny _ X.A (do let _<-comprehension (.ListComp n [⟨j,d,k,0⟩] c p) c X.env (firstIterPos [⟨j,d,k,0⟩] p) (newList []) false (eval d X.env) (some (assign (.Name y r) X.env))) _ _ s;have h:YC t g u w (own.map (·.2)) M H (λx H1=>gA i x M H1 D.nx):=h;refine pP (cV (JV (Qf:=λ_ A=>SP X pins D .next A) hc J I hi ok hg ht he hs h λL C A m H' I' q hn f=>?_) λ_ A hq=>aaR (aaR hq));show wpAny _ _ (assign (.Name y r) X.env (.ref L)) _ _ _;refine wpAny_assign_Name (yE (v:=V.ref L) I' J Y (.inl E) rfl (λs2 I2 ⟨a,sb,ha⟩=>?_) (.inr E));obtain⟨f0,N,f2,f3,O,f5⟩:=f;have T:C≠a:=by
  rcases ha with z|z
  .rw[z];exact N
  .exact λe=>O y a z e.symm
 refine⟨m,hn.sameBut sb T,λh3 U=>?_⟩;exact⟨_,H',I2.turned (t':=s2.toks) (λb o hb e=>(U.2 b hb).trans e) f0 N f3 O f5,q⟩
def qG{d:Expr}{e:List Comprehension}{a:Scope}{b c:Pos}{y:Str}{l:Nat}{env:Env}(f:env.scope.kind=.function)(g:env.scope.names.lookup y=some .local)(j:(c.line==b.line)=true)
  (m:(a.names.any λ(n,k)=>n==y&&(k==.local||k==.cell))=false):swapsWith (.ListComp d e a b) (some (.Name y c)) l env=pure true:=by
 have o:env.kindOf y=some .local:=g;have p:env.blockKind=.function:=by unfold Env.blockKind;rw[f];rfl
 unfold swapsWith;simp only[p,o,m,Expr.pos,j];rfl
end
def Dy{lo:Int}{n:Nat}{g:TG}{q:TT}{r:TE}{vs:List Nat}{j:St}{s:Hp}{D:Addr}{t:Hp->Prop}(Pv:Nat->Hp->Prop)(v:Pv 0 (upd s D (.lst [])))
  (hs:∀i H,i<n->Pv i H->g (.int (lo+i)) (wipe j vs) H λa l=>wipe a vs=wipe j vs/\q a l λb d=>
   if b=true then r a d λy f=>∃acc,dF (f D=some (.lst acc)) (acc.length<sizeLine) (Pv (i+1) (upd f D (.lst (acc++[y]))))else Pv (i+1) d)(w:∀H,Pv n H->t H):
  ∃W:Nat->Nat->Hp->Prop,(∃m,W 0 m (upd s D (.lst [])))/\∀i m H,W i m H->
   ((S8 lo n).stop i H/\t H)\/((S8 lo n).go i H/\∃o:Hp->Prop,(∀c,o c->∃u,u<m/\W (i+1) u c)/\∀x c,(S8 lo n).Od i H x c->g x (wipe j vs) c λa l=>wipe a vs=wipe j vs/\q a l λb d=>
    if b=true then r a d λy f=>∃acc,dF (f D=some (.lst acc)) (acc.length<sizeLine) (o (upd f D (.lst (acc++[y]))))else o d):=by
 refine⟨λi m H=>m=n - i/\i<=n/\Pv i H,⟨n,by simp,abe _,v⟩,?_⟩;rintro i m H ⟨rfl,A,p⟩;by_cases k:i<n
 .refine .inr ⟨k,Pv (i+1),λc z=>⟨n - (i+1),by omega,rfl,k,z⟩,λx c y=>?_⟩
  obtain⟨e,y⟩:=y;subst e y;exact hs i _ k p
 .have e:i=n:=by omega
  subst e;exact .inl ⟨aaS _,w H p⟩
def uE{K:Frag}{a:Addr}{xs:List V}{g:TG}{r:TT}{s:TE}{vs:List Nat}{k:St}{t:Hp}{D:Addr}{u:Hp->Prop}(Pv:Nat->Hp->Prop)(w:Pv 0 (upd t D (.lst [])))(z:∀i H,i<=xs.length->Pv i H->aV K H a xs)
  (hs:∀i x H,xs[i]?=some x->Pv i H->g x (wipe k vs) H λc l=>wipe c vs=wipe k vs/\r c l λb f=>
   if b=true then s c f λy j=>∃acc,dF (j D=some (.lst acc)) (acc.length<sizeLine) (Pv (i+1) (upd j D (.lst (acc++[y]))))else Pv (i+1) f)(A:∀H,Pv xs.length H->u H):
  ∃W:Nat->Nat->Hp->Prop,(∃m,W 0 m (upd t D (.lst [])))/\∀i m H,W i m H->
   ((Vv K a).stop i H/\u H)\/((Vv K a).go i H/\∃n:Hp->Prop,(∀d,n d->∃v,v<m/\W (i+1) v d)/\∀x d,(Vv K a).Od i H x d->g x (wipe k vs) d λc l=>wipe c vs=wipe k vs/\r c l λb f=>
    if b=true then s c f λy j=>∃acc,dF (j D=some (.lst acc)) (acc.length<sizeLine) (n (upd j D (.lst (acc++[y]))))else n f):=by
 refine⟨λi m H=>m=xs.length - i/\i<=xs.length/\Pv i H,⟨xs.length,by simp,abe _,w⟩,?_⟩;rintro i m H ⟨rfl,B,p⟩;have q:=z i H B p;by_cases o:i<xs.length
 .refine .inr ⟨⟨xs,xs[i],q,by simp[o]⟩,Pv (i+1),λd C=>⟨xs.length - (i+1),by omega,rfl,o,C⟩,λx d y=>?_⟩
  obtain⟨e,y⟩:=y;subst e;exact hs i x _ (y xs q) p
 .have e:i=xs.length:=by omega
  subst e;exact .inl ⟨⟨xs,q,aaS _⟩,A H p⟩
def Xk{K:Frag}{a:Addr}{xs:List V}{g:TG}{r:TT}{s:TE}{vs:List Nat}{k:St}{t:Hp}{D:Addr}{u:Hp->Prop}(Pv:Nat->Hp->Prop)(w:Pv 0 (upd t D (.lst [])))(z:∀i H,i<=xs.length->Pv i H->dG K H a xs)
  (hs:∀i x H,xs[i]?=some x->Pv i H->g x (wipe k vs) H λc l=>wipe c vs=wipe k vs/\r c l λb f=>
   if b=true then s c f λy j=>∃acc,dF (j D=some (.lst acc)) (acc.length<sizeLine) (Pv (i+1) (upd j D (.lst (acc++[y]))))else Pv (i+1) f)(A:∀H,Pv xs.length H->u H):
  ∃W:Nat->Nat->Hp->Prop,(∃m,W 0 m (upd t D (.lst [])))/\∀i m H,W i m H->
   ((Zf K a).stop i H/\u H)\/((Zf K a).go i H/\∃n:Hp->Prop,(∀d,n d->∃v,v<m/\W (i+1) v d)/\∀x d,(Zf K a).Od i H x d->g x (wipe k vs) d λc l=>wipe c vs=wipe k vs/\r c l λb f=>
    if b=true then s c f λy j=>∃acc,dF (j D=some (.lst acc)) (acc.length<sizeLine) (n (upd j D (.lst (acc++[y]))))else n f):=by
 refine⟨λi m H=>m=xs.length - i/\i<=xs.length/\Pv i H,⟨xs.length,by simp,abe _,w⟩,?_⟩;rintro i m H ⟨rfl,B,p⟩;have q:=z i H B p;by_cases o:i<xs.length
 .refine .inr ⟨⟨xs,xs[i],q,by simp[o]⟩,Pv (i+1),λd C=>⟨xs.length - (i+1),by omega,rfl,o,C⟩,λx d y=>?_⟩
  obtain⟨e,y⟩:=y;subst e;exact hs i x _ (y xs q) p
 .have e:i=xs.length:=by omega
  subst e;exact .inl ⟨⟨xs,q,aaS _⟩,A H p⟩
def Zz(N:List Str)(sc a:Scope)(own:List (Str×Nat)):Bool:=(match a.kind with|.function=>true|_=>false)&&(a.names.all λy=>decide (a.names.lookup y.1=some y.2))&&(own.all λp=>decide (N[p.2]?=some p.1))&&
  (a.names.all λy=>match y.2 with
   |.free=>(match sc.names.lookup y.1 with|some .cell=>true|some .free=>true|_=>false)
   |.local=>decide (y.1∈own.map (·.1))||decide (y.1∉N)
   |.cell=>decide (y.1∈own.map (·.1))||decide (y.1∉N)
   |_=>true)
def bQ{N:List Str}{sc b:Scope}{own:List (Str×Nat)}(h:Zz N sc b own=true):Du N sc b own:=by
 unfold Zz at h;simp only[aa8,aeH,ab1]at h;obtain⟨⟨⟨c,f⟩,g⟩,d⟩:=h;refine⟨?_,f,g,λy a e=>?_,λy a e=>?_⟩
 .split at c
  .assumption
  .cases c
 .have q:=d y a
  simp only[e]at q;split at q<;>first|exact .inl (by assumption)|exact .inr (by assumption)|cases q
 .have q:=d y a
  rcases e with e|e<;>(simp only[e,afU,ab1]at q;exact q)
section
variable{κ:Type}[DecidableEq κ]
def Dz(a:List (κ×V))(k:κ):Option V:=(a.find? λb=>decide (b.1=k)).map (·.2)
def Ql{p:κ×V}{r:List (κ×V)}{k:κ}(e:p.1=k):Dz (p::r) k=some p.2:=by simp[Dz,adi,e]
def Qm{p:κ×V}{r:List (κ×V)}{k:κ}(e:¬p.1=k):Dz (p::r) k=Dz r k:=by simp[Dz,adi,e]
def oh.yM{o:Option V}{u:Option Value}(r:oh o u):o.isSome=u.isSome:=by
 cases o with
 |none=>cases u with
  |none=>rfl
  |some _=>exact(show False from r).elim
 |some _=>cases u with
  |none=>exact(show False from r).elim
  |some _=>rfl
def KV.val{d:List (κ×V)}{vs:List (κ×Value)}(r:KV d vs)(k:κ):oh (Dz d k) (valueAt vs k):=by
 unfold KV at r
 induction r with
 |nil=>exact True.intro
 |@cons p q ps a h t g=>
  obtain⟨f,j⟩:=h;by_cases e:p.1=k
  .have c:q.1=k:=f.symm.trans e
   have b:valueAt (q::a) k=some q.2:=by simp[valueAt,adi,c]
   rw[Ql e,b];exact j
  .have c:¬q.1=k:=λz=>e (f.trans z)
   have b:valueAt (q::a) k=valueAt a k:=by simp[valueAt,adi,c]
   rw[Qm e,b];exact g
end
def Qn{P:Program}{w:World}{k:Key}{u:Value}(r:RelV (kV k) u):(h_ P w).is k u=true:=by
 cases k with
 |inl i=>obtain⟨t,e⟩:=(show∃t,u=Value.int i t from r);subst e;exact Dc P w i t
 |inr x=>obtain⟨t,e⟩:=(show∃t,u=Value.str x t from r);subst e;exact Dd P w x t
section
variable{X:Cx}{pins:List (Addr×Obj)}{σ:St}{H:Hp}{s:Shared}{a:Addr}{y v:V}{u r:Value}{o:Option V}{A:Around}{E:Value->Shared->Prop}
def Inv.big(I:Inv X pins σ H s):sysModules<s.heap.objs.size:=by
 have h:mainGlobals<s.heap.objs.size:=(I.mod.glob.keeps I.bk).lt;exact afo (by decide) h
def JW{h':Heap}{t':Nat}{c:HO}(I:Inv X pins σ H s)(f:Y8 (H a))(hs:Heap.SameBut a s.heap h')(g:∃q,h'.get? a=some q)(d:fQ X.prog X.w (upd H a c) h' a c):
  Inv X pins σ (upd H a c) {s with heap:=h',toks:=t'}:=I.write (x:=a) (e:=a) f (.inl rfl) (λb q j z=>(hs.2 b j).trans z) g d
end
def Xl(i:Expr):Prop:=∀a b,subscripted i false a b=operate [a,b] (getItem a b)
def JX{prog:Program}{w:World}{A:Around}{E:Value->Shared->Prop}{s:Shared}{env:Env}{c a:Expr}{l:Pos}{T id:String}{Q:Value->Shared->Prop}
  (m:typeLookup (.type T) "__getitem__"=pure (some (.builtin id)))(hs:Xl a)
  (h:wpAny (model prog w) A (eval c env) (λo e=>wpAny (model prog w) A (eval a env) (λi b=>b.TypeIs o T/\wpAny (model prog w) A (getItem o i) Q E b) E e) E s):
  wpAny (model prog w) A (eval (.Subscript c a l) env) Q E s:=by
 refine Subscript_ (adM h (λo e j=>adM j (λi b d=>?_) λ_ _ x=>x) λ_ _ x=>x);obtain⟨g,d⟩:=d;unfold subscriptTail;refine pP ?_;rw[getitemInPython_of_ne g.not_modules];refine pP (afS g m ?_);have fin:wpAny (model prog w) A (subscripted a false o i) (λr f=>wpAny (model prog w) A (letTemporaryGo c o r>>=λ_=>pure r) Q E f) E b:=by
  rw[hs o i];exact wpAny_operating (adM d (λr f k=>pP (wpAny_letTemporaryGo (aaR k))) λ_ _ x=>x)
 first
  |exact aaR (pP fin)
  |exact pP (aaR (pP fin))
  |exact pP fin
structure M2(X:Cx)(o:Expr)(m:Str)(apos:Pos)(e f:Expr)(cpos:Pos):Prop where
 base:attributeBase o m X.env (eval o X.env)=eval o X.env
 few:((backTo cpos (starEach [e,f] X.env)).all (λx=> !x.1)&&(backToKw cpos (keywordEach [] X.env)).all (λx=>x.1.isSome)
  &&decide (([e,f]:List Expr).length+([]:List Keyword).length+(if([]:List Keyword).isEmpty then 0 else 1)<30))=true
 line:(apos.endLine==cpos.line)=true
 trees:backTo cpos (starEach [e,f] X.env)=[(false,eval e X.env),(false,eval f X.env)]
def vW:bootBuiltins "reversed"=some (.type "reversed"):=by decide+kernel
section
variable{X:Cx}{pins:List (Addr×Obj)}{σ:St}{H:Hp}{s:Shared}{h':Heap}
def Inv.Ud{t':Nat}{ch:List Addr}(I:Inv X pins σ H s)(k:∀b o,b∉ch->s.heap.get? b=some o->h'.get? b=some o)(a:∀b∈ch,rE X pins H b):Inv X pins σ H {s with heap:=h',toks:=t'}:=by
 have f:∀b u,H b=some u->b∉ch:=λb u e z=>by
  have q:=(a b z).1;rw[q]at e;cases e
 refine I.step (g':=s.gens) (d':=s.drawn) (ch:=ch) (λb d=>⟨(a b d).2.2.2.1,(a b d).2.1,(a b d).2.2.2.2.1,(a b d).2.2.2.2.2⟩) (λb o _ _ hc e _=>k b o hc e) (λb o _ _ hc e _=>⟨o.slots,k b o hc e⟩)
  (λ_ _ _ _ n=>n) (λb o hc e=>⟨o,k b o hc e⟩) (λ_ _ e=>e) (λ_ _ _ e=>e) (λb ps e=>⟨#[],by rw[e];simp⟩) (λm g=>?_) (λb u e=>?_) I.bare
 .obtain⟨o,j,l,p,r⟩:=g
  exact⟨o,j,l,k _ o (λz=>(a _ z).2.1 rfl) p,r⟩
 .refine(I.hok b u e).stay (λc v hc q=>k c v ?_ q) (λ_ q=>q) λ_ _ q=>q
  rcases hc with z|z
  .rw[z];exact f b u e
  .exact f c _ z
def Inv.yN{t':Nat}{ch:List Addr}{T:Addr}{g:HO}(I:Inv X pins σ H s)(k:∀b o,b∉ch->s.heap.get? b=some o->h'.get? b=some o)(d:∀b∈ch,rE X pins H b)(l:s.heap.objs.size<=T)
  (p:fQ X.prog X.w (upd H T g) h' T g):Inv X pins σ (upd H T g) {s with heap:=h',toks:=t'}:=by
 have f:H T=none:=I.hok.fresh l;have j:∀b u,H b=some u->b∉ch:=λb u e z=>by
  have q:=(d b z).1;rw[q]at e;cases e
 refine I.step (g':=s.gens) (d':=s.drawn) (ch:=ch) (λb a=>⟨(d b a).2.2.2.1,(d b a).2.1,(d b a).2.2.2.2.1,(d b a).2.2.2.2.2⟩) (λb o _ _ hc e _=>k b o hc e) (λb o _ _ hc e _=>⟨o.slots,k b o hc e⟩)
  (λb o _ e n=>?_) (λb o hc e=>⟨o,k b o hc e⟩) (λb xs e=>?_) (λb o u e=>?_) (λb ps e=>⟨#[],?_⟩) (λm t=>?_) (λb u e=>?_) I.bare
 .rw[aU (abt (abG (aa_ e) l))];exact n
 .rw[aU (aW e f)];exact e
 .rw[aU (aW e f)];exact e
 .rw[aU (aW e f),e];simp
 .obtain⟨o,w,x,y,r⟩:=t
  exact⟨o,w,x,k _ o (λz=>(d _ z).2.1 rfl) y,r⟩
 .by_cases a:b=T
  .subst a
   rw[ak]at e;cases e;exact p
  .rw[aU a]at e
   refine(I.hok b u e).stay (λc v hc q=>k c v ?_ q) (λc q=>by rw[aU (aW q f)];exact q) λc xs q=>by rw[aU (aW q f)];exact q
   rcases hc with z|z
   .rw[z];exact j b u e
   .exact j c _ z
end
section
variable{X:Cx}
def Xm{c:Expr}{pins:List (Addr×Obj)}{d:St}{H:Hp}{s:Shared}{R:It->Hp->Prop}{J:It}{a:Nat->Heap->Prop}{tk:Nat}(I:Inv X pins d H s)(o:Obj)
  (T:Turn X.prog X.w X.K c J [s.heap.objs.size] s.heap.objs.size a)(st:a 0 (s.heap.push o))(q:R J H):PIE X pins d c R (.ref s.heap.objs.size) {s with heap:=s.heap.push o,toks:=tk}:=by
 refine⟨s.heap.objs.size,[s.heap.objs.size],a,J,H,rfl,I.kept λb g e=>aaQ _ e,T,st,λb f=>?_,q⟩;have e:b=s.heap.objs.size:=by simpa using f
 subst e;exact I.GR (aaS _) (I.hok.fresh (aaS _))
end
def ZC(K:Frag)(a:Addr)(n:Nat):It:=⟨λi H=>i<n/\Ex2 λ(xs:List V)(x:V)=>aV K H a xs/\xs[n - 1 - i]?=some x,λi H x b=>b=H/\∀xs,aV K H a xs->xs[n - 1 - i]?=some x,λi _=>n<=i⟩
def Qo{P:Program}{w:World}{K:Frag}{U:Expr}(a f:Addr)(n:Nat):Turn P w K U (ZC K a n) [f] f (λi h=>i<=n/\h.IsRevIter f a ((n:Int) - 1 - (i:Nat))) where
 mem:=by simp
 obj:=λi h st b g=>by
  have e:b=f:=by simpa using g
  subst e;obtain⟨_,o,e,c,d⟩:=st;exact⟨o,e,λv z=>by rw[d]at z;cases z⟩
 keep:=λi h h' st k=>⟨st.1,st.2.at λo e=>k f (by simp) o e⟩
 item:=by
  intro X q hw r hc i pins s N H E I l st t;subst q hw r;obtain⟨M,xs,x,O,T⟩:=t;obtain⟨its,Y,p,hz⟩:=I.list O;obtain⟨u,hu,ru⟩:=Y.get T;obtain⟨y,B,f2,C,D,J⟩:=l f (by simp);obtain⟨_,j⟩:=st;have L:(n:Int) - 1 - ((i:Nat):Int)=((n - 1 - i:Nat):Int):=by grind
  rw[L]at j;refine wpAny_pyNext_rev_item j p.isList (x:=u) (by simpa using hu) λh' m sb=>?_;have e2:((n - 1 - i:Nat):Int) - 1=(n:Int) - 1 - ((i+1:Nat):Int):=by grind
  rw[e2]at m;have I1:Inv X pins N H {s with heap:=h'}:=I.turned (t':=s.toks) (λb o g e=>(sb.2 b g).trans e) y B C D J;obtain⟨o,e,c,d⟩:=id m;exact⟨u,rfl,JG (s:={s with heap:=h'}) e c d (by decide) ⟨x,H,I1,ru,⟨rfl,λys hy=>by rw[I.lY hy O];exact T⟩,⟨M,m⟩,λb g=>(l b g).1⟩⟩
 done:=by
  intro X q hw r hc i pins s N H E I l st t;subst q hw r;obtain⟨y,B,f2,C,D,J⟩:=l f (by simp);obtain⟨M,j⟩:=st;have hge:n<=i:=t;have L:(n:Int) - 1 - ((i:Nat):Int)= -1:=by grind
  rw[L]at j;exact wpAny_pyNext_rev_end (I.ok.hd hc) j λh' eb=>⟨rfl,I.turned (t':=s.toks) (λb o g e=>eb b o g e) y B C D J⟩
 self:=λA i s Q E st h=>wpAny_pyIter_revIter st.2 h
def abY(K:Frag)(c:TA):TI:=λd H R=>c d H λvs b=>Ex2 λ(a:Addr)(xs:List V)=>dF (vs=[.ref a]) (aV K b a xs) (R (ZC K a xs.length) b)
section
variable{X:Cx}{tg:Expr}
def mL{e:Expr}{d:TA}{p b:Pos}(g:Gl X "reversed")(j:X.mg "reversed"=none)(k:PA X [e] d)(hs:starEach [e] X.env=[(false,eval e X.env)]:=by rfl):PI X tg (.Call (.Name "reversed" p) [e] [] b) (abY X.K d):=by
 intro pins s m H R I h;refine Call_ (lX I g j vW (adt (cV (k b pins s m H _ I h) λus n ⟨vs,z,f,o,t⟩=>?_) hs rfl));obtain⟨a,xs,e,u,q⟩:=t;subst e;cases o with
 |cons r v=>
  cases v;cases r;obtain⟨c,w,x,hz⟩:=f.list u;have A:=w.length;have y:((c.toArray.size:Nat):Int) - 1=(xs.length:Int) - 1 - ((0:Nat):Int):=by simp only[abd];grind
  refine call_reversed_list x.isList (wpAny_pyIter_revIter (l:=a) (i:=((c.toArray.size:Nat):Int) - 1) ⟨_,abb _ rfl,rfl,rfl⟩ ?_);refine Xm (tk:=n.toks) f _ (Qo a _ xs.length) ⟨abe _,?_⟩ q;rw[<-y];exact⟨_,abb _ rfl,rfl,rfl⟩
end
section
variable{prog:Program}{w:World}{A:Around}{E:Value->Shared->Prop}{s:Shared}
def Mx{d:Addr}{o:Obj}{e:Array DictEntry}{f:Nat}{Q:Value->Shared->Prop}(g:(d==sysModules)=false)(a:s.heap.get? d=some o)(hc:o.ExactDict)(c:o.data=.dict e f)
  (j:Q (.ref s.heap.objs.size) {s with heap:=s.heap.push {cls:=.type "dict_keyiterator",data:=.fields #[.ref d,.int 0 0,.int e.size 0,.int f 0]}}):
  wpAny (model prog w) A (pyIter (.ref d)) Q E s:=by
 have b:s.TypeIs (.ref d) "dict":=⟨o,a,hc.1⟩;refine ago b F.slot_dict_iter (ade F.slot_dict_iter b F.entry_dict_iter ?_ (F.args_dict_iter_1 _));unfold Builtin.«dict.__iter__»;refine pP ?_;unfold Builtin.Dict.dictSlotNone;refine pP (wpAny_notOrdered_dict b ?_);show wpAny _ _ (pure (Value.ref d)) _ _ s;refine aaR ?_;show wpAny _ _ (Builtin.Dict.showsAll d>>=_) _ _ s;unfold Builtin.Dict.showsAll;rw[aaz (by rw[g];exact aaT)];refine pP (aaR ?_);refine pP (aeY a c ?_);refine pP (ahc a c ?_);refine pP (adO (aaR ⟨_,rfl,"dict_keyiterator",_,⟨_,abb _ rfl,rfl⟩,adT.lookup,?_⟩));simpa[rawInt]using j
def xV{b d:Addr}{i n c:Nat}{m:Obj}{e:Array DictEntry}{en:DictEntry}{Q:Option Value->Shared->Prop}(a:s.heap.IsKeyIter b d i n c)(k:s.heap.get? d=some m)(l:m.data=.dict e c)
  (hsz:e.size=n)(t:e[i]?=some en)(u:∀h',h'.IsKeyIter b d (i+1) n c->Heap.SameBut b s.heap h'->Q (some en.key) {s with heap:=h'}):wpAny (model prog w) A (pyNext (.ref b)) Q E s:=by
 obtain⟨o,g,hc,f⟩:=id a;unfold pyNext;refine pP (afa (adh (name:=Str.ofString "__next__") a.typeIs adT
  (ade adT a.typeIs afP ?_ (afK _))))
 refine pP (aaR ?_);refine pP ?_;refine pP ?_
 first|refine pP (aeg a.typeIs (aaR ?_))|refine pP (aeD a.typeIs (aaR ?_))
 refine pP (wpAny_fieldsOf g f ?_);have p:Builtin.Dict_items.ownsTuple "dict_keyiterator"=false:=by decide
 simp only[p,aa7,acd];show wpAny _ _ (if(Value.ref d==Value.none)=true then _ else _) _ _ s;rw[aaz (show ¬((Value.ref d==Value.none)=true)from aaT)];refine pP (aaR ?_);refine pP (aeY k l ?_);rw[aaz (by rw[hsz];simp)];refine pP (aaR ?_);refine pP (ahc k l ?_);rw[aaz (by simp)];refine aaR ?_;obtain⟨q,r⟩:=acr.mp t;simp only[show ¬((i:Int)<0)from by grind,acd,adP,aa9 q];refine pP ?_
 first|refine pP (aeg a.typeIs (aaR ?_))|refine pP (aeD a.typeIs (aaR ?_))
 refine pP (wpAny_isOneOf_keyiter a.typeIs ?_);show wpAny _ _ (setField (.ref b) 1 (rawInt ((i:Int)+1))>>=_) _ _ s;refine pP (afu g f (by simp) ?_);have j:(s.heap.update b (Obj.mapFields (·.setIfInBounds 1 (rawInt ((i:Int)+1))))).IsKeyIter b d (i+1) n c:=
  ⟨_,abN _ g (Obj.isFreed_of_fields (Obj.data_mapFields f _)),(Obj.cls_mapFields ..).trans hc,by rw[Obj.data_mapFields f];simp[rawInt]⟩
 refine pP (acp ?_);refine pP (wpAny_isOneOf_keyiter (s:={s with heap:=s.heap.update b (Obj.mapFields (·.setIfInBounds 1 (rawInt ((i:Int)+1))))}) j.typeIs ?_);show wpAny _ _ (pure e[i].key) _ _ _;rw[r];exact aaR (aaR ⟨_,rfl,aaR (u _ j (adE ..))⟩)
def Am{e d:Addr}{i n k:Nat}{l:Obj}{f:Array DictEntry}{Q:Option Value->Shared->Prop}(v:A.handled=none)(c:s.heap.IsKeyIter e d i n k)(g:s.heap.get? d=some l)(j:l.data=.dict f k)
  (hsz:f.size=n)(u:n<=i)(x:∀h',Heap.ExtBut e s.heap h'->Q none {s with heap:=h'}):wpAny (model prog w) A (pyNext (.ref e)) Q E s:=by
 obtain⟨o,p,hc,q⟩:=id c;unfold pyNext;refine pP (afa (adh (name:=Str.ofString "__next__") c.typeIs adT
  (ade adT c.typeIs afP ?_ (afK _))))
 refine pP (aaR ?_);refine pP ?_;refine pP ?_
 first|refine pP (aeg c.typeIs (aaR ?_))|refine pP (aeD c.typeIs (aaR ?_))
 refine pP (wpAny_fieldsOf p q ?_);have r:Builtin.Dict_items.ownsTuple "dict_keyiterator"=false:=by decide
 simp only[r,aa7,acd];show wpAny _ _ (if(Value.ref d==Value.none)=true then _ else _) _ _ s;rw[aaz (show ¬((Value.ref d==Value.none)=true)from aaT)];refine pP (aaR ?_);refine pP (aeY g j ?_);rw[aaz (by rw[hsz];simp)];refine pP (aaR ?_);refine pP (ahc g j ?_);rw[aaz (by simp)];refine aaR ?_;have t:f.size<=i:=by rw[hsz];exact u
 simp only[show ¬((i:Int)<0)from by omega,acd,adP,ael t];refine pP ?_
 first|refine pP (aeg c.typeIs (aaR ?_))|refine pP (aeD c.typeIs (aaR ?_))
 show wpAny _ _ (setField (.ref e) 0 .none>>=_) _ _ s;refine pP (afu p q (by simp) ?_);show wpAny _ _ (newExc (.type "StopIteration") []>>=_) _ _ _;refine pP ?_;simp only[newExc,newTuple];refine pP (adO ?_ (by size_fits));refine pP (m:=firstArgMember _ _) (wpAny_of_eq (a:=Value.none) (by first|rfl|(simp only[firstArgMember];rfl)) ?_);refine adO ?_ (by size_fits);simp only[raiseNew];refine pP (wpAny_handled ?_);rw[show A.in1.handled=none from v];refine pP (aaR (wpAny_throw ?_));refine pP (ae4 (T:="StopIteration") (b:=true) ⟨_,abb _ rfl,rfl⟩ ahu ?_);exact aaR (x _ (((adE ..).extBut.push _).push _))
end
def Hu{f g:Type}{G:f->g->Prop}{c:List f}{d:List g}(h:Paired G c d):∀{i:Nat}{a:f},c[i]?=some a->∃b,d[i]?=some b/\G a b:=by
 induction h with
 |nil=>intro i a e;simp at e
 |@cons a b c d r t k=>
  intro i l e;cases i with
  |zero=>
   simp only[List.getElem?_cons_zero,Option.some.injEq]at e;subst e;exact⟨b,rfl,r⟩
  |succ j=>
   simp only[adw]at e⊢;exact k e
def Ite(K:Frag)(a:Addr):It:=⟨λi H=>Ex2 λ(xs:List V)(x:V)=>aV K H a xs/\xs[i]?=some x,λi H v b=>Ex2 λT x=>lM (v=.ref T) (H T=none) (b=upd H T (.tup [.int (i:Nat),x])) (∀xs,aV K H a xs->xs[i]?=some x),λi H=>∃xs:List V,aV K H a xs/\xs.length<=i⟩
def Mz{P:Program}{w:World}{K:Frag}{T:List Expr}{kk:Nat}{U:Pos}(a e c:Addr):
  Turn P w K (.Tuple T kk U) (Ite K a) [e,c] e (λi h=>(∃g,IsEnum h e c ((i:Nat):Int) g)/\h.IsListIter c a i/\e≠c) where
 mem:=by simp
 obj:=λi h st b d=>by
  obtain⟨⟨g,f⟩,⟨o,t,hc,hd⟩,_⟩:=st;have y:b=e\/b=c:=by simpa using d
  rcases y with z|z
  .rw[z];exact⟨_,f,λv q=>nomatch q⟩
  .rw[z];exact⟨o,t,λv q=>by rw[hd]at q;cases q⟩
 keep:=λi h h' st k=>let⟨⟨g,f⟩,hi,j⟩:=st;⟨⟨g,k e (by simp) _ f⟩,hi.at λo q=>k c (by simp) o q,j⟩
 item:=by
  intro X B hw C hc i pins s O H E I m st D;subst B hw C;obtain⟨⟨g,f⟩,l,j⟩:=st;obtain⟨xs,x,n,J⟩:=D;obtain⟨its,L,p,hz⟩:=I.list n;obtain⟨u,hu,ru⟩:=L.get J;have N:e<s.heap.objs.size:=aa_ f;have hil:c<s.heap.objs.size:=by obtain⟨_,q,_⟩:=l;exact aa_ q
  refine wpAny_pyNext_enum_item f l p.isList (x:=u) (by simpa using hu) j λh' t Y hT hsz hk=>?_;refine⟨_,rfl,agi (s:={s with heap:=h',toks:=s.toks+1}) t λr he' M=>?_⟩;have hT2:r.get? s.heap.objs.size=some {cls:=.type "tuple",data:=.seq #[.int i s.toks,u]}:=(M.2 _ (adI N)).trans hT;have new:fQ X.prog X.w (upd H s.heap.objs.size (.tup [.int (i:Nat),x])) r s.heap.objs.size (.tup [.int (i:Nat),x]):=
   ⟨by show 2<=sizeLine;decide,[.int i s.toks,u],.cons ⟨_,rfl⟩ (.cons ru .nil),⟨_,hT2,rfl,_,rfl⟩⟩
  have I1:Inv X pins O (upd H s.heap.objs.size (.tup [.int (i:Nat),x])) {s with heap:=r,toks:=s.toks+1}:=
   I.yN (ch:=[e,c]) (λb ob d q=>(M.2 b (λz=>d (by simp[z]))).trans (hk b ob (λz=>d (by simp[z])) (λz=>d (by simp[z])) q)) m (aaS _) new
  refine⟨.ref s.heap.objs.size,_,I1,rfl,⟨_,x,rfl,I.hok.fresh (aaS _),rfl,λys hy=>by rw[I.lY hy n];exact J⟩,⟨⟨u,?_⟩,Y.at λo q=>(M.2 c (ac6 j)).trans q,j⟩,λb d=>?_⟩
  .have e1:((i+1:Nat):Int)=(i:Int)+1:=by omega
   rw[e1];exact he'
  .have hb':b<s.heap.objs.size:=by
    have y:b=e\/b=c:=by simpa using d
    rcases y with z|z
    .rw[z];exact N
    .rw[z];exact hil
   rw[aU (abt hb')];exact(m b d).1
 done:=by
  intro X B hw C hc i pins s O H E I m st D;subst B hw C;obtain⟨⟨g,f⟩,l,j⟩:=st;obtain⟨xs,n,J⟩:=D;obtain⟨its,L,p,hz⟩:=I.list n;obtain⟨f0,f1,f2,f3,f4,f5⟩:=m c (by simp);have hl:=L.length;exact wpAny_pyNext_enum_end (I.ok.hd hc) f l p.isList (by simp;omega) λh' eb=>⟨rfl,I.turned (t':=s.toks) (λb o d q=>eb b o d q) f0 f1 f3 f4 f5⟩
 self:=λA i s Q E st h=>let⟨⟨_,f⟩,_⟩:=st;afB f h
def ZD(K:Frag)(c:TA):TI:=λd H R=>c d H λvs b=>Ex2 λa xs=>dF (vs=[.ref a]) (aV K b a xs) (R (Ite K a) b)
def Ao{X:Cx}{e:Expr}{j:TA}{p f n:Pos}{o:List Expr}{kk:Nat}(u:Gl X "enumerate")(v:X.mg "enumerate"=none)(w:PA X [e] j)(hs:starEach [e] X.env=[(false,eval e X.env)]:=by rfl):
  PI X (.Tuple o kk n) (.Call (.Name "enumerate" p) [e] [] f) (ZD X.K j):=by
 intro pins s k H R I h;refine Call_ (lX I u v boot_enumerate (adt (cV (w f pins s k H _ I h) λus c ⟨vs,l,d,x,y⟩=>?_) hs rfl));obtain⟨a,xs,ex,A,q⟩:=y;subst ex;cases x with
 |cons r B=>
  cases B;cases r;obtain⟨M,N,C,hz⟩:=d.list A;refine call_enumerate_list C.isList λh' m t hsz D=>afB m ?_;have E:Inv X pins k l {c with heap:=h'}:=d.kept (t':=c.toks) D;refine⟨c.heap.objs.size+1,[c.heap.objs.size+1,c.heap.objs.size],_,_,l,rfl,E,Mz a (c.heap.objs.size+1) c.heap.objs.size,⟨⟨.none,m⟩,t,agE _⟩,λb J=>?_,q⟩;have L:b=c.heap.objs.size+1\/b=c.heap.objs.size:=by simpa using J
  have g:c.heap.objs.size<=b:=by
   rcases L with z|z
   .rw[z];exact adb _ _
   .rw[z];exact aaS _
  exact d.GR g (d.hok.fresh g)
def MF:bootBuiltins "zip"=some (.type "zip"):=by decide+kernel
def inClass(s:Stmt)(j:Nat):Stmt:=match s with
|.ClassDef _ _ _ a _ _ _ _ _ _ _=>a.getD j (.Pass ⟨0,0,0,0⟩)
|_=>.Pass ⟨0,0,0,0⟩
def ig(s:Stmt):Arguments:=match s with
|.FunctionDef _ a _ _ _ _ _ _ _ _=>a
|_=>{posonlyargs:=[],args:=[],vararg:=none,kwonlyargs:=[],kw_defaults:=[],kwarg:=none,defaults:=[]}
def fY(s:Stmt):List Stmt:=match s with
|.FunctionDef _ _ b _ _ _ _ _ _ _=>b
|_=>[]
def aA(s:Stmt):Scope:=match s with
|.FunctionDef _ _ _ _ _ _ sc _ _ _=>sc
|_=>{kind:=.function,names:=[],isGenerator:=false,isCoroutine:=false}
abbrev DG:P_:=λ_ _ _ _ _ _=>False
abbrev E0:XK:=λ_ _ _=>False
def aH{X:Cx}:Passes DG X E0:=λ_ _ _ _ _ _ _ h=>h.elim
structure JZ(K:Frag)(x qual:Str)(st:Stmt)(f:Addr)(fd:FuncData):Prop where
 ex:Ex9 λ(oc:Value)(od:Option Addr)(kV doc pm:Value)(an:Option Addr)(cdv ct:Value)(osl:Array (Option Value))=>dF (fd=fnOf x qual (ig st) (fY st) (aA st) .none kV doc pm an cdv ct) (K.lookup f=some ⟨oc,od,.func fd,osl⟩) (codeIn K cdv qual=true)
 kp:keepIn K (.ref f)=true
def JZ.ok{x b:Str}{st:Stmt}{f:Addr}{c:FuncData}{N ps:List Str}{k:Nat}{sp:Sp}(F:JZ K x b st f c)(S:aJ N ps (aA st))(e:∀vs H Q E,sp vs H Q E->vs.length=ps.length)
  (d:∀(a:Value)(A:Around)(outer:List Env)(s:Shared)(H:Hp)(vs:List V)(Q:VK)(E:XK),bI k (A.deeper (envOfC b (aA st) s.heap.objs.size f a))->sp vs H Q E->
   ∃t,Fw (Hl DG P w K mg base N b (aA st) f a A outer s H E).Zc (fY st) t/\t {nx:=λ_ l=>Q .non l,rt:=Q} (start N vs) H):i_ P w K mg base DG (k+1) f c ps sp:=by
 obtain⟨r,u,kV,o,v,y,a,ct,p,rfl,m,g⟩:=F.ex;refine Zr m g S e λA outer s H vs Q E n j=>?_;obtain⟨t,h,q⟩:=d a A outer s H vs Q E n j;exact⟨t,h.Zc,q⟩
def JZ.binds{x e:Str}{st:Stmt}{f:Addr}{g:FuncData}{ps:List Str}(F:JZ K x e st f g)
  (h:∀(kV a c:Value)(d:Option Addr)(b ct:Value)(us:List Value),us.length=ps.length->bindArgs (fnOf x e (ig st) (fY st) (aA st) .none kV a c d b ct) ⟨us,[]⟩=pure (ps.zip us)):Binds K g ps []:=by
 obtain⟨l,m,kV,a,c,d,b,ct,j,rfl,n,k⟩:=F.ex;exact .all (h kV a c d b ct)
def Hv{x a:Str}{st:Stmt}{f:Addr}{m:Value}{n e:Option Addr}{j:Array (Option Value)}{kV d g b ct:Value}(l:K.lookup f=some ⟨m,n,.func (fnOf x a (ig st) (fY st) (aA st) .none kV d g e b ct),j⟩)
  (c:codeIn K b a=true)(k:keepIn K (.ref f)=true):JZ K x a st f (fnOf x a (ig st) (fY st) (aA st) .none kV d g e b ct):=⟨⟨m,n,kV,d,g,e,b,ct,j,rfl,l,c⟩,k⟩
section
variable{X:Cx}
def pv(i:Nat){x:Str}{a:Pos}(c:X.N[i]?=some x:=by rfl)(d:Yy X.env.scope x:=by first|exact Or.inl rfl|exact Or.inr (Or.inl rfl)|exact Or.inr (Or.inr rfl))(e:(x==("__debug__":Str))=false:=by decide)
  (b:(x==("__classdict__":Str))=false:=by decide):PE X (.Name x a) (gU i):=W0 c d e b
end
def bF{A B:Prop}(h:B):if false=true then A else B:=by
 rw[aaz aaT];exact h
def bD{A B:Prop}(h:A):if true=true then A else B:=by
 rw[aaU rfl];exact h
def Same(H a:Hp):Prop:=∀b o,H b=some o->a b=some o
def Same.refl(H:Hp):Same H H:=λ_ _ h=>h
def Same.trans{H d e:Hp}(a:Same H d)(b:Same d e):Same H e:=λc o h=>b c o (a c o h)
def Same.free{H a:Hp}(e:Same H a){l:Addr}(h:a l=Option.none):H l=Option.none:=by
 cases q:H l with
 |none=>rfl
 |some o=>
  rw[e l o q]at h;cases h
def Same.seq{K:Frag}{H b:Hp}{a:Addr}{xs:List V}(e:Same H b)(h:aV K H a xs):aV K b a xs:=by
 rcases h with(h|⟨o,h⟩)|h
 .exact .inl (.inl (e _ _ h))
 .exact .inl (.inr ⟨o,e _ _ h⟩)
 .exact .inr h
end L2
section
namespace L2
open PySem PySem.Spec PyProof.Rows
open PySem.W (WData Codec OpenSpec Well WellAll ReadsW ReadsAllW)
mutual
inductive Dw(K:Frag)(H:Hp):V->WData->Prop
|non:Dw K H .non .none
|bl (b:Bool):Dw K H (.bl b) (.bool b)
|int (i:Int):Dw K H (.int i) (.int i)
|str (x:Str):Dw K H (.str x) (.str x)
|uc (b:Array UInt8):Dw K H (.uc b) (.bytes b.toList)
|lst {a:Addr} {xs:List V} {ds:List WData}:aV K H a xs->lF K H xs ds->Dw K H (.ref a) (.list ds)
|tup {a:Addr} {xs:List V} {ds:List WData}:dG K H a xs->lF K H xs ds->Dw K H (.ref a) (.tuple ds)
inductive lF (K:Frag) (H:Hp):List V->List WData->Prop
|nil:lF K H [] []
|cons {v:V} {vs:List V} {d:WData} {ds:List WData}:Dw K H v d->lF K H vs ds->lF K H (v::vs) (d::ds)
end
theorem J0{K:Frag}{H:Hp}:∀a:List Int,lF K H (a.map V.int) (a.map WData.int)
|[]=>.nil
|n::r=>.cons (.int n) (J0 r)
theorem J1{K:Frag}{H:Hp}:∀(a:List Int)(xs:List V),lF K H xs (a.map WData.int)->xs=a.map V.int
|[],xs,h=>by
 cases h;rfl
|n::r,xs,h=>by
 cases h with
 |cons b c=>
  cases b;rw[J1 r _ c]<;>rfl
section
variable{P:Program}{w:World}{K:Frag}{H:Hp}{h:Heap}{R:WRecords}{cl:Str->Option Addr}
def Xn{a:Addr}{xs:List V}(d:qw P w H h)(f:K.In h)(q:aV K H a xs):sV λ(b:List Value)(o:Obj)(n:Nat)=>lM (Vals xs b) (h.get? a=some o) (o.cls=.type "list") (o.data=.seq b.toArray n):=by
 rcases q with q|⟨o,b,n,e,hc,_,g,_,c⟩
 .obtain⟨_,b,n,c,e⟩:=(show fQ P w H h a (.lst xs)from q.ok d)
  exact⟨b,_,n,c,e,rfl,rfl⟩
 .exact⟨b.toList,o,n,c,f _ _ e,hc,by simp[g]⟩
def Xo{a:Addr}{xs:List V}(f:qw P w H h)(g:K.In h)(q:dG K H a xs):sV λ(b:List Value)(o:Obj)(n:Nat)=>lM (Vals xs b) (h.get? a=some o) (o.cls=.type "tuple") (o.data=.seq b.toArray n):=by
 rcases q with q|⟨o,b,n,e,hc,c,_,d⟩
 .obtain⟨_,b,d,o,e,hc,n,c⟩:=(show fQ P w H h a (.tup xs)from q.ok f)
  exact⟨b,o,n,d,e,hc,c⟩
 .exact⟨b.toList,o,n,d,g _ _ e,hc,by simp[c]⟩
mutual
theorem Dw.reads(hok:qw P w H h)(KX:K.In h):∀(d:WData)(v:V)(u:Value),Dw K H v d->RelV v u->∃as,ReadsW R cl h u d as
|.none,_,_,x,r=>by
 cases x;cases r;exact⟨_,ReadsW.none⟩
|.bool b,_,_,x,r=>by
 cases x;cases r;exact⟨_,ReadsW.bool b⟩
|.int i,_,_,x,r=>by
 cases x;obtain⟨t,rfl⟩:=r;exact⟨_,ReadsW.int i t⟩
|.str s,_,_,x,r=>by
 cases x;obtain⟨t,rfl⟩:=r;exact⟨_,ReadsW.str s t⟩
|.bytes b,_,_,x,r=>by
 cases x;obtain⟨t,rfl⟩:=r;exact⟨_,ReadsW.bytes _ t⟩
|.list ds,_,_,x,r=>by
 cases x with
 |lst hs ha=>
  cases r;obtain⟨its,o,n,rv,ho,hc,hd⟩:=Xn hok KX hs;obtain⟨as,hr⟩:=Dw.readsAll hok KX ds _ its ha rv;exact⟨_,ReadsW.list ho hc hd hr⟩
|.tuple ds,_,_,x,r=>by
 cases x with
 |tup hs ha=>
  cases r;obtain⟨its,o,n,rv,ho,hc,hd⟩:=Xo hok KX hs;obtain⟨as,hr⟩:=Dw.readsAll hok KX ds _ its ha rv;exact⟨_,ReadsW.tuple ho hc hd hr⟩
|.float _,_,_,x,_=>by cases x
|.dict _,_,_,x,_=>by cases x
|.bytearray _,_,_,x,_=>by cases x
|.set _,_,_,x,_=>by cases x
|.frozenset _,_,_,x,_=>by cases x
|.obj _ _,_,_,x,_=>by cases x
theorem Dw.readsAll (hok:qw P w H h) (KX:K.In h):∀(ds:List WData)(vs:List V)(us:List Value),lF K H vs ds->Vals vs us->∃as,ReadsAllW R cl h us ds as
|[],_,_,x,r=>by
 cases x;cases r;exact⟨_,ReadsAllW.nil⟩
|d::ds,_,_,x,r=>by
 cases x with
 |cons h1 h2=>
  cases r with
  |cons r1 r2=>
   obtain⟨as,q1⟩:=Dw.reads hok KX d _ _ h1 r1;obtain⟨bs,q2⟩:=Dw.readsAll hok KX ds _ _ h2 r2;exact⟨_,ReadsAllW.cons q1 q2⟩
end
end
mutual
def J2:WData->Bool
|.none=>true
|.bool _=>true
|.int _=>true
|.str _=>true
|.bytes _=>true
|.list xs=>ug xs
|.tuple xs=>ug xs
|_=>false
def ug:List WData->Bool
|[]=>true
|x::r=>J2 x&&ug r
end
theorem DK{b:Type}{f:b->WData}(h:∀a,J2 (f a)=true):∀l:List b,ug (l.map f)=true
|[]=>rfl
|x::r=>by
 show(J2 (f x)&&ug (r.map f))=true;rw[h x,DK h r]<;>rfl
theorem mO:∀(c:Codec)(a:c.denote),J2 (c.enc a)=true
|.unit,_=>rfl
|.bool,_=>rfl
|.int _ _,_=>rfl
|.nat _ _,_=>rfl
|.u8,_=>rfl
|.bytes _ _,_=>rfl
|.text _ _ _ _,_=>rfl
|.list _ _ c,a=>DK (λx=>mO c x) a
|.pair c d,a=>by
 show(J2 (c.enc a.1)&&(J2 (d.enc a.2)&&true))=true;rw[mO c a.1,mO d a.2]<;>rfl
|.triple c d e,a=>by
 show(J2 (c.enc a.1)&&(J2 (d.enc a.2.1)&&(J2 (e.enc a.2.2)&&true)))=true;rw[mO c a.1,mO d a.2.1,mO e a.2.2]<;>rfl
|.option c,none=>rfl
|.option c,some x=>mO c x
theorem yO:∀(b:List Codec)(a:Codec.denoteAll b),ug (Codec.encAll b a)=true
|[],_=>rfl
|c::b,a=>by
 show(J2 (c.enc a.1)&&ug (Codec.encAll b a.2))=true;rw[mO c a.1,yO b a.2]<;>rfl
theorem pB:∀{xs:List WData}{d:WData},d∈xs->d.weight<=WData.weightAll xs
|[],d,h=>absurd h (by simp)
|x::r,d,h=>by
 show d.weight<=x.weight+1+WData.weightAll r;rcases aa2.mp h with e|m
 .rw[e]
  grind
 .have z:=pB m
  grind
def toV:Value->V
|.none=>.non
|.bool b=>.bl b
|.int i _=>.int i
|.str x _=>.str x
|.bytes b _=>.uc b
|.ref a=>.ref a
|_=>.non
def MJ(A:List Addr):Value->Prop
|.none=>True
|.bool _=>True
|.int _ _=>True
|.str _ _=>True
|.bytes _ _=>True
|.ref a=>a∈A
|_=>False
def MJ.mono{A B:List Addr}(h:∀a∈A,a∈B):∀{u:Value},MJ A u->MJ B u:=λ{u} x=>by
 cases u with
 |ref a=>exact h a x
 |none=>trivial
 |bool b=>trivial
 |int i t=>trivial
 |str s t=>trivial
 |bytes b t=>trivial
 |_=>exact False.elim x
def Qp{A:List Addr}{u:Value}(x:MJ A u):RelV (toV u) u:=by
 cases u with
 |ref a=>rfl
 |none=>rfl
 |bool b=>rfl
 |int i t=>exact⟨t,rfl⟩
 |str s t=>exact⟨t,rfl⟩
 |bytes b t=>exact⟨t,rfl⟩
 |_=>exact False.elim x
theorem jT{A:List Addr}:∀{vs:List Value},(∀u∈vs,MJ A u)->Vals (vs.map toV) vs
|[],_=>.nil
|u::r,h=>.cons (Qp (h u (aa0 ..))) (jT λx a=>h x (aaX _ a))
def lG(h:Heap)(A:List Addr)(a:Addr):Prop:=∃vs:List Value,dF (vs.length<=sizeLine) (∀u∈vs,MJ A u) (h.get? a=some {cls:=.type "list",data:=.seq vs.toArray}\/h.get? a=some {cls:=.type "tuple",data:=.seq vs.toArray})
theorem lG.mono{h:Heap}{A B:List Addr}{a:Addr}(k:∀a∈A,a∈B)(x:lG h A a):lG h B a:=by
 obtain⟨vs,b,c,d⟩:=x;exact⟨vs,b,λu hu=>(c u hu).mono k,d⟩
theorem ju{P:Params}{h:Heap}:∀{vs:List Value}{ds:List WData},WellAll P h vs ds->vs.length=ds.length
|_,_,.nil=>rfl
|_,_,.cons _ b=>by
 show _+1=_+1;rw[ju b]
def yP{P:Params}{h:Heap}{v:Value}{ds:List WData}(x:Well P h v (.list ds)):Ex2 λ(a:Addr)(vs:List Value)=>dF (v=.ref a) (h.get? a=some {cls:=.type "list",data:=.seq vs.toArray}) (WellAll P h vs ds):=by
 cases x with
 |list c b=>exact⟨_,_,rfl,c,b⟩
def vX{P:Params}{h:Heap}{v:Value}{ds:List WData}(x:Well P h v (.tuple ds)):Ex2 λ(a:Addr)(vs:List Value)=>dF (v=.ref a) (h.get? a=some {cls:=.type "tuple",data:=.seq vs.toArray}) (WellAll P h vs ds):=by
 cases x with
 |tuple c b=>exact⟨_,_,rfl,c,b⟩
def yQ{P:Params}{h:Heap}{us:List Value}{d:WData}{ds:List WData}(x:WellAll P h us (d::ds)):Ex2 λ(v:Value)(vs:List Value)=>dF (us=v::vs) (Well P h v d) (WellAll P h vs ds):=by
 cases x with
 |cons a b=>exact⟨_,_,rfl,a,b⟩
def J3{n:Nat}(h:n<=1048576):n<=sizeLine:=abJ h (by decide)
section
variable{P:Params}{h:Heap}
mutual
theorem Qq:∀(d:WData)(v:Value),Well P h v d->J2 d=true->d.weight<=1048576->∃A:List Addr,MJ A v/\∀a∈A,lG h A a
|.none,_,x,_,_=>by
 cases x;exact⟨[],trivial,λa m=>absurd m (by simp)⟩
|.bool b,_,x,_,_=>by
 cases x;exact⟨[],trivial,λa m=>absurd m (by simp)⟩
|.int i,_,x,_,_=>by
 cases x;exact⟨[],trivial,λa m=>absurd m (by simp)⟩
|.str s,_,x,_,_=>by
 cases x;exact⟨[],trivial,λa m=>absurd m (by simp)⟩
|.bytes b,_,x,_,_=>by
 cases x;exact⟨[],trivial,λa m=>absurd m (by simp)⟩
|.list ds,_,x,p,z=>by
 obtain⟨a,vs,rfl,ho,hall⟩:=yP x;have z2:WData.weightAll ds<=1048576:=z;obtain⟨A,h1,h2⟩:=qH ds _ hall p λd hd=>abJ (pB hd) z2;have k:∀b∈A,b∈a::A:=λb hb=>aaX _ hb;refine⟨a::A,aa0 ..,λb hb=>?_⟩;rcases aa2.mp hb with e|m
 .rw[e]
  exact⟨vs,J3 (by rw[ju hall];exact abJ (afZ ds) z2),λu hu=>(h1 u hu).mono k,.inl ho⟩
 .exact(h2 b m).mono k
|.tuple ds,_,x,p,z=>by
 obtain⟨a,vs,rfl,ho,hall⟩:=vX x;have z2:WData.weightAll ds<=1048576:=z;obtain⟨A,h1,h2⟩:=qH ds _ hall p λd hd=>abJ (pB hd) z2;have k:∀b∈A,b∈a::A:=λb hb=>aaX _ hb;refine⟨a::A,aa0 ..,λb hb=>?_⟩;rcases aa2.mp hb with e|m
 .rw[e]
  exact⟨vs,J3 (by rw[ju hall];exact abJ (afZ ds) z2),λu hu=>(h1 u hu).mono k,.inr ho⟩
 .exact(h2 b m).mono k
|.float _,_,_,p,_=>Bool.noConfusion (show false=true from p)
|.dict _,_,_,p,_=>Bool.noConfusion (show false=true from p)
|.bytearray _,_,_,p,_=>Bool.noConfusion (show false=true from p)
|.set _,_,_,p,_=>Bool.noConfusion (show false=true from p)
|.frozenset _,_,_,p,_=>Bool.noConfusion (show false=true from p)
|.obj _ _,_,_,p,_=>Bool.noConfusion (show false=true from p)
theorem qH:∀(ds:List WData)(vs:List Value),WellAll P h vs ds->ug ds=true->(∀d∈ds,d.weight<=1048576)->∃A:List Addr,(∀u∈vs,MJ A u)/\∀a∈A,lG h A a
|[],_,x,_,_=>by
 cases x;exact⟨[],λu m=>absurd m (by simp),λa m=>absurd m (by simp)⟩
|d::ds,_,x,p,z=>by
 obtain⟨v,vs,rfl,x1,x2⟩:=yQ x;have q:J2 d=true/\ug ds=true:=adV.mp p;obtain⟨A,a1,a2⟩:=Qq d v x1 q.1 (z d (aa0 ..));obtain⟨B,b1,b2⟩:=qH ds vs x2 q.2 λe he=>z e (aaX _ he);have kA:∀b∈A,b∈A++B:=λb hb=>aa4.mpr (.inl hb);have kB:∀b∈B,b∈A++B:=λb hb=>aa4.mpr (.inr hb);refine⟨A++B,λu hu=>?_,λb hb=>?_⟩
 .rcases aa2.mp hu with e|m
  .rw[e]
   exact a1.mono kA
  .exact(b1 u m).mono kB
 .rcases aa4.mp hb with m|m
  .exact(a2 b m).mono kA
  .exact(b2 b m).mono kB
end
end
def Ue(o:Obj):Option HO:=match o.data with
|.seq vs _=>if(o.cls==Value.type "list")=true then some (.xq o (.lst (vs.toList.map toV)))else some (.xq o (.tup (vs.toList.map toV)))
|_=>none
def kZ(K:Frag)(h:Heap)(A:List Addr):Hp:=λb=>if b∈A then(if(K.lookup b).isNone=true then(h.get? b).bind Ue else none)else none
def DN(H:Hp):Prop:=∀b,H b=none\/Ex2 λo u=>H b=some (.xq o u)
def DP(vs:List Value):Ue {cls:=.type "list",data:=.seq vs.toArray}=some (.xq {cls:=.type "list",data:=.seq vs.toArray} (.lst (vs.map toV))):=by
 show(if(Value.type "list"==Value.type "list")=true then some (HO.xq {cls:=.type "list",data:=.seq vs.toArray} (.lst (vs.toArray.toList.map toV)))else some (HO.xq {cls:=.type "list",data:=.seq vs.toArray} (.tup (vs.toArray.toList.map toV))))=_;rw[aaU (beq_self_eq_true _)]
def DQ(vs:List Value):Ue {cls:=.type "tuple",data:=.seq vs.toArray}=some (.xq {cls:=.type "tuple",data:=.seq vs.toArray} (.tup (vs.map toV))):=by
 show(if(Value.type "tuple"==Value.type "list")=true then some (HO.xq {cls:=.type "tuple",data:=.seq vs.toArray} (.lst (vs.toArray.toList.map toV)))else some (HO.xq {cls:=.type "tuple",data:=.seq vs.toArray} (.tup (vs.toArray.toList.map toV))))=_;rw[aaz (by decide)]
section
variable{P:Program}{w:World}{K:Frag}{h:Heap}{A:List Addr}
def uF{b:Addr}{o:Obj}(a:b∈A)(c:K.lookup b=none)(e:h.get? b=some o):kZ K h A b=Ue o:=by
 unfold kZ;rw[aaU a,c,aaU (show(none:Option Obj).isNone=true from rfl),e]<;>rfl
def Ug{b:Addr}{u:HO}(q:kZ K h A b=some u):b∈A/\K.lookup b=none:=by
 unfold kZ at q;by_cases a:b∈A
 .rw[aaU a]at q
  cases hk:K.lookup b with
  |none=>exact⟨a,rfl⟩
  |some o=>
   rw[hk,aaz (by simp)]at q;cases q
 .rw[aaz a]at q
  cases q
def uG(f:∀a∈A,lG h A a){b:Addr}{u:HO}(q:kZ K h A b=some u):K.lookup b=none/\∃vs:List Value,dF (vs.length<=sizeLine) (∀u∈vs,MJ A u) ((h.get? b=some {cls:=.type "list",data:=.seq vs.toArray}/\u=.xq {cls:=.type "list",data:=.seq vs.toArray} (.lst (vs.map toV)))\/
   (h.get? b=some {cls:=.type "tuple",data:=.seq vs.toArray}/\u=.xq {cls:=.type "tuple",data:=.seq vs.toArray} (.tup (vs.map toV)))):=by
 obtain⟨c,d⟩:=Ug q;obtain⟨vs,g,j,k⟩:=f b c;refine⟨d,vs,g,j,?_⟩;rcases k with e|e
 .rw[uF c d e,DP]at q
  exact .inl ⟨e,(abk q).symm⟩
 .rw[uF c d e,DQ]at q
  exact .inr ⟨e,(abk q).symm⟩
def MK(c:∀a∈A,lG h A a):DN (kZ K h A):=λb=>by
 cases q:kZ K h A b with
 |none=>exact .inl rfl
 |some u=>
  obtain⟨_,vs,_,_,⟨_,e⟩|⟨_,e⟩⟩:=uG c q
  .exact .inr ⟨_,_,by rw[e]⟩
  .exact .inr ⟨_,_,by rw[e]⟩
def Uh(f:∀a∈A,lG h A a):qw P w (kZ K h A) h:=λb u q=>by
 obtain⟨_,vs,c,d,⟨e,rfl⟩|⟨e,rfl⟩⟩:=uG f q
 .exact⟨e,by rw[aac];exact c,vs,_,jT d,e⟩
 .exact⟨e,by rw[aac];exact c,vs,jT d,_,e,rfl,_,rfl⟩
def uH{c a:Value}{vs us:List Value}(e:(some {cls:=c,data:=.seq vs.toArray}:Option Obj)=some {cls:=a,data:=.seq us.toArray}):c=a/\vs=us:=by
 have b:=abk e;have d:c=a:=congrArg Obj.cls b;have f:Data.seq vs.toArray=Data.seq us.toArray:=congrArg Obj.data b;injection f with g;refine⟨d,?_⟩;have j:=congrArg Array.toList g;simpa using j
def abZ(f:K.In h)(g:∀a∈A,lG h A a){a:Addr}{vs:List Value}(b:a∈A)(e:h.get? a=some {cls:=.type "list",data:=.seq vs.toArray}):(∀u∈vs,MJ A u)/\aV K (kZ K h A) a (vs.map toV):=by
 obtain⟨us,j,c,k⟩:=g a b;have hu:us=vs:=by
  rcases k with q|q
  .rw[e]at q
   exact(uH q).2.symm
  .rw[e]at q
   exact absurd (Value.type.inj (uH q).1) (by decide)
 subst hu;refine⟨c,?_⟩;cases hk:K.lookup a with
 |none=>exact .inl (.inr ⟨_,by rw[uF b hk e,DP]⟩)
 |some o=>
  have d:=f a o hk;rw[e]at d;obtain rfl:=abk d;exact .inr ⟨_,us.toArray,_,hk,rfl,rfl,rfl,by rw[abd];exact j,by simpa using jT c⟩
def ab0(f:K.In h)(g:∀a∈A,lG h A a){a:Addr}{vs:List Value}(b:a∈A)(e:h.get? a=some {cls:=.type "tuple",data:=.seq vs.toArray}):(∀u∈vs,MJ A u)/\dG K (kZ K h A) a (vs.map toV):=by
 obtain⟨us,j,c,k⟩:=g a b;have hu:us=vs:=by
  rcases k with q|q
  .rw[e]at q
   exact absurd (Value.type.inj (uH q).1) (by decide)
  .rw[e]at q
   exact(uH q).2.symm
 subst hu;refine⟨c,?_⟩;cases hk:K.lookup a with
 |none=>exact .inl (.inr ⟨_,by rw[uF b hk e,DQ]⟩)
 |some o=>
  have d:=f a o hk;rw[e]at d;obtain rfl:=abk d;exact .inr ⟨_,us.toArray,_,hk,rfl,rfl,by rw[abd];exact j,by simpa using jT c⟩
mutual
theorem Xp{Pm:Params}(KX:K.In h)(ar:∀a∈A,lG h A a):∀(d:WData)(v:Value),Well Pm h v d->J2 d=true->MJ A v->Dw K (kZ K h A) (toV v) d
|.none,_,x,_,_=>by
 cases x;exact .non
|.bool b,_,x,_,_=>by
 cases x;exact .bl b
|.int i,_,x,_,_=>by
 cases x;exact .int i
|.str s,_,x,_,_=>by
 cases x;exact .str s
|.bytes b,_,x,_,_=>by
 cases x;have z:=Dw.uc (K:=K) (H:=kZ K h A) b.toArray;exact z
|.list ds,_,x,p,hu=>by
 obtain⟨a,vs,rfl,ho,hall⟩:=yP x;obtain⟨h2,hs⟩:=abZ KX ar hu ho;exact .lst hs (Aq KX ar ds _ hall p h2)
|.tuple ds,_,x,p,hu=>by
 obtain⟨a,vs,rfl,ho,hall⟩:=vX x;obtain⟨h2,hs⟩:=ab0 KX ar hu ho;exact .tup hs (Aq KX ar ds _ hall p h2)
|.float _,_,_,p,_=>Bool.noConfusion (show false=true from p)
|.dict _,_,_,p,_=>Bool.noConfusion (show false=true from p)
|.bytearray _,_,_,p,_=>Bool.noConfusion (show false=true from p)
|.set _,_,_,p,_=>Bool.noConfusion (show false=true from p)
|.frozenset _,_,_,p,_=>Bool.noConfusion (show false=true from p)
|.obj _ _,_,_,p,_=>Bool.noConfusion (show false=true from p)
theorem Aq {Pm:Params} (KX:K.In h) (ar:∀a∈A,lG h A a):∀(ds:List WData)(vs:List Value),WellAll Pm h vs ds->ug ds=true->(∀u∈vs,MJ A u)->lF K (kZ K h A) (vs.map toV) ds
|[],_,x,_,_=>by
 cases x;exact .nil
|d::ds,_,x,p,hu=>by
 obtain⟨v,vs,rfl,x1,x2⟩:=yQ x;have q:J2 d=true/\ug ds=true:=adV.mp p;exact .cons (Xp KX ar d v x1 q.1 (hu _ (aa0 ..))) (Aq KX ar ds vs x2 q.2 λu m=>hu u (aaX _ m))
end
end
def MN{P:Program}{w:World}{K:Frag}{mg C:Str->Option Value}{CX:P_}{k:Nat}{T:Addr}{U:FuncData}{ps:List Str}{sp:Sp}{a:Shared}{f:List Value}{ds:List WData}{R:WRecords}{cl:Str->Option Addr}{d0:WData}
  (D:K.In a.heap)(M:a.heap.Ns mainGlobals mg)(E:a.heap.Ns builtinsNs C)(hbb:∀x:Str,x≠"__name__"->C x=bootBuiltins x)(hlim:a.heap.NoLimit)(hg:a.gens=#[])
  (y:WellAll w.params a.heap f ds)(N:ug ds=true)(hwt:∀d∈ds,d.weight<=1048576)(hr:bI k callerA)
  (F:∀base:Heap,K.In base->base.Ns mainGlobals mg->i_ P w K mg base CX k T U ps sp)(hbind:∀(s:Shared)(us:List Value),us.length=ps.length->BindsTo s U ⟨us,[]⟩ (ps.zip us))(hlen:ds.length=ps.length)
  (hsp:∀(H:Hp)(xs:List V),DN H->lF K H xs ds->sp xs H (λv Y=>Dw K Y v d0) λ_ _ _=>False)
  (hCX:∀H e c,CX [] H a (λ_ _ _=>False) e c->False):
  codeAny (model P w) callerA (.call (.ref T) ⟨f,[]⟩) (λr c=>Ex2 λu as=>xZ (r=.ok (.ret u)) (ReadsW R cl c.heap u d0 as) (OldK a.heap c.heap) (c.os=a.os) (AllBare c.gens)) a:=by
 obtain⟨A,ho,l⟩:=qH ds f y N hwt;have I:DN (kZ K a.heap A):=MK l;have B:qw P w (kZ K a.heap A) a.heap:=Uh l;have hS:=Aq D l ds f y N ho;have hV:=jT ho;have hK:∀b u,kZ K a.heap A b=some u->K.lookup b=none:=λb u q=>(uG l q).1;have O:∀{b:Addr}{o:Obj}{g:Array DictEntry}{j:Nat},a.heap.get? b=some o->o.data=.dict g j->kZ K a.heap A b=none:=λ{b o g j} e d=>by
  cases q:kZ K a.heap A b with
  |none=>rfl
  |some u=>
   obtain⟨_,vs,_,_,⟨p,_⟩|⟨p,_⟩⟩:=uG l q
   .rw[p]at e
    cases e;have d':Data.seq vs.toArray _=Data.dict g j:=d;cases d'
   .rw[p]at e
    cases e;have d':Data.seq vs.toArray _=Data.dict g j:=d;cases d'
 generalize kZ K a.heap A=H at I B hS hK O;have J:∀{b:Addr}{o:Obj},a.heap.get? b=some o->H b=none->(z_ a.heap H).get? b=some o:=λe n=>Pk e n;have t:∀{b:Addr}{m:Str->Option Value},a.heap.Ns b m->(z_ a.heap H).Ns b m:=λ{b m} ⟨o,g,j,e,d,r⟩=>⟨o,g,j,J e (O e d),d,r⟩;have nK:∀b o,K.lookup b=some o->H b=none:=λb o e=>by
  cases q:H b with
  |none=>rfl
  |some u=>
   rw[hK b u q]at e;cases e
 have Q:K.In (z_ a.heap H):=λb o e=>J (D b o e) (nK b o e);have hM:Mod K mg (z_ a.heap H):=⟨Q,t M,⟨C,t E,hbb⟩,let⟨mc,h1,h2⟩:=hlim;⟨mc,t h1,h2⟩⟩
 have e0:Hj P w K mg (z_ a.heap H) callerA [] a H:=⟨rfl,hM,λb o e=>TX e,agW (Mi _ _),trivial,λb E=>absurd (show b∈([]:List Addr)from E) (by simp),B,.of_eq hg⟩;have hl:f.length=ps.length:=by rw[ju y];exact hlen
 refine aft ((F _ Q (t M)).run callerA [] a H ⟨f,[]⟩ f (f.map toV) _ _ hr e0 (hbind a f hl) hV (hsp H _ I hS)) λr c x=>?_;cases r with
 |error e=>exact(hCX H e c x).elim
 |ok fl=>
  cases fl with
  |next=>exact False.elim x
  |brk=>exact False.elim x
  |cont=>exact False.elim x
  |ret u=>
   obtain⟨v,Y,os,bare,un,L,r',q⟩:=x;have kept:∀b o,a.heap.get? b=some o->c.heap.get? b=some o:=λb o e=>by
    cases q2:H b with
    |none=>exact un.keep b o e q2 (by intro z;exact absurd (show b∈([]:List Addr)from z) (by simp)) (by simp)
    |some u2=>
     rcases I b with z|⟨ob,u3,z⟩
     .rw[q2]at z
      cases z
     .have z2:=un.z9 b ob _ z
      obtain⟨e1,_⟩:=B b _ z;obtain⟨p,_⟩:=L b _ z2;rw[e]at e1;cases e1;exact p
   have KX':K.In c.heap:=λb o e=>kept b o (D b o e);obtain⟨as,hrd⟩:=Dw.reads (R:=R) (cl:=cl) L KX' d0 v u q r';exact⟨u,as,rfl,hrd,OldK.of_keep kept,os,bare⟩
def vY{ds:List WData}(h:WData.layableAll ds=true):∀d∈ds,d.weight<=1048576:=λd a=>
 (PySem.W.layableW_iff.mp (aeH.mp h d a)).2.2
theorem vZ:∀(b:List Codec)(a:Codec.denoteAll b),(Codec.encAll b a).length=b.length
|[],_=>rfl
|c::b,a=>by
 show(Codec.encAll b a.2).length+1=b.length+1;rw[vZ b a.2]
def MP{r:OpenSpec}{k:Nat}{q:Program}{n:List Str}{J:(Str->Option Value)->Heap->Prop}{g:World->Heap->Prop}{d:DefRec}{K:Params->Frag}{CX:World->P_}{ps:List Str}{sp:World->Sp}
  (p:r.wellSaid=true)(hdf:d.params.defaults=[])(t:r.args.length=ps.length)(L:bI k callerA)
  (M:∀(w:World)(h:Heap),g w h->(K w.params).In h)
  (F:∀(w:World)(mg:Str->Option Value)(b:Addr)(h:Heap),g w h->(K w.params).In h->h.Ns mainGlobals mg->mg d.name=some (.ref b)->
   ∃j:FuncData,(∀(s:Shared)(us:List Value),us.length=ps.length->BindsTo s j ⟨us,[]⟩ (ps.zip us))/\
    ∀base:Heap,(K w.params).In base->base.Ns mainGlobals mg->i_ r.prog w (K w.params) mg base (CX w) k b j ps (sp w))
  (B:∀(w:World)(H:Hp)(xs:List V)(a:Codec.denoteAll r.args),DN H->Codec.withinAll r.args a=true->Codec.app r.args r.asked a=true->lF (K w.params) H xs (Codec.encAll r.args a)->
   sp w xs H (λv N=>Dw (K w.params) N v (r.ret.enc (Codec.app r.args r.f a))) λ_ _ _=>False)
  (C:∀(w:World)(H:Hp)(s:Shared)(e:Value)(c:Shared),CX w [] H s (λ_ _ _=>False) e c->False):
  WalkOS q n J g r d [] (λf vs=>PySem.call f vs):=by
 intro w s_0 x mg mb G Y b o pm cd doc dV kV ho hd hcd hD D O args vals as y A hrd E hlo;obtain⟨a,Q,T⟩:=PySem.W.os_pre_some y;obtain⟨U,l⟩:=Codec.encAll_of_decAll r.args args a Q;subst U;have m:=M w _ Y;obtain⟨j,hb,hF⟩:=F w mg b _ Y m G.T.g D;refine PySem.W.enter_call (aft (MN (R:=[]) (cl:=classAt s_0.heap) (d0:=r.ret.enc (Codec.app r.args r.f a)) m G.T.g G.T.b G.T.builtins G.T.nolimit O E (yO _ _) (vY A) L hF hb (by rw[vZ];exact t)
  (λH xs hO hS=>B w H xs a hO l T hS) λH e c=>C w H x e c) λr' c hq=>?_)
 obtain⟨u,I,rfl,h1,h2,h3,h4⟩:=hq;exact⟨.inl ⟨u,_,I,rfl,λ_=>rfl,h1,(OpenSpec.post_iff p l _ _).mpr rfl,λz=>Bool.noConfusion (show false=true from z)⟩,h2,h3,h4⟩
def Hw{r:OpenSpec}{k:Nat}{q:Program}{l:List Str}{u:(Str->Option Value)->Heap->Prop}{b:World->Heap->Prop}{d:DefRec}{K:Params->Frag}{CX:P_}{ps:List Str}{sp:Frag->Sp}
  (m:r.wellSaid=true)(o:d.params.defaults=[])(n:r.args.length=ps.length)(x:bI k callerA)
  (y:∀(w:World)(h:Heap),b w h->(K w.params).In h)
  (F:∀(w:World)(mg:Str->Option Value)(g:Addr)(h:Heap),b w h->(K w.params).In h->h.Ns mainGlobals mg->mg d.name=some (.ref g)->
   ∃j:FuncData,(∀(s:Shared)(us:List Value),us.length=ps.length->BindsTo s j ⟨us,[]⟩ (ps.zip us))/\
    ∀base:Heap,(K w.params).In base->base.Ns mainGlobals mg->i_ r.prog w (K w.params) mg base CX k g j ps (sp (K w.params)))
  (p:∀(K:Frag)(H:Hp)(xs:List V)(a:Codec.denoteAll r.args),DN H->Codec.withinAll r.args a=true->Codec.app r.args r.asked a=true->lF K H xs (Codec.encAll r.args a)->
   sp K xs H (λv z=>Dw K z v (r.ret.enc (Codec.app r.args r.f a))) λ_ _ _=>False)
  (t:∀(H:Hp)(s:Shared)(e:Value)(c:Shared),CX [] H s (λ_ _ _=>False) e c->False):
  WalkOS q l u b r d [] (λf vs=>PySem.call f vs):=MP (K:=K) (CX:=λ_=>CX) (sp:=λw=>sp (K w.params)) m o n x y F (λw H xs a A B C D=>p (K w.params) H xs a A B C D) λ_ H s e c=>t H s e c
end L2
end
namespace L2
open PySem PySem.Spec PyProof.Rows MR
section
variable{X:Cx}{pins:List (Addr×Obj)}{σ:St}{H:Hp}{s:Shared}
def Ui(prog:Program)(w:World)(p:Addr)(xs:List (List Int×Addr)):HO:=.ext λh=>Ft λo a b t=>TSO w h p o a b t/\a.toList=xs.map (ent prog w)
theorem mQ{prog:Program}{w:World}:∀{k:List Int}{us:List Value},Vals (k.map V.int) us->ItemsAre (intKind prog w) k us
|[],_,.nil=>.nil
|n::k,_,.cons ⟨t,e⟩ r=>by
 subst e;exact .cons (intKind_is _ _ _ _) (mQ r)
def Inv.isT(I:Inv X pins σ H s){b:Addr}{k:List Int}(h:dG X.K H b (k.map V.int)):IsT X.prog X.w s.heap k b:=by
 obtain⟨a,r,⟨o,e,c,n,d⟩,_⟩:=I.tuple h;exact⟨o,a.toArray,n,e,c,d,by simpa using mQ r⟩
theorem yR:∀{ks:List (List Int×Addr)}{us:List Value},Vals (ks.map λx=>V.ref x.2) us->us=ks.map λx=>Value.ref x.2
|[],_,.nil=>rfl
|x::ks,_,.cons r t=>by
 cases r;rw[yR t];rfl
theorem rM:∀(ks:List (List Int×Addr)),Vals (ks.map λx=>V.ref x.2) (ks.map λx=>Value.ref x.2)
|[]=>.nil
|x::ks=>.cons rfl (rM ks)
inductive Vz(prog:Program)(w:World)(K:Frag)(vs:List V)(H:Hp)(Q:VK):Prop
|mk (a:Addr) (ks:List (List Int×Addr)) (_:vs=[V.ref a]) (_:aV K H a (ks.map λx=>V.ref x.2)) (_:∀x∈ks,dG K H x.2 (x.1.map V.int)) (_:ks.length<2000) (_:∀(p:Addr)(xs:List (List Int×Addr)),H p=none->(∀x∈xs,x∈ks)->(∀k,k∈xs.map (·.1)↔k∈ks.map (·.1))->(xs.map (·.1)).Nodup->Q (.ref p) (upd H p (Ui prog w p xs)))
def Uj(hc:X.calm=true)(hu:X.A.units+5<cLine):iW X (.type "set") (Vz X.prog X.w X.K):=by
 intro pins s σ H vs us Q I r h;obtain⟨a,ks,rfl,hs,l,m,q⟩:=h;obtain⟨B,n,p,_⟩:=I.list hs;rw[Vals.Hr r];have f:=yR n;refine tY (prog:=X.prog) (w:=X.w) (ks:=ks) (I.ok.hd hc) hu p.isList (by simpa using f) (λx v=>I.isT (l x v)) (by rw[f];simpa using m) λh' tk xs T j y g=>?_;obtain⟨o,c,d,t,T⟩:=T;have A:TSO X.w h' s.heap.objs.size o c d t:=⟨T.ob,T.ex,T.da,T.tab,T.low,T.plain,T.led⟩;refine⟨.ref _,upd H s.heap.objs.size (Ui X.prog X.w s.heap.objs.size xs),I.laid (t':=tk) (λb u e=>g b u (aa_ e) e) (aaS _) ⟨⟨o,c,d,t,A,T.ents⟩,⟨o,T.ob⟩,λC D ⟨o,c,d,t,T,e⟩ k=>⟨o,c,d,t,T.at λo z=>k o z,e⟩⟩,rfl,q _ xs (I.hok.fresh (aaS _)) j y T.nd⟩
inductive DR(prog:Program)(w:World)(K:Frag)(vs:List V)(H:Hp)(Q:VK):Prop
|mk (p:Addr) (xs:List (List Int×Addr)) (_:vs=[V.ref p]) (_:H p=some (Ui prog w p xs)) (_:∀x∈xs,dG K H x.2 (x.1.map V.int)) (_:(xs.map (·.1)).Nodup) (_:∀x∈xs,x.1≠[]) (_:xs.length<2000) (_:∀(q:Addr)(ys:List (List Int×Addr)),H q=none->ys.Perm xs->(ys.map (·.1)).Pairwise (λa b=>rB a b=true)->Q (.ref q) (upd H q (.lst (ys.map λx=>V.ref x.2))))
def Hx(hc:X.calm=true):iW X (.builtin "sorted") (DR X.prog X.w X.K):=by
 intro pins s σ H vs us Q I r h;obtain⟨p,xs,rfl,d,f,g,j,m,q⟩:=h;rw[Vals.Hr r];obtain⟨⟨o,u,v,t,T,e⟩,_,_⟩:=I.hok p _ d;refine Gm (prog:=X.prog) (w:=X.w) (I.ok.hd hc) T e (λx k=>I.isT (f x k)) g j λh' tk a n ys hsz b hs c l=>?_;refine⟨.ref a,upd H a (.lst (ys.map λx=>V.ref x.2)),I.laid (t':=tk) l hsz ⟨?_,_,n,rM ys,c⟩,rfl,q a ys (I.hok.fresh hsz) b hs⟩;rw[aac,b.length_eq,aa1];grind
end
def kvI(a:List (Int×Int)):List (Key×V):=a.map λx=>(Sum.inl x.1,V.int x.2)
def KD(P:Program)(w:World)(K:Frag)(a:Addr)(b:List (Int×Int)):Prop:=∀h:Heap,K.In h->(a==sysModules)=false/\∃vs,KV (kvI b) vs/\h.DictOf (h_ P w) a vs
end L2
namespace CL
open PySem PySem.Spec PyProof.Rows L2 MR Vaneta
def top(i:Nat):Stmt:=PySem.Challenge.pw_countedlogic_s01_answers.main.body.getD i (.Pass ⟨0,0,0,0⟩)
def KT(K:Frag)(a:Addr)(xs:List V):Prop:=sV λ(o:Obj)(b:Array Value)(n:Nat)=>xZ (K.lookup a=some o) (o.cls=.type "tuple") (o.data=.seq b n) (b.size<=sizeLine) (Vals xs b.toList)
def GI(mg:Str->Option Value)(x:Str)(k:Int):Prop:=∃t,mg x=some (.int k t)
abbrev ii(n:List Int):List V:=n.map V.int
def GT(mg:Str->Option Value)(K:Frag)(x:Str)(xs:List V):Prop:=∃a,mg x=some (.ref a)/\KT K a xs
abbrev eV:List (Int×Int):=[(42,0),(124,1),(38,2),(43,3)]
abbrev Ar:List (Int×Int):=[(33,4),(63,5)]
def GD(P:Program)(w:World)(mg:Str->Option Value)(K:Frag)(x:Str)(b:List (Int×Int)):Prop:=∃a,mg x=some (.ref a)/\KD P w K a b
def GSh(mg:Str->Option Value)(K:Frag)(sh:List (Nat×Nat)):Prop:=Ex2 λa b=>dF (mg "SHAPES"=some (.ref a)) (KT K a b) (Paired (λ(v:V)(s:Nat×Nat)=>∃e,v=.ref e/\KT K e [.int (s.1:Int),.int (s.2:Int)]) b sh)
def ZF:List (Nat×Nat):=[(1,1),(1,0),(2,0),(1,1),(1,0),(1,0),(4,0),(1,2),(3,1),(1,1),(1,0),(2,0),(2,0),(0,1),(0,2)]
structure Blt(mg:Str->Option Value):Prop where
 len:mg "len"=none
 all:mg "all"=none
structure Blt2(mg:Str->Option Value):Prop extends Blt mg where
 sorted:mg "sorted"=none
 set:mg "set"=none
 range:mg "range"=none
 max:mg "max"=none
 reversed:mg "reversed"=none
 list:mg "list"=none
 tuple:mg "tuple"=none
 sum:mg "sum"=none
structure Blt3(mg:Str->Option Value):Prop extends Blt2 mg where
 enumerate:mg "enumerate"=none
 zip:mg "zip"=none
abbrev rd(j:Nat):Stmt:=inClass (top 57) j
structure Txt(K:Frag)(mg:Str->Option Value)(C:Addr):Prop where
 cl:Cls K C
 nW:mC K C "waiting"
 nE:mC K C "ended"
 mgC:mg "Reading"=some (.ref C)
def Df(K:Frag)(mg:Str->Option Value)(x:Str)(st:Stmt):Prop:=Ex2 λf a=>JZ K x x st f a/\mg x=some (.ref f)
def Mf(K:Frag)(C:Addr)(x q:Str)(st:Stmt):Prop:=Ex2 λf a=>JZ K x q st f a/\Meth K C x f
def Nf(K:Frag)(C:Addr):Prop:=Ex2 λf a=>JZ K "__init__" "Reading.__init__" (rd 0) f a/\Mk K C f
def GC(mg:Str->Option Value)(K:Frag)(l:List Str):Prop:=Ex2 λa b=>dF (mg "CALLS"=some (.ref a)) (KT K a b) (Paired (λ(v:V)(x:Str)=>∃f,v=.ref f/\mg x=some (.ref f)) b l)
structure Hy(P:Program)(w:World)(K:Frag)(mg:Str->Option Value)(C:Addr)(base:Heap):Prop where
 qI:GI mg "BLANK" 32
 jE:GD P w mg K "CHAIN_KINDS" eV
 rN:GI mg "CLOSING" 41
 J4:GI mg "COMMA" 44
 Hz:GI mg "DASH" 45
 Av:GT mg K "DUAL_KINDS" (ii [1,0,3,2,5,4,7,6])
 Aw:GT mg K "FIRST_NAME" (ii [97])
 lH:GI mg "HOW_MANY_HELD" 10
 Ax:GT mg K "KIND_SIGNS" (ii [42,124,38,43,33,63])
 v7:GI mg "LONGEST_NAME" 12
 v8:GI mg "LONGEST_TEXT" 2000
 Ay:GI mg "MOST_ATOMS" 60
 Az:GI mg "MOST_DEPTH" 40
 uh:GI mg "MOST_FORMULAS" 20
 pC:GI mg "MOST_NAMES_TRIED" 12
 A_:GI mg "MOST_NODES" 200
 DW:GI mg "MOST_OPEN" 100
 pD:GI mg "MOST_TABLE_NAMES" 8
 cD:GI mg "NOT_OF_ITS_KIND" (-1)
 jF:GI mg "NOT_REFUSED" 0
 M4:GI mg "NO_SIGN" 0
 bx:GI mg "NO_SUCH_FORMULA" (-2)
 um:GI mg "NO_SUCH_PLACE" (-4)
 nO:GI mg "OPENING" 40
 iG:GI mg "OUT_OF_BOUNDS" (-5)
 Qs:GI mg "PAR" 1
 cJ:GT mg K "PART_COUNTS" (ii [2,2,2,2,1,1,0,0])
 jw:GI mg "PLAIN" 6
 Xq:GI mg "PLUS" 3
 jd:GD P w mg K "PREFIX_KINDS" Ar
 M5:GI mg "SMALL_O" 111
 qJ:GI mg "TENSOR" 0
 uI:GI mg "TILDE" 126
 rO:GI mg "TOO_MANY_NAMES" (-7)
 je:GI mg "TURNED" 7
 yS:GI mg "WHY_NOT" 5
 Xr:GI mg "WITH" 2
 gsh:GSh mg K ZF
 B:Blt3 mg
 T:Txt K mg C
 d0:Df K mg "is_small_letter" (top 37)
 d1:Df K mg "is_name_byte" (top 38)
 d2:Df K mg "is_name" (top 39)
 d3:Df K mg "plain_atom" (top 17)
 d4:Df K mg "of_two" (top 18)
 d5:Df K mg "of_one" (top 19)
 d6:Df K mg "dual_of" (top 20)
 d7:Df K mg "renamed" (top 21)
 d8:Df K mg "kind_count" (top 23)
 d9:Df K mg "name_count" (top 25)
 d10:Df K mg "atom_count" (top 24)
 d11:Df K mg "names_of" (top 26)
 d12:Df K mg "depth_of" (top 27)
 d13:Df K mg "in_bounds" (top 28)
 d14:Df K mg "end_of" (top 29)
 d15:Df K mg "part_at" (top 30)
 d16:Df K mg "enclosed" (top 63)
 d17:Df K mg "enclosed_second" (top 64)
 d18:Df K mg "form_of" (top 65)
 d19:Df K mg "is_sign" (top 54)
 d20:Df K mg "token_at" (top 55)
 d21:Df K mg "tokens_of" (top 56)
 d22:Nf K C
 d23:Mf K C "innermost" "Reading.innermost" (rd 5)
 d24:Mf K C "wait_behind" "Reading.wait_behind" (rd 4)
 d25:Mf K C "end_part" "Reading.end_part" (rd 6)
 d26:Mf K C "end_chain" "Reading.end_chain" (rd 7)
 d27:Mf K C "end_formula" "Reading.end_formula" (rd 8)
 d28:Mf K C "close_bracket" "Reading.close_bracket" (rd 9)
 d29:Mf K C "begin_part" "Reading.begin_part" (rd 2)
 d30:Mf K C "follow_part" "Reading.follow_part" (rd 3)
 d31:Mf K C "take" "Reading.take" (rd 1)
 d32:Mf K C "whole" "Reading.whole" (rd 10)
 d33:Df K mg "formula_in" (top 58)
 d34:Df K mg "rows_from" (top 2)
 d35:Df K mg "split_calls" (top 3)
 d36:Df K mg "all_held" (top 91)
 d37:Df K mg "counted" (top 92)
 d38:Df K mg "hold" (top 93)
 d39:Df K mg "call_read" (top 94)
 d40:Df K mg "call_form" (top 95)
 d41:Df K mg "call_dual" (top 96)
 d42:Df K mg "call_build" (top 100)
 d43:Df K mg "call_part" (top 97)
 d44:Df K mg "call_rename" (top 101)
 d45:Df K mg "call_size" (top 98)
 d46:Df K mg "call_atoms" (top 99)
 d47:Df K mg "filled" (top 22)
 d48:Df K mg "call_fill" (top 102)
 d49:Df K mg "split_at" (top 60)
 d50:Df K mg "joined" (top 61)
 d51:Df K mg "sequent_in" (top 68)
 d52:Df K mg "nodes_in" (top 69)
 d53:Df K mg "sequent_form" (top 72)
 d54:Df K mg "is_multiplicative" (top 71)
 d55:Df K mg "is_balanced" (top 70)
 d56:Df K mg "choice_in" (top 75)
 d57:Df K mg "chosen" (top 78)
 d58:Df K mg "table_of" (top 76)
 d59:Df K mg "truth_under" (top 77)
 d60:Df K mg "call_truth" (top 103)
 d61:Df K mg "tables_of" (top 79)
 d62:Df K mg "first_false" (top 80)
 d63:Df K mg "call_always" (top 104)
 d64:Df K mg "place_of" (top 32)
 d65:Df K mg "first_difference" (top 33)
 d66:Df K mg "call_same" (top 105)
 d67:Df K mg "fillings_for" (top 34)
 d68:Df K mg "call_case" (top 106)
 d69:Df K mg "sequent_refusal" (top 107)
 d70:Df K mg "call_sequent" (top 108)
 d71:Df K mg "call_bag" (top 109)
 d72:Df K mg "answers" (top 111)
 hc:GC mg K ["call_read","call_form","call_dual","call_part","call_size","call_atoms","call_build","call_rename","call_fill","call_truth","call_always","call_same","call_case","call_sequent","call_bag"]
def gF(P:Program)(w:World)(K:Frag)(mg:Str->Option Value)(base:Heap)(x:Str)(k:Nat)(ps:List Str)(sp:Sp):Prop:=Ex2 λf a=>lM (i_ P w K mg base DG k f a ps sp) (keepIn K (.ref f)=true) (Binds K a ps []) (mg x=some (.ref f))
def S_(P:Program)(w:World)(K:Frag)(mg:Str->Option Value)(base:Heap)(C:Addr)(x:Str)(k:Nat)(ps:List Str)(sp:Sp):Prop:=Ex2 λf a=>dF (i_ P w K mg base DG k f a ps sp) (Binds K a ps []) (Meth K C x f)
def Oki(P:Program)(w:World)(K:Frag)(mg:Str->Option Value)(base:Heap)(C:Addr)(k:Nat)(ps:List Str)(sp:Sp):Prop:=Ex2 λf a=>dF (i_ P w K mg base DG k f a ps sp) (Binds K a ps []) (Mk K C f)
section
variable{K:Frag}{x q:Str}{st:Stmt}{f:Addr}{fd:FuncData}{p p1 p2:Str}
def pF(F:JZ K x q st f fd)(h:∀(kV j l:Value)(m:Option Addr)(k ct u:Value),bindArgs (fnOf x q (ig st) (fY st) (aA st) .none kV j l m k ct) ⟨[u],[]⟩=pure ([p].zip [u])):Binds K fd [p] []:=F.binds λa b c d e g us n=>match us,n with|[u],_=>h a b c d e g u
def Ba(F:JZ K x q st f fd)(h:∀(kV j l:Value)(m:Option Addr)(k ct u v:Value),bindArgs (fnOf x q (ig st) (fY st) (aA st) .none kV j l m k ct) ⟨[u,v],[]⟩=pure ([p,p1].zip [u,v])):Binds K fd [p,p1] []:=F.binds λa b c d e g us n=>match us,n with|[u,v],_=>h a b c d e g u v
def xu(F:JZ K x q st f fd)(h:∀(kV j l:Value)(m:Option Addr)(k ct u v w:Value),bindArgs (fnOf x q (ig st) (fY st) (aA st) .none kV j l m k ct) ⟨[u,v,w],[]⟩=pure ([p,p1,p2].zip [u,v,w])):Binds K fd [p,p1,p2] []:=F.binds λa b c d e g us n=>match us,n with|[u,v,w],_=>h a b c d e g u v w
end
section
def eE{x q:Str}{st:Stmt}{f:Addr}{b:FuncData}{N ps:List Str}{k:Nat}{sp:Sp}(F:JZ K x q st f b)(S:aJ N ps (aA st))
  (d:∀(a:Value)(A:Around)(outer:List Env)(s:Shared)(H:Hp)(vs:List V)(Q:VK)(E:XK),bI k (A.deeper (envOfC q (aA st) s.heap.objs.size f a))->sp vs H Q E->
   ∃t,Fw (Hl DG P w K mg base N q (aA st) f a A outer s H E).Zc (fY st) t/\t {nx:=λ_ e=>Q .non e,rt:=Q} (start N vs) H)
  (c:∀vs H Q E,sp vs H Q E->vs.length=ps.length:=by intro _ _ _ _ h;cases h;subst_vars;rfl):i_ P w K mg base DG (k+1) f b ps sp:=F.ok S c d
def scm{N ps:List Str}{c:Scope}(a:c.kind=.function:=by rfl)(b:c.isCoroutine=false:=by rfl)(d:c.isGenerator=false:=by rfl)(e:N.Nodup:=by decide+kernel)(f:N.take ps.length=ps:=by rfl)
  (g:∀x∈ps,c.names.lookup x=some .local\/c.names.lookup x=some .cell:=by decide+kernel)(h:∀y∈c.names,y.2≠.free:=by decide+kernel):aJ N ps c:=⟨a,b,d,e,f,g,h⟩
variable{X:Cx}{ps:List Str}{c:Scope}{pos:Pos}
def pS(S:aJ X.N ps c)(i:Nat){x:Str}{e:Expr}{b:TE}{a:Pos}(d:PE X e b)(f:X.N[i]?=some x:=by rfl)(g:Loc X.env.scope x:=by exact Or.inl rfl)(hs:swapsWith e (some (.Name x a)) pos.line X.env=pure false:=by rfl)
  (j:X.fn x=true\/X.env.scope.names.lookup x=some .local:=by first|exact .inl rfl|exact .inr rfl|assumption):PS X (.Assign [.Name x a] e pos) (qz b (gA i)):=Ad S.nd f g d hs j
def pN(S:aJ X.N ps c)(i:Nat){x:Str}(a:X.N[i]?=some x:=by rfl)(b:Loc X.env.scope x:=by exact Or.inl rfl)(d:X.fn x=true\/X.env.scope.names.lookup x=some .local:=by first|exact .inl rfl|exact .inr rfl|assumption):PG X (.Name x pos) (gA i):=nG S.nd a b d
end
def KT.sq{K:Frag}{a:Addr}{xs:List V}(h:KT K a xs)(H:Hp):dG K H a xs:=.inr h
section
variable{X:Cx}
def cX{x:Str}{k:Int}{a:Pos}(h:GI X.mg x k)(b:Gl X x:=by rfl)(c:(x==("__debug__":Str))=false:=by decide):PE X (.Name x a) (tC (.int k)):=
 let⟨_,e⟩:=h
 JB b e ⟨_,rfl⟩ c
end
abbrev bi(b:UInt8):Int:=(b.toNat:Int)
def M6(b:UInt8):isSmall b=(decide (97<=bi b)&&decide (bi b<=122)):=by
 unfold isSmall
 congr 1
 .exact adK.mpr (by rw[aeT];show 97<=b.toNat↔_;unfold bi;omega)
 .exact adK.mpr (by rw[aeT];show b.toNat<=122↔_;unfold bi;omega)
def Qt(b:UInt8):isWord b=(isSmall b||(decide (48<=bi b)&&decide (bi b<=57))):=by
 unfold isWord
 congr 1
 congr 1
 .exact adK.mpr (by rw[aeT];show 48<=b.toNat↔_;unfold bi;omega)
 .exact adK.mpr (by rw[aeT];show b.toNat<=57↔_;unfold bi;omega)
inductive spB(g:UInt8->Bool)(vs:List V)(H:Hp)(Q:VK)(e3:XK):Prop
|mk (b:UInt8) (_:vs=[.int (bi b)]) (_:Q (.bl (g b)) H)
def Qu:aJ ["byte"] ["byte"] (aA (top 37)):=scm
def DX(c:Hy P w K mg C base):gF P w K mg base "is_small_letter" 1 ["byte"] (spB isSmall):=by
 obtain⟨f,d,F,e⟩:=c.d0;refine⟨f,d,?_,F.kp,pF F λ_ _ _ _ _ _ _=>rfl,e⟩;refine eE F Qu λg A outer s H vs Q E j h=>?_;obtain⟨b,rfl,k⟩:=h;refine⟨_,au (aF (vN jQ jQ aD (pv 0) aD)),?_⟩;refine⟨_,rfl,_,_,rfl,rfl,_,rfl,?_⟩;rw[M6]at k;by_cases a:97<=bi b
 .rw[aaD a]at k
  rw[aaU (aaD a)];exact⟨_,_,rfl,rfl,k⟩
 .rw[aat a]at k
  rw[aaz (by rw[aat a];exact aaT)];exact k
def Uk:aJ ["byte"] ["byte"] (aA (top 38)):=scm
def J5(c:Hy P w K mg C base):gF P w K mg base "is_name_byte" 2 ["byte"] (spB isWord):=by
 obtain⟨f,d,F,e⟩:=c.d1;obtain⟨q,o,g,j,l,m⟩:=DX c;refine⟨f,d,?_,F.kp,pF F λ_ _ _ _ _ _ _=>rfl,e⟩;refine eE F Uk λp A outer s H vs Q E n h=>?_;obtain⟨b,rfl,k⟩:=h;refine⟨_,au (aF (Pu (aB g n rfl m j l .nil aH (aj (pv 0) aq)) (GK (vN jQ jQ aD (pv 0) aD)))),?_⟩;refine⟨_,rfl,b,rfl,isSmall b,rfl,?_⟩;rw[Qt]at k;cases hs:isSmall b with
 |true=>
  rw[hs]at k;exact bD k
 |false=>
  rw[hs]at k;refine bF ?_;refine⟨_,rfl,_,_,rfl,rfl,_,rfl,?_⟩;by_cases a:48<=bi b
  .rw[aaD a]at k
   rw[aaU (aaD a)];exact⟨_,_,rfl,rfl,k⟩
  .rw[aat a]at k
   rw[aaz (by rw[aat a];exact aaT)];exact k
end CL
namespace L2
open PySem PySem.Spec PyProof.Rows
def Sq(K:Frag)(H:Hp)(a:Addr)(xs:List V):Prop:=aV K H a xs\/dG K H a xs
def Same.bB{K:Frag}{H b:Hp}{a:Addr}{xs:List V}(e:Same H b)(h:dG K H a xs):dG K b a xs:=by
 rcases h with(h|⟨o,h⟩)|h
 .exact .inl (.inl (e _ _ h))
 .exact .inl (.inr ⟨o,e _ _ h⟩)
 .exact .inr h
def Same.aM{H:Hp}{p:Addr}{o:HO}(h:H p=none):Same H (L2.upd H p o):=λb u e=>by rw[aU (aW e h)];exact e
def Same.bW{H a:Hp}{p:Addr}{o:HO}(e:Same H a)(h:H p=none):Same H (L2.upd a p o):=λb u z=>by rw[aU (aW z h)];exact e b u z
end L2
namespace CL
open PySem PySem.Spec PyProof.Rows L2 MR Vaneta
abbrev tv(t:Text):List V:=t.map λb=>V.int (bi b)
section
variable{X:Cx}
def Xu(K:Frag)(t:TE):TI:=λa H R=>Vw K t a H R\/Zg K t a H R
def dZ{c l:Expr}{a:TE}(h:PE X l a):PI X c l (Xu X.K a):=by
 intro pins s b H R I h';rcases h' with h'|h'
 .exact fH h pins s b H R I h'
 .exact W4 h pins s b H R I h'
end
def gM{K:Frag}{a:Addr}{xs:List V}{i:Nat}{g:TG}{q:TT}{r:TE}{vs:List Nat}{e:L2.St}{H:Hp}{Q:VK}(s:e[i]?=some (some (.ref a)))(d:Sq K H a xs)
  (o:∀D,H D=none->∃Pv:Nat->Hp->Prop,lM (Pv 0 (upd H D (.lst []))) (∀i c,Pv i c->Same H c) (∀i x c,xs[i]?=some x->Pv i c->g x (wipe e vs) c λf v=>wipe f vs=wipe e vs/\q f v λb t=>
    if b=true then r f t λy u=>∃acc,dF (u D=some (.lst acc)) (acc.length<sizeLine) (Pv (i+1) (upd u D (.lst (acc++[y]))))else Pv (i+1) t) (∀c,Pv xs.length c->Q (.ref D) c)):YC (Xu K (gU i)) g q r vs e H Q:=by
 rcases d with d|d
 .refine .inl ⟨_,s,a,rfl,⟨_,d⟩,λD j=>?_⟩
  obtain⟨Pv,k,l,m,n⟩:=o D j;exact uE (xs:=xs) Pv k (λi c _ p=>(l i c p).seq d) m n
 .refine .inr ⟨_,s,a,rfl,⟨_,d⟩,λD j=>?_⟩
  obtain⟨Pv,k,l,m,n⟩:=o D j;exact Xk (xs:=xs) Pv k (λi c _ p=>(l i c p).bB d) m n
def Xv{K:Frag}{H:Hp}{a:Addr}{xs:List V}{i:Int}{v:V}{Q:VK}(h:Sq K H a xs)(e:Fx xs i=some v)(q:Q v H):rIx K (.ref a) (.int i) H Q:=by
 rcases h with h|h
 .exact .inl ⟨a,xs,i,v,rfl,rfl,h,e,q⟩
 .exact .inr (.inl ⟨a,xs,i,v,rfl,rfl,h,e,q⟩)
def take_snoc{a:Type}{l:List a}{i:Nat}{x:a}(h:l[i]?=some x):l.take (i+1)=l.take i++[x]:=by
 rw[af_,h];rfl
def qK{a b:Type}{f:a->b}{l:List a}{i:Nat}{y:b}(h:(l.map f)[i]?=some y):∃x,l[i]?=some x/\y=f x:=by
 rw[abV,abP]at h;obtain⟨x,c,d⟩:=h;exact⟨x,c,d.symm⟩
inductive HB(K:Frag)(vs:List V)(H:Hp)(Q:VK)(e3:XK):Prop
|mk (a:Addr) (t:Text) (_:vs=[.ref a]) (_:Sq K H a (tv t)) (_:∀H',Same H H'->Q (.bl (isName t)) H')
def Bb:aJ ["text","byte"] ["text"] (aA (top 39)):=scm
def jG(t:Text):(tv t).length=t.length:=aac _
def name_eq(b:UInt8)(r:Text):isName (b::r)=(isSmall b&&(decide ((b::r).length<=12)&&(b::r).all isWord)):=rfl
def qL(e:Hy P w K mg C base):gF P w K mg base "is_name" 3 ["text"] (HB K):=by
 obtain⟨f,z,F,I⟩:=e.d2;have B:=e.B;have v:=e.v7;obtain⟨f1,k_,J,L,M,O⟩:=DX e;obtain⟨f2,fd2,T,U,Y,m2⟩:=J5 e;refine⟨f,z,?_,F.kp,pF F λ_ _ _ _ _ _ _=>rfl,I⟩;refine eE F Bb λcdv A outer s H vs Q E q h=>?_;obtain⟨a,t,rfl,m,k⟩:=h;have y:bI 1 _:=q.mono (by decide);refine⟨_,ao (aZ (cO (vO jQ jQ aD (aY aX (by rfl) B.len ab8 (aj (pv 0) aq)) (cX v))) (au (aF tG)) aO)
   (au (aF (W2 (aB J y rfl O L M .nil aH (aj (aP Xc (pv 0) aD (λ_ _=>rfl)) aq))
    (GK (aY (pq rfl) (by rfl) B.all agO (aj (iJ (own:=[("byte",1)]) rfl Bb.nd (dZ (pv 0)) (bQ (N:=["text","byte"]) (sc:=aA (top 39)) (by decide+kernel)) (λ_ _ _ _ _=>pN Bb 1) (λ_ _ _ _ _=>dj)
     (λ_ _ _ _ _=>aB T q rfl m2 U Y .nil aH (aj (pv 1) aq))) aq)))))),?_⟩
 refine⟨_,rfl,a,_,rfl,m,_,_,rfl,rfl,_,rfl,?_⟩;rw[jG];cases t with
 |nil=>
  refine bF ⟨_,rfl,?_⟩;exact bD (k H (Same.refl H))
 |cons b r=>
  have h1:decide ((1:Int)<=(((b::r).length:Nat):Int))=true:=aaD (by rw[aae];omega);rw[h1];refine bD ?_;refine⟨_,_,rfl,rfl,_,rfl,?_⟩;rw[name_eq]at k;by_cases l:(b::r).length<=12
  .have n:decide ((((b::r).length:Nat):Int)<=12)=true:=aaD (by omega)
   rw[n];refine bF ?_;rw[aaD l,afc]at k;refine⟨_,rfl,Xv m (aL (j:=0) rfl) ⟨b,rfl,_,rfl,?_⟩⟩;cases hs:isSmall b with
   |false=>
    rw[hs]at k;exact bF (k H (Same.refl H))
   |true=>
    rw[hs,afc]at k;refine bD ?_;dsimp only[JQ,d_,iB];refine gM (a:=a) (xs:=tv (b::r)) rfl m λD u=>⟨λi d=>Same H d/\d D=some (.lst (((b::r).take i).map λc=>V.bl (isWord c))),⟨Same.aM u,ak⟩,λi d p=>p.1,?_,?_⟩
    .rintro i x d hi ⟨o,g⟩
     obtain⟨c,hc,rfl⟩:=qK hi;refine⟨rfl,⟨_,rfl,c,rfl,_,g,?_,?_,?_⟩⟩
     .rw[aac,abg]
      exact adf (Nat.min_le_right _ _) (adf l (by decide))
     .exact o.bW u
     .rw[ak,take_snoc hc,aaY]
      rfl
    .rintro d ⟨o,g⟩
     refine⟨D,(b::r).map isWord,rfl,aV.of ?_,?_⟩
     .rw[jG,abp]at g
      rw[g,abL];rfl
     .rw[aeo]
      exact k d o
  .have n:decide ((((b::r).length:Nat):Int)<=12)=false:=aat (by omega)
   rw[n];refine bD ?_;rw[aat l,ae1,afr]at k;exact k H (Same.refl H)
def lg(K:Frag)(H:Hp)(v:V)(x:Nd):Prop:=Ex2 λp q=>dF (v=.ref p) (dG K H p [.int x.1,.ref q]) (dG K H q (ii x.2))
def jH(K:Frag)(H:Hp)(vs:List V)(l:List Nd):Prop:=Paired (lg K H) vs l
def Fl(K:Frag)(H:Hp)(p:Addr)(l:List Nd):Prop:=∃vs,H p=some (.lst vs)/\jH K H vs l
section
variable{K:Frag}{H H':Hp}
def lg.same{v:V}{x:Nd}(h:lg K H v x)(e:Same H H'):lg K H' v x:=let⟨p,q,a,b,c⟩:=h;⟨p,q,a,e.bB b,e.bB c⟩
theorem jH.same{vs:List V}{l:List Nd}(h:jH K H vs l)(e:Same H H'):jH K H' vs l:=Paired.dY h λ_ _ z=>z.same e
theorem Fl.same{p:Addr}{l:List Nd}(h:Fl K H p l)(e:Same H H'):Fl K H' p l:=let⟨vs,a,b⟩:=h;⟨vs,e _ _ a,b.same e⟩
def jH.len{vs:List V}{l:List Nd}(h:jH K H vs l):vs.length=l.length:=abC h
def jH.get{vs:List V}{l:List Nd}(h:jH K H vs l){i:Nat}{v:V}(e:vs[i]?=some v):∃x,l[i]?=some x/\lg K H v x:=by
 have b:∀{vs:List V}{l:List Nd},Paired (lg K H) vs l->∀{i:Nat}{v:V},vs[i]?=some v->∃x,l[i]?=some x/\lg K H v x:=by
  intro vs l h
  induction h with
  |nil=>intro i v e;simp at e
  |cons a _ c=>
   intro i v e;cases i with
   |zero=>cases e;exact⟨_,rfl,a⟩
   |succ i=>exact c e
 exact b h e
def jH.get'{vs:List V}{l:List Nd}(h:jH K H vs l){i:Nat}{x:Nd}(e:l[i]?=some x):∃v,vs[i]?=some v/\lg K H v x:=by
 have a:i<vs.length:=by rw[h.len];exact(aaV.mp e).1
 obtain⟨y,b,c⟩:=h.get (aa3 a);rw[e]at b;cases b;exact⟨_,aa3 a,c⟩
def jH.append{vs us:List V}{l m:List Nd}(h:jH K H vs l)(h':jH K H us m):jH K H (vs++us) (l++m):=by
 have b:∀{vs:List V}{l:List Nd},Paired (lg K H) vs l->Paired (lg K H) (vs++us) (l++m):=by
  intro vs l h
  induction h with
  |nil=>exact h'
  |cons a _ c=>exact .cons a c
 exact b h
def jH.one{v:V}{x:Nd}(h:lg K H v x):jH K H [v] [x]:=.cons h .nil
theorem jH.take{vs:List V}{l:List Nd}(h:jH K H vs l)(n:Nat):jH K H (vs.take n) (l.take n):=by
 have b:∀{vs:List V}{l:List Nd},Paired (lg K H) vs l->∀n,Paired (lg K H) (vs.take n) (l.take n):=by
  intro vs l h
  induction h with
  |nil=>intro n;rw[List.take_nil,List.take_nil];exact .nil
  |cons a _ c=>intro n;cases n with
   |zero=>exact .nil
   |succ n=>exact .cons a (c n)
 exact b h n
theorem jH.drop{vs:List V}{l:List Nd}(h:jH K H vs l)(n:Nat):jH K H (vs.drop n) (l.drop n):=by
 have b:∀{vs:List V}{l:List Nd},Paired (lg K H) vs l->∀n,Paired (lg K H) (vs.drop n) (l.drop n):=by
  intro vs l h
  induction h with
  |nil=>intro n;rw[List.drop_nil,List.drop_nil];exact .nil
  |cons a t c=>intro n;cases n with
   |zero=>exact .cons a t
   |succ n=>exact c n
 exact b h n
def bG{p:Addr}{xs:List V}:dG K (upd H p (.tup xs)) p xs:=.inl (.inl ak)
end
def Back(K:Frag)(H:Hp)(l:List Nd)(Q:VK):Prop:=∀(a:Hp)(p:Addr),Same H a->H p=none->Fl K a p l->Q (.ref p) a
inductive J6(K:Frag)(vs:List V)(H:Hp)(Q:VK)(e3:XK):Prop
|mk (q:Addr) (n:List Int) (_:vs=[.ref q]) (_:dG K H q (ii n)) (_:Back K H [(6,n)] Q)
def Qv:aJ ["name"] ["name"] (aA (top 17)):=scm
def DY(c:Hy P w K mg C base):gF P w K mg base "plain_atom" 1 ["name"] (J6 K):=by
 obtain⟨f,e,F,g⟩:=c.d3;have j:=c.jw;refine⟨f,e,?_,F.kp,pF F λ_ _ _ _ _ _ _=>rfl,g⟩;refine eE F Qv λp A outer s H vs Q E r h=>?_;obtain⟨q,n,rfl,m,k⟩:=h;refine⟨_,au (aF (aQ (aj (dw (aj (cX j) (aj (pv 0) aq))) aq))),?_⟩;refine⟨_,rfl,(by show 2<=sizeLine;decide),λt o=>⟨(by show 1<=sizeLine;decide),λl d=>?_⟩⟩;have a:Same H (upd H t (.tup [.int 6,.ref q])):=Same.aM o;have b:Same (upd H t (.tup [.int 6,.ref q])) (upd (upd H t (.tup [.int 6,.ref q])) l (.lst [.ref t])):=Same.aM d;exact k _ l (a.trans b) (a.free d) ⟨_,ak,jH.one ⟨t,q,rfl,b.bB bG,(a.trans b).bB m⟩⟩
inductive VB(K:Frag)(vs:List V)(H:Hp)(Q:VK)(e3:XK):Prop
|mk (k:Int) (p1 p2:Addr) (l1 l2:List Nd) (_:vs=[.int k,.ref p1,.ref p2]) (_:Fl K H p1 l1) (_:Fl K H p2 l2) (_:l1.length+l2.length<=1000000) (_:Back K H ((k,[])::(l1++l2)) Q)
def Xw:aJ ["kind","first","second"] ["kind","first","second"] (aA (top 18)):=scm
def HD(y:Hy P w K mg C base):gF P w K mg base "of_two" 1 ["kind","first","second"] (VB K):=by
 obtain⟨f,z,F,B⟩:=y.d4;refine⟨f,z,?_,F.kp,xu F λ_ _ _ _ _ _ _ _ _=>rfl,B⟩;refine eE F Xw λcdv A outer s H vs Q E hr h=>?_;obtain⟨kd,D,I,l1,l2,rfl,J,L,hz,k⟩:=h;refine⟨_,au (aF (bO f9 (bO f9 (aQ (aj (dw (aj (pv 0) (aj (dw aq) aq))) aq)) (pv 1)) (pv 2))),?_⟩;refine⟨_,rfl,(by show 0<=sizeLine;decide),λe M=>⟨(by show 2<=sizeLine;decide),λt N=>⟨(by show 1<=sizeLine;decide),λl O=>?_⟩⟩⟩;have j:Same H (upd H e (.tup [])):=Same.aM M;have b:=Same.aM (o:=.tup [.int kd,.ref e]) N;have a:=Same.aM (o:=.lst [.ref t]) O;have T:jH K _ [.ref t] [(kd,[])]:=jH.one (K:=K) ⟨t,e,rfl,a.bB bG,(b.trans a).bB bG⟩;obtain⟨m,U,n⟩:=J.same ((j.trans b).trans a);have p:=n.len;refine⟨_,rfl,l,D,_,m,rfl,rfl,ak,U,?_,λc hc=>?_⟩
 .rw[p];show 1+l1.length<=sizeLine;rw[aa1];grind
 have g:=Same.aM (o:=.lst ([.ref t]++m)) hc;obtain⟨q,Y,r⟩:=L.same (((j.trans b).trans a).trans g);have z2:=r.len;refine⟨_,rfl,c,I,_,q,rfl,rfl,ak,Y,?_,λd u=>?_⟩
 .rw[aad,p,z2];show 1+l1.length+l2.length<=sizeLine;rw[aa1];grind
 have v:=Same.aM (o:=.lst ([.ref t]++m++q)) u;have x:=(((j.trans b).trans a).trans g);exact k _ d (x.trans v) (x.free u) ⟨_,ak,((((T.same g).append (n.same g)).append r).same v)⟩
inductive J7(K:Frag)(vs:List V)(H:Hp)(Q:VK)(e3:XK):Prop
|mk (k:Int) (p1:Addr) (l1:List Nd) (_:vs=[.int k,.ref p1]) (_:Fl K H p1 l1) (_:l1.length<=1000000) (_:Back K H ((k,[])::l1) Q)
def Xx:aJ ["kind","only"] ["kind","only"] (aA (top 19)):=scm
def Qw(p:Hy P w K mg C base):gF P w K mg base "of_one" 1 ["kind","only"] (J7 K):=by
 obtain⟨f,q,F,r⟩:=p.d5;refine⟨f,q,?_,F.kp,Ba F λ_ _ _ _ _ _ _ _=>rfl,r⟩;refine eE F Xx λJ A outer s H vs Q E L h=>?_;obtain⟨kd,u,l1,rfl,v,hz,k⟩:=h;refine⟨_,au (aF (bO f9 (aQ (aj (dw (aj (pv 0) (aj (dw aq) aq))) aq)) (pv 1))),?_⟩;refine⟨_,rfl,(by show 0<=sizeLine;decide),λe x=>⟨(by show 2<=sizeLine;decide),λt y=>⟨(by show 1<=sizeLine;decide),λl z=>?_⟩⟩⟩;have d:Same H (upd H e (.tup [])):=Same.aM x;have b:=Same.aM (o:=.tup [.int kd,.ref e]) y;have a:=Same.aM (o:=.lst [.ref t]) z;have B:jH K _ [.ref t] [(kd,[])]:=jH.one (K:=K) ⟨t,e,rfl,a.bB bG,(b.trans a).bB bG⟩;obtain⟨g,D,j⟩:=v.same ((d.trans b).trans a);have I:=j.len;refine⟨_,rfl,l,u,_,g,rfl,rfl,ak,D,?_,λc hc=>?_⟩
 .rw[I];show 1+l1.length<=sizeLine;rw[aa1];grind
 have m:=Same.aM (o:=.lst ([.ref t]++g)) hc;have n:=((d.trans b).trans a);exact k _ c (n.trans m) (n.free hc) ⟨_,ak,(B.append j).same m⟩
end CL
namespace L2
open PySem PySem.Spec PyProof.Rows
def cP(H a:Hp):Prop:=(∀b xs,H b=some (.tup xs)->a b=some (.tup xs))/\∀b o u,H b=some (.xq o u)->a b=some (.xq o u)
def Same.t{H a:Hp}(h:Same H a):cP H a:=⟨λb xs e=>h b _ e,λb o u e=>h b _ e⟩
def cP.trans{H d f:Hp}(a:cP H d)(b:cP d f):cP H f:=⟨λc xs e=>b.1 c xs (a.1 c xs e),λc o u e=>b.2 c o u (a.2 c o u e)⟩
def cP.bW{H:Hp}{D:Addr}{xs:List V}{o:HO}(h:H D=some (.lst xs)):cP H (upd H D o):=⟨λb ys e=>by rw[aU (gJ e h (by intro z;cases z))];exact e,λb a u e=>by rw[aU (gJ e h (by intro z;cases z))];exact e⟩
theorem cP.aM{H:Hp}{D:Addr}{o:HO}(h:H D=none):cP H (upd H D o):=(Same.aM h).t
def cP.bB{K:Frag}{H b:Hp}{a:Addr}{xs:List V}(e:cP H b)(h:dG K H a xs):dG K b a xs:=by
 rcases h with(h|⟨o,h⟩)|h
 .exact .inl (.inl (e.1 _ _ h))
 .exact .inl (.inr ⟨o,e.2 _ _ _ h⟩)
 .exact .inr h
end L2
namespace CL
open PySem PySem.Spec PyProof.Rows L2 MR Vaneta
section
variable{K:Frag}{H H':Hp}
def lg.jU{v:V}{x:Nd}(h:lg K H v x)(e:cP H H'):lg K H' v x:=let⟨p,q,a,b,c⟩:=h;⟨p,q,a,e.bB b,e.bB c⟩
theorem jH.jU{vs:List V}{l:List Nd}(h:jH K H vs l)(e:cP H H'):jH K H' vs l:=Paired.dY h λ_ _ z=>z.jU e
end
section
variable{X:Cx}
def v9{x:Str}{a:Addr}{b:Pos}(e:X.mg x=some (.ref a))(c:Gl X x:=by rfl)(d:(x==("__debug__":Str))=false:=by decide):PE X (.Name x b) (tC (.ref a)):=JB (v:=.ref a) c e rfl d
def dM{K:Frag}{a b:Nat}{x y:Str}{g j f:Pos}{k:Nat}(l:X.K=K)(hc:X.calm=true)(c:X.N.Nodup)(m:X.N[a]?=some x)(n:X.N[b]?=some y)(d:X.env.scope.names.lookup x=some .local)(e:X.env.scope.names.lookup y=some .local):
  PG X (.Tuple [.Name x g,.Name y j] k f) (Px K 2 (qy (gA a) (qy (gA b) T3))):=by
 subst l;exact Py hc (mj (nG c m (Or.inl d) (Or.inr d)) (mj (nG c n (Or.inl e) (Or.inr e)) JF))
def J8{K:Frag}(h:X.K=K):S9 X (T9 K):=h▸bN
def J9{K:Frag}(h:X.K=K)(hu:X.A.units+64<cLine):o_ X (compareOp .Eq) (Mv K):=h▸pA hu
end
def Kinds(l:List Nd):Prop:=∀x∈l,0<=x.1/\x.1<=7
def k8{k:Int}(h:0<=k/\k<=7):k=0\/k=1\/k=2\/k=3\/k=4\/k=5\/k=6\/k=7:=by grind
def Ul{k:Int}(h:0<=k/\k<=7):Fx (ii [1,0,3,2,5,4,7,6]) k=some (.int (dk k)):=by
 rcases k8 h with rfl|rfl|rfl|rfl|rfl|rfl|rfl|rfl<;>rfl
def iC{k:Int}(h:0<=k/\k<=7):Fx (ii [2,2,2,2,1,1,0,0]) k=some (.int (pc k)):=by
 rcases k8 h with rfl|rfl|rfl|rfl|rfl|rfl|rfl|rfl<;>rfl
def Kinds.at{l:List Nd}(h:Kinds l){i:Nat}{x:Nd}(e:l[i]?=some x):0<=x.1/\x.1<=7:=h x (aa6 e)
def jf{p:Addr}{l:List Nd}{i a b:Nat}{C:TT}{E:TE}{e:L2.St}{H:Hp}{Q:VK}(hv:e[i]?=some (some (.ref p)))(hF:Fl K H p l)(k:a≠b)(ha:a<e.length)(hb:b<e.length)
  (R:Nat->Hp->List V->Prop)(h0:∀d,cP H d->R 0 d [])(Y:∀i I J vs,R i I vs->cP I J->R i J vs)(hlen:∀i d vs,R i d vs->vs.length<=i)(hz:l.length<sizeLine)
  (turn:∀(i:Nat)(x:Nd)(q:Addr)(d:Hp)(vs:List V)(j:L2.St),l[i]?=some x->Same H d->dG K d q (ii x.2)->R i d vs->j[a]?=some (some (.int x.1))->j[b]?=some (some (.ref q))->(∀c,c≠a->c≠b->j[c]?=e[c]?)->
   ∀(L:VK)(M:Hp->Prop),(∀y n,Same d n->R (i+1) n (vs++[y])->L y n)->(∀f,Same d f->R (i+1) f vs->M f)->C j d λc f=>if c=true then E j f L else M f)
  (fin:∀(d:Hp)(D:Addr)(vs:List V),Same H d->H D=none->d D=some (.lst vs)->R l.length d vs->Q (.ref D) d):
  YC (Xu K (gU i)) (Px K 2 (qy (gA a) (qy (gA b) T3))) C E [a,b] e H Q:=by
 obtain⟨ws,hp,N⟩:=hF;refine gM (a:=p) (xs:=ws) hv (.inl (aV.of hp)) λD o=>⟨λi d=>Same H d/\∃vs,d D=some (.lst vs)/\R i d vs,⟨Same.aM o,[],ak,h0 _ (cP.aM o)⟩,λi d z=>z.1,?_,?_⟩
 .rintro i v d hi ⟨g,vs,r,hR⟩
  obtain⟨x,O,pt,q,rfl,t,u⟩:=N.get hi;have h1':=g.bB t;have h2':=g.bB u;refine⟨pt,_,rfl,h1',rfl,_,_,rfl,_,_,rfl,rfl,?_,?_⟩
  ·
   show((((wipe e [a,b]).set a _).set b _).set b none).set a none=_;show(((((e.set b none).set a none).set a (some (V.int x.1))).set b (some (V.ref q))).set b none).set a none=(e.set b none).set a none;rw[af7,af7];rw[ahN _ _ k,af7,ahN _ _ (ac6 k)];rw[ahN _ _ k,af7]
  .have A:∀c,(((e.set b none).set a none).set a (some (V.int x.1)) |>.set b (some (V.ref q)))[c]?=if c=b then some (some (V.ref q))else if c=a then some (some (V.int x.1))else e[c]?:=λc=>by
    rw[af7];by_cases m:c=b
    .subst m
     rw[aaU rfl,aen (by simpa using hb)]
    .rw[aaz m,aed (ac6 m)]
     by_cases s:c=a
     .subst s
      rw[aaU rfl,aen (by simpa using ha)]
     .rw[aaz s,aed (ac6 s),aed (ac6 m)]
   have hvs:=hlen i d vs hR;have hil:i<l.length:=(aaV.mp O).1;refine turn i x q d vs _ O g h2' hR ((A a).trans (by rw[aaz k,aaU rfl])) ((A b).trans (by rw[aaU rfl])) (λc t u=>(A c).trans (by rw[aaz u,aaz t])) _ _ (λy n T z=>?_) (λf U z=>?_)
   .have B:=T _ _ r
    exact⟨vs,B,by grind,(g.trans T).bW o,_,ak,Y _ _ _ _ z (cP.bW B)⟩
   .exact⟨g.trans U,vs,U _ _ r,z⟩
 .rintro d ⟨g,vs,r,hR⟩
  rw[N.len]at hR;exact fin d D vs g o r hR
inductive Bc(K:Frag)(vs:List V)(H:Hp)(Q:VK)(e3:XK):Prop
|mk (p:Addr) (l:List Nd) (_:vs=[.ref p]) (_:Fl K H p l) (_:Kinds l) (_:l.length<=1000000) (_:Back K H (l.map λx=>(dk x.1,x.2)) Q)
def Bd:aJ ["formula","kind","name"] ["formula"] (aA (top 20)):=scm
def qM(j:Hy P w K mg C base):gF P w K mg base "dual_of" 1 ["formula"] (Bc K):=by
 obtain⟨f,r,F,u⟩:=j.d6;have v:=j.Av;refine⟨f,r,?_,F.kp,pF F λ_ _ _ _ _ _ _=>rfl,u⟩;obtain⟨ad,y,z⟩:=v;refine eE F Bd λcdv A outer s H vs Q E hr h=>?_;obtain⟨p,l,rfl,B,I,hz,k⟩:=h;refine⟨_,au (aF (iJ (own:=[("kind",1),("name",2)]) rfl Bd.nd (dZ (pv 0)) (bQ (N:=["formula","kind","name"]) (sc:=aA (top 20)) (by decide+kernel))
  (λ_ _ _ _ _=>dM (K:=K) (a:=1) (b:=2) rfl rfl Bd.nd rfl rfl rfl rfl) (λ_ _ _ _ _=>dj)
  (λ_ _ _ _ _=>dw (aj (aP (J8 (K:=K) rfl) (v9 y) (pv 1) (λ_ _=>rfl)) (aj (pv 2) aq))))),?_⟩
 refine jf (p:=p) (l:=l) (a:=1) (b:=2) rfl B (by decide) (by show 1<3;decide) (by show 2<3;decide) (λi c vs=>jH K c vs ((l.take i).map λx:Nd=>(dk x.1,x.2))) (λc _=>.nil) (λi H1 H2 vs h e=>h.jU e)
  (λi c vs h=>by rw[h.len,aac,abg];exact afh _ _) (by rw[aa1];omega) ?_ ?_
 .intro i x q c vs σ2 m n J d L M _ Z1 Z2 O k2
  refine⟨_,L,ad,_,_,_,rfl,rfl,z.sq _,Ul (I.at m),_,M,(by show 2<=sizeLine;decide),λt T=>?_⟩;have g:=Same.aM (o:=.tup [.int (dk x.1),.ref q]) T;refine O _ _ g ?_;rw[take_snoc m,aaY];exact(d.same g).append (jH.one ⟨t,q,rfl,bG,g.bB J⟩)
 .intro c D vs n U Y d
  rw[abp]at d;exact k c D n U ⟨vs,Y,d⟩
theorem HF{K:Frag}{H:Hp}:∀n:List Int,jc K H (ii n) (n.map PyData.int)
|[]=>.nil
|i::n=>.cons (.int i) (HF n)
def gY{K:Frag}{H:Hp}{q:Addr}{n:List Int}(h:dG K H q (ii n)):Dp K H (.ref q) (.tuple (n.map PyData.int)):=.tup h (HF n)
def Qx{K:Frag}{H:Hp}{q:Addr}{n:List Int}(h:aV K H q (ii n)):Dp K H (.ref q) (.list (n.map PyData.int)):=.lst h (HF n)
theorem lay_ints:∀n:List Int,PyData.canLayAll0 (n.map PyData.int)=true
|[]=>by simp[PyData.canLayAll0]
|i::n=>by
 rw[aaZ];simp[PyData.canLayAll0,PyData.canLay0,lay_ints n]
theorem jV:∀a b:List Int,PyData.eqvAll (a.map PyData.int) (b.map PyData.int)=decide (a=b)
|[],[]=>by simp[PyData.eqvAll]
|[],_::_=>by simp[PyData.eqvAll]
|_::_,[]=>by simp[PyData.eqvAll]
|x::a,y::b=>by
 rw[aaZ,aaZ];simp only[PyData.eqvAll,PyData.eqv,jV a b];by_cases h:x=y
 .subst h;by_cases c:a=b<;>simp[c]
 .simp[h]
theorem gZ:∀n:List Int,PyData.depthAll (n.map PyData.int)<=1
|[]=>by simp[PyData.depthAll]
|i::n=>by
 rw[aaZ];have:=gZ n;simp only[PyData.depthAll,PyData.depth];grind
def lq(n:List Int):SeqAt.shaped (.tuple (n.map PyData.int))=true:=by
 unfold SeqAt.shaped;rw[aa8];refine⟨by simp[PyData.canLay0,lay_ints],aaD ?_⟩;have:=gZ n;simp only[PyData.depth];grind
def wg(n:List Int):SeqAt.shaped (.list (n.map PyData.int))=true:=by
 unfold SeqAt.shaped;rw[aa8];refine⟨by simp[PyData.canLay0,lay_ints],aaD ?_⟩;have:=gZ n;simp only[PyData.depth];omega
def J_{K:Frag}{H:Hp}{p q:Addr}{a b:List Int}{Q:VK}(c:dG K H p (ii a))(d:dG K H q (ii b))(k:Q (.bl (decide (a=b))) H):Mv K (.ref p) (.ref q) H Q:=by
 refine⟨_,_,gY c,gY d,lq a,lq b,?_⟩;have e:PyData.eqv (.tuple (a.map PyData.int)) (.tuple (b.map PyData.int))=decide (a=b):=by simp only[PyData.eqv];exact jV a b
 rw[e];exact k
def Bf{K:Frag}{H:Hp}{p q:Addr}{a b:List Int}{Q:VK}(c:aV K H p (ii a))(d:aV K H q (ii b))(k:Q (.bl (decide (a=b))) H):Mv K (.ref p) (.ref q) H Q:=by
 refine⟨_,_,Qx c,Qx d,wg a,wg b,?_⟩;have e:PyData.eqv (.list (a.map PyData.int)) (.list (b.map PyData.int))=decide (a=b):=by simp only[PyData.eqv];exact jV a b
 rw[e];exact k
inductive VD(K:Frag)(vs:List V)(H:Hp)(Q:VK)(e3:XK):Prop
|mk (p o n:Addr) (l:List Nd) (old new:List Int) (_:vs=[.ref p,.ref o,.ref n]) (_:Fl K H p l) (_:dG K H o (ii old)) (_:dG K H n (ii new)) (_:l.length<=1000000) (_:Back K H (l.map (xG old new)) Q)
def HJ:aJ ["formula","old","new","kind","name"] ["formula","old","new"] (aA (top 21)):=scm
def Xy(B:Hy P w K mg C base):gF P w K mg base "renamed" 1 ["formula","old","new"] (VD K):=by
 obtain⟨f,I,F,J⟩:=B.d7;refine⟨f,I,?_,F.kp,xu F λ_ _ _ _ _ _ _ _ _=>rfl,J⟩;refine eE F HJ λcdv A outer s H vs Q E L h=>?_;obtain⟨p,o,n,l,j,r,rfl,M,O,T,hz,k⟩:=h;refine⟨_,au (aF (iJ (own:=[("kind",3),("name",4)]) rfl HJ.nd (dZ (pv 0)) (bQ (N:=["formula","old","new","kind","name"]) (sc:=aA (top 21)) (by decide+kernel))
  (λ_ _ _ _ _=>dM (K:=K) (a:=3) (b:=4) rfl rfl HJ.nd rfl rfl rfl rfl) (λ_ _ _ _ _=>dj)
  (λ_ _ _ _ _=>dw (aj (pv 3) (aj (dO (aK (J9 (K:=K) rfl L.units) (pv 4) (pv 1) (aR _)) (pv 2) (pv 4)) aq))))),?_⟩
 refine jf (p:=p) (l:=l) (a:=3) (b:=4) rfl M (by decide) (by show 3<5;decide) (by show 4<5;decide) (λi c vs=>jH K c vs ((l.take i).map (xG j r))) (λc _=>.nil) (λi H1 H2 vs h e=>h.jU e)
  (λi c vs h=>by rw[h.len,aac,abg];exact afh _ _) (by rw[aa1];omega) ?_ ?_
 .intro i x q c vs σ2 U d v g Y y z Z1 Z2 k1 k2
  refine⟨_,Y,_,y,_,(z 1 (by decide) (by decide)).trans rfl,J_ v (d.bB O) ⟨_,rfl,?_⟩⟩;have fin:∀(m:Addr)(nm:List Int),dG K c m (ii nm)->xG j r x=(x.1,nm)->2<=sizeLine/\∀t,c t=none->Z1 (.ref t) (upd c t (.tup [.int x.1,.ref m])):=λm nm hm er=>by
   refine⟨by decide,λt ht=>?_⟩;have u:=Same.aM (o:=.tup [.int x.1,.ref m]) ht;refine k1 _ _ u ?_;rw[take_snoc U,aaY,aaZ,er];exact(g.same u).append (jH.one ⟨t,m,rfl,bG,u.bB hm⟩)
  by_cases h:x.2=j
  .rw[aaD h]
   refine bD ⟨_,(z 2 (by decide) (by decide)).trans rfl,?_⟩;exact fin n r (d.bB T) (by unfold xG;rw[aaU h])
  .rw[aat h]
   refine bF ⟨_,y,?_⟩;exact fin q x.2 v (by unfold xG;rw[aaz h])
 .intro c D vs d hD hl g
  rw[abp]at g;exact k c D d hD ⟨vs,hl,g⟩
inductive ZG(K:Frag)(vs:List V)(H:Hp)(Q:VK)(e3:XK):Prop
|mk (p:Addr) (l:List Nd) (k:Int) (_:vs=[.ref p,.int k]) (_:Fl K H p l) (_:l.length<=1000000) (_:∀H',Same H H'->Q (.int (kc l k)) H')
def Qy:aJ ["formula","wanted","kind","name"] ["formula","wanted"] (aA (top 23)):=scm
def VF(g:Hy P w K mg C base):gF P w K mg base "kind_count" 1 ["formula","wanted"] (ZG K):=by
 obtain⟨f,o,F,r⟩:=g.d8;have B:=g.B;refine⟨f,o,?_,F.kp,Ba F λ_ _ _ _ _ _ _ _=>rfl,r⟩;refine eE F Qy λL A outer s H vs Q E O h=>?_;obtain⟨p,l,kd,rfl,t,hz,k⟩:=h;refine⟨_,au (aF (aY aX (by rfl) B.len ab8 (aj (iJ (own:=[("kind",2),("name",3)]) rfl Qy.nd (dZ (pv 0)) (bQ (N:=["formula","wanted","kind","name"]) (sc:=aA (top 23)) (by decide+kernel))
  (λ_ _ _ _ _=>dM (K:=K) (a:=2) (b:=3) rfl rfl Qy.nd rfl rfl rfl rfl) (λ_ _ _ _ _=>uD (aK dU (pv 2) (pv 1) (aR _))) (λ_ _ _ _ _=>pv 2)) aq))),?_⟩
 dsimp only[Ac,JQ,d_,iB];refine jf (p:=p) (l:=l) (a:=2) (b:=3) rfl t (by decide) (by show 2<4;decide) (by show 3<4;decide) (λi c vs=>vs.length=kc (l.take i) kd) (λc _=>rfl) (λi T U vs h e=>h)
  (λi c vs h=>?_) (by rw[aa1];omega) ?_ ?_
 .rw[h]
  refine abJ (aeR _ _) ?_;rw[abg];exact afh _ _
 .intro i x q c vs M u j Y d m e2 v Z1 Z2 y I
  have n:kc (l.take (i+1)) kd=kc (l.take i) kd+if x.1=kd then 1 else 0:=by rw[take_snoc u,cM,fB,Wv,Nat.add_zero]
  refine⟨_,m,_,(v 1 (by decide) (by decide)).trans rfl,rfl,_,rfl,?_⟩;dsimp only;by_cases h:x.1=kd
  .rw[aaU (aaD (by rw[h]))]
   refine⟨_,m,y _ _ (Same.refl _) ?_⟩;rw[n,aaU h,aad,d];rfl
  .rw[aaz (by rw[aat (λz=>h (V.int.inj z))];exact aaT)]
   refine I _ (Same.refl _) ?_;rw[n,aaz h,d];rfl
 .intro c D vs j hD J d
  rw[abp]at d;refine⟨D,vs,rfl,.inl (aV.of J),?_⟩;rw[d];exact k c j
inductive ZJ(K:Frag)(vs:List V)(H:Hp)(Q:VK)(e3:XK):Prop
|mk (p o:Addr) (l:List Nd) (n:List Int) (_:vs=[.ref p,.ref o]) (_:Fl K H p l) (_:dG K H o (ii n)) (_:l.length<=1000000) (_:∀H',Same H H'->Q (.int (nc l n)) H')
def Qz:aJ ["formula","wanted","name","kind"] ["formula","wanted"] (aA (top 25)):=scm
def VG(j:Hy P w K mg C base):gF P w K mg base "name_count" 1 ["formula","wanted"] (ZJ K):=by
 obtain⟨f,t,F,u⟩:=j.d9;have B:=j.B;refine⟨f,t,?_,F.kp,Ba F λ_ _ _ _ _ _ _ _=>rfl,u⟩;refine eE F Qz λU A outer s H vs Q E v h=>?_;obtain⟨p,o,l,n,rfl,y,z,hz,k⟩:=h;refine⟨_,au (aF (aY aX (by rfl) B.len ab8 (aj (iJ (own:=[("kind",3),("name",2)]) rfl Qz.nd (dZ (pv 0)) (bQ (N:=["formula","wanted","name","kind"]) (sc:=aA (top 25)) (by decide+kernel))
  (λ_ _ _ _ _=>dM (K:=K) (a:=3) (b:=2) rfl rfl Qz.nd rfl rfl rfl rfl) (λ_ _ _ _ _=>uD (aK (J9 (K:=K) rfl v.units) (pv 2) (pv 1) (aR _))) (λ_ _ _ _ _=>pv 2)) aq))),?_⟩
 dsimp only[Ac,JQ,d_,iB];refine jf (p:=p) (l:=l) (a:=3) (b:=2) rfl y (by decide) (by show 3<4;decide) (by show 2<4;decide) (λi c vs=>vs.length=nc (l.take i) n) (λc _=>rfl) (λi H1 H2 vs h e=>h)
  (λi c vs h=>?_) (by rw[aa1];omega) ?_ ?_
 .rw[h]
  refine abJ (aeR _ _) ?_;rw[abg];exact afh _ _
 .intro i x q c vs Y I g J d e1 m L Z1 Z2 M O
  have r:nc (l.take (i+1)) n=nc (l.take i) n+if x.2=n then 1 else 0:=by rw[take_snoc I,jK,jm];rfl
  refine⟨_,m,_,(L 1 (by decide) (by decide)).trans rfl,J_ J (g.bB z) ⟨_,rfl,?_⟩⟩;dsimp only;by_cases h:x.2=n
  .rw[aaU (aaD h)]
   refine⟨_,m,M _ _ (Same.refl _) ?_⟩;rw[r,aaU h,aad,d];rfl
  .rw[aaz (by rw[aat h];exact aaT)]
   refine O _ (Same.refl _) ?_;rw[r,aaz h,d];rfl
 .intro c D vs g hD T d
  rw[abp]at d;refine⟨D,vs,rfl,.inl (aV.of T),?_⟩;rw[d];exact k c g
inductive ZK(K:Frag)(vs:List V)(H:Hp)(Q:VK)(e3:XK):Prop
|mk (p:Addr) (l:List Nd) (_:vs=[.ref p]) (_:Fl K H p l) (_:l.length<=1000000) (_:∀H',Same H H'->Q (.int ((kc l 6+kc l 7:Nat):Int)) H')
def ZL:aJ ["formula"] ["formula"] (aA (top 24)):=scm
def Ka(a:Hy P w K mg C base):gF P w K mg base "atom_count" 2 ["formula"] (ZK K):=by
 obtain⟨f,n,F,o⟩:=a.d10;have q:=a.jw;have r:=a.je;obtain⟨y,v,b,c,d,e⟩:=VF a;refine⟨f,n,?_,F.kp,pF F λ_ _ _ _ _ _ _=>rfl,o⟩;refine eE F ZL λx A outer s H vs Q E g h=>?_;obtain⟨p,l,rfl,j,hz,k⟩:=h;refine⟨_,au (aF (bO iY (aB b g rfl e c d .nil aH (aj (pv 0) (aj (cX q) aq))) (aB b g rfl e c d .nil aH (aj (pv 0) (aj (cX r) aq))))),?_⟩;refine⟨_,rfl,p,l,6,rfl,j,hz,λz m=>⟨_,rfl,p,l,7,rfl,j.same m,hz,λt u=>⟨_,_,rfl,rfl,?_⟩⟩⟩;have:=k t (m.trans u);rwa[Int.natCast_add]at this
end CL
namespace MR
theorem D_{b:Type}[DecidableEq b]:∀{l m:List b},l.Nodup->(∀x∈l,x∈m)->l.length<=m.length
|[],_,_,_=>abe _
|a::l,m,e,hs=>by
 obtain⟨f,g⟩:=adC.mp e;have c:=hs a aa0;have:=D_ (m:=m.erase a) g λx d=>(aho (λq:x=a=>f (q▸d))).mpr (hs x (aaX _ d));rw[agv c]at this;have:=agR c;rw[aae];omega
theorem uJ{c:Type}(d:Nd->c)(e:Nd->c->c)(f:Nd->c->c->c):∀(l:List Nd)(st:List c),stk d e f l=some st->st.length<=l.length
|[],st,h=>by cases h;exact aaS _
|x::l,st,h=>by
 obtain⟨s,hs,h⟩:=lO d e f h;have:=uJ d e f l s hs;rcases h with⟨_,rfl⟩|⟨_,a,r,rfl,rfl⟩|⟨_,a,b,r,rfl,rfl⟩<;>simp only[aae]at this⊢<;>grind
def wj{a:Type}(b:Nd->a)(c:Nd->a->a)(d:Nd->a->a->a){l:List Nd}{st:List a}(h:stk b c d l=some st)(n:Nat):∃e,stk b c d (l.drop n)=some e:=by
 rw[<-adu n l]at h;exact uY b c d _ _ _ h
end MR
namespace L2
open PySem PySem.Spec PyProof.Rows
def Bg{K:Frag}{a:Addr}{xs:List V}{g:TG}{l:TS}{D:Ends}{b:L2.St}{H:Hp}(Pv:Nat->L2.St->Hp->Prop)(o:Pv 0 b H)(r:∀i b H,i<=xs.length->Pv i b H->aV K H a xs)
  (hs:∀i x b H,i<xs.length->xs[xs.length - 1 - i]?=some x->Pv i b H->g x b H λd k=>l {D with nx:=Pv (i+1),ct:=Pv (i+1),bk:=D.nx} d k)(s:∀b H,Pv xs.length b H->D.nx b H):
  ∃W:Nat->Nat->L2.St->Hp->Prop,(∃m,W 0 m b H)/\∀i m b H,W i m b H->
   ((ZC K a xs.length).stop i H/\D.nx b H)\/((ZC K a xs.length).go i H/\∃N:L2.St->Hp->Prop,(∀f c,N f c->∃n,n<m/\W (i+1) n f c)/\∀x c,(ZC K a xs.length).Od i H x c->g x b c λd k=>l {D with nx:=N,ct:=N,bk:=D.nx} d k):=by
 refine⟨λi m b H=>m=xs.length - i/\i<=xs.length/\Pv i b H,⟨xs.length,by simp,abe _,o⟩,?_⟩;rintro i m b H ⟨rfl,t,p⟩;have q:=r i b H t p;by_cases j:i<xs.length
 .have u:xs[xs.length - 1 - i]?=some (xs[xs.length - 1 - i]'(by omega)):=aa3 _
  refine .inr ⟨⟨j,xs,_,q,u⟩,Pv (i+1),λf c v=>⟨xs.length - (i+1),by omega,rfl,j,v⟩,λx c y=>?_⟩;obtain⟨e,y⟩:=y;subst e;exact hs i x b _ j (y xs q) p
 .have e:i=xs.length:=by omega
  subst e;exact .inl ⟨aaS _,s b H p⟩
end L2
namespace CL
open PySem PySem.Spec PyProof.Rows L2 MR Vaneta
def Kc(K:Frag)(H:Hp)(ks:List (List Int×Addr)):Prop:=∀x∈ks,dG K H x.2 (ii x.1)
def Kc.jU{H a:Hp}{ks:List (List Int×Addr)}(h:Kc K H ks)(e:cP H a):Kc K a ks:=λx b=>e.bB (h x b)
abbrev rf(ks:List (List Int×Addr)):List V:=ks.map λx=>V.ref x.2
def gj(l:List Nd):List (List Int):=(l.filter λx=>decide (pc x.1=0)).map (·.2)
inductive Kd(K:Frag)(vs:List V)(H:Hp)(Q:VK)(e3:XK):Prop
|mk (p:Addr) (l:List Nd) (_:vs=[.ref p]) (_:Fl K H p l) (_:Kinds l) (_:l.length<=100000/\(gj l).length<2000) (_:∀x∈l,pc x.1=0->x.2≠[]) (_:∀(H':Hp)(q:Addr)(ys:List (List Int×Addr)),Same H H'->H q=none->H' q=some (.lst (rf ys))->Kc K H' ys->(ys.map (·.1)).Pairwise (λa b=>rB a b=true)->(∀n,n∈ys.map (·.1)↔n∈gj l)->Q (.ref q) H')
def wu:aJ ["formula","name","kind"] ["formula"] (aA (top 26)):=scm
def mR(d:Hy P w K mg C base):gF P w K mg base "names_of" 1 ["formula"] (Kd K):=by
 obtain⟨f,fd,F,mF⟩:=d.d11;have B:=d.B;have gp:=d.cJ;refine⟨f,fd,?_,F.kp,pF F λ_ _ _ _ _ _ _=>rfl,mF⟩;obtain⟨ap,ep,hp⟩:=gp;refine eE F wu λcdv A outer s H vs Q E hr h=>?_;obtain⟨p,l,rfl,hF,hk,hz,Y,k⟩:=h;have hu:=hr.units;refine⟨_,au (aF (aY (Hx rfl) (by rfl) B.sorted boot_sorted (aj (fJ (Uj rfl (adf (adN (by decide:5<=64) _) hu)) (by rfl) B.set boot_set
  (aj (iJ (own:=[("kind",2),("name",1)]) rfl wu.nd (dZ (pv 0)) (bQ (N:=["formula","name","kind"]) (sc:=aA (top 26)) (by decide+kernel))
   (λ_ _ _ _ _=>dM (K:=K) (a:=2) (b:=1) rfl rfl wu.nd rfl rfl rfl rfl) (λ_ _ _ _ _=>uD (aK dU (aP (J8 (K:=K) rfl) (v9 ep) (pv 2) (λ_ _=>rfl)) aD (aR _))) (λ_ _ _ _ _=>pv 1)) aq)) aq))),?_⟩
 dsimp only[Ac,JQ,d_,iB];refine jf (p:=p) (l:=l) (a:=2) (b:=1) rfl hF (by decide) (by show 2<3;decide) (by show 1<3;decide)
  (λi r vs=>∃ks,dF (vs=rf ks) (Kc K r ks) (ks.map (·.1)=gj (l.take i))) (λr _=>⟨[],rfl,λx g=>(by cases g),rfl⟩) (λi H1 H2 vs ⟨ks,a,b,c⟩ e=>⟨ks,a,b.jU e,c⟩)
  (λi r vs ⟨ks,a,b,c⟩=>?_) (by rw[aa1];grind) ?_ ?_
 .rw[a,aac,<-aac (f:=(·.1)) (as:=ks),c]
  unfold gj;rw[aac];refine abJ (aeR _ _) ?_;rw[abg];exact afh _ _
 .intro i x q r vs σ2 g I t hN e1 e2 e3 Z1 Z2 k1 k2
  obtain⟨ks,rfl,m,j⟩:=hN;have M:gj (l.take (i+1))=gj (l.take i)++if pc x.1=0 then[x.2]else[]:=by
   unfold gj;rw[take_snoc g,adn,aaY,adJ];by_cases h:pc x.1=0<;>simp[h]
  refine⟨_,e1,ap,_,_,_,rfl,rfl,hp.sq _,iC (hk.at g),rfl,_,rfl,?_⟩;dsimp only;by_cases h:pc x.1=0
  .rw[aaU (aaD (by rw[h];rfl))]
   refine⟨_,e2,k1 _ _ (Same.refl _) ⟨ks++[(x.2,q)],?_,λy d=>?_,?_⟩⟩
   .unfold rf;rw[aaY];rfl
   .rcases aa4.mp d with d|d
    .exact m y d
    .rcases abO.mp d with rfl
     exact t
   .rw[M,aaU h,aaY,j];rfl
  .rw[aaz (by rw[aat (λz=>h (by have:=V.int.inj z;grind))];exact aaT)]
   refine k2 _ (Same.refl _) ⟨ks,rfl,m,?_⟩;rw[M,aaz h,acQ,j]
 .rintro r D vs I hD hl ⟨ks,rfl,m,j⟩
  rw[abp]at j;have hkl:ks.length<2000:=by
   rw[<-aac (f:=(·.1)) (as:=ks),j];exact hz.2
  refine⟨D,ks,rfl,aV.of hl,m,hkl,λsp xs hsp v J L=>?_⟩;have u:=Same.aM (o:=Ui P w sp xs) hsp;have U:xs.length<2000:=by
   have:(xs.map (·.1)).length<=(ks.map (·.1)).length:=D_ L λn hn=>(J n).mp hn;rw[aac,aac]at this;grind
  refine⟨sp,xs,rfl,ak,λx g=>u.bB (m x (v x g)),L,λx g=>?_,U,λq ys t O hs=>?_⟩
  .have hm:x.1∈gj l:=by rw[<-j];exact aa5.mpr ⟨x,v x g,rfl⟩
   obtain⟨y,d,e⟩:=aa5.mp hm;obtain⟨h1,h2⟩:=aez.mp d;rw[<-e];exact Y y h1 (adk h2)
  .have T:=Same.aM (o:=.lst (ys.map λx=>V.ref x.2)) t
   refine k _ q ys ((I.trans u).trans T) ((I.trans u).free t) ak (λy d=>(u.trans T).bB (m y (v y (O.mem_iff.mp d)))) hs λn=>?_;rw[(O.map (·.1)).mem_iff,J,j]
abbrev Fy{a:Type}(f:a->V)(st:List a):List V:=st.reverse.map f
def eX{b:Type}(f:b->V)(a:b)(st:List b):Fy f (a::st)=Fy f st++[f a]:=by
 unfold Fy;rw[aeh,aaY];rfl
def cY{b:Type}(l:List b)(a:b):(l++[a])[(l++[a]).length - 1]?=some a:=by
 rw[aad,abj,ahP,abA (aaS _),adB];rfl
def wz{b:Type}{l:List b}{i:Nat}{x:b}(c:i<l.length)(h:l[l.length - 1 - i]?=some x):l.drop (l.length - (i+1))=x::l.drop (l.length - i):=by
 have e:l.length - 1 - i=l.length - (i+1):=by grind
 rw[e]at h;have a:l.length - (i+1)<l.length:=by grind
 rw[ab_ a,show l.length - (i+1)+1=l.length - i by grind]
 congr 1
 rw[aa3 a]at h;exact abk h
def Xz(i j:Int):(if j>i then j else i)=max i j:=by
 by_cases h:j>i
 .rw[aaU h];grind
 .rw[aaz h];grind
inductive Ke(K:Frag)(vs:List V)(H:Hp)(Q:VK)(e3:XK):Prop
|mk (p:Addr) (A:Formula) (_:vs=[.ref p]) (_:Fl K H p (flat A)) (_:(flat A).length<=1000000) (_:∀H',Same H H'->Q (.int (deep A)) H')
def jW:aJ ["formula","depths","kind","name","deepest","side"] ["formula"] (aA (top 27)):=scm
def Ea(l:Hy P w K mg C base):gF P w K mg base "depth_of" 1 ["formula"] (Ke K):=by
 obtain⟨f,fd,F,mF⟩:=l.d12;have B:=l.B;have gp:=l.cJ;refine⟨f,fd,?_,F.kp,pF F λ_ _ _ _ _ _ _=>rfl,mF⟩;obtain⟨ap,ep,hp⟩:=gp;refine eE F jW λcdv A outer s H vs Q E hr h=>?_;obtain⟨p,z,rfl,hF,hz,k⟩:=h;refine⟨_,ao (pS jW 1 (aQ aq))
  (ao (cW abu rfl (mL rfl B.reversed (aj (pv 0) aq)) (dM (K:=K) (a:=2) (b:=3) rfl rfl jW.nd rfl rfl rfl rfl)
   (ao (pS jW 4 aD)
   (ao (cW abu rfl (jP rfl B.range (aj (aP bN (v9 ep) (pv 2) (λ_ _=>rfl)) aq)) (pN jW 5)
    (au (pS jW 4 (aY (Mr rfl) (by rfl) B.max boot_max (aj (pv 4) (aj (fO aaW ab2 ab4 fZ (pv 1)) aq))))))
   (au (bH (dD aaW abv abw bY (pv 1) (aj (bO iY (pv 4) aD) aq)))))))
  (au (aF (fO aaW ab2 ab4 fZ (pv 1))))),?_⟩
 refine⟨abe _,λdl D=>?_⟩;obtain⟨L,tM,hN⟩:=hF;have hlen:=hN.len;have hall:=zQ d0 d1 d2 z;have sD:Same H (upd H dl (.lst [])):=Same.aM D;have Y:∀{c:Hp},Same H c->aV K c p L:=λe=>aV.of (e _ _ tM);refine⟨_,rfl,p,L,rfl,Y sD,Bg (xs:=L) (λi d c=>Oa λ(M N O g:Option V)(st:List Int)=>lM (d=[some (.ref p),some (.ref dl),M,N,O,g]) (Same H c) (c dl=some (.lst (Fy V.int st))) (stk d0 d1 d2 ((flat z).drop ((flat z).length - i))=some st))
  ⟨none,none,none,none,[],rfl,sD,ak,by rw[agZ,aev];rfl⟩ (λi d c _ ⟨_,_,_,_,_,_,o,_,_⟩=>Y o) ?_ ?_⟩
 .rintro i v d c hi hv ⟨M,N,O,g,st,rfl,o,u,t⟩
  obtain⟨x,T,pt,q,rfl,h1,h2⟩:=hN.get hv;rw[hlen]at hi T;have hdr:=wz hi T;obtain⟨st',J⟩:=wj d0 d1 d2 hall ((flat z).length - (i+1));rw[hdr]at J;obtain⟨s0,hs0,hcase⟩:=lO d0 d1 d2 J;rw[t]at hs0;cases hs0;have ZM:st.length<=1000000:=abJ (uJ d0 d1 d2 _ _ t) (by rw[ace];omega);have hkd:=cA z x (aa6 T);refine⟨pt,_,rfl,o.bB h1,rfl,_,_,rfl,_,_,rfl,rfl,?_⟩;have hpc:pc x.1<=2:=by unfold pc;split;omega;split<;>omega
  have hpl:pc x.1<=st.length:=by
   rcases hcase with⟨e,_⟩|⟨e,a,r,rfl,_⟩|⟨e,a,b,r,rfl,_⟩<;>rw[e]<;>simp
  refine⟨_,rfl,ap,_,_,_,rfl,rfl,hp.sq _,iC hkd,pc x.1,rfl,by omega,by omega,?_⟩;refine nH (n:=pc x.1) (λj d I=>∃g:Option V,dF (d=[some (.ref p),some (.ref dl),some (.int x.1),some (.ref q),some (.int ((st.take j).foldl max 0)),g]) (Same H I) (I dl=some (.lst (Fy V.int (st.drop j)))))
   ⟨g,rfl,o,u⟩ ?_ ?_
  .rintro j d I hj ⟨g,rfl,U,m⟩
   obtain⟨y,l⟩:∃y,st[j]?=some y:=⟨_,aa3 (by omega)⟩;have hdj:st.drop j=y::st.drop (j+1):=by
    rw[ab_ (by omega)]
    congr 1
    rw[aa3 (by omega)]at l;exact abk l
   rw[hdj,eX]at m;refine⟨_,rfl,_,rfl,.inl ⟨rfl,_,aV.of m⟩,dl,_,_,rfl,rfl,m,cY _ _,_,_,rfl,?_⟩;refine⟨some (.int (0+(j:Int))),?_,U.bW D,?_⟩
   .rw[Xz,take_snoc l,List.foldl_append]
    rfl
   .rw[ak,adl]
  .rintro d I ⟨g,rfl,U,m⟩
   refine⟨_,rfl,.inl ⟨rfl,_,aV.of m⟩,_,rfl,_,_,rfl,rfl,dl,_,_,rfl,rfl,m,?_,?_⟩
   .rw[aac,ae9,ace,aa1];omega
   .refine⟨_,_,_,_,st',rfl,U.bW D,?_,?_⟩
    .rw[ak]
     congr 2
     rcases hcase with⟨e,rfl⟩|⟨e,a,r,rfl,rfl⟩|⟨e,a,b,r,rfl,rfl⟩
     .rw[e,eX];rfl
     .rw[e,eX];rfl
     .rw[e,eX];rfl
    .rw[hdr];exact J
 .rintro d c ⟨M,N,O,g,st,rfl,o,u,t⟩
  rw[hlen,adB,afC,hall]at t;cases t;rw[eX]at u;refine⟨_,rfl,.inl ⟨rfl,_,aV.of u⟩,dl,_,_,rfl,rfl,u,cY _ _,?_⟩;rw[Tn];exact k _ (o.bW D)
def qN(xs:List V){a b:Nat}(h:a<=b)(c:b<=xs.length):jD xs (some (a:Int)) (some (b:Int))=(xs.drop a).take (b - a):=by
 unfold jD;rw[HT.qD,HT.qD,aey (abJ h c),aey c]
def XC(A:Formula):inBounds A=(!(decide (60<((kc (flat A) 6+kc (flat A) 7:Nat):Int))||decide (200<((flat A).length:Int)))&&decide ((deep A:Int)<=40)):=by
 rw[pX,aC];unfold inBounds;have a:decide (atoms A<=60)= !decide (60<((atoms A:Nat):Int)):=by
  by_cases h:atoms A<=60
  .rw[aaD h,aat (by omega)];rfl
  .rw[aat h,aaD (by omega)];rfl
 have b:decide (nodes A<=200)= !decide (200<((nodes A:Nat):Int)):=by
  by_cases h:nodes A<=200
  .rw[aaD h,aat (by omega)];rfl
  .rw[aat h,aaD (by omega)];rfl
 have c:decide (deep A<=40)=decide ((deep A:Int)<=40):=adK.mpr (by omega);rw[a,b,c,Bool.not_or,Bool.and_assoc]
inductive VH(K:Frag)(vs:List V)(H:Hp)(Q:VK)(e3:XK):Prop
|mk (p:Addr) (A:Formula) (_:vs=[.ref p]) (_:Fl K H p (flat A)) (_:(flat A).length<=1000000) (_:∀H',Same H H'->Q (.bl (inBounds A)) H')
def XD:aJ ["formula"] ["formula"] (aA (top 28)):=scm
def HN(a:Hy P w K mg C base):gF P w K mg base "in_bounds" 3 ["formula"] (VH K):=by
 obtain⟨f,l,F,m⟩:=a.d13;have B:=a.B;have n:=a.Ay;have o:=a.A_;have q:=a.Az;obtain⟨f1,T,r,t,u,v⟩:=Ka a;obtain⟨f2,U,x,y,z,D⟩:=Ea a;refine⟨f,l,?_,F.kp,pF F λ_ _ _ _ _ _ _=>rfl,m⟩;refine eE F XD λY A outer s H vs Q E e h=>?_;obtain⟨p,A,rfl,c,hz,k⟩:=h;have j:bI 1 _:=e.mono (by decide);rw[XC]at k;refine⟨_,ao (aZ (PW.pt (Di (aK tH (aY aX (by rfl) B.len ab8 (aj (pv 0) aq)) (cX o) (aR _)) (Ab (aK tH (aB r e rfl v t u .nil aH (aj (pv 0) aq)) (cX n) (aR _))))) (au (aF tG)) aO)
  (au (aF (jq jQ (aB x j rfl D y z .nil aH (aj (pv 0) aq)) (cX q) (aR _)))),?_⟩
 obtain⟨I,J,L⟩:=id c;refine⟨_,rfl,p,I,rfl,.inl (aV.of J),_,_,rfl,rfl,_,rfl,?_⟩;dsimp only;rw[L.len];by_cases b:(200:Int)<((flat A).length:Int)
 .rw[aaU (aaD b)]
  rw[aaD b,Bool.or_true]at k;exact bD (k H (Same.refl _))
 .rw[aaz (by rw[aat b];exact aaT)]
  rw[aat b,afb]at k;refine⟨_,rfl,p,flat A,rfl,c,hz,λM d=>⟨_,_,rfl,rfl,_,rfl,?_⟩⟩;by_cases g:(60:Int)<((kc (flat A) 6+kc (flat A) 7:Nat):Int)
  .rw[aaD g]at k⊢
   exact bD (k M d)
  .rw[aat g]at k⊢
   refine bF ?_;exact⟨_,rfl,p,A,rfl,c.same d,hz,λN O=>⟨_,_,rfl,rfl,k N (d.trans O)⟩⟩
inductive VJ(K:Frag)(vs:List V)(H:Hp)(Q:VK)(e3:XK):Prop
|mk (p:Addr) (pre post:List Nd) (A:Formula) (_:vs=[.ref p,.int (pre.length:Int)]) (_:Fl K H p (pre++flat A++post)) (_:Q (.int ((pre.length+nodes A:Nat):Int)) H)
def wA:aJ ["formula","start","end","missing"] ["formula","start"] (aA (top 29)):=scm
def HS(r:Hy P w K mg C base):gF P w K mg base "end_of" 1 ["formula","start"] (VJ K):=by
 obtain⟨f,D,F,I⟩:=r.d14;have J:=r.cJ;refine⟨f,D,?_,F.kp,Ba F λ_ _ _ _ _ _ _ _=>rfl,I⟩;obtain⟨L,M,N⟩:=J;refine eE F wA λcdv A outer s H vs Q E hr h=>?_;obtain⟨p,c,d,B,rfl,O,k⟩:=h;obtain⟨T,z,U⟩:=O;refine⟨_,ao (pS wA 2 (pv 1))
  (ao (pS wA 3 aD)
  (ao (iz abu (aK tH (pv 3) aD (aR _))
   (ao (mq (i:=3) wA.nd rfl (Or.inl rfl) (bO vL (aP bN (v9 M) (aP bN (aP aN (pv 0) (pv 2) (λ_ _=>rfl)) aD (λ_ _=>rfl)) (λ_ _=>rfl)) aD) mz)
   (au (mq (i:=2) wA.nd rfl (Or.inl rfl) aD mz))))
  (au (aF (pv 2))))),?_⟩
 refine⟨_,rfl,?_⟩;refine⟨λm t e=>Ex2 λ(b:List Formula)(done:List Nd)=>lM (m=(flats b).length) (e=H) (t=[some (.ref p),some (.int (c.length:Int)),some (.int ((c.length+done.length:Nat):Int)),some (.int (b.length:Int))]) (flat B=done++flats b),
  ⟨_,[B],[],rfl,rfl,rfl,by rw[bA];simp[flats]⟩,?_⟩
 rintro m t e ⟨b,done,rfl,rfl,rfl,g⟩;refine⟨_,rfl,_,_,rfl,rfl,_,rfl,?_⟩;cases b with
 |nil=>
  refine bF ?_;have:done=flat B:=by rw[g];simp[flats]
  rw[this,aC];exact⟨_,rfl,k⟩
 |cons a b=>
  rw[aaU (aaD (by rw[aae];grind))];have x:c++flat B++d=(c++done)++root a::(flats (parts a++b)++d):=by
   rw[g,bA,bL,gG];simp
  have y:(c++flat B++d)[c.length+done.length]?=some (root a):=by
   rw[x,abA (by rw[aad];exact aaS _),aad,adB];rfl
  obtain⟨v,Y,pt,q,rfl,h1,h2⟩:=U.get' y;refine⟨λo u=>u=e/\o=[some (.ref p),some (.int (c.length:Int)),some (.int ((c.length+(done++[root a]).length:Nat):Int)),some (.int ((parts a++b).length:Int))],λo u ⟨l,n⟩=>?_,?_⟩
  .refine⟨(flats (parts a++b)).length,?_,parts a++b,done++[root a],rfl,l,n,?_⟩
   .rw[bA,gG,aad,aad,bL,aae]
    grind
   .rw[g,bA,bL,gG]
    simp
  .refine⟨_,rfl,_,rfl,_,rfl,p,T,_,_,rfl,rfl,aV.of z,aL Y,pt,_,_,_,rfl,rfl,h1,aL (j:=0) rfl,L,_,_,_,rfl,rfl,N.sq _,iC (nj a),_,_,rfl,rfl,_,_,rfl,rfl,?_⟩
   refine⟨_,rfl,_,_,rfl,rfl,rfl,?_⟩;have l:((c.length+done.length:Nat):Int)+1=((c.length+(done++[root a]).length:Nat):Int):=by rw[aad,abj];grind
   have n:(((a::b).length:Nat):Int)+(((pc (root a).1:Nat):Int) - 1)=(((parts a++b).length:Nat):Int):=by rw[pW,aad,aae];grind
   show[some (V.ref p),some (V.int (c.length:Int)),some (V.int (((c.length+done.length:Nat):Int)+1)),some (V.int ((((a::b).length:Nat):Int)+(((pc (root a).1:Nat):Int) - 1)))]=_;rw[l,n]
inductive QB(K:Frag)(vs:List V)(H:Hp)(Q:VK)(e3:XK):Prop
|mk (p pl:Addr) (A:Formula) (place:List Int) (_:vs=[.ref p,.ref pl]) (_:Fl K H p (flat A)) (_:aV K H pl (ii place)) (_:(flat A).length<=1000000) (_:iH place A=none->∀H',Same H H'->Q .non H') (_:∀B,iH place A=some B->Back K H (flat B) Q)
def qO:aJ ["formula","place","start","side"] ["formula","place"] (aA (top 30)):=scm
def Um(T:Hy P w K mg C base):gF P w K mg base "part_at" 2 ["formula","place"] (QB K):=by
 obtain⟨f,fd,F,mF⟩:=T.d15;have gp:=T.cJ;obtain⟨f1,k_,G1,k1,b1,m1⟩:=HS T;refine⟨f,fd,?_,F.kp,Ba F λ_ _ _ _ _ _ _ _=>rfl,mF⟩;obtain⟨ap,ep,hp⟩:=gp;refine eE F qO λcdv A outer s H vs Q E hr h=>?_;obtain⟨p,pl,k,place,rfl,hF,hpl,hz,kN,kS⟩:=h;obtain⟨t,D,u⟩:=id hF;have hwl:=u.len;refine⟨_,ao (pS qO 2 aD)
  (ao (cW abu rfl (fH (pv 1)) (pN qO 3)
   (ao (aZ (cO (vO jQ yH aD (pv 3) (aP bN (v9 ep) (aP bN (aP aN (pv 0) (pv 2) (λ_ _=>rfl)) aD (λ_ _=>rfl)) (λ_ _=>rfl)))) (au (aF b_)) aO)
   (ao (mq (i:=2) qO.nd rfl (Or.inl rfl) aD mz)
   (au (aZ (aK dU (pv 3) aD (aR _)) (au (pS qO 2 (aB G1 hr rfl m1 k1 b1 .nil aH (aj (pv 0) (aj (pv 2) aq))))) aO)))))
  (au (aF (eU gK (pv 0) (cT (pv 2)) (cT (aB G1 hr rfl m1 k1 b1 .nil aH (aj (pv 0) (aj (pv 2) aq)))))))),?_⟩
 refine⟨_,rfl,pl,rfl,⟨_,hpl⟩,dR (K:=K) (a:=pl) (xs:=ii place) (λi I J=>Ft λ(U:Option V)(b g:List Nd)(B:Formula)=>lM (J=H) (I=[some (.ref p),some (.ref pl),some (.int (b.length:Int)),U]) (flat k=b++flat B++g) (iH place k=iH (place.drop i) B))
  ⟨none,[],[],k,rfl,rfl,by simp,rfl⟩ (λi I J _ ⟨_,_,_,_,e,_,_,_⟩=>by rw[e];exact hpl) ?_ ?_⟩
 .rintro i v I J hi ⟨U,b,g,B,rfl,rfl,l,n⟩
  obtain⟨z,hz',rfl⟩:=qK hi;have hdrop:place.drop i=z::place.drop (i+1):=by
   have hlt:=(aaV.mp hz').1;rw[ab_ hlt]
   congr 1
   exact(aaV.mp hz').2
  rw[hdrop]at n;have hget:(flat k)[b.length]?=some (root B):=by
   rw[l,bL,ady,abA (aaS _),adB];rfl
  obtain⟨v,hv,pt,q,rfl,h1,h2⟩:=u.get' hget;refine⟨_,rfl,_,_,rfl,rfl,_,rfl,?_⟩;have bad:¬(0<=z/\z<(parts B).length)->iH place k=none:=λhb=>by rw[n];unfold iH;rw[aaz hb]
  by_cases L:(0:Int)<=z
  .rw[aaU (aaD L)]
   refine⟨_,rfl,_,rfl,p,t,_,_,rfl,rfl,aV.of D,aL hv,pt,_,_,_,rfl,rfl,h1,aL (j:=0) rfl,ap,_,_,_,rfl,rfl,hp.sq _,iC (nj B),_,_,rfl,rfl,_,rfl,?_⟩;rw[pW];by_cases M:z<((parts B).length:Int)
   .rw[aaD M]
    refine bF ?_;obtain⟨C,d⟩:∃C,(parts B)[z.toNat]?=some C:=⟨_,aa3 (by omega)⟩;have Y:iH place k=iH (place.drop (i+1)) C:=by
     rw[n];show(if 0<=z/\z<(parts B).length then(parts B)[z.toNat]?.bind (iH _)else none)=_;rw[aaU ⟨L,M⟩,d];rfl
    refine⟨_,rfl,_,_,rfl,rfl,?_⟩;refine⟨_,rfl,rfl,_,rfl,?_⟩;have ab3:(parts B).length<=2:=by cases B<;>simp[parts]
    show(if decide (V.int z=V.int 1)=true then _ else _);by_cases h4:z=1
    .subst h4
     rw[aaU (aaD rfl)];obtain⟨m,O⟩:∃m,parts B=[m,C]:=by
      match hpB:parts B,d,ab3 with
      |[],d,_=>cases d
      |[_],d,_=>cases d
      |[x,y],d,_=>cases d;exact⟨x,rfl⟩
      |_::_::_::_,_,h=>simp at h
     have he2:flat k=(b++[root B])++flat m++(flat C++g):=by
      rw[l,bL,O];simp[flats]
     refine⟨_,rfl,_,rfl,p,b++[root B],flat C++g,m,?_,⟨t,D,?_⟩,?_⟩
     .rw[aad,abj];rfl
     .rw[<-he2];exact u
     .refine⟨some (.int 1),b++root B::flat m,g,C,rfl,?_,?_,Y⟩
      .have e5:((b++[root B]).length+nodes m)=(b++root B::flat m).length:=by
        simp only[aad,aae,acg,aC];omega
       rw[e5];rfl
      .rw[he2];simp
    .rw[aaz (by rw[aat (λe=>h4 (V.int.inj e))];exact aaT)]
     have hz0:z=0:=by omega
     subst hz0;obtain⟨N,O⟩:∃N,parts B=C::N:=by
      match hpB:parts B,d with
      |[],d=>cases d
      |x::r,d=>cases d;exact⟨r,rfl⟩
     refine⟨some (.int 0),b++[root B],flats N++g,C,rfl,?_,?_,Y⟩
     .rw[aad,abj]
      rfl
     .rw[l,bL,O,bA];simp
   .rw[aat M]
    exact bD (kN (bad λq=>M q.2) _ (Same.refl _))
  .rw[aaz (by rw[aat L];exact aaT)]
   exact⟨_,rfl,bD (kN (bad λq=>L q.1) _ (Same.refl _))⟩
 .rintro I J ⟨U,b,g,B,rfl,rfl,l,n⟩
  rw[aac,aev]at n;have hnl:(flat k).length=b.length+nodes B+g.length:=by rw[l,aad,aad,aC]
  refine⟨_,rfl,_,rfl,_,rfl,_,rfl,_,rfl,p,b,g,B,rfl,⟨t,D,by rw[<-l];exact u⟩,_,rfl,p,t,rfl,aV.of D,λc hc=>?_⟩;rw[qN t (adb _ _) (by omega),adG];have s1:=Same.aM (o:=.lst ((t.drop b.length).take (nodes B))) hc;refine kS B n _ c s1 hc ⟨_,ak,?_⟩;have:=((u.drop b.length).take (nodes B)).same s1;have e:((flat k).drop b.length).take (nodes B)=flat B:=by
   rw[l,ady,List.drop_left,<-aC,List.take_left]
  rw[e]at this;exact this
end CL
namespace MR
def wt(l:List Nd):Nat:=(l.map λx=>x.2.length+5).sum
def tw(st:List KT):Nat:=(st.map λx=>x.2.length).sum
def cF(x:Nd)(l:List Nd):wt (x::l)=x.2.length+5+wt l:=by unfold wt;rw[aaZ,agz]
def jx(x:KT)(l:List KT):tw (x::l)=x.2.length+tw l:=by unfold tw;rw[aaZ,agz]
def mU(x:KT):(encl x).length<=x.2.length+2:=by
 unfold encl;split
 .simp
 .grind
def yU(o:Int)(x:KT):(lQ o x).length<=x.2.length+2:=by
 unfold lQ;split
 .grind
 .exact mU x
theorem VL:∀(l:List Nd)(st:List KT),stk w0 w1 w2 l=some st->tw st<=wt l
|[],st,h=>by cases h;exact aaS _
|x::l,st,h=>by
 obtain⟨s,hs,h⟩:=lO w0 w1 w2 h;have c:=VL l s hs;rw[cF];rcases h with⟨_,rfl⟩|⟨_,a,r,rfl,rfl⟩|⟨_,a,b,r,rfl,rfl⟩
 .rw[jx]
  have:(w0 x).2.length<=x.2.length+1:=by unfold w0;dsimp only;split<;>simp
  grind
 .rw[jx]at c⊢
  have:=mU a;have:(w1 x a).2.length=1+(encl a).length:=by unfold w1;simp;grind
  grind
 .rw[jx,jx]at c
  rw[jx];have:=mU a;have:=yU x.1 b;have:(w2 x a b).2.length=(encl a).length+(1+(lQ x.1 b).length):=by unfold w2;simp;grind
  grind
def Kf(l:List Nd)(n:Nat):wt (l.drop n)<=wt l:=by
 conv=>rhs;rw[<-adu n l]
 unfold wt;rw[aaY,List.sum_append];grind
end MR
namespace CL
open PySem PySem.Spec PyProof.Rows L2 MR Vaneta
def VN(H:Hp)(t:Addr)(xs:List Int)(Q:VK):Prop:=∀(a:Hp)(q:Addr),Same H a->(q=t\/H q=none)->a q=some (.lst (ii xs))->Q (.ref q) a
inductive QC(vs:List V)(H:Hp)(Q:VK)(e3:XK):Prop
|mk (k:Int) (t:Addr) (xs:List Int) (_:vs=[.int k,.ref t]) (_:0<=k/\k<=7) (_:H t=some (.lst (ii xs))) (_:xs.length<=10000000) (_:VN H t (encl (k,xs)) Q)
def Uo:aJ ["kind","text"] ["kind","text"] (aA (top 63)):=scm
def Kg(g:Hy P w K mg C base):gF P w K mg base "enclosed" 1 ["kind","text"] QC:=by
 obtain⟨f,u,F,v⟩:=g.d16;have x:=g.cJ;have y:=g.nO;have z:=g.rN;refine⟨f,u,?_,F.kp,Ba F λ_ _ _ _ _ _ _ _=>rfl,v⟩;obtain⟨B,D,I⟩:=x;refine eE F Uo λN A outer s H vs Q E O h=>?_;obtain⟨kd,t,xs,rfl,J,l,hz,k⟩:=h;refine⟨_,ao (aZ (aK dU (aP bN (v9 D) (pv 0) (λ_ _=>rfl)) aD (aR _)) (au (aF (bO f9 (bO f9 (aQ (aj (cX y) aq)) (pv 1)) (aQ (aj (cX z) aq))))) aO)
  (au (aF (pv 1))),?_⟩
 refine⟨_,rfl,B,_,_,_,rfl,rfl,I.sq _,iC J,rfl,_,rfl,?_⟩;show(if decide (V.int (pc kd:Int)=V.int 2)=true then _ else _);by_cases j:pc kd=2
 .rw[aaU (aaD (by rw[j];rfl))]
  refine⟨(by show 1<=sizeLine;decide),λa m=>⟨_,rfl,a,t,_,_,rfl,rfl,ak,Same.aM m _ _ l,?_,λb L=>⟨(by show 1<=sizeLine;decide),λc hc=>⟨b,c,[.int 40]++ii xs,_,rfl,rfl,?_,ak,?_,λd n=>?_⟩⟩⟩⟩
  .rw[aac,aa1];show 1+xs.length<=_;grind
  .exact Same.aM hc _ _ ak
  .rw[aad,aac,aa1];show 1+xs.length+1<=_;grind
  .have p:=Same.aM (o:=.lst [.int 40]) m
   have q:=Same.aM (o:=.lst ([.int 40]++ii xs)) L;have r:=Same.aM (o:=.lst [.int 41]) hc;have M:=Same.aM (o:=.lst ([.int 40]++ii xs++[.int 41])) n;refine k _ d (((p.trans q).trans r).trans M) (.inr (((p.trans q).trans r).free n)) ?_;rw[ak];unfold encl;rw[aaU j];simp
 .rw[aaz (by rw[aat (λe=>j (by have:=V.int.inj e;grind))];exact aaT)]
  refine⟨_,rfl,k H t (Same.refl H) (.inl rfl) ?_⟩;unfold encl;rw[aaz j];exact l
inductive Kh(vs:List V)(H:Hp)(Q:VK)(e3:XK):Prop
|mk (k o:Int) (t:Addr) (xs:List Int) (_:vs=[.int k,.ref t,.int o]) (_:0<=k/\k<=7) (_:H t=some (.lst (ii xs))) (_:xs.length<=10000000) (_:VN H t (lQ o (k,xs)) Q)
def QD:aJ ["kind","text","outer"] ["kind","text","outer"] (aA (top 64)):=scm
def QF(a:Hy P w K mg C base):gF P w K mg base "enclosed_second" 2 ["kind","text","outer"] Kh:=by
 obtain⟨f,c,F,d⟩:=a.d17;obtain⟨u,q,g,j,l,m⟩:=Kg a;refine⟨f,c,?_,F.kp,xu F λ_ _ _ _ _ _ _ _ _=>rfl,d⟩;refine eE F QD λr A outer s H vs Q E n h=>?_;obtain⟨kd,o,t,xs,rfl,p,b,hz,k⟩:=h;refine⟨_,ao (aZ (aK dU (pv 0) (pv 2) (aR _)) (au (aF (pv 1))) aO)
  (au (aF (aB g n rfl m j l .nil aH (aj (pv 0) (aj (pv 1) aq))))),?_⟩
 refine⟨_,rfl,_,rfl,rfl,_,rfl,?_⟩;show(if decide (V.int kd=V.int o)=true then _ else _);unfold lQ at k;by_cases h:kd=o
 .rw[aaU (aaD (by rw[h]))]
  rw[aaU h]at k;exact⟨_,rfl,k H t (Same.refl H) (.inl rfl) b⟩
 .rw[aaz (by rw[aat (λe=>h (V.int.inj e))];exact aaT)]
  rw[aaz h]at k;exact⟨_,rfl,_,rfl,kd,t,xs,rfl,p,b,hz,k⟩
def Bh(K:Frag)(b H:Hp)(c:Addr)(v:V)(x:MR.KT):Prop:=Ex2 λa t=>Fz (v=.ref a) (dG K H a [.int x.1,.ref t]) (H t=some (.lst (ii x.2))) (b t=none) (t≠c) (0<=x.1/\x.1<=7)
def HW(K:Frag)(a H:Hp)(b:Addr)(vs:List V)(st:List MR.KT):Prop:=Paired (Bh K a H b) vs st.reverse
def Bh.same{f H g:Hp}{d:Addr}{v:V}{x:MR.KT}(h:Bh K f H d v x)(e:∀b o,H b=some o->b≠d->g b=some o)(l:∃xs,H d=some (.lst xs)):Bh K f g d v x:=by
 obtain⟨a,t,rfl,c,m,n,j,p⟩:=h;obtain⟨xs,k⟩:=l;refine⟨a,t,rfl,?_,e _ _ m j,n,j,p⟩;rcases c with(c|⟨o,c⟩)|c
 .exact .inl (.inl (e _ _ c (gJ c k (by intro z;cases z))))
 .exact .inl (.inr ⟨o,e _ _ c (gJ c k (by intro z;cases z))⟩)
 .exact .inr c
theorem HW.same{c H d:Hp}{a:Addr}{vs:List V}{st:List MR.KT}(h:HW K c H a vs st)(e:∀b o,H b=some o->b≠a->d b=some o)(f:∃xs,H a=some (.lst xs)):HW K c d a vs st:=Paired.dY h λ_ _ z=>z.same e f
def HW.pop{b H:Hp}{c:Addr}{vs:List V}{x:MR.KT}{st:List MR.KT}(h:HW K b H c vs (x::st)):Ex2 λus v=>dF (vs=us++[v]) (HW K b H c us st) (Bh K b H c v x):=by
 unfold HW at h;rw[aeh]at h;have d:∀{vs:List V}{l:List MR.KT}{x:MR.KT},Paired (Bh K b H c) vs (l++[x])->Ex2 λus v=>dF (vs=us++[v]) (Paired (Bh K b H c) us l) (Bh K b H c v x):=by
  intro vs l
  induction l generalizing vs with
  |nil=>
   intro x h;cases h with
   |cons a t=>cases t;exact⟨[],_,rfl,.nil,a⟩
  |cons y l e=>
   intro x h;cases h with
   |cons a t=>
    obtain⟨us,v,rfl,f,g⟩:=e t;exact⟨_::us,v,rfl,.cons a f,g⟩
 exact d h
def HW.push{a H:Hp}{b:Addr}{us:List V}{v:V}{x:MR.KT}{st:List MR.KT}(h:HW K a H b us st)(c:Bh K a H b v x):HW K a H b (us++[v]) (x::st):=by
 unfold HW;rw[aeh];exact adW h c
def HW.len{a H:Hp}{b:Addr}{vs:List V}{st:List MR.KT}(h:HW K a H b vs st):vs.length=st.length:=by
 have:=abC h;rwa[ae9]at this
def VP{k:Int}(h:0<=k/\k<=5):Fx (ii [42,124,38,43,33,63]) k=some (.int (kb k)):=by
 have:k=0\/k=1\/k=2\/k=3\/k=4\/k=5:=by grind
 rcases this with rfl|rfl|rfl|rfl|rfl|rfl<;>rfl
def Uq{k:Int}(h:0<=k/\k<=7):(pc k=0↔k=6\/k=7)/\(pc k=1↔k=4\/k=5):=by
 rcases k8 h with rfl|rfl|rfl|rfl|rfl|rfl|rfl|rfl<;>decide
def Kl(K:Frag)(H:Hp)(p a:Addr)(c:Formula)(i:Nat)(d:L2.St)(b:Hp):Prop:=Ex8 λ(e f g j k l:Option V)(st:List MR.KT)(vs:List V)=>xZ (d=[some (.ref p),some (.ref a),e,f,g,j,k,l]) (Same H b) (b a=some (.lst vs)) (HW K H b a vs st) (stk w0 w1 w2 ((flat c).drop ((flat c).length - i))=some st)
def nP{H d:Hp}{p a q t:Addr}{j:Formula}{i:Nat}{x:Nd}{u v y:Option V}{us:List V}{st0 g:List MR.KT}{tx:List Int}{D:Ends}(n:H a=none)(z:D.nx=Kl K H p a j (i+1))(A:0<=x.1/\x.1<=7)
  (B:Same H d)(hu:d a=some (.lst us))(C:HW K H d a us st0)(E:d t=some (.lst (ii tx)))(I:H t=none)(l:t≠a)(hz:us.length<2000001)
  (r:stk w0 w1 w2 ((flat j).drop ((flat j).length - (i+1)))=some g)(J:g=(x.1,tx)::st0):
  JD (tBM K "list" Ak (gU 1) (d_ (Zo (d_ (gU 2) (d_ (gU 4) iB))) iB)) D [some (.ref p),some (.ref a),some (.int x.1),some (.ref q),some (.ref t),u,v,y] d:=by
 refine⟨_,rfl,.inl ⟨rfl,_,aV.of hu⟩,_,rfl,_,rfl,(by show 2<=sizeLine;decide),λc hc=>?_⟩;have f:=Same.aM (o:=.tup [.int x.1,.ref t]) hc;have m:=f _ _ hu;refine⟨a,us,_,rfl,rfl,m,by rw[aa1];grind,?_⟩;rw[z];have k:∀b o,upd d c (.tup [.int x.1,.ref t]) b=some o->b≠a->upd (upd d c (.tup [.int x.1,.ref t])) a (.lst (us++[.ref c])) b=some o:=λb o e L=>by rw[aU L];exact e
 have s:c≠a:=λe=>by rw[e]at hc;rw[hc]at hu;cases hu
 refine⟨_,_,_,_,_,_,g,us++[.ref c],rfl,(B.trans f).bW n,ak,?_,r⟩;rw[J];refine((C.same (λb o e _=>f b o e) ⟨_,hu⟩).same k ⟨_,m⟩).push ⟨c,t,rfl,.inl (.inl (k _ _ ak s)),k _ _ (f _ _ E) l,I,l,A⟩
inductive QG(K:Frag)(vs:List V)(H:Hp)(Q:VK)(e3:XK):Prop
|mk (p:Addr) (A:Formula) (_:vs=[.ref p]) (_:Fl K H p (flat A)) (_:wt (flat A)<=8000000) (_:∀(H':Hp)(q:Addr),Same H H'->H q=none->H' q=some (.lst (ii (nm (form A))))->Q (.ref q) H')
def iu:aJ ["formula","forms","kind","name","text","only","first","second"] ["formula"] (aA (top 65)):=scm
def uK(J:Hy P w K mg C base):gF P w K mg base "form_of" 3 ["formula"] (QG K):=by
 obtain⟨f,fd,F,mF⟩:=J.d18;have B:=J.B;have gp:=J.cJ;have gs:=J.Ax;have g6:=J.jw;have g7:=J.je;have gt:=J.uI;obtain⟨f1,k_,G1,k1,b1,m1⟩:=Kg J;obtain⟨f2,fd2,G2,k2,b2,m2⟩:=QF J;refine⟨f,fd,?_,F.kp,pF F λ_ _ _ _ _ _ _=>rfl,mF⟩;obtain⟨ap,ep,hp⟩:=gp;obtain⟨as,es,hs⟩:=gs;refine eE F iu λcdv A outer s H vs Q E hr h=>?_;obtain⟨p,L,rfl,hF,hz,k⟩:=h;have hr1:bI 1 _:=hr.mono (by decide);refine⟨_,ao (pS iu 1 (aQ aq))
  (ao (cW abu rfl (mL rfl B.reversed (aj (pv 0) aq)) (dM (K:=K) (a:=2) (b:=3) rfl rfl iu.nd rfl rfl rfl rfl)
   (ao (aZ (aK dU (pv 2) (cX g6) (aR _)) (au (pS iu 4 (fJ kY (by rfl) B.list boot_list (aj (pv 3) aq))))
    (au (aZ (aK dU (pv 2) (cX g7) (aR _)) (au (pS iu 4 (bO f9 (aQ (aj (cX gt) aq)) (fJ kY (by rfl) B.list boot_list (aj (pv 3) aq)))))
     (au (aZ (aK dU (aP bN (v9 ep) (pv 2) (λ_ _=>rfl)) aD (aR _))
      (ao (pS iu 5 (fO aaW ab2 ab4 fZ (pv 1)))
       (au (pS iu 4 (bO f9 (aQ (aj (aP bN (v9 es) (pv 2) (λ_ _=>rfl)) aq)) (aB G1 hr1 rfl m1 k1 b1 .nil aH (aj (aP bN (pv 5) aD (λ_ _=>rfl)) (aj (aP bN (pv 5) aD (λ_ _=>rfl)) aq)))))))
      (ao (pS iu 6 (fO aaW ab2 ab4 fZ (pv 1)))
      (ao (pS iu 7 (fO aaW ab2 ab4 fZ (pv 1)))
       (au (pS iu 4 (bO f9 (bO f9 (aB G1 hr1 rfl m1 k1 b1 .nil aH (aj (aP bN (pv 6) aD (λ_ _=>rfl)) (aj (aP bN (pv 6) aD (λ_ _=>rfl)) aq)))
        (aQ (aj (aP bN (v9 es) (pv 2) (λ_ _=>rfl)) aq)))
        (aB G2 hr rfl m2 k2 b2 .nil aH (aj (aP bN (pv 7) aD (λ_ _=>rfl)) (aj (aP bN (pv 7) aD (λ_ _=>rfl)) (aj (pv 2) aq))))))))))))))
   (au (bH (dD aaW abv abw bY (pv 1) (aj (dw (aj (pv 2) (aj (pv 4) aq))) aq))))))
  (au (aF (aP bN (fO aaW ab2 ab4 fZ (pv 1)) aD (λ_ _=>rfl))))),?_⟩
 refine⟨abe _,λn I=>?_⟩;obtain⟨ws,tM,hN⟩:=hF;have hlen:=hN.len;have hall:=zQ w0 w1 w2 L;have sD:Same H (upd H n (.lst [])):=Same.aM I;have VR:∀{u:Hp},Same H u->aV K u p ws:=λe=>aV.of (e _ _ tM);have hbig:(flat L).length<=2000000:=by
  have:∀l:List Nd,5*l.length<=wt l:=λl=>by
   induction l with
   |nil=>simp
   |cons a l ih=>rw[cF,aae];grind
  have:=this (flat L);grind
 refine⟨_,rfl,p,ws,rfl,VR sD,Bg (xs:=ws) (Kl K H p n L) ⟨none,none,none,none,none,none,[],[],rfl,sD,ak,.nil,by rw[agZ,aev];rfl⟩ (λi σ u _ ⟨_,_,_,_,_,_,_,_,_,z,_,_,_⟩=>VR z) ?_ ?_⟩
 .rintro i v σ u hi hv ⟨o2,o3,o4,o5,o6,o7,st,vs,rfl,z,m,O,uo⟩
  obtain⟨x,hx,pt,q,rfl,h1,h2⟩:=hN.get hv;rw[hlen]at hi hx;have hdr:=wz hi hx;obtain⟨st',hst'⟩:=wj w0 w1 w2 hall ((flat L).length - (i+1));have hst2:=hst';rw[hdr]at hst2;obtain⟨s0,hs0,hcase⟩:=lO w0 w1 w2 hst2;rw[uo]at hs0;cases hs0;have hsl:=uJ w0 w1 w2 _ _ uo;have hvl:=O.len;have hvz:vs.length<2000001:=by rw[hvl];refine adf hsl ?_;rw[ace];grind
  have htw:tw st<=8000000:=abJ (VL _ _ uo) (abJ (Kf _ _) hz);have hkd:=cA L x (aa6 hx);have h2':=z.bB h2;have pck:=Uq hkd;have afR:x.2.length<=8000000:=by
   have:x.2.length+5<=wt ((flat L).drop ((flat L).length - (i+1))):=by rw[hdr,cF];grind
   exact abJ (abJ (adb _ 5) this) (abJ (Kf _ _) hz)
  refine⟨pt,_,rfl,z.bB h1,rfl,_,_,rfl,_,_,rfl,rfl,?_⟩;refine⟨_,rfl,rfl,_,rfl,?_⟩;show(if decide (V.int x.1=V.int 6)=true then _ else _);by_cases T:x.1=6
  .rw[aaU (aaD (by rw[T]))]
   have N:st'=w0 x::st:=by
    rcases hcase with⟨_,e⟩|⟨e,_⟩|⟨e,_⟩
    .exact e
    .rw[T]at e;cases e
    .rw[T]at e;cases e
   refine⟨_,rfl,q,_,rfl,.inr h2',λt y=>?_⟩;have D:=Same.aM (o:=.lst (ii x.2)) y;refine nP (x:=x) (tx:=x.2) I rfl hkd (z.trans D) (D _ _ m) (O.same (λb o e _=>D b o e) ⟨_,m⟩) ak (z.free y) (ac6 (aW m y)) hvz hst' ?_;rw[N];unfold w0;rw[aaU T]
  rw[aaz (by rw[aat (λe=>T (V.int.inj e))];exact aaT)];refine⟨_,rfl,rfl,_,rfl,?_⟩;show(if decide (V.int x.1=V.int 7)=true then _ else _);by_cases e7:x.1=7
  .rw[aaU (aaD (by rw[e7]))]
   have N:st'=w0 x::st:=by
    rcases hcase with⟨_,e⟩|⟨e,_⟩|⟨e,_⟩
    .exact e
    .rw[e7]at e;cases e
    .rw[e7]at e;cases e
   refine⟨(by show 1<=sizeLine;decide),λa ha=>?_⟩;have D:=Same.aM (o:=.lst [.int 126]) ha;refine⟨_,rfl,q,_,rfl,.inr (D.bB h2'),λb U=>?_⟩;have s3:=Same.aM (o:=.lst (ii x.2)) U;refine⟨a,b,_,_,rfl,rfl,s3 _ _ ak,ak,?_,λt y=>?_⟩
   .rw[aac,aa1];show 1+x.2.length<=_;grind
   have M:=Same.aM (o:=.lst ([.int 126]++ii x.2)) y;have sA:=(D.trans s3).trans M;refine nP (x:=x) (tx:=126::x.2) I rfl hkd (z.trans sA) (sA _ _ m) (O.same (λb o e _=>sA b o e) ⟨_,m⟩) ak ((z.trans (D.trans s3)).free y) (ac6 (aW ((D.trans s3) _ _ m) y)) hvz hst' ?_;rw[N];unfold w0;rw[aaz T]
  rw[aaz (by rw[aat (λe=>e7 (V.int.inj e))];exact aaT)];have hkb:0<=x.1/\x.1<=5:=by grind
  refine⟨_,rfl,ap,_,_,_,rfl,rfl,hp.sq _,iC hkd,rfl,_,rfl,?_⟩;show(if decide (V.int (pc x.1:Int)=V.int 1)=true then _ else _);by_cases e1:pc x.1=1
  .rw[aaU (aaD (by rw[e1];rfl))]
   obtain⟨a,r,rfl,N⟩:∃a r,st=a::r/\st'=w1 x a::r:=by
    rcases hcase with⟨e,_⟩|⟨_,h⟩|⟨e,_⟩
    .rw[e1]at e;cases e
    .exact h
    .rw[e1]at e;cases e
   obtain⟨us,v,rfl,hK1,ta,t0,rfl,g1,g2,g3,g4,g5⟩:=O.pop;have sP:cP u (upd u n (.lst us)):=cP.bW m;have kp:∀b o,u b=some o->b≠n->upd u n (.lst us) b=some o:=λb o e U=>by rw[aU U];exact e
   have ul:us.length<2000001:=by rw[aad]at hvz;grind
   have ab5:a.2.length<=8000000:=by rw[jx]at htw;grind
   refine⟨_,rfl,.inl ⟨rfl,_,aV.of m⟩,n,_,_,rfl,rfl,m,cY _ _,?_⟩;rw[adl];refine⟨_,rfl,as,_,_,_,rfl,rfl,hs.sq _,VP hkb,(by show 1<=sizeLine;decide),λb U=>?_⟩;have D:=Same.aM (o:=.lst [.int (kb x.1)]) U;have sQ:=sP.trans D.t;refine⟨_,rfl,ta,_,_,_,rfl,rfl,sQ.bB g1,aL (j:=0) rfl,_,rfl,ta,_,_,_,rfl,rfl,sQ.bB g1,aL (j:=1) rfl,a.1,t0,a.2,rfl,g5,D _ _ (kp _ _ g2 g4),by grind,λH4 c M hc hc2=>?_⟩;refine⟨b,c,_,_,rfl,rfl,M _ _ ak,hc2,?_,λt y=>?_⟩
   .have:=mU a
    rw[aac,aa1];show 1+(encl a).length<=_;grind
   have s5:=Same.aM (o:=.lst ([.int (kb x.1)]++ii (encl a))) y;have Y:=(D.trans M).trans s5;have QH:upd u n (.lst us) n=some (.lst us):=ak;refine nP (x:=x) (us:=us) (tx:=kb x.1::encl a) I rfl hkd ((z.bW I).trans Y) (Y _ _ ak) ((hK1.same kp ⟨_,m⟩).same (λb o e _=>Y b o e) ⟨_,QH⟩) ak (((z.bW I).trans (D.trans M)).free y) (ac6 (aW ((D.trans M) _ _ QH) y)) ul hst' ?_;rw[N];rfl
  .rw[aaz (by rw[aat (λe=>e1 (by have:=V.int.inj e;grind))];exact aaT)]
   obtain⟨a,b0,r,rfl,N⟩:∃a b r,st=a::b::r/\st'=w2 x a b::r:=by
    rcases hcase with⟨e,_⟩|⟨e,_⟩|⟨_,h⟩
    .rcases pck.1.mp e with e|e
     .exact absurd e T
     .exact absurd e e7
    .exact absurd e e1
    .exact h
   obtain⟨us1,v,rfl,hK1,ta,t0,rfl,g1,g2,g3,g4,g5⟩:=O.pop;obtain⟨us,v2,rfl,hK2,tb,t1,rfl,i1,i2,i3,i4,i5⟩:=hK1.pop;have ul:us.length<2000001:=by rw[aad,aad]at hvz;grind
   have ab5:a.2.length+b0.2.length<=8000000:=by rw[jx,jx]at htw;grind
   refine⟨_,rfl,.inl ⟨rfl,_,aV.of m⟩,n,_,_,rfl,rfl,m,cY _ _,?_⟩;rw[adl];have ZP:upd u n (.lst (us++[.ref tb])) n=some (.lst (us++[.ref tb])):=ak;refine⟨_,rfl,.inl ⟨rfl,_,aV.of ZP⟩,n,_,_,rfl,rfl,ZP,cY _ _,?_⟩;rw[adl,TV];have sP:cP u (upd u n (.lst us)):=cP.bW m;have kp:∀b o,u b=some o->b≠n->upd u n (.lst us) b=some o:=λb o e U=>by rw[aU U];exact e
   have QH:upd u n (.lst us) n=some (.lst us):=ak;refine⟨_,rfl,ta,_,_,_,rfl,rfl,sP.bB g1,aL (j:=0) rfl,_,rfl,ta,_,_,_,rfl,rfl,sP.bB g1,aL (j:=1) rfl,a.1,t0,a.2,rfl,g5,kp _ _ g2 g4,by grind,λH4 c M hc hc2=>?_⟩;refine⟨_,rfl,as,_,_,_,rfl,rfl,hs.sq _,VP hkb,(by show 1<=sizeLine;decide),λd hd=>?_⟩;have s5:=Same.aM (o:=.lst [.int (kb x.1)]) hd;have la:=mU a;refine⟨c,d,_,_,rfl,rfl,s5 _ _ hc2,ak,?_,λe he=>?_⟩
   .rw[aac,aa1];show(encl a).length+1<=_;grind
   have s6:=Same.aM (o:=.lst (ii (encl a)++[.int (kb x.1)])) he;have ZQ:=(M.trans s5).trans s6;have sQ:=sP.trans ZQ.t;refine⟨_,rfl,tb,_,_,_,rfl,rfl,sQ.bB i1,aL (j:=0) rfl,_,rfl,tb,_,_,_,rfl,rfl,sQ.bB i1,aL (j:=1) rfl,_,rfl,b0.1,x.1,t1,b0.2,rfl,i5,ZQ _ _ (kp _ _ i2 i4),by grind,λH7 g s7 hg hg2=>?_⟩;have lb:=yU x.1 b0;refine⟨e,g,_,_,rfl,rfl,s7 _ _ ak,hg2,?_,λt y=>?_⟩
   .rw[aad,aac,aac,aa1];show(encl a).length+1+(lQ x.1 b0).length<=_;grind
   have s8:=Same.aM (o:=.lst (ii (encl a)++[.int (kb x.1)]++ii (lQ x.1 b0))) y;have Y:=(ZQ.trans s7).trans s8;refine nP (x:=x) (us:=us) (st0:=r) (tx:=encl a++kb x.1::lQ x.1 b0) I rfl hkd ((z.bW I).trans Y) (Y _ _ ak) ((hK2.same kp ⟨_,m⟩).same (λb o e _=>Y b o e) ⟨_,QH⟩) ?_ (((z.bW I).trans (ZQ.trans s7)).free y) (ac6 (aW ((ZQ.trans s7) _ _ QH) y)) ul hst' ?_
   .rw[ak]
    congr 2
    simp
   .rw[N]
    rfl
 .rintro σ u ⟨o2,o3,o4,o5,o6,o7,st,vs,rfl,z,m,O,uo⟩
  rw[hlen,adB,afC,hall]at uo;cases uo;obtain⟨us,v,rfl,_,a,t,rfl,h1,h2,h3,h4,_⟩:=O.pop;refine⟨_,rfl,.inl ⟨rfl,_,aV.of m⟩,n,_,_,rfl,rfl,m,cY _ _,a,_,_,_,rfl,rfl,(cP.bW m).bB h1,aL (j:=1) rfl,?_⟩;refine k _ t (z.bW I) h3 ?_;rw[aU h4,h2,Tp]
end CL
namespace L2
open PySem PySem.Spec PyProof.Rows MR
def look(a:List (Int×Int))(k:Int):Option Int:=(a.find? λx=>decide (x.1=k)).map (·.2)
theorem wB(k:Int):∀a:List (Int×Int),Dz (kvI a) (Sum.inl k)=(look a k).map V.int
|[]=>rfl
|x::a=>by
 have b:=wB k a;unfold Dz kvI look at b⊢;rw[aaZ,adi,adi];by_cases h:x.1=k
 .rw[aaD h,aaD (show(Sum.inl x.1:Key)=Sum.inl k by rw[h])]
  rfl
 .rw[aat h,aat (show ¬(Sum.inl x.1:Key)=Sum.inl k from λe=>h (ahw e))]
  exact b
section
variable{X:Cx}{pos:Pos}
inductive ZR(P:Program)(w:World)(K:Frag)(x:V)(y:V)(H:Hp)(Q:VK):Prop
|mk a kvs k (_:x=.int k) (_:y=.ref a) (_:KD P w K a kvs) (_:Q (.bl (look kvs k).isSome) H)
def pG:o_ X (compareOp .In) (ZR X.prog X.w X.K):=by
 intro pins s m H x y v u Q I c d h;obtain⟨a,l,k,rfl,rfl,f,q⟩:=h;cases d;obtain⟨g,vs,b,j⟩:=f s.heap I.Dh;refine wpAny_in_of (Qn (k:=Sum.inl k) c) g j.mapOf ?_;have e:=(b.val (Sum.inl k)).yM;rw[wB,ah8]at e;rw[<-e];exact⟨.bl _,H,I.tok _,rfl,q⟩
def QJ(P:Program)(w:World)(K:Frag)(d e:TE):TE:=λc H Q=>d c H λx f=>e c f λy g=>Ft λa b k v=>xZ (x=.ref a) (y=.int k) (KD P w K a b) (look b k=some v) (Q (.int v) g)
def Km{o i:Expr}{b c:TE}(l:PE X o b)(m:PE X i c)(hs:Xl i):PE X (.Subscript o i pos) (QJ X.prog X.w X.K b c):=by
 intro pins s d H Q I h;refine JX agm.lookup hs (cV (l pins s d H _ I h) λu n ⟨x,p,q,r,t⟩=>cV (m pins n d p _ q t) λL w ⟨y,z,e,A,a,J,k,v,ex,B,C,D,E⟩=>?_);subst ex B;obtain rfl:u=Value.ref a:=r;obtain⟨M,vs,g,f⟩:=C w.heap e.Dh;obtain⟨N,hw,j⟩:=oh.some_of (v:=V.int v) (o:=valueAt vs (Sum.inl k)) (by
  have:=g.val (Sum.inl k);rw[wB,D]at this;exact this)
 exact⟨f.typeIs,wpAny_getItem_of (Qn (k:=Sum.inl k) A) f.mapOf hw ⟨.int v,z,e.tok _,j,E⟩⟩
structure Callee(X:Cx)(f:Addr)(sp:Sp):Prop where
 ok:sV λ(fd:FuncData)(ps:List Str)(k:Nat)=>lM (i_ X.prog X.w X.K X.mg X.base DG k f fd ps sp) (bI k X.A) (Binds X.K fd ps []) (keepIn X.K (.ref f)=true)
def XF(C:Addr->Sp->Prop)(b:TE)(t:TA):TE:=λa H Q=>b a H λx c=>Ex2 λf sp=>dF (x=.ref f) (C f sp) (t a c λvs d=>sp vs d Q E0)
def QK{b e:Expr}{a:List Expr}{c:TE}{t:TA}(m:PE X b c)(n:PA X (e::a) t)
  (j:eval (.Call b (e::a) [] pos) X.env=(do callWith pos (<-eval b X.env) [] (backTo pos (starEach (e::a) X.env)) (backToKw pos (keywordEach [] X.env))):=by rfl)
  (o:starEach (e::a) X.env=(false,eval e X.env)::starEach a X.env:=by rfl)(l:(backTo pos (starEach a X.env)).any (·.1)=false:=by rfl):
  PE X (.Call b (e::a) [] pos) (XF (Callee X) c t):=by
 intro pins s d H Q I h;refine Call_ (cV (m pins s d H _ I h) λu p ⟨x,v,w,y,f,sp,ex,⟨D,ps,k,F,z,A,B⟩,q⟩=>?_) j;subst ex;cases y;refine agh (h₀:=X.base) I.ok.mod.WX B (cV (n pos pins p d v _ w q) λus E ⟨vs,J,g,r,C⟩=>⟨g.Dh,?_⟩) o l;exact Ag (xr:=[]) (ds:=[]) F z A .nil aH g r (by rw[acQ];exact C)
end
abbrev TK(P:Program)(w:World):HeapKind P w (List Int):=tupleKind (intKind P w)
abbrev DL:=List (List Int×Addr×V)
abbrev rP:DL->List (List Int×Addr×Value)->Prop:=Paired λp q=>p.1=q.1/\p.2.1=q.2.1/\RelV p.2.2 q.2.2
def XH(P:Program)(w:World)(a:Addr)(b:DL)(h:Heap):Prop:=b.length<=sizeLine/\(a==sysModules)=false/\∃o c d xs,h.get? a=some o/\o.ExactDict/\o.data=.dict c d/\c.toList=xs.map (entryOfKey (TK P w))/\(xs.map (·.1)).Nodup/\rP b xs
def cH(P:Program)(w:World)(a:Addr)(b:DL):HO:=.ext (XH P w a b)
def dz(a:DL)(k:List Int):Option V:=(a.find? λx=>decide (x.1=k)).map (·.2.2)
def fV(a:DL)(k:List Int)(b:Addr)(v:V):DL:=if(dz a k).isSome=true then a.map λx=>if x.1=k then(x.1,x.2.1,v)else x else a++[(k,b,v)]
def dX(x:List Int×Addr×V)(a:DL)(k:List Int):dz (x::a) k=if x.1=k then some x.2.2 else dz a k:=by
 unfold dz;rw[adi];by_cases h:x.1=k
 .rw[aaD h,aaU h];rfl
 .rw[aat h,aaz h]
def Eb(l m:DL)(k:List Int):dz (l++m) k=(dz l k).or (dz m k):=by
 induction l with
 |nil=>rfl
 |cons x l a=>
  rw[List.cons_append,dX,dX,a];split<;>rfl
def M7(c:DL)(k j:List Int)(v:V):dz (c.map λx=>if x.1=k then(x.1,x.2.1,v)else x) j=if j=k then(dz c k).map (λ_=>v)else dz c j:=by
 induction c with
 |nil=>split<;>rfl
 |cons x l d=>
  rw[aaZ,dX,dX,dX,d];by_cases b:x.1=k
  .rw[aaU b]
   by_cases a:j=k
   .subst a
    simp[b]
   .rw[aaz a,aaz a]
    have:¬x.1=j:=λe=>a (e.symm.trans b);simp[this]
  .rw[aaz b]
   by_cases a:j=k
   .subst a
    simp[b]
   .simp only[aaz a,aaz b]
def mV(c:DL)(k j:List Int)(b:Addr)(v:V):dz (fV c k b v) j=if j=k then some v else dz c j:=by
 unfold fV;by_cases h:(dz c k).isSome=true
 .rw[aaU h,M7]
  obtain⟨u,hu⟩:=agy.mp h;by_cases a:j=k
  .rw[aaU a,aaU a,hu];rfl
  .rw[aaz a,aaz a]
 .rw[aaz h,Eb]
  have d:dz c k=none:=by simpa using h
  by_cases a:j=k
  .subst a
   rw[aaU rfl,d,dX,aaU rfl];rfl
  .rw[aaz a,dX,aaz (λe:k=j=>a e.symm)]
   cases dz c j<;>rfl
def nQ(a:DL)(k:List Int)(b:Addr)(v:V):(fV a k b v).length<=a.length+1:=by
 unfold fV;split
 .rw[aac];grind
 .rw[aad,abj];grind
def HX{a:DL}{k:List Int}(h:(dz a k).isSome=true)(b:Addr)(v:V):(fV a k b v).map (λx=>(x.1,x.2.1))=a.map λx=>(x.1,x.2.1):=by
 unfold fV;rw[aaU h,abL];refine ae8 λx _=>?_;show(λx:List Int×Addr×V=>(x.1,x.2.1)) (if x.1=k then(x.1,x.2.1,v)else x)=_;split<;>rfl
def bR(K:Frag)(H:Hp)(a:DL):Prop:=∀x∈a,dG K H x.2.1 (x.1.map V.int)
def bR.put{K:Frag}{H:Hp}{c:DL}{k:List Int}{b:Addr}{v:V}(h:bR K H c)(d:dG K H b (k.map V.int)):bR K H (fV c k b v):=by
 intro x a;unfold fV at a;split at a
 .obtain⟨y,e,rfl⟩:=aa5.mp a
  have:=h y e;split<;>exact this
 .rcases aa4.mp a with a|a
  .exact h x a
  .rcases abO.mp a with rfl
   exact d
def rP.val{d:DL}{xs:List (List Int×Addr×Value)}(r:rP d xs)(k:List Int):oh (dz d k) ((atKey xs k).map (·.2)):=by
 induction r with
 |nil=>exact True.intro
 |@cons p q ps a h t g=>
  obtain⟨f,_,j⟩:=h;rw[dX];by_cases e:p.1=k
  .have c:q.1=k:=f.symm.trans e
   have b:atKey (q::a) k=some q.2:=by simp[atKey,adi,c]
   rw[aaU e,b];exact j
  .have c:¬q.1=k:=λz=>e (f.trans z)
   have b:atKey (q::a) k=atKey a k:=by simp[atKey,adi,c]
   rw[aaz e,b];exact g
def rP.repl{b:DL}{xs:List (List Int×Addr×Value)}(r:rP b xs)(k:List Int){y:V}{u:Value}(d:RelV y u):rP (b.map λx=>if x.1=k then(x.1,x.2.1,y)else x) (xs.map (putAt k u)):=by
 induction r with
 |nil=>exact .nil
 |@cons p q ps j h t f=>
  rw[aaZ,aaZ];refine .cons ?_ f;obtain⟨a,c,g⟩:=h;unfold putAt;by_cases e:p.1=k
  .rw[aaU e,aaU (a.symm.trans e)];exact⟨a,c,d⟩
  .rw[aaz e,aaz (λz=>e (a.trans z))];exact⟨a,c,g⟩
def rP.put{a:DL}{xs:List (List Int×Addr×Value)}(r:rP a xs)(k:List Int){b:Addr}{y:V}{u:Value}(c:RelV y u):rP (fV a k b y) (storedH xs k b u):=by
 have e:(dz a k).isSome=(atKey xs k).isSome:=by rw[(r.val k).yM,ah8]
 unfold fV storedH;rw[e];by_cases q:(atKey xs k).isSome=true
 .rw[aaU q,aaU q];exact r.repl k c
 .rw[aaz q,aaz q];exact adW r ⟨rfl,rfl,c⟩
section
variable{X:Cx}{pins:List (Addr×Obj)}{σ:St}{H:Hp}{s:Shared}
def Inv.key(I:Inv X pins σ H s){b:Addr}{k:List Int}(h:dG X.K H b (k.map V.int)):(TK X.prog X.w).is s.heap k b:=I.isT h
def Inv.dic(I:Inv X pins σ H s){a:Addr}{c:DL}(h:H a=some (cH X.prog X.w a c))(d:bR X.K H c):c.length<=sizeLine/\(a==sysModules)=false/\∃xs,rP c xs/\s.heap.DictOfH (TK X.prog X.w) a xs:=by
 obtain⟨⟨k,hs,o,n,r,xs,u,v,w,z,A,f⟩,_,_⟩:=I.hok a _ h;refine⟨k,hs,xs,f,o,n,r,u,v,w,z,?_,A⟩;have j:∀{l:DL}{m:List (List Int×Addr×Value)},rP l m->bR X.K H l->∀x∈m,(TK X.prog X.w).is s.heap x.1 x.2.1:=by
  intro l m q
  induction q with
  |nil=>intro _ x b;exact nomatch b
  |@cons p q ps D g t B=>
   intro d x b;rcases aa2.mp b with e|b
   .subst e
    have:=I.key (d p aa0);rw[g.1,g.2.1]at this;exact this
   .exact B (λy C=>d y (aaX _ C)) x b
 exact j f d
def Inv.Ko(I:Inv X pins σ H s){a:Addr}{f:DL}(h:H a=some (cH X.prog X.w a f)):s.TypeIs (.ref a) "dict"/\(∀b,Value.ref a=.ref b->∃c,s.heap.get? b=some c/\c.dict=none)/\(a==sysModules)=false:=by
 obtain⟨⟨g,hs,o,j,k,xs,d,e,l,m,n,p⟩,_,_⟩:=I.hok a _ h;refine⟨⟨o,d,e.1⟩,λb q=>?_,hs⟩;cases q;exact⟨o,d,e.2.1⟩
def Ur{P:Program}{w:World}{a:Addr}{b:DL}{c d:Heap}(p:XH P w a b c)(k:∀o,c.get? a=some o->d.get? a=some o):XH P w a b d:=by
 obtain⟨f,hs,o,g,j,xs,e,r⟩:=p;exact⟨f,hs,o,g,j,xs,k o e,r⟩
def QL{P:Program}{w:World}{a:Addr}{b:DL}{xs:List (List Int×Addr×Value)}{h':Heap}{d:Hp}(e:b.length<=sizeLine)(hs:(a==sysModules)=false)(r:rP b xs)(f:h'.DictOfH (TK P w) a xs):fQ P w d h' a (cH P w a b):=by
 obtain⟨o,g,j,c,l,m,n,_,q⟩:=f;exact⟨⟨e,hs,o,g,j,xs,c,l,m,n,q,r⟩,⟨o,c⟩,λ_ _ p k=>Ur p k⟩
end
def XJ(P:Program)(w:World):TE:=λ_ H Q=>∀p,H p=none->Q (.ref p) (upd H p (cH P w p []))
def XM(P:Program)(w:World)(K:Frag)(f g:TE):TE:=λe H Q=>f e H λx j=>g e j λy c=>Oa λa b d k v=>Oh (x=.ref a) (y=.ref b) (c a=some (cH P w a d)) (bR K c d) (dG K c b (k.map V.int)) (dz d k=some v) (Q v c)
def XQ(P:Program)(w:World)(K:Frag)(f g tv:TE):TS:=λD d H=>tv d H λv j=>f d j λx l=>g d l λy e=>Ft λa b c k=>Oh (x=.ref a) (y=.ref b) (e a=some (cH P w a c)) (bR K e c) (dG K e b (k.map V.int)) (c.length<sizeLine) (D.nx d (upd e a (cH P w a (fV c k b v))))
def XR(P:Program)(w:World)(K:Frag)(j l tv:TE)(rd:V->V->Hp->VK->Prop):TS:=λD d H=>j d H λx m=>l d m λy e=>Oa λa b g k v=>Oh (x=.ref a) (y=.ref b) (e a=some (cH P w a g)) (bR K e g) (dG K e b (k.map V.int)) (dz g k=some v) (tv d e λn o=>rd v n o λz f=>∃c,xZ (f a=some (cH P w a c)) (bR K f c) (dG K f b (k.map V.int)) (c.length<sizeLine) (D.nx d (upd f a (cH P w a (fV c k b z)))))
def Us(P:Program)(w:World)(K:Frag)(j l tx:TE):TE:=λe H Q=>j e H λx f=>Ex2 λa g=>dF (x=.ref a) (f a=some (cH P w a g)) (l e f λy m=>tx e m λz d=>sV λb c k=>Oh (y=.ref b) (d a=some (cH P w a c)) (bR K d c) (dG K d b (k.map V.int)) (c.length<sizeLine) (∀v,dz c k=some v->Q v d) (dz c k=none->Q z (upd d a (cH P w a (c++[(k,b,z)])))))
section
variable{X:Cx}{o i e f value:Expr}{pos pos' tpos apos cpos:Pos}{td ty tv tx:TE}
def wC:PE X (.Dict [] [] pos) (XJ X.prog X.w):=λpins s b H Q I h=>
 wpAny_Dict_empty ⟨.ref s.heap.objs.size,_,I.laid (a:=s.heap.objs.size) (o:=cH X.prog X.w s.heap.objs.size []) (t':=s.toks) (λ_ _ q=>aaQ _ q) (aaS _)
  (QL (abe _) (ad2.mpr (ac6 (abt I.big))) .nil (Heap.DictOfH.new s.heap)),rfl,h _ (I.hok.fresh (aaS _))⟩
def QM{A:Around}{E:Value->Shared->Prop}{pins:List (Addr×Obj)}{g:St}{H:Hp}{s:Shared}{a b:Addr}{d:DL}{k:List Int}{v:V}{Q:Value->Shared->Prop}(hu:A.units+1<cLine)(I:Inv X pins g H s)(q:H a=some (cH X.prog X.w a d))(r:bR X.K H d)(t:dG X.K H b (k.map V.int))(u:dz d k=some v)
  (h:∀c j,Inv X pins g H j->RelV v c->Q c j):wpAny (model X.prog X.w) A (getItem (.ref a) (.ref b)) Q E s:=by
 obtain⟨z,y,xs,l,w⟩:=I.dic q r;obtain⟨c,hw,m⟩:=oh.some_of (v:=v) (o:=(atKey xs k).map (·.2)) (by rw[<-u];exact l.val k);obtain⟨p,x,n⟩:=abP.mp hw;refine wpAny_getItem_heap (agj hu) (I.key t) w x ?_;rw[n];exact h c _ (I.tok _) m
def QS{A:Around}{E:Value->Shared->Prop}{pins:List (Addr×Obj)}{j:St}{H:Hp}{s:Shared}{a b:Addr}{c:DL}{k:List Int}{v:V}{r:Value}{Q:Unit->Shared->Prop}(hu:A.units+1<cLine)(I:Inv X pins j H s)(l:H a=some (cH X.prog X.w a c))(n:bR X.K H c)(p:dG X.K H b (k.map V.int))(y:c.length<sizeLine)(t:RelV v r)
  (h:∀m,Inv X pins j (upd H a (cH X.prog X.w a (fV c k b v))) m->Q () m):wpAny (model X.prog X.w) A (setItem (.ref a) (.ref b) r) Q E s:=by
 obtain⟨z,u,xs,d,w⟩:=I.dic l n;have hz:xs.length<=sizeLine:=by rw[<-abC d];exact z
 refine wpAny_setItem_heap (hsz:=hz) (agj hu) (I.key p) w λh' g hs=>h _ ?_;have x:∃q,h'.get? a=some q:=let⟨q,_,_,hq,_⟩:=g;⟨q,hq⟩
 exact JW I (by rw[l];exact True.intro) hs x (QL (by have:=nQ c k b v;grind) u (d.put k t) g)
def wD(hu:X.A.units+1<cLine)(l:PE X o td)(m:PE X i ty)(hs:Xl i):PE X (.Subscript o i pos) (XM X.prog X.w X.K td ty):=by
 intro pins s c H Q I h;refine JX agm.lookup hs (cV (l pins s c H _ I h) λu n ⟨x,p,q,r,t⟩=>cV (m pins n c p _ q t) λw N ⟨y,z,d,A,a,b,M,k,v,ex,B,g,C,D,E,J⟩=>?_);subst ex B;obtain rfl:u=Value.ref a:=r;obtain rfl:w=Value.ref b:=A;exact⟨(d.Ko g).1,QM hu d g C D E λO T L j=>⟨v,z,L,j,J⟩⟩
def wF(hu:X.A.units+1<cLine)(d:PE X o td)(g:PE X i ty)(j:PE X value tv)(hs:swapsWith value (some (.Subscript o i pos')) pos.line X.env=pure false):PS X (.Assign [.Subscript o i pos'] value pos) (XQ X.prog X.w X.K td ty tv):=by
 intro pins s c H D I h;refine wpAny_Assign_Subscript (cV (j pins s c H _ I h) λr l ⟨v,m,n,p,q⟩=>cV (d pins l c m _ n q) λu t ⟨x,w,z,A,B⟩=>cV (g pins t c w _ z B) λC s3 ⟨y,H3,E,J,a,b,Y,k,ex,L,M,N,O,Q,T⟩=>?_) hs;subst ex L;obtain rfl:u=Value.ref a:=A;obtain rfl:C=Value.ref b:=J;exact QS hu E M N O Q p λs4 U=>⟨c,_,U,T⟩
def QT{op:Operator}{rd:V->V->Hp->VK->Prop}(hu:X.A.units+1<cLine)(p:PE X o td)(q:PE X i ty)(r:PE X value tv)(l:Zn X op rd)
  (t:∀j c g,augStore i j c g=(do holding [g,j,c] (setItem j c g);release [g,j,c] [];pure .next)):PS X (.AugAssign (.Subscript o i tpos) op value pos) (XR X.prog X.w X.K td ty tv rd):=by
 intro pins s d H D I h;refine wpAny_AugAssign_SubscriptAny (cV (p pins s d H _ I h) λu w ⟨x,A,B,C,E⟩=>cV (q pins w d A _ B E) λc s2 ⟨y,J,L,M,a,b,kvs,k,v,ex,N,O,Q,T,U,Y⟩=>?_) t;subst ex N;obtain rfl:u=Value.ref a:=C;obtain rfl:c=Value.ref b:=M;refine QM hu L O Q T U λw' s3 I3 m=>cV (r pins s3 d J _ I3 Y) λw2 s4 ⟨y2,H3,I4,n,q3⟩=>cV (l pins s4 d H3 v y2 w' w2 _ I4 m n q3) λw3 s5 ⟨z,H4,I5,rz,afT,f1,f2,f3,f4,q4⟩=>?_;exact QS hu I5 f1 f2 f3 f4 rz λs6 I6=>⟨d,_,I6,q4⟩
def M8(hu:X.A.units+1<cLine)(E:PE X o td)(j:PE X e ty)(J:PE X f tx)(m:M2 X o "setdefault" apos e f cpos):PE X (.Call (.Attribute o "setdefault" apos) [e,f] [] cpos) (Us X.prog X.w X.K td ty tx):=by
 intro pins s l H Q I h;refine wpAny_Call_method m.base m.few m.line PySem.F.plainAttrs_dict af0 PySem.F.type_dict_setdefault (cV (E pins s l H _ I h) λu L ⟨x,M,w,N,a,Ut,ex,O,T⟩=>?_);subst ex;obtain rfl:u=Value.ref a:=N;obtain⟨t1,t2,hsys⟩:=w.Ko O;refine⟨t1,t2,?_⟩;rw[m.trees];refine afz rfl (Calls.evalArgs_plain (afm (cV (j pins L l M _ w T) λU Y ⟨y,H2,I2,ry,q2⟩=>
  afm (cV (J pins Y l H2 _ I2 q2) λfv s3 ⟨z,H3,g,A,b,r,k,ey,B,g2,g3,g4,q3,q4⟩=>ags ?_))))
 subst ey;obtain rfl:U=Value.ref b:=ry;obtain⟨hz,C,xs,d,D⟩:=g.dic B g2;have hn:xs.length<sizeLine:=by rw[<-abC d];exact g4
 refine call_meetsIn af0 D.typeIs PySem.F.entry_dict_setdefault (PySem.F.args_dict_setdefault_3 _ _ _) (rC (kd:=TK X.prog X.w) fv C) ⟨agj hu,k,xs,g.key g3,D,hn,λp n=>?_,λn h' t hs=>?_⟩
 .have c:=d.val k
  rw[n]at c;cases e:dz r k with
  |none=>rw[e]at c;exact c.elim
  |some v=>
   rw[e]at c;exact⟨v,H3,g.tok _,c,q3 v e⟩
 .have c:=d.val k
  rw[n]at c;cases e:dz r k with
  |some v=>rw[e]at c;exact c.elim
  |none=>
   have j:∃q,h'.get? a=some q:=let⟨q,_,_,hq,_⟩:=t;⟨q,hq⟩
   refine⟨z,_,JW g (by rw[B];exact True.intro) hs j (QL ?_ C (adW d ⟨rfl,rfl,A⟩) t),A,q4 e⟩;rw[aad,abj];grind
end
section
variable{X:Cx}
inductive QV(K:Frag)(x:V)(y:V)(H:Hp)(Q:VK):Prop
|mk p xs ds d (_:y=.ref p) (_:aV K H p xs) (_:jc K H xs ds) (_:PyData.canLayAll0 ds=true) (_:d.depth<=60) (_:Dp K H x d) (_:d.canLay0=true) (_:Q (.bl (ds.any λz=>PyData.eqv z d)) H)
def rQ(hu:X.A.units+64<cLine):o_ X (compareOp .In) (QV X.K):=by
 intro pins s m H x y v u Q I a b h;obtain⟨p,xs,ds,d,rfl,c,e,f,l,g,hc,q⟩:=h;obtain⟨as,j⟩:=Dp.reads I (.list ds) (.ref p) u (.lst c e) b;obtain⟨n,k⟩:=Dp.reads I d x v g a;exact SeqAt.in_list_reads j k f hc (by grind) ⟨.bl _,H,I,rfl,q⟩
inductive Ec(K:Frag)(x:V)(vs:List V)(H:Hp)(Q:VK):Prop
|mk l b xs zs (_:x=.ref l) (_:vs=[.ref b]) (_:H l=some (.lst xs)) (_:H b=some (.lst zs)\/dG K H b zs) (_:xs.length+zs.length<=sizeLine) (_:Q .non (upd H l (.lst (xs++zs))))
def wG:Zu X "list.extend" (Ec X.K):=by
 intro pins s p H x vs v us Q I j k h;obtain⟨l,b,xs,zs,rfl,rfl,f,c,hz,q⟩:=h;rcases c with c|c
 .exact gW pins s p H _ _ v us Q I j k ⟨l,b,xs,zs,rfl,rfl,f,c,hz,q⟩
 cases j;obtain⟨u,rfl,t⟩:=k.one;cases t;obtain⟨z,a,n,r,D,e⟩:=I.Dq f;obtain⟨d,m,⟨⟨cls,w,data,y⟩,A,hc2,B,g⟩,_⟩:=I.tuple c;have C:=m.length;have hsz:a.toArray.size+d.toArray.size<=sizeLine:=by rw[abd,abd];grind
 have o:¬(!a.toArray.isEmpty&&Builtin.List.listTooLong (a.toArray.size+d.toArray.size))=true:=by
  rw[Dr hsz,afr];exact aaT
 simp only at hc2 g;subst hc2 g;refine afJ F.slot_list_extend ⟨_,e,rfl⟩ F.entry_list_extend (F.args_list_extend_2 _ _) (Gq l b a.toArray n d.toArray B w y o (by rw[abd];grind) (by grind)) ⟨e,A,?_⟩;refine⟨.non,_,I.Ua (its':=a++d) f e (by simp) (r.append m) ?_,rfl,q⟩;rw[aad];grind
inductive V0(x:V)(vs:List V)(H:Hp)(Q:VK):Prop
|mk i (_:x=.int i) (_:vs=[]) (_:Q (.int ((Builtin.Int.intBits i:Nat):Int)) H)
def Uu:Zt X "int.bit_length" V0:=by
 intro pins s d H x vs v us Q I b c h;obtain⟨i,rfl,rfl,q⟩:=h;obtain⟨t,rfl⟩:=b;have a:=c.zero;subst a;refine afJ F.slot_int_bit_length (typeIs_int s i t) F.entry_int_bit_length (F.args_int_bit_length_1 _) (Gives.meets (AutoIntG2.int_bit_length_int_0 i t)) ?_;exact⟨.int _,H,I.tok _,⟨_,rfl⟩,q⟩
end
def QW(K:Frag)(a b:Addr):It:=⟨λi H=>Ft λ(xs ys:List V)(x y:V)=>lM (aV K H a xs) (aV K H b ys) (xs[i]?=some x) (ys[i]?=some y),
  λi H v d=>Ft λT c x y=>Oh (v=.ref c) (H T=none) (H c=none) (T≠c) (d=upd (upd H T (.tup [x,y])) c (.tup [.int (i:Nat),.ref T])) (∀xs,aV K H a xs->xs[i]?=some x) (∀ys,aV K H b ys->ys[i]?=some y),
  λi H=>Ex2 λ(xs ys:List V)=>dF (aV K H a xs) (aV K H b ys) (xs.length<=i\/ys.length<=i)⟩
def Bj{P:Program}{w:World}{K:Frag}{elts:List Expr}{kk:Nat}{tpos:Pos}{a b e d j m f g:Addr}(D:ZipApart d j m f g a b)(hef:e∉[d,j,m,f,g]):
  Turn P w K (.Tuple elts kk tpos) (QW K a b) [e,d,j,m,f,g] e (λi h=>(∃B,IsEnum h e d ((i:Nat):Int) B)/\Oc h d j m f g a b i) where
 mem:=by simp
 obj:=λi h st c hc=>by
  obtain⟨⟨B,r⟩,hz,U,⟨x,y,Y⟩,⟨o1,e1,_,d1⟩,⟨o2,e2,_,d2⟩⟩:=st;have e':c=e\/c=d\/c=j\/c=m\/c=f\/c=g:=by simpa using hc
  rcases e' with q|q|q|q|q|q
  .rw[q];exact⟨_,r,λv q=>nomatch q⟩
  .rw[q]
   rcases hz with hz|⟨T,b,hz⟩
   .exact⟨_,hz,λv q=>nomatch q⟩
   .exact⟨_,hz,λv q=>nomatch q⟩
  .rw[q];exact⟨_,U,λv q=>nomatch q⟩
  .rw[q];exact⟨_,Y,λv q=>nomatch q⟩
  .rw[q];exact⟨o1,e1,λv q=>by rw[d1]at q;cases q⟩
  .rw[q];exact⟨o2,e2,λv q=>by rw[d2]at q;cases q⟩
 keep:=λi h h' st k=>by
  obtain⟨⟨B,r⟩,Z⟩:=st;exact⟨⟨B,k e (by simp) _ r⟩,Z.at λc hc o q=>k c (aaX _ hc) o q⟩
 item:=by
  intro X hP hw hK hc i pins s σ H E I N st hg;subst hP hw hK;obtain⟨⟨B,r⟩,Z⟩:=st;obtain⟨xs,ys,x,y,J,L,hx,hy⟩:=hg;obtain⟨its,rv,p,_⟩:=I.list J;obtain⟨its2,rv2,p2,_⟩:=I.list L;obtain⟨u,hu,ru⟩:=rv.get hx;obtain⟨t,hu2,ru2⟩:=rv2.get hy;have hel:e<s.heap.objs.size:=aa_ r;have all:∀c∈[e,d,j,m,f,g],c<s.heap.objs.size:=λc hc=>by
   obtain⟨hz,U,⟨a1,b1,Y⟩,⟨o1,q1,_⟩,⟨o2,C,_⟩⟩:=Z;have e':c=e\/c=d\/c=j\/c=m\/c=f\/c=g:=by simpa using hc
   rcases e' with q|q|q|q|q|q
   .rw[q];exact hel
   .rw[q]
    rcases hz with hz|⟨T,b,hz⟩
    .exact aa_ hz
    .exact aa_ hz
   .rw[q];exact aa_ U
   .rw[q];exact aa_ Y
   .rw[q];exact aa_ q1
   .rw[q];exact aa_ C
  refine xP D hef r Z p.isList p2.isList (x:=u) (y:=t) (by simpa using hu) (by simpa using hu2) λh' tk ho Z' P' hT2 hsz kp=>?_;refine⟨_,rfl,agi (s:={s with heap:=h',toks:=tk+1}) ho λh'' he' O=>?_⟩;have nT:s.heap.objs.size≠e:=adI hel;have nT2:s.heap.objs.size+1≠e:=adI (aci hel);have hP2:h''.get? s.heap.objs.size=some ⟨.type "tuple",none,.seq #[u,t] 0,#[]⟩:=(O.2 _ nT).trans P';have hT3:h''.get? (s.heap.objs.size+1)=some ⟨.type "tuple",none,.seq #[.int i tk,.ref s.heap.objs.size] 0,#[]⟩:=(O.2 _ nT2).trans hT2;have I1:Inv X pins σ (upd H s.heap.objs.size (.tup [x,y])) {s with heap:=s.heap.push ⟨.type "tuple",none,.seq #[u,t] 0,#[]⟩,toks:=s.toks}:=
   I.laid (t':=s.toks) (λc o q=>aaQ _ q) (aaS _) ⟨by show 2<=sizeLine;decide,[u,t],.cons ru (.cons ru2 .nil),⟨_,abb _ rfl,rfl,_,rfl⟩⟩
  have fp1:∀c∈[e,d,j,m,f,g],rE X pins (upd H s.heap.objs.size (.tup [x,y])) c:=λc hc=>by
   obtain⟨f0,f1⟩:=N c hc;exact⟨by rw[aU (abt (all c hc))];exact f0,f1⟩
  have I2:Inv X pins σ (upd (upd H s.heap.objs.size (.tup [x,y])) (s.heap.objs.size+1) (.tup [.int (i:Nat),.ref s.heap.objs.size])) {s with heap:=h'',toks:=tk+1}:=
   I1.yN (t':=tk+1) (ch:=[e,d,j,m,f,g]) (λc o hb q=>by
    have n:c≠e/\c≠d/\c≠j/\c≠m/\c≠f/\c≠g:=by simpa using hb
    by_cases hcs:c=s.heap.objs.size
    .subst hcs
     have q':(s.heap.push ⟨.type "tuple",none,.seq #[u,t] 0,#[]⟩).get? s.heap.objs.size=some ⟨.type "tuple",none,.seq #[u,t] 0,#[]⟩:=abb _ rfl;have C:(s.heap.push ⟨.type "tuple",none,.seq #[u,t] 0,#[]⟩).get? s.heap.objs.size=some o:=q;rw[q']at C;cases C;exact hP2
    .have C:s.heap.get? c=some o:=by
      have:=agr s.heap c ⟨.type "tuple",none,.seq #[u,t] 0,#[]⟩ hcs;rw[<-this];exact q
     exact(O.2 c n.1).trans (kp c o n.1 n.2.1 n.2.2.2.1 n.2.2.2.2.1 n.2.2.2.2.2 C)) fp1
    (by show(s.heap.push _).objs.size<=s.heap.objs.size+1;rw[ab6];exact aaS _)
    ⟨by show 2<=sizeLine;decide,[.int i tk,.ref s.heap.objs.size],.cons ⟨_,rfl⟩ (.cons rfl .nil),⟨_,hT3,rfl,_,rfl⟩⟩
  have hn2:H (s.heap.objs.size+1)=none:=I.hok.fresh (aic _);refine⟨.ref (s.heap.objs.size+1),_,I2,rfl,⟨_,_,x,y,rfl,I.hok.fresh (aaS _),hn2,abt (adD _),rfl,λl hl=>by rw[I.lY hl J];exact hx,λl hl=>by rw[I.lY hl L];exact hy⟩,⟨⟨.ref s.heap.objs.size,?_⟩,?_⟩,λc M=>?_⟩
  .have e1:((i+1:Nat):Int)=(i:Int)+1:=by grind
   rw[e1];exact he'
  .refine Z'.at λc M o q=>(O.2 c ?_).trans q
   intro z;exact hef (z▸M)
  .have hlt:=all c M
   rw[aU (abt (aci hlt)),aU (abt hlt)];exact(N c M).1
 done:=by
  intro X hP hw hK hc i pins s σ H E I N st hg;subst hP hw hK;obtain⟨⟨B,r⟩,Z⟩:=st;obtain⟨xs,ys,J,L,hend⟩:=hg;obtain⟨its,rv,p,_⟩:=I.list J;obtain⟨its2,rv2,p2,_⟩:=I.list L;have l1:=rv.length;have l2:=rv2.length;have hov:its.toArray[i]?=none\/its2.toArray[i]?=none:=by
   rcases hend with q|q
   .exact .inl (by simp;grind)
   .exact .inr (by simp;grind)
  exact xQ (I.ok.hd hc) D r Z p.isList p2.isList hov λh' kp=>⟨rfl,I.Ud (t':=s.toks) (ch:=[e,d,j,m,f,g]) (λc o hb q=>by
   have n:c≠e/\c≠d/\c≠j/\c≠m/\c≠f/\c≠g:=by simpa using hb
   exact kp c o n.2.1 n.2.2.2.1 n.2.2.2.2.1 n.2.2.2.2.2 q) N⟩
 self:=λA i s Q E st h=>let⟨⟨_,r⟩,_⟩:=st;afB r h
def QX(K:Frag)(d:TA):TI:=λe H R=>d e H λvs c=>Ft λa b xs ys=>lM (vs=[.ref a,.ref b]) (aV K c a xs) (aV K c b ys) (R (QW K a b) c)
def HY{X:Cx}{e f:Expr}{y:TA}{p m D j B:Pos}{C:List Expr}{kk:Nat}(U:Gl X "enumerate")(Y:X.mg "enumerate"=none)(E:Gl X "zip")(J:X.mg "zip"=none)(ha:PA X [e,f] y)
  (w:starEach [.Call (.Name "zip" m) [e,f] [] j] X.env=[(false,eval (.Call (.Name "zip" m) [e,f] [] j) X.env)]:=by rfl)
  (hs:starEach [e,f] X.env=(false,eval e X.env)::starEach [f] X.env:=by rfl)(L:(backTo j (starEach [f] X.env)).any (·.1)=false:=by rfl):
  PI X (.Tuple C kk B) (.Call (.Name "enumerate" p) [.Call (.Name "zip" m) [e,f] [] j] [] D) (QX X.K y):=by
 intro pins s n H R I h;refine Call_ (lX I U Y boot_enumerate (adt ?_ w rfl));rw[w];show wpAny _ _ (spliced [(false,eval (.Call (.Name "zip" m) [e,f] [] j) X.env)]) _ _ s;refine afm (Call_ (lX I E J MF (adt (cV (ha j pins s n H _ I h) λus d ⟨vs,t,l,r1,q1⟩=>?_) hs L)));obtain⟨a,b,xs,ys,ex,M,N,q⟩:=q1;subst ex;cases r1 with
 |cons r u=>
  cases u with
  |cons r' u=>
   cases u;cases r;cases r';obtain⟨its,rv,l1,_⟩:=l.list M;obtain⟨its2,rv2,l2,_⟩:=l.list N;have la:a<d.heap.objs.size:=l1.lt;have lb:b<d.heap.objs.size:=l2.lt;refine call_zip_2 l1.isList l2.isList λh' hz O Q h1 h2 hsz hk=>ags ?_;refine xR (s:={d with heap:=h'}) hz λg A gsz k=>afB A ?_;have I2:Inv X pins n t {d with heap:=h'}:=l.kept (t':=d.toks) hk;have I3:Inv X pins n t {d with heap:=g}:=I2.kept (t':=d.toks) k;have v:h'.objs.size=d.heap.objs.size+5:=hsz;refine⟨h'.objs.size,[h'.objs.size,d.heap.objs.size+4,d.heap.objs.size+2,d.heap.objs.size+3,d.heap.objs.size,d.heap.objs.size+1],_,_,t,rfl,I3,Bj (PySem.W.ktu_apart d.heap.objs.size a b la lb) ?_,⟨⟨.none,A⟩,.inl (k _ _ hz),k _ _ O,⟨_,_,k _ _ Q⟩,h1.at λo q=>k _ o q,h2.at λo q=>k _ o q⟩,λc T=>?_,q⟩
   .rw[v]
    simp
   .have x:d.heap.objs.size<=c:=by
     have e':c=h'.objs.size\/c=d.heap.objs.size+4\/c=d.heap.objs.size+2\/c=d.heap.objs.size+3\/c=d.heap.objs.size\/c=d.heap.objs.size+1:=by simpa using T
     rcases e' with z|z|z|z|z|z
     .rw[z,v];exact adb _ _
     .rw[z];exact adb _ _
     .rw[z];exact adb _ _
     .rw[z];exact adb _ _
     .rw[z];exact aaS _
     .rw[z];exact adb _ _
    exact l.GR x (l.hok.fresh x)
def Ed{K:Frag}{a:Addr}{xs:List V}{g:TG}{l:TS}{D:Ends}{b:L2.St}{H:Hp}(Pv:Nat->L2.St->Hp->Prop)(o:Pv 0 b H)(r:∀i b H,i<=xs.length->Pv i b H->aV K H a xs)
  (hs:∀i x b H T,xs[i]?=some x->Pv i b H->H T=none->g (.ref T) b (upd H T (.tup [.int (i:Nat),x])) λd j=>l {D with nx:=Pv (i+1),ct:=Pv (i+1),bk:=D.nx} d j)(s:∀b H,Pv xs.length b H->D.nx b H):
  ∃W:Nat->Nat->L2.St->Hp->Prop,(∃m,W 0 m b H)/\∀i m b H,W i m b H->
   ((Ite K a).stop i H/\D.nx b H)\/((Ite K a).go i H/\∃N:L2.St->Hp->Prop,(∀f c,N f c->∃n,n<m/\W (i+1) n f c)/\∀x c,(Ite K a).Od i H x c->g x b c λd j=>l {D with nx:=N,ct:=N,bk:=D.nx} d j):=by
 refine⟨λi m b H=>m=xs.length - i/\i<=xs.length/\Pv i b H,⟨xs.length,by simp,abe _,o⟩,?_⟩;rintro i m b H ⟨rfl,t,p⟩;have q:=r i b H t p;by_cases k:i<xs.length
 .refine .inr ⟨⟨xs,xs[i],q,by simp[k]⟩,Pv (i+1),λf c u=>⟨xs.length - (i+1),by grind,rfl,k,u⟩,λx c y=>?_⟩
  obtain⟨T,v,rfl,w,rfl,y⟩:=y;exact hs i v b _ T (y xs q) p w
 .have e:i=xs.length:=by grind
  subst e;exact .inl ⟨⟨xs,q,aaS _⟩,s b H p⟩
def XS{K:Frag}{a b:Addr}{xs ys:List V}{g:TG}{q:TS}{D:Ends}{c:L2.St}{H:Hp}(Pv:Nat->L2.St->Hp->Prop)(z:Pv 0 c H)(A:∀i c H,Pv i c H->aV K H a xs/\aV K H b ys)
  (hs:∀i x y c H T f,xs[i]?=some x->ys[i]?=some y->Pv i c H->H T=none->H f=none->T≠f->g (.ref f) c (upd (upd H T (.tup [x,y])) f (.tup [.int (i:Nat),.ref T])) λj l=>q {D with nx:=Pv (i+1),ct:=Pv (i+1),bk:=D.nx} j l)
  (B:∀c H,Pv (min xs.length ys.length) c H->D.nx c H):
  ∃W:Nat->Nat->L2.St->Hp->Prop,(∃m,W 0 m c H)/\∀i m c H,W i m c H->
   ((QW K a b).stop i H/\D.nx c H)\/((QW K a b).go i H/\∃N:L2.St->Hp->Prop,(∀k d,N k d->∃r,r<m/\W (i+1) r k d)/\∀x d,(QW K a b).Od i H x d->g x c d λj l=>q {D with nx:=N,ct:=N,bk:=D.nx} j l):=by
 refine⟨λi m c H=>m=min xs.length ys.length - i/\i<=min xs.length ys.length/\Pv i c H,⟨min xs.length ys.length,by simp,abe _,z⟩,?_⟩;rintro i m c H ⟨rfl,L,p⟩;obtain⟨n,o⟩:=A i c H p;by_cases s:i<min xs.length ys.length
 .have l1:i<xs.length:=by omega
  have l2:i<ys.length:=by omega
  refine .inr ⟨⟨xs,ys,xs[i],ys[i],n,o,by simp[l1],by simp[l2]⟩,Pv (i+1),λk d C=>⟨min xs.length ys.length - (i+1),by omega,rfl,s,C⟩,λx d y=>?_⟩;obtain⟨T,f,u,v,rfl,E,t,w,rfl,I,J⟩:=y;exact hs i u v c _ T f (I xs n) (J ys o) p E t w
 .have e:i=min xs.length ys.length:=by omega
  subst e;exact .inl ⟨⟨xs,ys,n,o,by omega⟩,B c H p⟩
def Uv{K:Frag}{a:Addr}{xs:List V}{g:TG}{r:TT}{s:TE}{vs:List Nat}{k:L2.St}{t:Hp}{D:Addr}{Q:VK}(Pv:Nat->Hp->Prop)(w:Pv 0 (upd t D (.lst [])))(z:∀i c,i<=xs.length->Pv i c->aV K c a xs)
  (hs:∀i x c T,xs[i]?=some x->Pv i c->c T=none->g (.ref T) (wipe k vs) (upd c T (.tup [.int (i:Nat),x])) λd l=>wipe d vs=wipe k vs/\r d l λb f=>
    if b=true then s d f λy j=>∃acc,dF (j D=some (.lst acc)) (acc.length<sizeLine) (Pv (i+1) (upd j D (.lst (acc++[y]))))else Pv (i+1) f)
  (A:∀c,Pv xs.length c->Q (.ref D) c):
  ∃W:Nat->Nat->Hp->Prop,(∃m,W 0 m (upd t D (.lst [])))/\∀i m H,W i m H->
   ((Ite K a).stop i H/\Q (.ref D) H)\/((Ite K a).go i H/\∃n:Hp->Prop,(∀c,n c->∃u,u<m/\W (i+1) u c)/\∀x c,(Ite K a).Od i H x c->g x (wipe k vs) c λd l=>wipe d vs=wipe k vs/\r d l λb f=>
    if b=true then s d f λy j=>∃acc,dF (j D=some (.lst acc)) (acc.length<sizeLine) (n (upd j D (.lst (acc++[y]))))else n f):=by
 refine⟨λi m H=>m=xs.length - i/\i<=xs.length/\Pv i H,⟨xs.length,by simp,abe _,w⟩,?_⟩;rintro i m H ⟨rfl,B,p⟩;have q:=z i H B p;by_cases o:i<xs.length
 .refine .inr ⟨⟨xs,xs[i],q,by simp[o]⟩,Pv (i+1),λc C=>⟨xs.length - (i+1),by omega,rfl,o,C⟩,λx c y=>?_⟩
  obtain⟨T,v,rfl,E,rfl,y⟩:=y;exact hs i v _ T (y xs q) p E
 .have e:i=xs.length:=by omega
  subst e;exact .inl ⟨⟨xs,q,aaS _⟩,A H p⟩
section
variable{X:Cx}
inductive rOr(x:V)(y:V)(H:Hp)(Q:VK):Prop
|mk i j (_:x=.int i) (_:y=.int j) (_:Q (.int (Builtin.bitOr i j)) H)
def ZS:Zn X .BitOr rOr:=by
 rintro pins s c H x y u v Q I a b ⟨i,j,rfl,rfl,q⟩;obtain⟨t,rfl⟩:=(show∃t,u=Value.int i t from a);obtain⟨t',rfl⟩:=(show∃t',v=Value.int j t' from b);exact PyProof.Rows.ior_int ⟨.int (Builtin.bitOr i j),H,I.tok _,⟨_,rfl⟩,q⟩
inductive Ef(K:Frag)(vs:List V)(H:Hp)(Q:VK):Prop
|mk (a:Addr) (us:List V) (ks:List (List Nd)) (_:vs=[V.ref a]) (_:aV K H a us) (_:us.length<64) (_:Paired (λv l=>Dp K H v (.list (l.map Gy))) us ks) (_:∀(q:Addr)(p:Array Nat),H q=none->Ord ks.length p->Up (rk CQ ks []) p ks.length->Q (.ref q) (upd H q (.lst (p.toList.map λi=>us.getD i .non))))
def M9{us:List V}{vs:List Value}(h:Vals us vs)(i:Nat):RelV (us.getD i .non) (vs.getD i .none):=by
 rw[acj,acj];cases e:us[i]? with
 |none=>
  have b:=h.length;have:vs[i]?=none:=by
   rw[agl]at e⊢;grind
  rw[this];rfl
 |some v=>
  obtain⟨u,hu,a⟩:=h.get e;rw[hu];exact a
theorem yV{us:List V}{vs:List Value}(h:Vals us vs):∀l:List Nat,Vals (l.map λi=>us.getD i .non) (l.map λi=>vs.getD i .none)
|[]=>.nil
|i::l=>.cons (M9 h i) (yV h l)
def wH(hu:X.A.units+32<cLine):iW X (.builtin "sorted") (Ef X.K):=by
 intro pins s L H vs us Q I r h;obtain⟨a,b,ks,rfl,hs,E,g,q⟩:=h;rw[Vals.Hr r];obtain⟨e,c,y,_⟩:=I.list hs;have l1:b.length=e.length:=c.length;have l2:b.length=ks.length:=abC g;refine z8 (vs:=e) (ks:=ks) y.isList (by grind) (by grind) hu (λi v l j t=>?_) λh' D n p k z m A w=>?_
 .obtain⟨x,o⟩:∃x,b[i]?=some x:=⟨_,aa3 (by rw[l1];exact(aaV.mp j).1)⟩
  obtain⟨u,f,B⟩:=c.get o;rw[j]at f;cases f;obtain⟨J,d,C⟩:=Hu g o;rw[t]at d;cases d;exact Dp.reads I _ _ _ C B
 .refine⟨.ref D,upd H D (.lst (p.toList.map λi=>b.getD i .non)),I.laid (t':=s.toks) w m ⟨?_,_,n,yV c p.toList,A⟩,rfl,q D p (I.hok.fresh m) k z⟩
  rw[aac,abh,k.size,aa1];grind
end
end L2
namespace CL
open PySem PySem.Spec PyProof.Rows L2 MR Vaneta
def gO(t:Text):tv t=ii (nm t):=by unfold tv ii nm;rw[abL];rfl
def iQ{p:UInt8->Prop}(h:∀n:Fin 256,p (UInt8.ofNat n.val))(b:UInt8):p b:=by
 have:=h ⟨b.toNat,b.toNat_lt⟩;rwa[UInt8.ofNat_toNat]at this
def sign_eq(b:UInt8):isSign b=(inV (.int (bi b)) [.int 40,.int 41,.int 126]||((look eV (bi b)).isSome||(look Ar (bi b)).isSome)):=iQ (p:=λb=>isSign b=(inV (.int (bi b)) [.int 40,.int 41,.int 126]||((look eV (bi b)).isSome||(look Ar (bi b)).isSome))) (by decide+kernel) b
inductive ZV(g:UInt8->Bool)(vs:List V)(H:Hp)(Q:VK)(e3:XK):Prop
|mk (b:UInt8) (_:vs=[.int (bi b)]) (_:∀H',Same H H'->Q (.bl (g b)) H')
def Uw:aJ ["byte"] ["byte"] (aA (top 54)):=scm
def Ux(a:Hy P w K mg C base):gF P w K mg base "is_sign" 1 ["byte"] (ZV isSign):=by
 obtain⟨f,d,F,e⟩:=a.d19;have g:=a.nO;have j:=a.rN;have l:=a.uI;have m:=a.jE;have n:=a.jd;refine⟨f,d,?_,F.kp,pF F λ_ _ _ _ _ _ _=>rfl,e⟩;obtain⟨p,q,r⟩:=m;obtain⟨u,v,x⟩:=n;refine eE F Uw λz A outer s H vs Q E B h=>?_;obtain⟨b,rfl,k⟩:=h;rw[sign_eq]at k;refine⟨_,au (aF (Pu (jq nJ (pv 0) (dw (aj (cX g) (aj (cX j) (aj (cX l) aq)))) (by rfl)) (Pu (jq pG (pv 0) (v9 q) (by rfl)) (GK (jq pG (pv 0) (v9 v) (by rfl)))))),?_⟩;refine⟨_,rfl,(by show 3<=sizeLine;decide),λt y=>⟨t,_,rfl,.inr bG,rfl,rfl,_,rfl,?_⟩⟩;have c:=Same.aM (o:=.tup [.int 40,.int 41,.int 126]) y;show(if inV (.int (bi b)) [.int 40,.int 41,.int 126]=true then _ else _);cases h1:inV (.int (bi b)) [.int 40,.int 41,.int 126]with
 |true=>rw[h1]at k;exact bD (k _ c)
 |false=>
  rw[h1]at k;refine bF ⟨_,rfl,p,_,_,rfl,rfl,r,_,rfl,?_⟩;show(if(look eV (bi b)).isSome=true then _ else _);cases h2:(look eV (bi b)).isSome with
  |true=>rw[h2]at k;exact bD (k _ c)
  |false=>
   rw[h2]at k;exact bF ⟨_,rfl,u,_,_,rfl,rfl,x,k _ c⟩
def H_:Token->List Int
|.name a=>nm a
|.sign c=>[bi c]
|.arrow=>[45,111]
theorem mW{d:Type}{p:d->Bool}:∀{l:List d}{j:Nat},(l.take j).all p=true->(∀x,l[j]?=some x->p x=false)->j<=l.length->l.takeWhile p=l.take j
|[],j,_,_,_=>by simp
|a::l,0,_,b,_=>by
 have:=b a rfl;rw[ae7,this];rfl
|a::l,j+1,c,b,e=>by
 rw[aej,ado,aa8]at c;rw[ae7,c.1,aej,mW c.2 b (by rw[aae]at e;grind)];rfl
def M_(c:UInt8)(r:Text)(a:isSign c=false)(b:¬(c=45/\r.head?=some 111)):
  tZ c r=if isName ((c::r).takeWhile isWord)=true then some (.name ((c::r).takeWhile isWord),((c::r).takeWhile isWord).length)else none:=by
 unfold tZ;rw[aaz (by rw[a];exact aaT),ae7];by_cases hc:c=45
 .subst hc
  rw[aaU rfl,aaz (λq=>b ⟨rfl,q⟩)];rfl
 .rw[aaz hc]
  cases hw:isWord c with
  |true=>
   simp only[adX,aae];split
   .rw[afx]
   .rfl
  |false=>
   have:¬isName (c::r.takeWhile isWord)=true:=λq=>by
    have:=yq q;rw[hw]at this;cases this
   rw[aaz this];rfl
inductive Kr(K:Frag)(vs:List V)(H:Hp)(Q:VK)(e3:XK):Prop
|mk (a:Addr) (t:Text) (n:Nat) (c:UInt8) (r:Text) (_:vs=[.ref a,.int (n:Int)]) (_:aV K H a (tv t)) (_:t.drop n=c::r) (_:t.length<=3000) (_:tZ c r=none->∀H',Same H H'->Q .non H') (_:∀x,tZ c r=some x->∀(H':Hp)(q:Addr),Same H H'->dG K H' q (ii (H_ x.1))->Q (.ref q) H')
def qP:aJ ["text","start","end","stretch"] ["text","start"] (aA (top 55)):=scm
def drop_cons{a:Type}{t:List a}{n:Nat}{c:a}{r:List a}(h:t.drop n=c::r):n<t.length/\t[n]?=some c:=by
 have b:n<t.length:=by
  have:=congrArg List.length h;rw[ace,aae]at this;omega
 refine⟨b,?_⟩;rw[ab_ b]at h;rw[aa3 b,(adR h).1]
def QZ(u:Hy P w K mg C base):gF P w K mg base "token_at" 4 ["text","start"] (Kr K):=by
 obtain⟨f,fd,F,mF⟩:=u.d20;have B:=u.B;have gd:=u.Hz;have go:=u.M5;obtain⟨f1,k_,G1,k1,b1,m1⟩:=Ux u;obtain⟨f2,fd2,G2,k2,J,m2⟩:=J5 u;obtain⟨f3,Ia,G3,k3,b3,m3⟩:=qL u;refine⟨f,fd,?_,F.kp,Ba F λ_ _ _ _ _ _ _ _=>rfl,mF⟩;refine eE F qP λcdv A outer s H vs Q E L h=>?_;obtain⟨a,t,n,c,r,rfl,M,T,hz,kN,kS⟩:=h;have hr1:bI 1 _:=L.mono (by decide);have hr2:bI 2 _:=L.mono (by decide);have hu:=L.units;obtain⟨hlt,hget⟩:=drop_cons T;have V1:(tv t)[n]?=some (.int (bi c)):=by rw[abV,hget];rfl
 refine⟨_,ao (aZ (cu (aB G1 hr1 rfl m1 k1 b1 .nil aH (aj (aP aN (pv 0) (pv 1) (λ_ _=>rfl)) aq))) (au (aF (dw (aj (aP aN (pv 0) (pv 1) (λ_ _=>rfl)) aq)))) aO)
  (ao (aZ (aK (pA hu) (eU gK (pv 0) (cT (pv 1)) (cT (bO iY (pv 1) aD))) (aQ (aj (cX gd) (aj (cX go) aq))) (aR _)) (au (aF (dw (aj (cX gd) (aj (cX go) aq))))) aO)
  (ao (pS qP 2 (pv 1))
  (ao (iz abu (PW.pt (Pr (aK yH (pv 2) (aY aX (by rfl) B.len ab8 (aj (pv 0) aq)) (aR _)) (JC (cu (aB G2 hr2 rfl m2 k2 J .nil aH (aj (aP aN (pv 0) (pv 2) (λ_ _=>rfl)) aq))))))
   (au (mq (i:=2) qP.nd rfl (Or.inl rfl) aD mz)))
  (ao (pS qP 3 (fJ fU (by rfl) B.tuple ag0 (aj (eU gK (pv 0) (cT (pv 1)) (cT (pv 2))) aq)))
  (au (aF (dO (cu (aB G3 L rfl m3 k3 b3 .nil aH (aj (pv 3) aq))) (pv 3) b_))))))),?_⟩
 refine⟨_,rfl,_,rfl,a,_,_,_,rfl,rfl,M,aL V1,c,rfl,λH1 N=>⟨_,rfl,?_⟩⟩;cases hsg:isSign c with
 |true=>
  refine bD ⟨_,rfl,_,rfl,a,_,_,_,rfl,rfl,N.seq M,aL V1,(by show 1<=sizeLine;decide),λq hq=>?_⟩;exact kS (.sign c,1) (by unfold tZ;rw[aaU hsg]) _ q (N.trans (Same.aM hq)) bG
 |false=>
  refine bF ?_;have hS1:=N.seq M;have U:(tv t).length=t.length:=jG t;refine⟨_,rfl,_,rfl,_,rfl,_,rfl,_,_,rfl,rfl,_,rfl,a,_,rfl,hS1,λb hb=>⟨(by show 2<=sizeLine;decide),λd hd=>?_⟩⟩;have ab7:jD (tv t) (some (n:Int)) (some ((n:Int)+2))=ii (nm ((t.drop n).take 2)):=by
   unfold jD;have k:((n:Int)+2)=((n+2:Nat):Int):=by grind
   rw[k,HT.qD,HT.qD,U,aey (ad8 hlt),gO];unfold ii nm;rw[<-aer,<-aer,<-aeC,<-aeC]
   congr 2
   by_cases h2:n+2<=t.length
   .rw[aey h2,adG]
   .rw[Nat.min_eq_right (by grind),ac3 (by rw[ace];exact aaS _),ac3 (by rw[ace];grind)]
  rw[ab7]at hd⊢;have sb:=Same.aM (o:=.lst (ii (nm ((t.drop n).take 2)))) hb;have sd:=Same.aM (o:=.lst [.int 45,.int 111]) hd;have O:=(N.trans sb).trans sd;refine Bf (a:=nm ((t.drop n).take 2)) (b:=[45,111]) (aV.of (sd _ _ ak)) (aV.of ak) ⟨_,rfl,?_⟩;have harr:nm ((t.drop n).take 2)=[45,111]↔(c=45/\r.head?=some 111):=by
   rw[T];cases r with
   |nil=>
    constructor
    .intro e;simp[nm]at e
    .rintro⟨_,e⟩;cases e
   |cons J r2=>
    show[bi c,bi J]=[45,111]↔_;constructor
    .intro e
     obtain⟨z,k⟩:=adR e;obtain⟨e3,_⟩:=adR k;exact⟨oO (b:=45) z,by rw[ag6,oO (a:=J) (b:=111) e3]⟩
    .rintro⟨z,k⟩
     rw[ag6]at k;rw[z,abk k];rfl
  by_cases D:c=45/\r.head?=some 111
  .rw[aaD (harr.mpr D)]
   refine bD ⟨(by show 2<=sizeLine;decide),λq hq=>?_⟩;exact kS (.arrow,2) (by unfold tZ;rw[aaz (by rw[hsg];exact aaT),aaU D.1,aaU D.2]) _ q (O.trans (Same.aM hq)) bG
  .rw[aat (λe=>D (harr.mp e))]
   refine bF ⟨_,rfl,?_⟩;have v:=M_ c r hsg D;rw[<-T]at v;generalize hH3:upd (upd H1 b (.lst (ii (nm ((t.drop n).take 2))))) d (.lst [.int 45,.int 111])=H3 at O⊢;have Y:=O.seq M;refine⟨λm σ y=>∃j:Nat,xZ (m=t.length - (n+j)) (y=H3) (σ=[some (.ref a),some (.int (n:Int)),some (.int ((n+j:Nat):Int)),none]) (n+j<=t.length) (((t.drop n).take j).all isWord=true),⟨_,0,rfl,rfl,rfl,by grind,rfl⟩,?_⟩;rintro m σ y ⟨j,rfl,rfl,rfl,hj,hall⟩;have after:(∀x,(t.drop n)[j]?=some x->isWord x=false)->uf (qz (JQ (λxs H Q=>Ex2 λp ys=>xs=[V.ref p]/\((aV K H p ys/\∀l,H l=none->Q (.ref l) (upd H l (.tup ys)))\/(dG K H p ys/\Q (.ref p) H))) (d_ (tSl (Xe K) (gU 0) (Qd (gU 1)) (Qd (gU 2))) iB)) (gA 3))
     (Ac (Zb (tB (vR (HB K) [] E0 (d_ (gU 3) iB))) (gU 3) (tC .non))) {nx:=λx y=>Q V.non y,rt:=Q} [some (.ref a),some (.int (n:Int)),some (.int ((n+j:Nat):Int)),none] y:=λhstop=>by
    have etw:(t.drop n).takeWhile isWord=(t.drop n).take j:=mW hall hstop (by rw[ace];grind);refine⟨_,rfl,_,rfl,_,rfl,_,rfl,_,rfl,a,_,rfl,Y,λe he=>?_⟩;rw[qN _ (adb _ _) (by rw[U];exact hj),adG,<-aer,<-aeC];have s4:=Same.aM (o:=.lst (tv ((t.drop n).take j))) he;refine⟨e,_,rfl,.inl ⟨aV.of ak,λg hg=>?_⟩⟩;have s5:=Same.aM (o:=.tup (tv ((t.drop n).take j))) hg;refine⟨_,rfl,g,(t.drop n).take j,rfl,.inr bG,λH6 s6=>⟨_,rfl,?_⟩⟩;have sA:=((O.trans s4).trans s5).trans s6;rw[etw]at v;cases hnm:isName ((t.drop n).take j)with
    |true=>
     rw[aaU hnm]at v;refine bD ⟨_,rfl,kS _ v _ g sA ?_⟩;show dG K H6 g (ii (nm ((t.drop n).take j)));rw[<-gO];exact s6.bB bG
    |false=>
     rw[aaz (by rw[hnm];exact aaT)]at v;exact bF (kN v _ sA)
   refine⟨_,rfl,_,rfl,a,_,rfl,.inl Y,_,_,rfl,rfl,_,rfl,?_⟩;rw[U];show(if decide (((n+j:Nat):Int)<(t.length:Int))=true then _ else _);by_cases hend:((n+j:Nat):Int)<(t.length:Int)
   .rw[aaU (aaD hend)]
    have hjl:n+j<t.length:=by grind
    have hg2:(tv t)[n+j]?=some (.int (bi t[n+j])):=by rw[abV,aa3 hjl];rfl
    refine⟨_,rfl,_,rfl,a,_,_,_,rfl,rfl,Y,aL hg2,t[n+j],rfl,_,rfl,?_⟩;have hdj:(t.drop n)[j]?=some t[n+j]:=by rw[aew,aa3 hjl]
    cases hwd:isWord t[n+j]with
    |true=>
     refine bD ⟨λσ' H2=>H2=y/\σ'=[some (.ref a),some (.int (n:Int)),some (.int ((n+(j+1):Nat):Int)),none],λσ' H2 ⟨z,k⟩=>⟨t.length - (n+(j+1)),by grind,j+1,rfl,z,k,by grind,?_⟩,?_⟩
     .rw[take_snoc hdj,af2,hall,ado,hwd];rfl
     .exact⟨_,rfl,_,_,rfl,rfl,rfl,rfl⟩
    |false=>
     refine bF (after λx I=>?_);rw[hdj]at I;cases I;exact hwd
   .rw[aaz (by rw[aat hend];exact aaT)]
    refine bF (after λx I=>?_);rw[aew]at I;have:=(aaV.mp I).1;grind
def Uy(K:Frag)(H:Hp)(v:V)(t:Token):Prop:=∃q,v=.ref q/\dG K H q (ii (H_ t))
def Tks(K:Frag)(H:Hp)(vs:List V)(a:List Token):Prop:=Paired (Uy K H) vs a
def Tks.jU{K:Frag}{H c:Hp}{vs:List V}{d:List Token}(h:Tks K H vs d)(e:cP H c):Tks K c vs d:=Paired.dY h λ_ _ ⟨q,a,b⟩=>⟨q,a,e.bB b⟩
def Eh{c:UInt8}{r:Text}{x:Token×Nat}(h:tZ c r=some x):(H_ x.1).length=x.2/\0<x.2/\x.2<=(c::r).length:=by
 unfold tZ at h;split at h
 .cases h;exact⟨rfl,Nat.one_pos,by simp⟩
 split at h
 .split at h
  .rename_i a
   cases h;refine⟨rfl,Nat.two_pos,?_⟩;cases r with
   |nil=>cases a
   |cons b r=>simp
  .cases h
 .split at h
  .cases h
   refine⟨?_,by grind,?_⟩
   .show(nm (c::r.takeWhile isWord)).length=_
    rw[bK,aae];grind
   .have:=(List.takeWhile_prefix isWord (l:=r)).length_le
    rw[aae];grind
  .cases h
inductive Q0(K:Frag)(vs:List V)(H:Hp)(Q:VK)(e3:XK):Prop
|mk (a:Addr) (t:Text) (_:vs=[.ref a]) (_:aV K H a (tv t)) (_:t.length<=3000) (_:tokens t=none->∀H',Same H H'->Q .non H') (_:∀ts,tokens t=some ts->∀(H':Hp)(q:Addr)(vs:List V),Same H H'->H q=none->H' q=some (.lst vs)->Tks K H' vs ts->Q (.ref q) H')
def nR:aJ ["text","tokens","position","token"] ["text"] (aA (top 56)):=scm
def Uz(D:Hy P w K mg C base):gF P w K mg base "tokens_of" 5 ["text"] (Q0 K):=by
 obtain⟨f,fd,F,mF⟩:=D.d21;have B:=D.B;have gb:=D.qI;obtain⟨f1,k_,G1,k1,b1,m1⟩:=QZ D;refine⟨f,fd,?_,F.kp,pF F λ_ _ _ _ _ _ _=>rfl,mF⟩;refine eE F nR λcdv A outer s H vs Q E hr h=>?_;obtain⟨a,t,rfl,O,hz,kN,kS⟩:=h;refine⟨_,ao (pS nR 1 (aQ aq))
  (ao (pS nR 2 aD)
  (ao (iz abu (aK yH (pv 2) (aY aX (by rfl) B.len ab8 (aj (pv 0) aq)) (aR _))
   (au (aZ (aK dU (aP aN (pv 0) (pv 2) (λ_ _=>rfl)) (cX gb) (aR _)) (au (mq (i:=2) nR.nd rfl (Or.inl rfl) aD mz))
    (ao (pS nR 3 (aB G1 hr rfl m1 k1 b1 .nil aH (aj (pv 0) (aj (pv 2) aq))))
    (ao (aZ (aK iZ (pv 3) b_ (aR _)) (au (aF b_)) aO)
    (ao (bH (dD aaW abv abw bY (pv 1) (aj (pv 3) aq)))
    (au (mq (i:=2) nR.nd rfl (Or.inl rfl) (aY aX (by rfl) B.len ab8 (aj (pv 3) aq)) mz))))))))
  (au (aF (pv 1))))),?_⟩
 refine⟨abe _,λk L=>?_⟩;have s0:Same H (upd H k (.lst [])):=Same.aM L;have hlen:(tv t).length=t.length:=jG t;refine⟨λm σ I=>Ft λ(d:Nat)(done:List Token)(vs:List V)(o:Option V)=>An8 (m=t.length - d) (σ=[some (.ref a),some (.ref k),some (.int (d:Int)),o]) (Same H I) (I k=some (.lst vs)) (Tks K I vs done) (d<=t.length) (vs.length<=d) (tokens t=(tokens (t.drop d)).map (done++·)),
  ⟨_,0,[],[],none,rfl,rfl,s0,ak,.nil,abe _,aaS _,by rw[afC];cases tokens t<;>rfl⟩,?_⟩
 rintro m σ I ⟨d,done,vs,o,rfl,rfl,n,M,T,hp,hvl,g⟩;refine⟨_,rfl,_,rfl,a,_,rfl,.inl (n.seq O),_,_,rfl,rfl,_,rfl,?_⟩;rw[hlen];show(if decide ((d:Int)<(t.length:Int))=true then _ else _);by_cases Y:((d:Nat):Int)<(t.length:Int)
 .rw[aaU (aaD Y)]
  have N:d<t.length:=by grind
  obtain⟨c,hc⟩:∃c,t[d]?=some c:=⟨_,aa3 N⟩;have y:t.drop d=c::t.drop (d+1):=by
   rw[ab_ N]
   congr 1
   rw[aa3 N]at hc;exact abk hc
  have V1:(tv t)[d]?=some (.int (bi c)):=by rw[abV,hc];rfl
  rw[y,sY]at g;refine⟨λσ' p=>Ft λ(j:Nat)(v:List Token)(r:List V)(U:Option V)=>An8 (d<j) (σ'=[some (.ref a),some (.ref k),some (.int (j:Int)),U]) (Same H p) (p k=some (.lst r)) (Tks K p r v) (j<=t.length) (r.length<=j) (tokens t=(tokens (t.drop j)).map (v++·)),λσ' p ⟨j,v,r,U,h1,h2,h3,h4,h5,h6,h7,h8⟩=>⟨t.length - j,by grind,j,v,r,U,rfl,h2,h3,h4,h5,h6,h7,h8⟩,?_⟩;refine⟨_,rfl,_,rfl,a,_,_,_,rfl,rfl,n.seq O,aL V1,rfl,_,rfl,?_⟩;show(if decide (V.int (bi c)=V.int 32)=true then _ else _);by_cases z:c=32
  .rw[aaU (aaD (by rw[z];rfl))]
   rw[aaU z]at g;refine⟨_,rfl,_,_,rfl,rfl,d+1,done,vs,o,by grind,rfl,n,M,T,by grind,by grind,g⟩
  .rw[aaz (by rw[aat (show ¬V.int (bi c)=V.int 32 from λe=>z (oO (b:=32) (V.int.inj e)))];exact aaT)]
   rw[aaz z]at g;refine⟨_,rfl,_,rfl,a,t,d,c,_,rfl,n.seq O,y,hz,λe p u=>?_,λx e p q u hq=>?_⟩
   .rw[e]at g
    refine⟨_,rfl,rfl,_,rfl,?_⟩;exact bD (kN g _ (n.trans u))
   .rw[e]at g
    obtain⟨e1,e2,e3⟩:=Eh e;have J:=u _ _ M;refine⟨_,rfl,rfl,_,rfl,?_⟩;refine bF ⟨_,rfl,.inl ⟨rfl,_,aV.of J⟩,_,rfl,k,_,_,rfl,rfl,J,by rw[aa1];grind,?_⟩;have sT:=cP.bW (o:=.lst (vs++[.ref q])) J;have hq2:=sT.bB hq;refine⟨_,rfl,_,rfl,q,_,rfl,.inr hq2,_,_,rfl,rfl,d+x.2,done++[x.1],vs++[.ref q],some (.ref q),by grind,?_,(n.trans u).bW L,ak,?_,?_,?_,?_⟩
    .rw[aac,e1]
     rfl
    .exact adW ((T.jU u.t).jU sT) ⟨q,rfl,hq2⟩
    .rw[<-y,ace]at e3;grind
    .rw[aad,abj];grind
    .rw[g,<-y]
     dsimp only;rw[List.drop_drop];cases tokens (t.drop (d+x.2))with
     |none=>rfl
     |some l=>simp
 .rw[aaz (by rw[aat Y];exact aaT)]
  have:d=t.length:=by grind
  rw[this,aev]at g;refine⟨_,rfl,kS done ?_ _ k vs n L M T⟩;rw[g];show some (done++[])=_;rw[acQ]
def sg:Fr->Int
|.pre .neg=>126
|.pre .ofc=>33
|.pre .whn=>63
|.paren=>40
|.arrow _=>45
|.chain .tensor _=>42
|.chain .par _=>124
|.chain .wth _=>38
|.chain .plus _=>43
def ahead:Fr->Option Formula
|.arrow A=>some A
|.chain _ A=>some A
|_=>none
def bM:dJ->Int
|[]=>0
|f::_=>sg f
def OF(K:Frag)(H:Hp)(W:Addr)(v:V)(o:Option Formula):Prop:=match o with
|none=>v=.non
|some A=>∃p,dF (v=.ref p) (Fl K H p (flat A)) (p≠W)
def Ib(K:Frag)(H:Hp)(W:Addr)(v:V)(f:Fr):Prop:=Ex2 λa u=>dF (v=.ref a) (dG K H a [.int (sg f),u]) (OF K H W u (ahead f))
def Frs(K:Frag)(H:Hp)(W:Addr)(vs:List V)(S:dJ):Prop:=Paired (Ib K H W) vs S.reverse
def fds(W:Addr)(e:V):List (Str×V):=jj "ended" e (jj "waiting" (.ref W) [])
structure Rg(K:Frag)(C:Addr)(H:Hp)(x W:Addr)(S:dJ)(o:Option Formula):Prop where
 ex:sV λdx ve vs=>lM (H x=some (.ins C dx (fds W ve))) (H W=some (.lst vs)) (Frs K H W vs S) (OF K H W ve o)
def fL(x W:Addr)(H a:Hp):Prop:=∀b o,H b=some o->b≠x->b≠W->a b=some o
section
variable{K:Frag}{C:Addr}{H H':Hp}{x W:Addr}
def qQ(W:Addr)(e:V):(fds W e).lookup ("waiting":Str)=some (.ref W):=by
 unfold fds;rw[eO,aaz (by decide+kernel),eO,aaU rfl]
def wI(W:Addr)(e:V):(fds W e).lookup ("ended":Str)=some e:=by
 unfold fds;rw[eO,aaU rfl]
def cI(W:Addr)(e:V){m:Str}(a:¬m="waiting")(b:¬m="ended"):(fds W e).lookup m=none:=by
 unfold fds;rw[eO,aaz b,eO,aaz a];rfl
def Ks(W:Addr)(e a:V):jj "ended" a (fds W e)=fds W a:=by
 unfold fds;rfl
def fL.refl:fL x W H H:=λ_ _ e _ _=>e
def fL.trans{d:Hp}(a:fL x W H H')(b:fL x W H' d):fL x W H d:=λc o e f g=>b c o (a c o e f g) f g
def fL.of(h:Same H H'):fL x W H H':=λb o e _ _=>h b o e
def fL.bB(c:fL x W H H'){C e:Addr}{f:List (Str×V)}{vs:List V}(b:H x=some (.ins C e f))(d:H W=some (.lst vs)){a:Addr}{ys:List V}(h:dG K H a ys):dG K H' a ys:=by
 rcases h with(h|⟨o,h⟩)|h
 .exact .inl (.inl (c _ _ h (gJ h b (by intro z;cases z)) (gJ h d (by intro z;cases z))))
 .exact .inl (.inr ⟨o,c _ _ h (gJ h b (by intro z;cases z)) (gJ h d (by intro z;cases z))⟩)
 .exact .inr h
def fL.fl(c:fL x W H H'){C g:Addr}{j:List (Str×V)}{vs:List V}(b:H x=some (.ins C g j))(d:H W=some (.lst vs)){p:Addr}{l:List Nd}(h:Fl K H p l)(k:p≠W):Fl K H' p l:=by
 obtain⟨m,f,n⟩:=h;exact⟨m,c _ _ f (gJ f b (by intro z;cases z)) k,Paired.dY n λ_ _ ⟨a,q,e,o,r⟩=>⟨a,q,e,c.bB b d o,c.bB b d r⟩⟩
def fL.of_(c:fL x W H H'){C b:Addr}{d:List (Str×V)}{vs:List V}(f:H x=some (.ins C b d))(g:H W=some (.lst vs)){v:V}{o:Option Formula}(h:OF K H W v o):OF K H' W v o:=by
 cases o with
 |none=>exact h
 |some A=>
  obtain⟨p,e,j,a⟩:=h;exact⟨p,e,c.fl f g j a,a⟩
def fL.frs(c:fL x W H H'){C f:Addr}{g:List (Str×V)}{vs us:List V}{S:dJ}(b:H x=some (.ins C f g))(d:H W=some (.lst vs))(h:Frs K H W us S):Frs K H' W us S:=Paired.dY h λ_ _ ⟨a,u,e,j,k⟩=>⟨a,u,e,c.bB b d j,c.of_ b d k⟩
def Frs.pop{vs:List V}{f:Fr}{S:dJ}(h:Frs K H W vs (f::S)):Ex2 λus v=>dF (vs=us++[v]) (Frs K H W us S) (Ib K H W v f):=by
 unfold Frs at h;rw[aeh]at h;have b:∀{vs:List V}{l:List Fr}{x:Fr},Paired (Ib K H W) vs (l++[x])->Ex2 λus v=>dF (vs=us++[v]) (Paired (Ib K H W) us l) (Ib K H W v x):=by
  intro vs l
  induction l generalizing vs with
  |nil=>
   intro x h;cases h with
   |cons a t=>cases t;exact⟨[],_,rfl,.nil,a⟩
  |cons y l c=>
   intro x h;cases h with
   |cons a t=>
    obtain⟨us,v,rfl,d,e⟩:=c t;exact⟨_::us,v,rfl,.cons a d,e⟩
 exact b h
def Frs.push{us:List V}{v:V}{f:Fr}{S:dJ}(h:Frs K H W us S)(a:Ib K H W v f):Frs K H W (us++[v]) (f::S):=by
 unfold Frs;rw[aeh];exact adW h a
def Frs.len{vs:List V}{S:dJ}(h:Frs K H W vs S):vs.length=S.length:=by
 have:=abC h;rwa[ae9]at this
def rR(x:Nd):PyData:=.tuple [.int x.1,.tuple (x.2.map PyData.int)]
def rT{vs:List V}{l:List Nd}(h:jH K H vs l):jc K H vs (l.map rR):=by
 have b:∀{vs:List V}{l:List Nd},Paired (lg K H) vs l->jc K H vs (l.map rR):=by
  intro vs l h
  induction h with
  |nil=>exact .nil
  |cons a _ c=>
   obtain⟨p,q,rfl,d,e⟩:=a;exact .cons (.tup d (.cons (.int _) (.cons (gY e) .nil))) c
 exact b h
theorem uL:∀l:List Nd,PyData.canLayAll0 (l.map rR)=true/\PyData.depthAll (l.map rR)<=3
|[]=>by simp[PyData.canLayAll0,PyData.depthAll]
|x::l=>by
 obtain⟨a,b⟩:=uL l;have c:=gZ x.2;rw[aaZ];constructor
 .simp[PyData.canLayAll0,PyData.canLay0,rR,lay_ints,a]
 .simp only[PyData.depthAll,PyData.depth,rR];grind
def ofD:Option Formula->PyData
|none=>.none
|some A=>.list ((flat A).map rR)
def X3(f:Fr):PyData:=.tuple [.int (sg f),ofD (ahead f)]
def V2{v:V}{o:Option Formula}(h:OF K H W v o):Dp K H v (ofD o):=by
 cases o with
 |none=>rw[show v=.non from h];exact .non
 |some A=>
  obtain⟨p,rfl,⟨c,a,b⟩,_⟩:=h;exact .lst (aV.of a) (rT b)
def lay_of(o:Option Formula):PyData.canLay0 (ofD o)=true/\PyData.depth (ofD o)<=4:=by
 cases o with
 |none=>exact⟨by simp[ofD,PyData.canLay0],by simp[ofD,PyData.depth]⟩
 |some A=>
  obtain⟨a,b⟩:=uL (flat A);exact⟨by simp[ofD,PyData.canLay0,a],by simp only[ofD,PyData.depth];grind⟩
def X4{vs:List V}{l:List Fr}(h:Paired (Ib K H W) vs l):jc K H vs (l.map X3):=by
 induction h with
 |nil=>exact .nil
 |cons a _ b=>
  obtain⟨p,u,rfl,c,d⟩:=a;exact .cons (.tup c (.cons (.int _) (.cons (V2 d) .nil))) b
theorem Ku:∀l:List Fr,PyData.canLayAll0 (l.map X3)=true/\PyData.depthAll (l.map X3)<=5
|[]=>by simp[PyData.canLayAll0,PyData.depthAll]
|f::l=>by
 obtain⟨a,c⟩:=Ku l;obtain⟨b,d⟩:=lay_of (ahead f);rw[aaZ];constructor
 .simp[PyData.canLayAll0,PyData.canLay0,X3,b,a]
 .simp only[PyData.depthAll,PyData.depth,X3];grind
def yW{vs:List V}{S:dJ}{e:Addr}{Q:VK}(b:H W=some (.lst vs))(c:Frs K H W vs S)(d:H e=some (.lst []))(k:Q (.bl (decide (S=[]))) H):Mv K (.ref W) (.ref e) H Q:=by
 obtain⟨g,j⟩:=Ku S.reverse;refine⟨_,_,.lst (aV.of b) (X4 c),.lst (aV.of d) .nil,?_,?_,?_⟩
 .unfold SeqAt.shaped
  rw[aa8];refine⟨by simp only[PyData.canLay0];exact g,aaD ?_⟩;simp only[PyData.depth];grind
 .unfold SeqAt.shaped
  simp[PyData.canLay0,PyData.canLayAll0,PyData.depth,PyData.depthAll]
 .have e:PyData.eqv (.list (S.reverse.map X3)) (.list [])=decide (S=[]):=by
   simp only[PyData.eqv];cases S with
   |nil=>simp[PyData.eqvAll]
   |cons f S=>
    rw[aeh,aaY];cases hS:S.reverse.map X3 with
    |nil=>simp[PyData.eqvAll]
    |cons a l=>simp[PyData.eqvAll]
  rw[e];exact k
end
section
variable{C:Addr}
inductive Q5(C:Addr)(K:Frag)(vs:List V)(H:Hp)(Q:VK)(e3:XK):Prop
|mk (x dx:Addr) (_:vs=[.ref x]) (_:H x=some (.ins C dx [])) (_:∀(H':Hp)(W:Addr),H W=none->Rg K C H' x W [] none->(∀b o,H b=some o->b≠x->H' b=some o)->Q .non H')
def UG:aJ ["self"] ["self"] (aA (rd 0)):=scm
def UJ(g:Hy P w K mg C base):Oki P w K mg base C 1 ["self"] (Q5 C K):=by
 obtain⟨f,p,F,q⟩:=g.d22;have T:=g.T;refine⟨f,p,?_,pF F λ_ _ _ _ _ _ _=>rfl,q⟩;refine eE F UG λr A outer s H vs Q E t h=>?_;obtain⟨x,a,rfl,j,k⟩:=h;refine⟨_,ao (rG (pv 0) (aQ aq) rfl) (au (rG (pv 0) b_ rfl)),?_⟩;refine⟨abe _,λW c=>?_⟩;have l:=Same.aM (o:=.lst []) c;have n:=l _ _ j;refine⟨_,rfl,x,C,a,[],rfl,n,T.cl,T.nW,(by show 0<1000;decide),?_⟩;refine⟨_,rfl,x,C,a,_,rfl,ak,T.cl,T.nE,(by show 1<1000;decide),?_⟩;have d:W≠x:=ac6 (aW j c);refine k _ W c ⟨a,.non,[],ak,?_,.nil,rfl⟩ λb o e m=>?_
 .rw[aU d,aU d,ak]
 .rw[aU m,aU m]
  exact l _ _ e
inductive qR(C:Addr)(K:Frag)(vs:List V)(H:Hp)(Q:VK)(e3:XK):Prop
|mk (x W:Addr) (S:dJ) (o:Option Formula) (_:vs=[.ref x]) (_:Rg K C H x W S o) (_:∀H',Same H H'->Q (.int (bM S)) H')
def Q6:aJ ["self"] ["self"] (aA (rd 5)):=scm
def mX(c:Hy P w K mg C base):S_ P w K mg base C "innermost" 1 ["self"] (qR C K):=by
 obtain⟨f,q,F,r⟩:=c.d23;have T:=c.T;have t:=c.M4;refine⟨f,q,?_,pF F λ_ _ _ _ _ _ _=>rfl,r⟩;refine eE F Q6 λI A outer s H vs Q E y h=>?_;obtain⟨x,W,S,o,rfl,⟨m,J,vs,d,n,z,L⟩,k⟩:=h;refine⟨_,ao (aZ (aK (pA y.units) (fM (pv 0) rfl) (aQ aq) (aR _)) (au (aF (cX t))) aO)
  (au (aF (aP bN (aP aN (fM (pv 0) rfl) (JH Ae aD) (λ_ _=>rfl)) aD (λ_ _=>rfl)))),?_⟩
 refine⟨_,rfl,x,C,m,_,_,rfl,d,T.cl,T.nW,qQ _ _,abe _,λe B=>?_⟩;have b:=Same.aM (o:=.lst []) B;have p:=b _ _ d;have g:=b _ _ n;have l:Frs K _ W vs S:=(fL.of (x:=x) (W:=W) b).frs d n z;refine yW g l ak ⟨_,rfl,?_⟩;cases S with
 |nil=>exact bD (k _ b)
 |cons M S=>
  refine bF ?_;obtain⟨us,v,rfl,_,a,u,rfl,D,_⟩:=l.pop;refine⟨_,rfl,x,C,m,_,_,rfl,p,T.cl,T.nW,qQ _ _,_,rfl,W,_,_,_,rfl,rfl,aV.of g,Qe _ _,a,_,_,_,rfl,rfl,D,aL (j:=0) rfl,k _ b⟩
inductive Q7(C:Addr)(K:Frag)(vs:List V)(H:Hp)(Q:VK)(e3:XK):Prop
|mk (x W:Addr) (S:dJ) (f:Fr) (_:vs=[.ref x,.int (sg f)]) (_:Rg K C H x W S (ahead f)) (_:S.length<=1000000) (_:∀H',Rg K C H' x W (f::S) none->fL x W H H'->Q (.bl (decide (S.length+1<=100))) H')
def UL:aJ ["self","sign"] ["self","sign"] (aA (rd 4)):=scm
def Kv(m:Hy P w K mg C base):S_ P w K mg base C "wait_behind" 1 ["self","sign"] (Q7 C K):=by
 obtain⟨f,N,F,O⟩:=m.d24;have T:=m.T;have B:=m.B;have U:=m.DW;refine⟨f,N,?_,Ba F λ_ _ _ _ _ _ _ _=>rfl,O⟩;refine eE F UL λcdv A outer s H vs Q E hr h=>?_;obtain⟨x,W,S,j,rfl,⟨a,c,vs,d,l,I,Y⟩,hz,k⟩:=h;refine⟨_,ao (bH (dD aaW abv abw bY (fM (pv 0) rfl) (aj (dw (aj (pv 1) (aj (fM (pv 0) rfl) aq))) aq)))
  (ao (rG (pv 0) b_ rfl)
  (au (aF (jq jQ (aY aX (by rfl) B.len ab8 (aj (fM (pv 0) rfl) aq)) (cX U) (aR _))))),?_⟩
 refine⟨_,rfl,x,C,a,_,_,rfl,d,T.cl,T.nW,qQ _ _,.inl ⟨rfl,_,aV.of l⟩,_,rfl,_,rfl,x,C,a,_,_,rfl,d,T.cl,T.nE,wI _ _,(by show 2<=sizeLine;decide),λt ht=>?_⟩;have p:=Same.aM (o:=.tup [.int (sg j),c]) ht;have r:=p _ _ d;have u:=p _ _ l;have J:=I.len;refine⟨W,vs,_,rfl,rfl,u,by rw[J,aa1];omega,?_⟩;have v:x≠W:=gJ d l (by intro z;cases z);have M:upd (upd H t (.tup [.int (sg j),c])) W (.lst (vs++[.ref t])) x=some (.ins C a (fds W c)):=by rw[aU v];exact r
 refine⟨_,rfl,x,C,a,_,rfl,M,T.cl,T.nE,(by show 2<1000;decide),?_⟩;rw[Ks];generalize n:upd (upd (upd H t (.tup [.int (sg j),c])) W (.lst (vs++[.ref t]))) x (.ins C a (fds W .non))=g;have L:fL x W (upd H t (.tup [.int (sg j),c])) g:=λb o e h1 h2=>by rw[<-n,aU h1,aU h2];exact e
 have q:fL x W H g:=(fL.of p).trans L;have y:g x=some (.ins C a (fds W .non)):=by rw[<-n,ak]
 have D:g W=some (.lst (vs++[.ref t])):=by rw[<-n,aU (ac6 v),ak]
 refine⟨_,rfl,x,C,a,_,_,rfl,y,T.cl,T.nW,qQ _ _,W,_,rfl,.inl (aV.of D),_,_,rfl,rfl,?_⟩;have hR:Rg K C g x W (j::S) none:=⟨a,.non,_,y,D,(q.frs d l I).push ⟨t,c,rfl,L.bB r u bG,q.of_ d l Y⟩,rfl⟩;have:=k g hR q;have e:decide ((((vs++[V.ref t]).length:Nat):Int)<=100)=decide (S.length+1<=100):=adK.mpr (by rw[aad,abj,J];omega);rw[<-e]at this;exact this
end
end CL
namespace MR
open Vaneta
def jg(A:Formula):nodes (dual A)=nodes A:=by
 induction A<;>simp_all [dual,nodes]
def wS:List Fr->Nat
|[]=>0
|.pre _::S=>1+wS S
|.paren::S=>1+wS S
|.arrow A::S=>1+nodes A+wS S
|.chain _ A::S=>1+nodes A+wS S
theorem pH:∀S:List Fr,S.length<=wS S
|[]=>aaS _
|.pre _::S=>by have:=pH S;simp only[wS,aae];grind
|.paren::S=>by have:=pH S;simp only[wS,aae];grind
|.arrow A::S=>by have:=pH S;simp only[wS,aae];grind
|.chain _ A::S=>by have:=pH S;simp only[wS,aae];grind
def yX(p:P3)(A:Formula):nodes (p.mk A)<=1+nodes A:=by
 cases p<;>simp[P3.mk,nodes,jg]
def yZ(c:T4)(A B:Formula):nodes (c.mk A B)=1+nodes A+nodes B:=by cases c<;>rfl
end MR
namespace CL
open PySem PySem.Spec PyProof.Rows L2 MR Vaneta
def Q8:T4->Int
|.tensor=>0
|.par=>1
|.wth=>2
|.plus=>3
def Q9(c:T4)(A B:Formula):flat (c.mk A B)=(Q8 c,[])::(flat A++flat B):=by cases c<;>rfl
def X5(S:dJ):(bM S=126\/(look Ar (bM S)).isSome=true)↔∃p a,S=.pre p::a:=by
 cases S with
 |nil=>simp[bM,look]
 |cons f S=>
  cases f with
  |pre p=>cases p<;>simp[bM,sg,look]
  |paren=>simp[bM,sg,look]
  |arrow A=>simp[bM,sg,look]
  |chain c A=>cases c<;>simp[bM,sg,look]
def Ei(S:dJ):(look eV (bM S)).isSome=true↔∃c A a,S=.chain c A::a:=by
 cases S with
 |nil=>simp[bM,look]
 |cons f S=>
  cases f with
  |pre p=>cases p<;>simp[bM,sg,look]
  |paren=>simp[bM,sg,look]
  |arrow A=>simp[bM,sg,look]
  |chain c A=>cases c<;>simp[bM,sg,look]
def Ie(c:T4)(A:Formula):look eV (sg (.chain c A))=some (Q8 c):=by cases c<;>rfl
section
variable{C:Addr}
def Rg.popped{H:Hp}{x W:Addr}{f:Fr}{S:dJ}{o:Option Formula}(R:Rg K C H x W (f::S) o):Oa λg j us a u=>Fz (H x=some (.ins C g (fds W j))) (H W=some (.lst (us++[.ref a]))) (dG K H a [.int (sg f),u]) (OF K H W u (ahead f)) (Rg K C (upd H W (.lst us)) x W S o) (fL x W H (upd H W (.lst us))):=by
 obtain⟨g,j,vs,d,k,n,p⟩:=R;obtain⟨us,v,rfl,l,a,u,rfl,q,r⟩:=n.pop;have m:x≠W:=gJ d k (by intro z;cases z);have c:fL x W H (upd H W (.lst us)):=λb t e _ s=>by rw[aU s];exact e
 exact⟨g,j,us,a,u,d,k,q,r,⟨g,j,us,by rw[aU m];exact d,ak,c.frs d k l,c.of_ d k p⟩,c⟩
def Rg.same{H d:Hp}{x W:Addr}{S:dJ}{o:Option Formula}(R:Rg K C H x W S o)(s:Same H d):Rg K C d x W S o:=by
 obtain⟨e,f,vs,a,b,g,j⟩:=R;have c:=fL.of (x:=x) (W:=W) s;exact⟨e,f,vs,s _ _ a,s _ _ b,c.frs a b g,c.of_ a b j⟩
def Rg.stored{H:Hp}{x W:Addr}{S:dJ}{o:Option Formula}(R:Rg K C H x W S o){p:Addr}{A:Formula}(l:Fl K H p (flat A))(j:p≠W):Ex2 λa d=>dF (H x=some (.ins C a (fds W d))) (Rg K C (upd H x (.ins C a (jj "ended" (.ref p) (fds W d)))) x W S (some A)) (fL x W H (upd H x (.ins C a (jj "ended" (.ref p) (fds W d))))):=by
 obtain⟨a,d,vs,f,g,m,q⟩:=R;have k:x≠W:=gJ f g (by intro z;cases z);have c:fL x W H (upd H x (.ins C a (jj "ended" (.ref p) (fds W d)))):=λb r e n _=>by rw[aU n];exact e
 exact⟨a,d,f,⟨a,.ref p,vs,by rw[ak,Ks],by rw[aU (ac6 k)];exact g,c.frs f g m,p,rfl,c.fl f g l j,j⟩,c⟩
def Rg.at{H:Hp}{x W:Addr}{S:dJ}{o:Option Formula}(R:Rg K C H x W S o):sV λe c vs=>dF (H x=some (.ins C e (fds W c))) (H W=some (.lst vs)) (OF K H W c o):=let⟨e,c,vs,a,b,_,d⟩:=R.ex;⟨e,c,vs,a,b,d⟩
inductive Q_(C:Addr)(K:Frag)(vs:List V)(H:Hp)(Q:VK)(e3:XK):Prop
|mk (x W p:Addr) (S:dJ) (o:Option Formula) (A:Formula) (_:vs=[.ref x,.ref p]) (_:Rg K C H x W S o) (_:Fl K H p (flat A)) (_:p≠W) (_:wS S+nodes A<=100000) (_:∀H',Rg K C H' x W (bT S A).1 (some (bT S A).2)->fL x W H H'->Q .non H')
def uM:aJ ["self","formula","sign"] ["self","formula"] (aA (rd 6)):=scm
def Kw(B:Hy P w K mg C base):S_ P w K mg base C "end_part" 2 ["self","formula"] (Q_ C K):=by
 obtain⟨f,fd,F,mF⟩:=B.d25;have T:=B.T;have gt:=B.uI;have gP:=B.jd;obtain⟨fi,ZW,Gi,bi',mi⟩:=mX B;obtain⟨k_,fdd,Gd,kd,bd,md⟩:=qM B;obtain⟨fo,fdo,Go,ko,bo,mo⟩:=Qw B;refine⟨f,fd,?_,Ba F λ_ _ _ _ _ _ _ _=>rfl,mF⟩;obtain⟨J,eP,hP⟩:=gP;refine eE F uM λcdv A outer s H vs Q E hr h=>?_;obtain⟨x,W,p,S,o,A0,rfl,R,hF,hpW,hz,k⟩:=h;refine⟨_,ao (pS uM 2 (dW (pv 0) T.cl mi Gi hr bi' .nil aH))
  (ao (iz abu (PW.pt (Di (aK dU (pv 2) (cX gt) (aR _)) (Ab (aK pG (pv 2) (v9 eP) (by rfl)))))
   (ao (bH (fO aaW ab2 ab4 fZ (fM (pv 0) rfl)))
   (ao (pS uM 1 (dO (aK dU (pv 2) (cX gt) (aR _)) (aB Gd hr rfl md kd bd .nil aH (aj (pv 1) aq)) (aB Go hr rfl mo ko bo .nil aH (aj (Km (v9 eP) (pv 2) (λ_ _=>rfl)) (aj (pv 1) aq)))))
   (au (pS uM 2 (dW (pv 0) T.cl mi Gi hr bi' .nil aH))))))
  (au (rG (pv 0) (pv 1) rfl))),?_⟩
 obtain⟨dx,ve,ZX,hx,hW,hE⟩:=R.at;refine⟨_,rfl,x,dx,_,rfl,hx,cI _ _ (by decide+kernel) (by decide+kernel),x,W,S,o,rfl,R,λH1 s1=>?_⟩;refine⟨λm σ l=>∃(b:dJ)(g:Formula)(r:Addr),m=b.length/\σ=[some (.ref x),some (.ref r),some (.int (bM b))]/\Rg K C l x W b o/\Fl K l r (flat g)/\r≠W/\fL x W H l/\bT S A0=bT b g/\wS b+nodes g<=100000,
  ⟨_,S,A0,p,rfl,rfl,R.same s1,hF.same s1,hpW,fL.of s1,rfl,hz⟩,?_⟩
 rintro m σ l ⟨b,g,r,rfl,rfl,R',hF',hp',c',he,hw⟩;have stop:(¬∃q d,b=.pre q::d)->bT b g=(b,g):=λh=>by
  cases b with
  |nil=>rfl
  |cons fr d=>cases fr with
   |pre q=>exact absurd ⟨q,d,rfl⟩ h
   |_=>rfl
 have fin:(¬∃q d,b=.pre q::d)->Zm K (gU 0) (gU 1) "ended" {nx:=λx l=>Q V.non l,rt:=Q} [some (.ref x),some (.ref r),some (.int (bM b))] l:=λh=>by
  obtain⟨X6,ve',Y,R2,c2⟩:=R'.stored hF' hp';refine⟨_,rfl,_,rfl,x,C,X6,_,rfl,Y,T.cl,T.nE,(by show 2<1000;decide),?_⟩;rw[he,stop h]at k;exact k _ R2 (c'.trans c2)
 have turn:∀(q:P3)(d:dJ),b=.pre q::d->∀D:Ends,(∀z n,(∃(j:dJ)(v:Formula)(c:Addr),j.length<b.length/\z=[some (.ref x),some (.ref c),some (.int (bM j))]/\Rg K C n x W j o/\Fl K n c (flat v)/\c≠W/\fL x W H n/\bT S A0=bT j v/\wS j+nodes v<=100000)->D.nx z n)->
   uf (JD (Xg K "list" Ub (W8 K (gU 0) "waiting"))) (uf (qz (Zb (JN (YB rEq (gU 2) (tC (.int 126)))) (vR (Bc K) [] E0 (d_ (gU 1) iB)) (vR (J7 K) [] E0 (d_ (QJ P w K (tC (.ref J)) (gU 2)) (d_ (gU 1) iB)))) (gA 1))
    (qz (Dk C "innermost" (qR C K) [] E0 (gU 0) iB) (gA 2))) D [some (.ref x),some (.ref r),some (.int (bM b))] l:=by
  intro q d eS D hD;subst eS;obtain⟨X6,ve',us,a,u,Y,hW',g1,g2,R2,c2⟩:=R'.popped;refine⟨_,rfl,x,C,X6,_,_,rfl,Y,T.cl,T.nW,qQ _ _,.inl ⟨rfl,_,aV.of hW'⟩,W,_,_,rfl,rfl,hW',cY _ _,?_⟩;rw[adl];have YD:=c2.fl Y hW' hF' hp';have hlen:(flat g).length<=1000000:=by rw[aC];grind
  have hw2:wS d+(1+nodes g)<=100000:=by simp only[wS]at hw;grind
  have cont:∀(c:Addr)(t:Hp),Same (upd l W (.lst us)) t->Fl K t c (flat (q.mk g))->upd l W (.lst us) c=none->
    qz (Dk C "innermost" (qR C K) [] E0 (gU 0) iB) (gA 2) D [some (.ref x),some (.ref c),some (.int (bM (.pre q::d)))] t:=λc t y hF3 hn3=>by
   have R3:=R2.same y;obtain⟨dx3,ve3,vs3,hx3,hW3,_⟩:=R3.at;refine⟨_,rfl,x,dx3,_,rfl,hx3,cI _ _ (by decide+kernel) (by decide+kernel),x,W,d,o,rfl,R3,λH4 s4=>?_⟩;refine hD _ _ ⟨d,q.mk g,c,adD _,rfl,R3.same s4,hF3.same s4,?_,(c'.trans c2).trans (fL.of (y.trans s4)),he,?_⟩
   .exact ac6 (aW (o:=.lst us) ak hn3)
   .have:=yX q g;grind
  refine⟨_,rfl,rfl,_,rfl,?_⟩;show(if decide (V.int (sg (.pre q))=V.int 126)=true then _ else _);cases q with
  |neg=>
   refine bD ⟨_,rfl,r,flat g,rfl,YD,cA g,hlen,λt c y L I=>?_⟩;rw[iM]at I;exact cont c t y I L
  |ofc=>
   refine bF ⟨_,rfl,J,_,_,4,rfl,rfl,hP,rfl,_,rfl,4,r,flat g,rfl,YD,hlen,λt c y L I=>?_⟩;exact cont c t y I L
  |whn=>
   refine bF ⟨_,rfl,J,_,_,5,rfl,rfl,hP,rfl,_,rfl,5,r,flat g,rfl,YD,hlen,λt c y L I=>?_⟩;exact cont c t y I L
 have go:(∃q d,b=.pre q::d)->∃N:L2.St->Hp->Prop,(∀z n,N z n->∃m',m'<b.length/\∃(j:dJ)(v:Formula)(c:Addr),m'=j.length/\z=[some (.ref x),some (.ref c),some (.int (bM j))]/\Rg K C n x W j o/\Fl K n c (flat v)/\c≠W/\fL x W H n/\bT S A0=bT j v/\wS j+nodes v<=100000)/\
   ∀D:Ends,D.nx=N->uf (JD (Xg K "list" Ub (W8 K (gU 0) "waiting"))) (uf (qz (Zb (JN (YB rEq (gU 2) (tC (.int 126)))) (vR (Bc K) [] E0 (d_ (gU 1) iB)) (vR (J7 K) [] E0 (d_ (QJ P w K (tC (.ref J)) (gU 2)) (d_ (gU 1) iB)))) (gA 1))
    (qz (Dk C "innermost" (qR C K) [] E0 (gU 0) iB) (gA 2))) D [some (.ref x),some (.ref r),some (.int (bM b))] l:=by
  rintro⟨q,d,eS⟩;exact⟨_,λz n h=>h,λD hD=>turn q d eS D λz n ⟨j,v,c,M,O⟩=>by rw[hD];exact⟨j.length,M,j,v,c,rfl,O⟩⟩
 refine⟨_,rfl,rfl,_,rfl,?_⟩;show(if decide (V.int (bM b)=V.int 126)=true then _ else _);have hiff:=X5 b;by_cases U:bM b=126
 .rw[aaU (aaD (by rw[U]))]
  obtain⟨N,M,O⟩:=go (hiff.mp (.inl U));exact⟨N,M,O _ rfl⟩
 .rw[aaz (by rw[aat (λe=>U (V.int.inj e))];exact aaT)]
  refine⟨_,rfl,J,_,_,rfl,rfl,hP,_,rfl,?_⟩;show(if(look Ar (bM b)).isSome=true then _ else _);cases hl:(look Ar (bM b)).isSome with
  |true=>
   obtain⟨N,M,O⟩:=go (hiff.mp (.inr hl));exact bD ⟨N,M,O _ rfl⟩
  |false=>
   refine bF (fin λh=>?_);rcases hiff.mpr h with h|h
   .exact U h
   .rw[hl]at h;cases h
end
def Ra(A B:Formula):flat (.par A B)=(1,[])::(flat A++flat B):=rfl
section
variable{C:Addr}
inductive Rb(C:Addr)(K:Frag)(vs:List V)(H:Hp)(Q:VK)(e3:XK):Prop
|mk (x W:Addr) (S:dJ) (A:Formula) (_:vs=[.ref x]) (_:Rg K C H x W S (some A)) (_:wS S+nodes A<=100000) (_:∀H',Rg K C H' x W (bJ S A).1 (some (bJ S A).2)->fL x W H H'->Q .non H')
def Ky:aJ ["self","outer"] ["self"] (aA (rd 7)):=scm
def Kz(e:Hy P w K mg C base):S_ P w K mg base C "end_chain" 2 ["self"] (Rb C K):=by
 obtain⟨f,fd,F,mF⟩:=e.d26;have T:=e.T;have gC:=e.jE;obtain⟨fi,ZW,Gi,bi',mi⟩:=mX e;obtain⟨ft,fdt,Gt,kt,bt,mt⟩:=HD e;refine⟨f,fd,?_,pF F λ_ _ _ _ _ _ _=>rfl,mF⟩;obtain⟨I,J,L⟩:=gC;refine eE F Ky λcdv A outer s H vs Q E M h=>?_;obtain⟨x,W,S,N,rfl,R,hz,k⟩:=h;refine⟨_,au (iz abu (aK pG (dW (pv 0) T.cl mi Gi M bi' .nil aH) (v9 J) (by rfl))
   (ao (pS Ky 1 (fO aaW ab2 ab4 fZ (fM (pv 0) rfl)))
   (au (rG (pv 0) (aB Gt M rfl mt kt bt .nil aH (aj (Km (v9 J) (aP bN (pv 1) aD (λ_ _=>rfl)) (λ_ _=>rfl)) (aj (aP bN (pv 1) aD (λ_ _=>rfl)) (aj (fM (pv 0) rfl) aq)))) rfl)))),?_⟩
 refine⟨λm O o=>sV λ(b:dJ)(d:Formula)(l:Option V)=>Fz (m=b.length) (O=[some (.ref x),l]) (Rg K C o x W b (some d)) (fL x W H o) (bJ S N=bJ b d) (wS b+nodes d<=100000),
  ⟨_,S,N,none,rfl,rfl,R,fL.refl,rfl,hz⟩,?_⟩
 rintro m O o ⟨b,d,l,rfl,rfl,p,U,Y,hw⟩;obtain⟨X6,ve',vs',hx',hW',hE'⟩:=p.at;refine⟨_,rfl,x,X6,_,rfl,hx',cI _ _ (by decide+kernel) (by decide+kernel),x,W,b,some d,rfl,p,λH1 q=>⟨I,_,_,rfl,rfl,L,_,rfl,?_⟩⟩;show(if(look eV (bM b)).isSome=true then _ else _);have y:=Ei b;have R1:=p.same q;cases hl:(look eV (bM b)).isSome with
 |true=>
  obtain⟨c,B,g,rfl⟩:=y.mp hl;refine bD ⟨λz r=>∃l:Option V,dF (z=[some (.ref x),l]) (Rg K C r x W g (some (c.mk B d))) (fL x W H r),λz r ⟨o2,e1,e2,e3⟩=>⟨g.length,adD _,g,c.mk B d,o2,rfl,e1,e2,e3,Y,?_⟩,?_⟩
  .rw[yZ];simp only[wS]at hw;grind
  .obtain⟨dx,ve,us,a,u,t,n,g1,g2,R2,v⟩:=R1.popped
   refine⟨_,rfl,x,C,dx,_,_,rfl,t,T.cl,T.nW,qQ _ _,.inl ⟨rfl,_,aV.of n⟩,W,_,_,rfl,rfl,n,cY _ _,?_⟩;rw[adl];obtain⟨p1,rfl,hf1,hp1⟩:=g2;obtain⟨dx2,ve2,vs2,hx2,hW2,p2,rfl,hf2,hp2⟩:=R2.at;have ga:=v.bB t n g1;have X7:=v.fl t n hf1 hp1;refine⟨_,rfl,a,_,_,_,rfl,rfl,ga,aL (j:=0) rfl,I,_,_,_,rfl,rfl,L,Ie c B,_,rfl,a,_,_,_,rfl,rfl,ga,aL (j:=1) rfl,_,rfl,x,C,dx2,_,_,rfl,hx2,T.cl,T.nE,wI _ _,Q8 c,p1,p2,flat B,flat d,rfl,X7,hf2,?_,λH3 p3 s3 hn D=>?_⟩
   .rw[aC,aC];simp only[wS]at hw;grind
   .rw[<-Q9]at D
    have R3:=R2.same s3;have hp3:p3≠W:=ac6 (aW hW2 hn);obtain⟨dx4,ve4,hx4,R4,c4⟩:=R3.stored D hp3;refine⟨_,rfl,x,C,dx4,_,rfl,hx4,T.cl,T.nE,(by show 2<1000;decide),some (.ref a),rfl,R4,((U.trans (fL.of q)).trans v).trans ((fL.of s3).trans c4)⟩
 |false=>
  refine bF ?_;have stop:bJ b d=(b,d):=by
   cases b with
   |nil=>rfl
   |cons fr g=>cases fr with
    |chain c B=>exact absurd (y.mpr ⟨c,B,g,rfl⟩) (by rw[hl];exact aaT)
    |_=>rfl
  rw[Y,stop]at k;exact k _ R1 (U.trans (fL.of q))
theorem jh:∀(S:dJ)(A:Formula),wS (bJ S A).1+nodes (bJ S A).2<=wS S+nodes A
|[],A=>aaS _
|.pre p::S,A=>aaS _
|.paren::S,A=>aaS _
|.arrow B::S,A=>aaS _
|.chain c B::S,A=>by
 have:=jh S (c.mk B A);rw[yZ]at this;show wS (bJ S (c.mk B A)).1+nodes (bJ S (c.mk B A)).2<=_;simp only[wS];grind
theorem tO:∀(S:dJ)(A:Formula),wS (gq S A).1+nodes (gq S A).2<=wS S+nodes A
|[],A=>aaS _
|.pre p::S,A=>aaS _
|.paren::S,A=>aaS _
|.chain c B::S,A=>aaS _
|.arrow B::S,A=>by
 have:=tO S (.par (dual B) A);show wS (gq S (.par (dual B) A)).1+nodes (gq S (.par (dual B) A)).2<=_;simp only[nodes,jg]at this;simp only[wS];grind
def lu(S:dJ)(A:Formula):wS (bh S A).1+nodes (bh S A).2<=wS S+nodes A:=abJ (tO _ _) (jh S A)
theorem rW:∀(S:dJ)(A:Formula),wS (bT S A).1+nodes (bT S A).2<=wS S+nodes A
|[],A=>aaS _
|.paren::S,A=>aaS _
|.chain c B::S,A=>aaS _
|.arrow B::S,A=>aaS _
|.pre p::S,A=>by
 have:=rW S (p.mk A);have:=yX p A;show wS (bT S (p.mk A)).1+nodes (bT S (p.mk A)).2<=_;simp only[wS];grind
def UW(S:dJ):bM S=45↔∃A a,S=.arrow A::a:=by
 cases S with
 |nil=>simp[bM]
 |cons f S=>
  cases f with
  |pre p=>cases p<;>simp[bM,sg]
  |paren=>simp[bM,sg]
  |arrow A=>simp[bM,sg]
  |chain c A=>cases c<;>simp[bM,sg]
def U0(S:dJ):bM S=40↔∃a,S=.paren::a:=by
 cases S with
 |nil=>simp[bM]
 |cons f S=>
  cases f with
  |pre p=>cases p<;>simp[bM,sg]
  |paren=>simp[bM,sg]
  |arrow A=>simp[bM,sg]
  |chain c A=>cases c<;>simp[bM,sg]
inductive Rc(C:Addr)(K:Frag)(vs:List V)(H:Hp)(Q:VK)(e3:XK):Prop
|mk (x W:Addr) (S:dJ) (A:Formula) (_:vs=[.ref x]) (_:Rg K C H x W S (some A)) (_:wS S+nodes A<=100000) (_:∀H',Rg K C H' x W (bh S A).1 (some (bh S A).2)->fL x W H H'->Q .non H')
def KC:aJ ["self","outer"] ["self"] (aA (rd 8)):=scm
def KH(d:Hy P w K mg C base):S_ P w K mg base C "end_formula" 3 ["self"] (Rc C K):=by
 obtain⟨f,fd,F,mF⟩:=d.d27;have T:=d.T;have gd:=d.Hz;have X8:=d.Qs;obtain⟨fi,ZW,Gi,bi',mi⟩:=mX d;obtain⟨fc,fdc,Gc,bc,mc⟩:=Kz d;obtain⟨fu,fdu,Gu,ku,bu,mu⟩:=qM d;obtain⟨ft,fdt,Gt,kt,bt,mt⟩:=HD d;refine⟨f,fd,?_,pF F λ_ _ _ _ _ _ _=>rfl,mF⟩;refine eE F KC λcdv A outer s H vs Q E O h=>?_;obtain⟨x,W,q,r,rfl,R,hz,k⟩:=h;have p:bI 1 _:=O.mono (by decide);refine⟨_,ao (bH (dW (pv 0) T.cl mc Gc O bc .nil aH)) (au (iz abu (aK dU (dW (pv 0) T.cl mi Gi p bi' .nil aH) (cX gd) (aR _))
   (ao (pS KC 1 (fO aaW ab2 ab4 fZ (fM (pv 0) rfl)))
   (au (rG (pv 0) (aB Gt p rfl mt kt bt .nil aH (aj (cX X8) (aj (aB Gu p rfl mu ku bu .nil aH (aj (aP bN (pv 1) aD (λ_ _=>rfl)) aq)) (aj (fM (pv 0) rfl) aq)))) rfl))))),?_⟩
 obtain⟨dx0,ve0,ZX,hx0,hW0,hE0⟩:=R.at;refine⟨_,rfl,x,dx0,_,rfl,hx0,cI _ _ (by decide+kernel) (by decide+kernel),x,W,q,r,rfl,R,hz,λH0 R0 c0=>?_⟩;have hz0:=abJ (jh q r) hz;refine⟨λm U t=>sV λ(b:dJ)(c:Formula)(l:Option V)=>Fz (m=b.length) (U=[some (.ref x),l]) (Rg K C t x W b (some c)) (fL x W H t) (bh q r=gq b c) (wS b+nodes c<=100000),
  ⟨_,_,_,none,rfl,rfl,R0,c0,rfl,hz0⟩,?_⟩
 rintro m U t ⟨b,c,l,rfl,rfl,v,Y,he,hw⟩;obtain⟨X6,ve',vs',hx',hW',hE'⟩:=v.at;refine⟨_,rfl,x,X6,_,rfl,hx',cI _ _ (by decide+kernel) (by decide+kernel),x,W,b,some c,rfl,v,λH1 y=>⟨rfl,_,rfl,?_⟩⟩;show(if decide (V.int (bM b)=V.int 45)=true then _ else _);have J:=UW b;have R1:=v.same y;by_cases n:bM b=45
 .rw[aaU (aaD (by rw[n]))]
  obtain⟨B,g,rfl⟩:=J.mp n;refine⟨λL z=>∃l:Option V,dF (L=[some (.ref x),l]) (Rg K C z x W g (some (.par (dual B) c))) (fL x W H z),λL z ⟨o2,e1,e2,e3⟩=>⟨g.length,adD _,g,.par (dual B) c,o2,rfl,e1,e2,e3,he,?_⟩,?_⟩
  .simp only[wS]at hw;simp only[nodes,jg];omega
  .obtain⟨dx,ve,us,a,u,D,o,g1,g2,R2,I⟩:=R1.popped
   refine⟨_,rfl,x,C,dx,_,_,rfl,D,T.cl,T.nW,qQ _ _,.inl ⟨rfl,_,aV.of o⟩,W,_,_,rfl,rfl,o,cY _ _,?_⟩;rw[adl];obtain⟨p1,rfl,hf1,hp1⟩:=g2;have ga:=I.bB D o g1;have X7:=I.fl D o hf1 hp1;refine⟨_,rfl,a,_,_,_,rfl,rfl,ga,aL (j:=1) rfl,p1,flat B,rfl,X7,cA B,by rw[aC];simp only[wS]at hw;omega,λH3 pd s3 hnd M=>?_⟩;rw[iM]at M;have R3:=R2.same s3;obtain⟨dx2,ve2,vs2,hx2,hW2,p2,rfl,hf2,hp2⟩:=R3.at;refine⟨_,rfl,x,C,dx2,_,_,rfl,hx2,T.cl,T.nE,wI _ _,1,pd,p2,flat (dual B),flat c,rfl,M,hf2,?_,λH4 p3 s4 hn N=>?_⟩
   .rw[aC,aC,jg];simp only[wS]at hw;omega
   .rw[<-Ra]at N
    have R4:=R3.same s4;have hp3:p3≠W:=ac6 (aW hW2 hn);obtain⟨dx4,ve4,hx4,R5,c5⟩:=R4.stored N hp3;refine⟨_,rfl,x,C,dx4,_,rfl,hx4,T.cl,T.nE,(by show 2<1000;decide),some (.ref a),rfl,R5,((Y.trans (fL.of y)).trans I).trans ((fL.of (s3.trans s4)).trans c5)⟩
 .rw[aaz (by rw[aat (λe=>n (V.int.inj e))];exact aaT)]
  have stop:gq b c=(b,c):=by
   cases b with
   |nil=>rfl
   |cons fr g=>cases fr with
    |arrow B=>exact absurd (J.mpr ⟨B,g,rfl⟩) n
    |_=>rfl
  rw[he,stop]at k;exact k _ R1 (Y.trans (fL.of y))
end
def Steps(K:Frag)(C:Addr)(H:Hp)(x W:Addr)(r:Option Cg)(Q:VK):Prop:=(r=none->∀a,fL x W H a->Q (.bl false) a)/\∀s,r=some s->∀a,Rg K C a x W s.1 s.2->fL x W H a->Q (.bl true) a
section
variable{C:Addr}
theorem Steps.opened{H:Hp}{x W:Addr}{f:Fr}{S:dJ}{Q:VK}(h:Steps K C H x W (opened f S) Q){a:Hp}(R:Rg K C a x W (f::S) none)(c:fL x W H a):Q (.bl (decide (S.length+1<=100))) a:=by
 obtain⟨d,e⟩:=h;unfold MR.opened at d e;by_cases b:S.length+1<=100
 .rw[aaD b]
  exact e _ (aaU b) a R c
 .rw[aat b]
  exact d (aaz b) a c
inductive KJ(C:Addr)(K:Frag)(vs:List V)(H:Hp)(Q:VK)(e3:XK):Prop
|mk (x W:Addr) (S:dJ) (A:Formula) (_:vs=[.ref x]) (_:Rg K C H x W S (some A)) (_:wS S+nodes A<=100000) (_:Steps K C H x W (closes (bh S A)) Q)
def Rf:aJ ["self"] ["self"] (aA (rd 9)):=scm
def Rh(b:Hy P w K mg C base):S_ P w K mg base C "close_bracket" 4 ["self"] (KJ C K):=by
 obtain⟨f,U,F,Y⟩:=b.d28;have T:=b.T;have go:=b.nO;obtain⟨fi,ZW,Gi,y,mi⟩:=mX b;obtain⟨ff,fdf,Gf,bf,mf⟩:=KH b;obtain⟨fp,fdp,Gp,bp,mp⟩:=Kw b;refine⟨f,U,?_,pF F λ_ _ _ _ _ _ _=>rfl,Y⟩;refine eE F Rf λcdv A outer s H vs Q E k h=>?_;obtain⟨x,W,S,l,rfl,R,hz,kN,kS⟩:=h;have z:bI 1 _:=k.mono (by decide);have B:bI 2 _:=k.mono (by decide);refine⟨_,ao (bH (dW (pv 0) T.cl mf Gf k bf .nil aH))
  (ao (aZ (aK yG (dW (pv 0) T.cl mi Gi z y .nil aH) (cX go) (aR _)) (au (aF tG)) aO)
  (ao (bH (fO aaW ab2 ab4 fZ (fM (pv 0) rfl)))
  (ao (bH (jr (pv 0) T.cl mp Gp B bp .nil aH (aj (fM (pv 0) rfl) aq)))
  (au (aF tG))))),?_⟩
 obtain⟨D,ve0,ZX,I,hW0,hE0⟩:=R.at;refine⟨_,rfl,x,D,_,rfl,I,cI _ _ (by decide+kernel) (by decide+kernel),x,W,S,l,rfl,R,hz,λH1 m c1=>?_⟩;have hw:=abJ (lu S l) hz;generalize bh S l=e at*;obtain⟨c,d⟩:=e;obtain⟨J,ve1,vs1,L,hW1,hE1⟩:=m.at;refine⟨_,rfl,x,J,_,rfl,L,cI _ _ (by decide+kernel) (by decide+kernel),x,W,c,some d,rfl,m,λH2 q=>⟨rfl,_,rfl,?_⟩⟩;show(if(!decide (V.int (bM c)=V.int 40))=true then _ else _);have n:=U0 c;have R2:=m.same q;have r:=c1.trans (fL.of q);by_cases g:bM c=40
 .rw[aaz (by rw[aaD (by rw[g])];decide)]
  obtain⟨j,rfl⟩:=n.mp g;obtain⟨dx,ve,us,a,u,hx,t,g1,g2,v,c3⟩:=R2.popped;refine⟨_,rfl,x,C,dx,_,_,rfl,hx,T.cl,T.nW,qQ _ _,.inl ⟨rfl,_,aV.of t⟩,W,_,_,rfl,rfl,t,cY _ _,?_⟩;rw[adl];obtain⟨o,ve3,vs3,p,hW3,p3,rfl,M,N⟩:=v.at;refine⟨_,rfl,x,o,_,rfl,p,cI _ _ (by decide+kernel) (by decide+kernel),_,rfl,x,C,o,_,_,rfl,p,T.cl,T.nE,wI _ _,x,W,p3,j,some d,d,rfl,v,M,N,?_,λH4 R4 c4=>?_⟩
  .have O:wS (.paren::j)+nodes d<=100000:=hw
   simp only[wS]at O;grind
  .exact kS _ rfl _ R4 ((r.trans c3).trans c4)
 .rw[aaU (by rw[aat (λe=>g (V.int.inj e))];rfl)]
  have hn:closes (c,d)=none:=by
   cases c with
   |nil=>rfl
   |cons fr j=>cases fr with
    |paren=>exact absurd (n.mpr ⟨j,rfl⟩) g
    |_=>rfl
  exact kN hn _ r
end
def Ri:Token->Prop
|.name a=>isName a=true
|.sign c=>isSign c=true
|.arrow=>True
def tkT:Token->Text
|.name a=>a
|.sign c=>[c]
|.arrow=>[45,111]
def U3(t:Token):H_ t=nm (tkT t):=by cases t<;>rfl
def Bk(c:UInt8):isSign c=true->isName [c]=false:=iQ (p:=λc=>isSign c=true->isName [c]=false) (by decide+kernel) c
def Bl(c:UInt8):isSign c=true->bi c≠45:=iQ (p:=λc=>isSign c=true->bi c≠45) (by decide+kernel) c
def V3{c d:UInt8}(h:c≠d):bi c≠bi d:=λe=>h (ag5.mp (by unfold bi at e;grind))
def Ig{c:UInt8}{k:Int}(d:UInt8)(h:c≠d)(e:bi d=k):¬decide (V.int (bi c)=V.int k)=true:=by
 rw[aat (λq=>V3 h ((V.int.inj q).trans e.symm))];exact aaT
def Rj(c:UInt8):(look Ar (bi c)).isSome=(decide (c=33)||decide (c=63)):=iQ (p:=λc=>(look Ar (bi c)).isSome=(decide (c=33)||decide (c=63))) (by decide+kernel) c
def U4(c:UInt8):(look eV (bi c)).isSome=(OJ c).isSome:=iQ (p:=λc=>(look eV (bi c)).isSome=(OJ c).isSome) (by decide+kernel) c
def Rk(b:UInt8):isSmall b=true->bi b≠41/\bi b≠45/\(look eV (bi b)).isSome=false:=iQ (p:=λb=>isSmall b=true->bi b≠41/\bi b≠45/\(look eV (bi b)).isSome=false) (by decide+kernel) b
def Rm(s:T4)(A:Formula):sg (.chain s A)=bi s.byte:=by cases s<;>rfl
section
variable{C:Addr}
inductive KN(C:Addr)(K:Frag)(vs:List V)(H:Hp)(Q:VK)(e3:XK):Prop
|mk (x W q:Addr) (S:dJ) (t:Token) (_:vs=[.ref x,.ref q]) (_:Rg K C H x W S none) (_:dG K H q (ii (H_ t))) (_:Ri t) (_:wS S+1<=100000) (_:Steps K C H x W (begins S t) Q)
def Ej:aJ ["self","token","sign"] ["self","token"] (aA (rd 2)):=scm
def Rn(d:Hy P w K mg C base):S_ P w K mg base C "begin_part" 4 ["self","token"] (KN C K):=by
 obtain⟨f,fd,F,mF⟩:=d.d29;have T:=d.T;have go:=d.nO;have gt:=d.uI;have gP:=d.jd;obtain⟨fn,fdn,Gn,kn,bn,mn⟩:=qL d;obtain⟨fa,fda,Ga,ka,ba,ma⟩:=DY d;obtain⟨fp,fdp,Gp,bp,mp⟩:=Kw d;obtain⟨fw,fdw,Gw,bw,mw⟩:=Kv d;refine⟨f,fd,?_,Ba F λ_ _ _ _ _ _ _ _=>rfl,mF⟩;obtain⟨M,eP,N⟩:=gP;refine eE F Ej λcdv A outer s H vs Q E y h=>?_;obtain⟨x,W,q,S,t,rfl,R,O,U,hz,z,Y⟩:=h;have L:bI 1 _:=y.mono (by decide);have hr2:bI 2 _:=y.mono (by decide);have YF:bI 3 _:=y.mono (by decide);refine⟨_,ao (aZ (cu (aB Gn YF rfl mn kn bn .nil aH (aj (pv 1) aq)))
   (ao (bH (jr (pv 0) T.cl mp Gp hr2 bp .nil aH (aj (aB Ga L rfl ma ka ba .nil aH (aj (pv 1) aq)) aq))) (au (aF tG))) aO)
  (ao (pS Ej 2 (aP bN (pv 1) aD (λ_ _=>rfl)))
  (ao (aZ (PW.pt (Di (aK dU (pv 2) (cX go) (aR _)) (Di (aK dU (pv 2) (cX gt) (aR _)) (Ab (aK pG (pv 2) (v9 eP) (by rfl))))))
   (au (aF (jr (pv 0) T.cl mw Gw L bw .nil aH (aj (pv 2) aq)))) aO)
  (au (aF tG)))),?_⟩
 refine⟨_,rfl,q,tkT t,rfl,.inr (by rw[gO,<-U3];exact O),λH1 g=>⟨_,rfl,?_⟩⟩;have l:=R.same g;have v:=g.bB O;have u:S.length<=1000000:=by have:=pH S;grind
 have r:∀m:Fr,ahead m=none->begins S t=opened m S->∀b:Hp,Rg K C b x W (m::S) none->fL x W H1 b->Q (.bl (decide (S.length+1<=100))) b:=λm _ hb b R2 e=>
  Steps.opened (hb▸⟨z,Y⟩:Steps K C H x W (opened m S) Q) R2 ((fL.of g).trans e)
 obtain⟨n,ve,ZX,o,hW,hE⟩:=l.at;cases t with
 |name a=>
  show(if isName a=true then _ else _);rw[aaU (show isName a=true from U)];refine⟨_,rfl,x,n,_,rfl,o,cI _ _ (by decide+kernel) (by decide+kernel),_,rfl,q,nm a,rfl,v,λb p s2 hn hf=>?_⟩;refine⟨x,W,p,S,none,.atom false a,rfl,l.same s2,hf,ac6 (aW hW hn),hz,λH3 R3 c3=>?_⟩;exact Y _ rfl _ R3 ((fL.of (g.trans s2)).trans c3)
 |arrow=>
  refine bF ⟨_,rfl,q,_,_,_,rfl,rfl,v,aL (j:=0) rfl,?_⟩;exact⟨_,rfl,rfl,_,rfl,bF ⟨_,rfl,rfl,_,rfl,bF ⟨_,rfl,M,_,_,rfl,rfl,N,_,rfl,bF (z rfl _ (fL.of g))⟩⟩⟩
 |sign c=>
  show(if isName [c]=true then _ else _);rw[aaz (by rw[Bk c U];exact aaT)];refine⟨_,rfl,q,_,_,_,rfl,rfl,v,aL (j:=0) rfl,⟨_,rfl,rfl,_,rfl,?_⟩⟩;show(if decide (V.int (bi c)=V.int 40)=true then _ else _);by_cases B:c=40
  .subst B
   refine bD ⟨_,rfl,x,n,_,rfl,o,cI _ _ (by decide+kernel) (by decide+kernel),_,rfl,x,W,S,.paren,rfl,l,u,λb R2 e=>?_⟩;exact r .paren rfl rfl b R2 e
  rw[aaz (Ig (k:=40) 40 B rfl)];refine⟨_,rfl,rfl,_,rfl,?_⟩;show(if decide (V.int (bi c)=V.int 126)=true then _ else _);by_cases D:c=126
  .subst D
   refine bD ⟨_,rfl,x,n,_,rfl,o,cI _ _ (by decide+kernel) (by decide+kernel),_,rfl,x,W,S,.pre .neg,rfl,l,u,λb R2 e=>?_⟩;exact r (.pre .neg) rfl rfl b R2 e
  rw[aaz (Ig (k:=126) 126 D rfl)];refine⟨_,rfl,M,_,_,rfl,rfl,N,_,rfl,?_⟩;show(if(look Ar (bi c)).isSome=true then _ else _);by_cases I:c=33
  .subst I
   refine bD ⟨_,rfl,x,n,_,rfl,o,cI _ _ (by decide+kernel) (by decide+kernel),_,rfl,x,W,S,.pre .ofc,rfl,l,u,λb R2 e=>?_⟩;exact r (.pre .ofc) rfl rfl b R2 e
  by_cases J:c=63
  .subst J
   refine bD ⟨_,rfl,x,n,_,rfl,o,cI _ _ (by decide+kernel) (by decide+kernel),_,rfl,x,W,S,.pre .whn,rfl,l,u,λb R2 e=>?_⟩;exact r (.pre .whn) rfl rfl b R2 e
  rw[Rj,aat I,aat J];refine bF (z ?_ _ (fL.of g));unfold begins p3?;simp only[aaz B,aaz D,aaz I,aaz J]
inductive Ek(C:Addr)(K:Frag)(vs:List V)(H:Hp)(Q:VK)(e3:XK):Prop
|mk (x W q:Addr) (S:dJ) (A:Formula) (t:Token) (_:vs=[.ref x,.ref q]) (_:Rg K C H x W S (some A)) (_:dG K H q (ii (H_ t))) (_:Ri t) (_:wS S+nodes A<=100000) (_:Steps K C H x W (follows S A t) Q)
def rY:aJ ["self","token","sign","outer"] ["self","token"] (aA (rd 3)):=scm
def Ng(l:Hy P w K mg C base):S_ P w K mg base C "follow_part" 5 ["self","token"] (Ek C K):=by
 obtain⟨f,fd,F,mF⟩:=l.d30;have T:=l.T;have gc:=l.rN;have gd:=l.Hz;have gC:=l.jE;obtain⟨fi,ZW,Gi,bi',mi⟩:=mX l;obtain⟨fc,fdc,Gc,bc,mc⟩:=Kz l;obtain⟨fb,fdb,Gb,bb,mb⟩:=Rh l;obtain⟨fw,fdw,Gw,bw,mw⟩:=Kv l;refine⟨f,fd,?_,Ba F λ_ _ _ _ _ _ _ _=>rfl,mF⟩;obtain⟨O,eC,U⟩:=gC;refine eE F rY λcdv A outer s H vs Q E Y h=>?_;obtain⟨x,W,q,S,d,t,rfl,R,hq,hT,hz,g,m⟩:=h;have N:bI 1 _:=Y.mono (by decide);have hr2:bI 2 _:=Y.mono (by decide);refine⟨_,ao (pS rY 2 (aP bN (pv 1) aD (λ_ _=>rfl)))
  (ao (aZ (aK dU (pv 2) (cX gc) (aR _)) (au (aF (dW (pv 0) T.cl mb Gb Y bb .nil aH))) aO)
  (ao (aZ (aK dU (pv 2) (cX gd) (aR _)) (ao (bH (dW (pv 0) T.cl mc Gc hr2 bc .nil aH)) (au (aF (jr (pv 0) T.cl mw Gw N bw .nil aH (aj (pv 2) aq))))) aO)
  (ao (aZ (aK pG (pv 2) (v9 eC) (by rfl)) (ao (pS rY 3 (dW (pv 0) T.cl mi Gi N bi' .nil aH))
   (ao (aZ (PW.pt (Pr (aK pG (pv 3) (v9 eC) (by rfl)) (JC (aK yG (pv 3) (pv 2) (aR _))))) (au (aF tG)) aO)
   (au (aF (jr (pv 0) T.cl mw Gw N bw .nil aH (aj (pv 2) aq)))))) aO)
  (au (aF tG))))),?_⟩
 obtain⟨n,ve,ZX,I,hW,hE⟩:=R.at;cases t with
 |name a=>
  obtain⟨b,r,rfl⟩:∃b r,a=b::r:=by
   cases a with
   |nil=>exact absurd (show isName []=true from hT) (by decide)
   |cons b r=>exact⟨b,r,rfl⟩
  have hsm:isSmall b=true:=by
   have:isName (b::r)=true:=hT;rw[name_eq,aa8]at this;exact this.1
  obtain⟨n1,n2,n3⟩:=Rk b hsm;refine⟨_,rfl,q,_,_,_,rfl,rfl,hq,aL (j:=0) rfl,_,rfl,rfl,_,rfl,?_⟩;show(if decide (V.int (bi b)=V.int 41)=true then _ else _);rw[aaz (by rw[aat (λe=>n1 (V.int.inj e))];exact aaT)];refine⟨_,rfl,rfl,_,rfl,?_⟩;show(if decide (V.int (bi b)=V.int 45)=true then _ else _);rw[aaz (by rw[aat (λe=>n2 (V.int.inj e))];exact aaT)];refine⟨_,rfl,O,_,_,rfl,rfl,U,_,rfl,?_⟩;show(if(look eV (bi b)).isSome=true then _ else _);rw[n3];exact bF (g rfl _ fL.refl)
 |arrow=>
  refine⟨_,rfl,q,_,_,_,rfl,rfl,hq,aL (j:=0) rfl,_,rfl,rfl,_,rfl,bF ⟨_,rfl,rfl,_,rfl,bD ?_⟩⟩;refine⟨_,rfl,x,n,_,rfl,I,cI _ _ (by decide+kernel) (by decide+kernel),x,W,S,d,rfl,R,hz,λH1 o c1=>?_⟩;have hw:=abJ (jh S d) hz;have p:Steps K C H x W (opened (.arrow (bJ S d).2) (bJ S d).1) Q:=⟨g,m⟩;generalize bJ S d=e at*;obtain⟨J,A1⟩:=e;have hw1:wS J+nodes A1<=100000:=hw;have L:J.length<=1000000:=by have:=pH J;grind
  obtain⟨dx1,ve1,vs1,D,hW1,hE1⟩:=o.at;refine⟨_,rfl,x,dx1,_,rfl,D,cI _ _ (by decide+kernel) (by decide+kernel),_,rfl,x,W,J,.arrow A1,rfl,o,L,λH2 R2 v=>?_⟩;exact Steps.opened p R2 (c1.trans v)
 |sign c=>
  refine⟨_,rfl,q,_,_,_,rfl,rfl,hq,aL (j:=0) rfl,_,rfl,rfl,_,rfl,?_⟩;show(if decide (V.int (bi c)=V.int 41)=true then _ else _);by_cases h1:c=41
  .subst h1
   exact bD ⟨_,rfl,x,n,_,rfl,I,cI _ _ (by decide+kernel) (by decide+kernel),x,W,S,d,rfl,R,hz,g,m⟩
  rw[aaz (Ig (k:=41) 41 h1 rfl)];refine⟨_,rfl,rfl,_,rfl,?_⟩;show(if decide (V.int (bi c)=V.int 45)=true then _ else _);rw[aaz (by rw[aat (λe=>Bl c hT (V.int.inj e))];exact aaT)];refine⟨_,rfl,O,_,_,rfl,rfl,U,_,rfl,?_⟩;show(if(look eV (bi c)).isSome=true then _ else _);rw[U4];have hfo:follows S d (.sign c)=match OJ c with
   |none=>none
   |some s=>match u_ S with
    |some u=>if u=s then opened (.chain s d) S else none
    |none=>opened (.chain s d) S:=aaz h1
  rw[hfo]at g m;cases et:OJ c with
  |none=>
   rw[et]at g;exact bF (g rfl _ fL.refl)
  |some s=>
   have hc:=Jq et;subst hc;rw[et]at g m;refine bD ⟨_,rfl,x,n,_,rfl,I,cI _ _ (by decide+kernel) (by decide+kernel),x,W,S,some d,rfl,R,λH1 z=>⟨_,rfl,O,_,_,rfl,rfl,U,_,rfl,?_⟩⟩;have o:=R.same z;have D:=z _ _ I;have L:S.length<=1000000:=by have:=pH S;grind
   show(if(look eV (bM S)).isSome=true then _ else _);have hiff:=Ei S;cases hlk:(look eV (bM S)).isSome with
   |true=>
    obtain⟨u,B,M,rfl⟩:=hiff.mp hlk;refine bD ⟨_,rfl,_,rfl,rfl,_,rfl,?_⟩;show(if(!decide (V.int (sg (.chain u B))=V.int (bi s.byte)))=true then _ else _);rw[Rm];by_cases hu:u=s
    .subst hu
     rw[aaz (by rw[aaD rfl];decide)];refine⟨_,rfl,x,n,_,rfl,D,cI _ _ (by decide+kernel) (by decide+kernel),_,rfl,x,W,.chain u B::M,.chain u d,by rw[Rm];rfl,o,L,λH2 R2 v=>?_⟩;have p:Steps K C H x W (opened (.chain u d) (.chain u B::M)) Q:=⟨λe=>g (by show(if u=u then _ else _)=_;rw[aaU rfl];exact e),λy e=>m y (by show(if u=u then _ else _)=_;rw[aaU rfl];exact e)⟩;exact p.opened R2 ((fL.of z).trans v)
    .have hb:bi u.byte≠bi s.byte:=V3 λe=>hu (Cj e)
     rw[aaU (by rw[aat (λe=>hb (V.int.inj e))];rfl)];exact g (by show(if u=s then _ else _)=_;rw[aaz hu]) _ (fL.of z)
   |false=>
    have htop:u_ S=none:=by
     cases S with
     |nil=>rfl
     |cons fr M=>cases fr with
      |chain u B=>exact absurd (hiff.mpr ⟨u,B,M,rfl⟩) (by rw[hlk];exact aaT)
      |_=>rfl
    refine bF ⟨_,rfl,x,n,_,rfl,D,cI _ _ (by decide+kernel) (by decide+kernel),_,rfl,x,W,S,.chain s d,by rw[Rm];rfl,o,L,λH2 R2 v=>?_⟩;have p:Steps K C H x W (opened (.chain s d) S) Q:=⟨λe=>g (by show(match u_ S with|some u=>_|none=>_)=_;rw[htop];exact e),λy e=>m y (by show(match u_ S with|some u=>_|none=>_)=_;rw[htop];exact e)⟩;exact p.opened R2 ((fL.of z).trans v)
end
end CL
namespace MR
open Vaneta
def wO:Option Formula->Nat
|none=>0
|some A=>nodes A
def mY{f:Fr}{S:dJ}{s:Cg}(h:opened f S=some s):wS s.1+wO s.2=wS (f::S):=by
 unfold opened at h;split at h
 .cases h;rfl
 .cases h
def Ro{S:dJ}{t:Token}{s:Cg}(h:begins S t=some s):wS s.1+wO s.2<=wS S+1:=by
 unfold begins at h;cases t with
 |name a=>cases h;exact CL.rW S (.atom false a)
 |arrow=>cases h
 |sign c=>
  dsimp only at h;split at h
  .rw[mY h];simp only[wS];grind
  .split at h
   .rw[mY h];simp only[wS];grind
   .cases h
def Rp{x:dJ×Formula}{s:Cg}(h:closes x=some s):wS s.1+wO s.2<=wS x.1+nodes x.2:=by
 obtain⟨S,A⟩:=x;unfold closes at h;dsimp only at h;split at h
 .rename_i K
  cases h;have:=CL.rW K A;simp only[wS];show wS (bT K A).1+nodes (bT K A).2<=_;grind
 .cases h
def Nh{S:dJ}{A:Formula}{t:Token}{s:Cg}(h:follows S A t=some s):wS s.1+wO s.2<=wS S+nodes A+1:=by
 unfold follows at h;cases t with
 |name a=>cases h
 |arrow=>
  have:=CL.jh S A;rw[mY h];simp only[wS];grind
 |sign c=>
  dsimp only at h;split at h
  .have:=Rp h
   have:=CL.lu S A;grind
  .split at h
   .cases h
   .split at h
    .split at h
     .rw[mY h];simp only[wS];grind
     .cases h
    .rw[mY h];simp only[wS];grind
def Rq{s a:Cg}{t:Token}(h:take s t=some a):wS a.1+wO a.2<=wS s.1+wO s.2+1:=by
 obtain⟨S,o⟩:=s;cases o with
 |none=>exact Ro h
 |some A=>exact Nh h
end MR
namespace CL
open PySem PySem.Spec PyProof.Rows L2 MR Vaneta
def U5{c:UInt8}{r:Text}{x:Token×Nat}(h:tZ c r=some x):Ri x.1:=by
 unfold tZ at h;split at h
 .rename_i a;cases h;exact a
 split at h
 .split at h
  .cases h;trivial
  .cases h
 .split at h
  .rename_i a;cases h;exact a
  .cases h
theorem lA:∀(n:Nat)(t:Text)(a:List Token),t.length<=n->tokens t=some a->a.length<=t.length/\∀x∈a,Ri x
|_,[],a,_,h=>by cases h;exact⟨aaS _,λx g=>by cases g⟩
|0,c::r,_,b,_=>by rw[aae]at b;grind
|n+1,c::r,a,b,h=>by
 rw[aae]at b;rw[sY]at h;split at h
 .obtain⟨j,d⟩:=lA n r a (by grind) h
  exact⟨by rw[aae];grind,d⟩
 .split at h
  .cases h
  .rename_i x e
   obtain⟨o,p,k⟩:=Eh e;cases et:tokens ((c::r).drop x.2)with
   |none=>rw[et]at h;cases h
   |some l=>
    rw[et]at h;cases h;have m:((c::r).drop x.2).length=(c::r).length - x.2:=ace;rw[aae]at m k;obtain⟨j,d⟩:=lA n _ l (by grind) et;refine⟨by rw[aae,aae];grind,λy f=>?_⟩;rcases aa2.mp f with rfl|f
    .exact U5 e
    .exact d y f
section
variable{C:Addr}
inductive Rr(C:Addr)(K:Frag)(vs:List V)(H:Hp)(Q:VK)(e3:XK):Prop
|mk (x W q:Addr) (S:dJ) (o:Option Formula) (t:Token) (_:vs=[.ref x,.ref q]) (_:Rg K C H x W S o) (_:dG K H q (ii (H_ t))) (_:Ri t) (_:wS S+wO o+1<=100000) (_:Steps K C H x W (MR.take (S,o) t) Q)
def U6:aJ ["self","token"] ["self","token"] (aA (rd 1)):=scm
def U7(a:Hy P w K mg C base):S_ P w K mg base C "take" 6 ["self","token"] (Rr C K):=by
 obtain⟨f,m,F,n⟩:=a.d31;have T:=a.T;obtain⟨O,J,r,u,v⟩:=Rn a;obtain⟨U,L,y,z,B⟩:=Ng a;refine⟨f,m,?_,Ba F λ_ _ _ _ _ _ _ _=>rfl,n⟩;refine eE F U6 λM A outer s H vs Q E d h=>?_;obtain⟨x,W,q,S,o,t,rfl,R,e,g,hz,j⟩:=h;have l:bI 4 _:=d.mono (by decide);refine⟨_,ao (aZ (aK iZ (fM (pv 0) rfl) b_ (aR _)) (au (aF (jr (pv 0) T.cl v r l u .nil aH (aj (pv 1) aq)))) aO)
  (au (aF (jr (pv 0) T.cl B y d z .nil aH (aj (pv 1) aq)))),?_⟩
 obtain⟨b,D,N,c,Y,k⟩:=R.at;refine⟨_,rfl,x,C,b,_,_,rfl,c,T.cl,T.nE,wI _ _,rfl,_,rfl,?_⟩;cases o with
 |none=>
  obtain rfl:D=.non:=k;refine bD ⟨_,rfl,x,b,_,rfl,c,cI _ _ (by decide+kernel) (by decide+kernel),_,rfl,x,W,q,S,t,rfl,R,e,g,?_,j⟩;simp only[wO]at hz;omega
 |some I=>
  obtain⟨p,rfl,hf,hp⟩:=k;refine bF ⟨_,rfl,x,b,_,rfl,c,cI _ _ (by decide+kernel) (by decide+kernel),_,rfl,x,W,q,S,I,t,rfl,R,e,g,?_,j⟩;simp only[wO]at hz;omega
inductive KQ(C:Addr)(K:Frag)(vs:List V)(H:Hp)(Q:VK)(e3:XK):Prop
|mk (x W:Addr) (S:dJ) (o:Option Formula) (_:vs=[.ref x]) (_:Rg K C H x W S o) (_:wS S+wO o<=100000) (_:MR.whole (S,o)=none->∀H',fL x W H H'->Q .non H') (_:∀A,MR.whole (S,o)=some A->∀(H':Hp)(p:Addr),fL x W H H'->Fl K H' p (flat A)->Q (.ref p) H')
def Rt:aJ ["self"] ["self"] (aA (rd 10)):=scm
def Ru(d:Hy P w K mg C base):S_ P w K mg base C "whole" 4 ["self"] (KQ C K):=by
 obtain⟨f,J,F,L⟩:=d.d32;have T:=d.T;obtain⟨ff,fdf,M,N,O⟩:=KH d;refine⟨f,J,?_,pF F λ_ _ _ _ _ _ _=>rfl,L⟩;refine eE F Rt λcdv A outer s H vs Q E l h=>?_;obtain⟨x,W,S,o,rfl,R,hz,m,U⟩:=h;refine⟨_,ao (aZ (aK iZ (fM (pv 0) rfl) b_ (aR _)) (au (aF b_)) aO)
  (ao (bH (dW (pv 0) T.cl O M l N .nil aH))
  (au (aF (dO (aK (pA l.units) (fM (pv 0) rfl) (aQ aq) (aR _)) (fM (pv 0) rfl) b_)))),?_⟩
 obtain⟨n,Y,ZX,q,hW,r⟩:=R.at;refine⟨_,rfl,x,C,n,_,_,rfl,q,T.cl,T.nE,wI _ _,rfl,_,rfl,?_⟩;cases o with
 |none=>
  obtain rfl:Y=.non:=r;exact bD (m rfl _ fL.refl)
 |some a=>
  obtain⟨p,rfl,hf,hp⟩:=r;refine bF ⟨_,rfl,x,n,_,rfl,q,cI _ _ (by decide+kernel) (by decide+kernel),x,W,S,a,rfl,R,hz,λH1 R1 t=>?_⟩;have u:∀{f:Fr}{g:dJ},(bh S a).1=f::g->MR.whole (S,some a)=none:=λ{f g} e=>by
   show(match(bh S a).1 with|[]=>some (bh S a).2|_=>none)=none;rw[e]
  have v:(bh S a).1=[]->MR.whole (S,some a)=some (bh S a).2:=λe=>by
   show(match(bh S a).1 with|[]=>some (bh S a).2|_=>none)=_;rw[e]
  obtain⟨j,ve1,y,c,k,z,B⟩:=R1.ex;refine⟨_,rfl,x,C,j,_,_,rfl,c,T.cl,T.nW,qQ _ _,abe _,λe he=>?_⟩;have b:=Same.aM (o:=.lst []) he;have D:Frs K _ W y _:=(fL.of (x:=x) (W:=W) b).frs c k z;refine yW (b _ _ k) D ak ⟨_,rfl,?_⟩;cases hS:(bh S a).1 with
  |nil=>
   obtain⟨p1,rfl,I,hp1⟩:=B;exact bD ⟨_,rfl,x,C,j,_,_,rfl,b _ _ c,T.cl,T.nE,wI _ _,U _ (v hS) _ p1 (t.trans (fL.of b)) (I.same b)⟩
  |cons fr g=>exact bF (m (u hS) _ (t.trans (fL.of b)))
end
end CL
namespace L2
open PySem PySem.Spec PyProof.Rows
def Z0(K:Frag)(H:Hp):Prop:=∀a o,K.lookup a=some o->H a=none
def Rv{X:Cx}{st:List Stmt}{t:TS}(h:Fw X st t):Fw X st (λD b H=>Z0 X.K H->t D b H):=λpins s b H D I q=>
 h pins s b H D I (q λa o e=>(I.bs a o (I.mod.WX a o e)).2)
end L2
namespace CL
open PySem PySem.Spec PyProof.Rows L2 MR Vaneta
section
variable{C:Addr}
def Tks.get{H:Hp}{vs:List V}{b:List Token}(h:Tks K H vs b){i:Nat}{v:V}(e:vs[i]?=some v):∃x,b[i]?=some x/\Uy K H v x:=by
 have c:∀{vs:List V}{l:List Token},Paired (Uy K H) vs l->∀{i:Nat}{v:V},vs[i]?=some v->∃x,l[i]?=some x/\Uy K H v x:=by
  intro vs l h
  induction h with
  |nil=>intro i v e;simp at e
  |cons a _ d=>
   intro i v e;cases i with
   |zero=>cases e;exact⟨_,rfl,a⟩
   |succ i=>exact d e
 exact c h e
inductive V4(K:Frag)(vs:List V)(H:Hp)(Q:VK)(e3:XK):Prop
|mk (a:Addr) (t:Text) (_:vs=[.ref a]) (_:aV K H a (tv t)) (_:formulaOf t=none->∀H',Same H H'->Q .non H') (_:∀A,formulaOf t=some A->∀(H':Hp)(p:Addr),Same H H'->Fl K H' p (flat A)->Q (.ref p) H')
def Bm:aJ ["text","tokens","reading","token"] ["text"] (aA (top 58)):=scm
def Rw(g:Hy P w K mg C base):gF P w K mg base "formula_in" 7 ["text"] (V4 K):=by
 obtain⟨f,fd,F,mF⟩:=g.d33;have B:=g.B;have T:=g.T;have g0:=g.v8;obtain⟨f1,k_,G1,k1,b1,m1⟩:=Uz g;obtain⟨fi,ZW,Gi,bi',M⟩:=UJ g;obtain⟨ft,fdt,Gt,bt,mt⟩:=U7 g;obtain⟨fw,fdw,Gw,bw,mw⟩:=Ru g;refine⟨f,fd,?_,F.kp,pF F λ_ _ _ _ _ _ _=>rfl,mF⟩;refine eE F Bm λcdv A outer s H vs Q E I h=>?_;obtain⟨a,t,rfl,hS,k,kS⟩:=h;have hr2:bI 2 _:=I.mono (by decide);have Rx:bI 4 _:=I.mono (by decide);have hr5:bI 5 _:=I.mono (by decide);refine⟨_,ao (aZ (aK tH (aY aX (by rfl) B.len ab8 (aj (pv 0) aq)) (cX g0) (aR _)) (au (aF b_)) aO)
  (ao (pS Bm 1 (aB G1 hr5 rfl m1 k1 b1 .nil aH (aj (pv 0) aq)))
  (ao (aZ (aK iZ (pv 1) b_ (aR _)) (au (aF b_)) aO)
  (ao (pS Bm 2 (Qc M Gi hr2 rfl T.mgC bi' .nil aH))
  (ao (cW abu rfl (fH (pv 1)) (pN Bm 3)
   (au (aZ (cO (cu (jr (pv 2) T.cl mt Gt I bt .nil aH (aj (pv 3) aq)))) (au (aF b_)) aO)))
  (au (aF (dW (pv 2) T.cl mw Gw Rx bw .nil aH))))))),?_⟩
 refine⟨_,rfl,a,_,rfl,.inl hS,_,_,rfl,rfl,_,rfl,?_⟩;rw[jG];show(if decide ((2000:Int)<(t.length:Int))=true then _ else _);by_cases hl:(2000:Int)<(t.length:Int)
 .rw[aaU (aaD hl)]
  exact k (by unfold formulaOf BYTES;rw[aaU (by grind)]) _ (Same.refl H)
 rw[aaz (by rw[aat hl];exact aaT)];have hf:formulaOf t=(tokens t).bind formulaIn:=by unfold formulaOf BYTES;rw[aaz (by grind)]
 rw[hf]at k kS;refine⟨_,rfl,a,t,rfl,hS,by grind,λe n z=>?_,λj e n tl vs z htl hvs J=>?_⟩
 .rw[e]at k
  exact⟨_,rfl,rfl,_,rfl,bD (k rfl _ z)⟩
 rw[e]at k kS;obtain⟨hlen,hok⟩:=lA _ t j (aaS _) e;refine⟨_,rfl,rfl,_,rfl,bF ?_⟩;refine λx dx hx hdx hne=>⟨x,dx,rfl,ak,λH2 W hW R2 k2=>⟨rfl,?_⟩⟩;have s2a:Same n (upd (upd n dx (.own x)) x (.ins C dx [])):=(Same.aM hdx).trans (Same.aM (by rw[aU (ac6 hne)];exact hx));have s2:Same n H2:=λb o q=>k2 _ _ (s2a _ _ q) (aW q hx);have hWn:n W=none:=s2a.free hW;have y:∀l,fL x W H2 l->Same n l:=λl c b o q=>c _ _ (s2 _ _ q) (aW q hx) (aW q hWn);refine⟨_,rfl,tl,rfl,⟨_,aV.of (s2 _ _ hvs)⟩,dR (K:=K) (a:=tl) (xs:=vs) (λi L d=>sV λ(S:dJ)(o:Option Formula)(o3:Option V)=>xZ (L=[some (.ref a),some (.ref tl),some (.ref x),o3]) (Rg K C d x W S o) (fL x W H2 d) (run ([],none) j=run (S,o) (j.drop i)) (wS S+wO o<=i))
  ⟨[],none,none,rfl,R2,fL.refl,rfl,aaS _⟩ (λi L d _ ⟨_,_,_,_,_,c,_,_⟩=>aV.of (y _ c _ _ hvs)) ?_ ?_⟩
 .rintro i v L d hi ⟨S,o,o3,rfl,D,r,u,hw⟩
  have hT':=J.jU (y _ r).t;have hlt:i<j.length:=by rw[<-abC J];exact(aaV.mp hi).1
  obtain⟨t1,ht1,q,rfl,hq⟩:=Tks.get hT' hi;have hdrop:j.drop i=t1::j.drop (i+1):=by
   rw[ab_ hlt]
   congr 1
   exact(aaV.mp ht1).2
  rw[hdrop]at u;obtain⟨U,ve1,vs1,Y,hW1,hE1⟩:=D.at;refine⟨_,rfl,x,U,_,rfl,Y,cI _ _ (by decide+kernel) (by decide+kernel),_,rfl,x,W,q,S,o,t1,rfl,D,hq,hok _ (aa6 ht1),by grind,λen l m=>⟨_,rfl,?_⟩,λN O l R3 m=>⟨_,rfl,?_⟩⟩
  .refine bD (k ?_ _ (z.trans (y _ (r.trans m))))
   show formulaIn j=none;rw[<-zT,u,jL,en]
  .refine bF ⟨N.1,N.2,some (.ref q),rfl,R3,r.trans m,?_,?_⟩
   .rw[u,jL,O]
   .have:wS N.1+wO N.2<=wS S+wO o+1:=Rq O
    grind
 .rintro L d ⟨S,o,o3,rfl,D,r,u,hw⟩
  rw[abC J,aev]at u;have he':formulaIn j=MR.whole (S,o):=by rw[<-zT,u];rfl
  have kN':MR.whole (S,o)=none->∀d,Same H d->Q .non d:=λe=>k (he'.trans e);have kS':∀A,MR.whole (S,o)=some A->∀(d:Hp)(p:Addr),Same H d->Fl K d p (flat A)->Q (.ref p) d:=λA e=>kS A (he'.trans e);obtain⟨U,ve1,vs1,Y,hW1,hE1⟩:=D.at;refine⟨_,rfl,x,U,_,rfl,Y,cI _ _ (by decide+kernel) (by decide+kernel),x,W,S,o,rfl,D,?_,λen l m=>kN' en _ (z.trans (y _ (r.trans m))),λA0 O l p m hp=>kS' A0 O _ p (z.trans (y _ (r.trans m))) hp⟩;have:=abC J;grind
end
end CL
namespace CL
open PySem PySem.Spec PyProof.Rows L2 MR Vaneta
open PyFlat (putRow putRows put1 put okCall)
def acf(K:Frag)(B H:Hp)(v:V)(x:List Int):Prop:=∃p,dF (v=.ref p) (B p=none) (aV K H p (ii x))
def El(K:Frag)(B H:Hp)(vs:List V)(xs:List (List Int)):Prop:=Paired (acf K B H) vs xs
def U8(K:Frag)(B H:Hp)(v:V)(c:List (List Int)):Prop:=Ex7 λ(p pn b:Addr)(n:Int)(a:List Int)(xs:List (List Int))(us:List V)=>An8 (v=.ref p) (c=(n::a)::xs) (dG K H p [.int n,.ref pn,.ref b]) (B pn=none) (aV K H pn (ii a)) (B b=none) (aV K H b us) (El K B H us xs)
def ClsAt(K:Frag)(B H:Hp)(vs:List V)(a:List (List (List Int))):Prop:=Paired (U8 K B H) vs a
def Kp(B H a:Hp):Prop:=∀b o,H b=some o->(B b=none\/∃xs,o=.tup xs\/∃f,o=.xq f (.tup xs))->a b=some o
section
variable{K:Frag}{B H H':Hp}
def Kp.of(e:Same H H'):Kp B H H':=λb o h _=>e b o h
theorem Kp.upd{z:Addr}{vs us:List V}(hz:H z=some (.lst vs))(c:B z≠none):Kp B H (upd H z (.lst us)):=λb o h a=>by
 have:b≠z:=λe=>by
  subst e;rcases a with a|⟨xs,a|⟨f,a⟩⟩
  .exact c a
  .rw[hz]at h;rw[a]at h;cases h
  .rw[hz]at h;rw[a]at h;cases h
 rw[aU this];exact h
def Kp.trans{d:Hp}(a:Kp B H H')(b:Kp B H' d):Kp B H d:=λc o h hc=>b c o (a c o h hc) hc
def Kp.bB(e:Kp B H H'){p:Addr}{xs:List V}(h:dG K H p xs):dG K H' p xs:=by
 rcases h with(h|⟨o,h⟩)|h
 .exact .inl (.inl (e _ _ h (.inr ⟨xs,.inl rfl⟩)))
 .exact .inl (.inr ⟨o,e _ _ h (.inr ⟨xs,.inr ⟨o,rfl⟩⟩)⟩)
 .exact .inr h
def Kp.seq(e:Kp B H H'){p:Addr}{xs:List V}(h:aV K H p xs)(a:B p=none):aV K H' p xs:=by
 rcases h with(h|⟨o,h⟩)|h
 .exact .inl (.inl (e _ _ h (.inl a)))
 .exact .inl (.inr ⟨o,e _ _ h (.inl a)⟩)
 .exact .inr h
def El.kp{vs:List V}{xs:List (List Int)}(h:El K B H vs xs)(e:Kp B H H'):El K B H' vs xs:=Paired.dY h λ_ _ ⟨p,a,b,c⟩=>⟨p,a,b,e.seq c b⟩
theorem U8.kp{v:V}{c:List (List Int)}(h:U8 K B H v c)(e:Kp B H H'):U8 K B H' v c:=
 let⟨p,pn,pr,n,a,xs,us,e1,e2,e3,e4,e5,e6,e7,e8⟩:=h
 ⟨p,pn,pr,n,a,xs,us,e1,e2,e.bB e3,e4,e.seq e5 e4,e6,e.seq e7 e6,e8.kp e⟩
theorem ClsAt.kp{vs:List V}{a:List (List (List Int))}(h:ClsAt K B H vs a)(e:Kp B H H'):ClsAt K B H' vs a:=Paired.dY h λ_ _ z=>z.kp e
def El.X_{C:Hp}{vs:List V}{xs:List (List Int)}(h:El K B H vs xs)(e:∀p,B p=none->C p=none):El K C H vs xs:=Paired.dY h λ_ _ ⟨p,a,b,c⟩=>⟨p,a,e _ b,c⟩
def wJ{b:Type}{R:V->b->Prop}{vs:List V}{l:List b}(h:Paired R vs l){i:Nat}{v:V}(e:vs[i]?=some v):∃x,l[i]?=some x/\R v x:=by
 have c:∀{vs:List V}{l:List b},Paired R vs l->∀{i:Nat}{v:V},vs[i]?=some v->∃x,l[i]?=some x/\R v x:=by
  intro vs l h
  induction h with
  |nil=>intro i v e;simp at e
  |cons a _ d=>
   intro i v e;cases i with
   |zero=>cases e;exact⟨_,rfl,a⟩
   |succ i=>exact d e
 exact c h e
def KR{a:Type}{R:V->a->Prop}{vs:List V}{l:List a}(h:Paired R vs l){i:Nat}{x:a}(e:l[i]?=some x):∃v,vs[i]?=some v/\R v x:=by
 have b:i<vs.length:=by rw[abC h];exact(aaV.mp e).1
 obtain⟨y,c,d⟩:=wJ h (aa3 b);rw[e]at c;cases c;exact⟨_,aa3 b,d⟩
def Ih{l a r:List Int}{z:Int}(h:l=a++z::r):Fx (ii l) (a.length:Int)=some (.int z):=by
 subst h;refine aL ?_;rw[abV,abA (aaS _),adB];rfl
def KY{l c x r:List Int}{a b:Int}(h:l=c++(x++r))(d:a=(c.length:Int))(f:b=a+(x.length:Int)):jD (ii l) (some a) (some b)=ii x:=by
 have g:(ii l).length=c.length+(x.length+r.length):=by rw[aac,h,aad,aad]
 have e:b=((c.length+x.length:Nat):Int):=by grind
 rw[d,e,qN (ii l) (by grind) (by grind),h,adG];unfold ii;rw[aaY,aaY,List.drop_left' (aac _),List.take_left' (aac _)]
end
def Ii{a:Type}{l:List a}{i:Nat}{x:a}(h:l[i]?=some x):l.drop i=x::l.drop (i+1):=by
 have b:=(aaV.mp h).1;rw[ab_ b]
 congr 1
 exact(aaV.mp h).2
inductive Ij(K:Frag)(vs:List V)(H:Hp)(Q:VK)(e3:XK):Prop
|mk (a:Addr) (l pre:List Int) (xs:List (List Int)) (r:List Int) (_:vs=[.ref a,.int (pre.length:Int),.int (xs.length:Int)]) (_:aV K H a (ii l)) (_:l=pre++(putRows xs++r)) (_:xs.length<=1000) (_:∀(H':Hp)(q:Addr)(us:List V),Same H H'->H q=none->H' q=some (.lst us)->El K H H' us xs->Q (.ref q) H')
def nU:aJ ["calls","start","count","rows","row","begin","end"] ["calls","start","count"] (aA (top 2)):=scm
def U9(M:Hy P w K mg C base):gF P w K mg base "rows_from" 1 ["calls","start","count"] (Ij K):=by
 obtain⟨f,Y,F,mF⟩:=M.d34;have B:=M.B;refine⟨f,Y,?_,F.kp,xu F λ_ _ _ _ _ _ _ _ _=>rfl,mF⟩;refine eE F nU λcdv A outer s H vs Q E hr h=>?_;obtain⟨a,l,U,xs,r,rfl,N,hl,hz,k⟩:=h;refine⟨_,ao (pS nU 3 (aQ aq))
  (ao (cW abu rfl (jP rfl B.range (aj (pv 2) aq)) (pN nU 4)
   (ao (pS nU 5 (bO iY (pv 1) aD))
   (ao (pS nU 6 (bO iY (pv 5) (aP aN (pv 0) (pv 1) (λ_ _=>rfl))))
   (ao (bH (dD aaW abv abw bY (pv 3) (aj (eU gK (pv 0) (cT (pv 5)) (cT (pv 6))) aq)))
   (au (pS nU 1 (pv 6)))))))
  (au (aF (pv 3)))),?_⟩
 refine⟨abe _,λc q=>?_⟩;have s0:Same H (upd H c (.lst [])):=Same.aM q;refine⟨_,rfl,xs.length,rfl,by grind,by grind,?_⟩;refine nH (n:=xs.length) (λi u d=>Oa λ(v y D:Option V)(b:List Int)(us:List V)=>xZ (u=[some (.ref a),some (.int (b.length:Int)),some (.int (xs.length:Int)),some (.ref c),v,y,D]) (Same H d) (d c=some (.lst us)) (El K (upd H c (.lst [])) d us (xs.take i)) (l=b++(putRows (xs.drop i)++r)))
  ⟨none,none,none,U,[],rfl,s0,ak,.nil,hl⟩ ?_ ?_
 .rintro i u d hi ⟨v,y,D,b,us,rfl,g,j,hR,t⟩
  obtain⟨x,O⟩:∃x,xs[i]?=some x:=⟨_,aa3 hi⟩;rw[Ii O]at t;have T:l=b++((x.length:Int)::(x++(putRows (xs.drop (i+1))++r))):=by
   rw[t];show b++((putRow x++putRows (xs.drop (i+1)))++r)=_;rw[ady];rfl
  have e2:l=(b++[(x.length:Int)])++(x++(putRows (xs.drop (i+1))++r)):=by rw[T];simp
  have KZ:us.length<=1000:=by
   have:=abC hR;rw[abg]at this;grind
  refine⟨_,rfl,_,_,rfl,rfl,_,rfl,_,rfl,_,rfl,a,_,_,_,rfl,rfl,g.seq N,Ih T,_,_,rfl,rfl,?_⟩;refine⟨_,rfl,.inl ⟨rfl,_,aV.of j⟩,_,rfl,_,rfl,_,rfl,_,rfl,_,rfl,a,_,rfl,g.seq N,λp m=>?_⟩;rw[KY e2 (by rw[aad];show _=(((b.length+1:Nat)):Int);grind) rfl];have I:=Same.aM (o:=.lst (ii x)) m;have J:=I _ _ j;refine⟨c,_,_,rfl,rfl,J,by rw[aa1];grind,_,rfl,some (.int (0+(i:Int))),some (.int ((b.length:Int)+1)),some (.int ((b.length:Int)+1+(x.length:Int))),b++((x.length:Int)::x),us++[.ref p],?_,(g.trans I).bW q,ak,?_,?_⟩
  .rw[aad,aae]
   have:(b.length:Int)+1+(x.length:Int)=((b.length+(x.length+1):Nat):Int):=by grind
   rw[<-this];rfl
  .rw[take_snoc O]
   have kp:Kp (upd H c (.lst [])) d (upd (upd d p (.lst (ii x))) c (.lst (us++[.ref p]))):=(Kp.of I).trans (Kp.upd J (by rw[ak];exact λz=>by cases z));have L:p≠c:=ac6 (aW j m);refine adW (hR.kp kp) ⟨p,rfl,by rw[aU L];exact g.free m,aV.of (by rw[aU L,ak])⟩
  .rw[t]
   show b++((putRow x++putRows (xs.drop (i+1)))++r)=_;simp[putRow]
 .rintro u d ⟨v,y,D,b,us,rfl,g,j,hR,t⟩
  rw[abp]at hR;exact⟨_,rfl,k d c us g q j (hR.X_ λp m=>by
   by_cases e:p=c
   .rw[e];exact q
   .rwa[aU e]at m)⟩
section
variable{X:Cx}
def Ni{K:Frag}(h:X.K=K):iW X (.builtin "len") (λxs H Q=>Ex2 λp ys=>dF (xs=[.ref p]) (aV K H p ys\/dG K H p ys) (Q (.int ys.length) H)):=h▸aX
end
def rZ(xs:List (List Int)):List Int:=xs.map λx=>1+(x.length:Int)
theorem wK:∀xs:List (List Int),(rZ xs).sum=((putRows xs).length:Int)
|[]=>rfl
|x::xs=>by
 have:=wK xs;unfold rZ at this⊢;rw[aaZ,agz,this];show _=((putRow x++putRows xs).length:Int);rw[aad];show _=(((x.length+1)+(putRows xs).length:Nat):Int);grind
def wL{p:Int}{s:Nat×Nat}(h:PyVaneta.shape p=some s):∃j:Nat,j<15/\p=(j:Int):=by
 have:0<=p/\p<15:=by
  unfold PyVaneta.shape at h;by_cases a:0<=p/\p<15
  .exact a
  .exfalso
   rw[aaz (by grind),aaz (by grind),aaz (by grind),aaz (by grind),aaz (by grind),aaz (by grind),aaz (by grind),aaz (by grind),aaz (by grind),aaz (by grind),aaz (by grind),aaz (by grind),aaz (by grind),aaz (by grind),aaz (by grind)]at h;cases h
 exact⟨p.toNat,by grind,by grind⟩
def Ry{p:Int}{n k:Nat}(h:PyVaneta.shape p=some (n,k)):k<=1000/\∃j:Nat,p=(j:Int)/\ZF[j]?=some (n,k):=by
 obtain⟨j,c,rfl⟩:=wL h;have a:∀j:Nat,j<15->PyVaneta.shape (j:Int)=ZF[j]?:=by decide+kernel
 have e:=a j c;rw[h]at e;refine⟨?_,j,rfl,e.symm⟩;have b:∀x∈ZF,x.2<=1000:=by decide+kernel
 exact b _ (aa6 e.symm)
inductive Bo(sf:Int->Option (Nat×Nat))(K:Frag)(vs:List V)(H:Hp)(Q:VK)(e3:XK):Prop
|mk (a:Addr) (cs:List (List (List Int))) (_:vs=[.ref a]) (_:aV K H a (ii (put cs))) (_:∀c∈cs,okCall sf c) (_:cs.length<=1000) (_:∀(H':Hp)(q:Addr)(us:List V),Same H H'->H q=none->H' q=some (.lst us)->ClsAt K H H' us cs->Q (.ref q) H')
def fW:aJ ["calls","found","position","shape","begin","end","rows","row"] ["calls"] (aA (top 3)):=scm
def Nj{f f1:Addr}{fd k_:FuncData}{sf:Int->Option (Nat×Nat)}{sh:List (Nat×Nat)}(F:JZ K "split_calls" "split_calls" (top 3) f fd)(B:Blt2 mg)(gs:GSh mg K sh)
  (hsf:∀p n k,sf p=some (n,k)->k<=1000/\∃j:Nat,p=(j:Int)/\sh[j]?=some (n,k))
  (G1:i_ P w K mg base DG 1 f1 k_ ["calls","start","count"] (Ij K))(k1:keepIn K (.ref f1)=true)(b1:Binds K k_ ["calls","start","count"] [])(m1:mg "rows_from"=some (.ref f1)):
  i_ P w K mg base DG 2 f fd ["calls"] (Bo sf K):=by
 obtain⟨ash,es,esh,hsh,hes⟩:=gs;refine eE F fW λcdv A outer s H vs Q E hr h=>?_;obtain⟨a,t,rfl,hS,hcs,hz,k⟩:=h;refine⟨_,ao (pS fW 1 (aQ aq))
  (ao (pS fW 2 aD)
  (ao (iz abu (aK yH (pv 2) (aY aX (by rfl) B.len ab8 (aj (pv 0) aq)) (aR _))
   (ao (pS fW 3 (aP bN (v9 esh) (aP aN (pv 0) (pv 2) (λ_ _=>rfl)) (λ_ _=>rfl)))
   (ao (pS fW 4 (bO iY (pv 2) aD))
   (ao (pS fW 5 (bO iY (pv 4) (aP bN (pv 3) aD (λ_ _=>rfl))))
   (ao (pS fW 6 (aB G1 hr rfl m1 k1 b1 .nil aH (aj (pv 0) (aj (pv 5) (aj (aP bN (pv 3) aD (λ_ _=>rfl)) aq)))))
   (ao (bH (dD aaW abv abw bY (pv 1) (aj (dw (aj (aP aN (pv 0) (pv 2) (λ_ _=>rfl)) (aj (eU gK (pv 0) (cT (pv 4)) (cT (pv 5))) (aj (pv 6) aq)))) aq)))
   (au (pS fW 2 (bO iY (pv 5) (aY (Qi rfl) (by rfl) B.sum boot_sum (aj
    (iJ (own:=[("row",7)]) rfl fW.nd (dZ (pv 6)) (bQ (N:=["calls","found","position","shape","begin","end","rows","row"]) (sc:=aA (top 3)) (by decide+kernel)) (λ_ _ _ _ _=>pN fW 7) (λ_ _ _ _ _=>dj)
     (λ_ _ _ _ _=>bO iY aD (aY (Ni (K:=K) rfl) (by rfl) B.len ab8 (aj (pv 7) aq)))) aq)))))))))))
  (au (aF (pv 1))))),?_⟩
 refine⟨abe _,λd hfl=>?_⟩;have s0:Same H (upd H d (.lst [])):=Same.aM hfl;have ach:upd H d (.lst []) d≠none:=by rw[ak];exact λz=>by cases z
 refine⟨λm σ I=>Ex9 λ(done l:List (List (List Int)))(b:List Int)(vs:List V)(J L M O y:Option V)=>Oh (m=l.length) (σ=[some (.ref a),some (.ref d),some (.int (b.length:Int)),J,L,M,O,y]) (Same H I) (I d=some (.lst vs)) (ClsAt K (upd H d (.lst [])) I vs done) (t=done++l) (put t=b++put l),
  ⟨_,[],t,[],[],none,none,none,none,none,rfl,rfl,s0,ak,.nil,rfl,rfl⟩,?_⟩
 rintro m σ I ⟨done,l,b,vs,J,L,M,O,y,rfl,rfl,T,hvs,hC,hdr,hput⟩;refine⟨_,rfl,_,rfl,a,_,rfl,.inl (T.seq hS),_,_,rfl,rfl,_,rfl,?_⟩;show(if decide ((b.length:Int)<(((ii (put t)).length:Nat):Int))=true then _ else _);rw[aac];cases l with
 |nil=>
  have U:(put t).length=b.length:=by rw[hput];show(b++[]).length=_;rw[acQ]
  rw[aaz (by rw[aat (by rw[U];exact Int.lt_irrefl _)];exact aaT)];rw[acQ]at hdr;subst hdr;exact⟨_,rfl,k I d vs T hfl hvs (Paired.dY hC λ_ _ ⟨p,pn,pr,n,a,xs,us,C,e2,e3,e4,e5,e6,e7,e8⟩=>
   have hB:∀p,upd H d (.lst []) p=none->H p=none:=λp Y=>by
    by_cases e:p=d
    .rw[e];exact hfl
    .rwa[aU e]at Y
   ⟨p,pn,pr,n,a,xs,us,C,e2,e3,hB _ e4,e5,hB _ e6,e7,e8.X_ hB⟩)⟩
 |cons c l=>
  obtain⟨p,g,xs,rfl,hshape⟩:=hcs c (by rw[hdr];simp);obtain⟨hk1,j,rfl,hj⟩:=hsf _ _ _ hshape;have C:put t=b++((j:Int)::(g++(putRows xs++put l))):=by
   rw[hput];show b++((((j:Int)::g)++putRows xs)++put l)=_;simp
  have e2:put t=(b++[(j:Int)])++(g++(putRows xs++put l)):=by rw[C];simp
  have e3:put t=(b++(j:Int)::g)++(putRows xs++put l):=by rw[C];simp
  have hlt:(b.length:Int)<((put t).length:Int):=by rw[C,aad,aae];grind
  rw[aaU (aaD hlt)];obtain⟨v,hv,e,rfl,he⟩:=KR hes hj;refine⟨λσ' u=>Ex7 λ(pre':List Int)(vs':List V)(J L M O y:Option V)=>xZ (σ'=[some (.ref a),some (.ref d),some (.int (pre'.length:Int)),J,L,M,O,y]) (Same H u) (u d=some (.lst vs')) (ClsAt K (upd H d (.lst [])) u vs' (done++[((j:Int)::g)::xs])) (put t=pre'++put l),
   λσ' u ⟨pre',vs',J,L,M,O,y,h1,h2,h3,h4,h5⟩=>⟨l.length,adD _,done++[((j:Int)::g)::xs],l,pre',vs',J,L,M,O,y,rfl,h1,h2,h3,h4,by rw[hdr];simp,h5⟩,?_⟩
  have hvl:vs.length<=1000:=by
   have h1:=abC hC;have h2:=congrArg List.length hdr;rw[aad]at h2;grind
  refine⟨_,rfl,_,rfl,a,_,_,_,rfl,rfl,T.seq hS,Ih C,ash,_,_,_,rfl,rfl,hsh.sq _,aL hv,?_⟩;refine⟨_,rfl,_,_,rfl,rfl,_,rfl,_,rfl,e,_,_,_,rfl,rfl,he.sq _,aL (j:=0) rfl,_,_,rfl,rfl,?_⟩;refine⟨_,rfl,_,rfl,_,rfl,e,_,_,_,rfl,rfl,he.sq _,aL (j:=1) rfl,a,put t,b++(j:Int)::g,xs,put l,?_,T.seq hS,e3,hk1,λu q us s2 hq hqu hR=>?_⟩
  .have:((b.length:Int)+1+(g.length:Int))=(((b++(j:Int)::g).length:Nat):Int):=by rw[aad,aae];grind
   rw[<-this];rfl
  have s12:=T.trans s2;have Z4:=s2 _ _ hvs;have hB':∀p,I p=none->upd H d (.lst []) p=none:=λp Y=>by
   rw[aU (ac6 (aW hvs Y))];exact T.free Y
  refine⟨_,rfl,.inl ⟨rfl,_,aV.of Z4⟩,_,rfl,_,rfl,a,_,_,_,rfl,rfl,s12.seq hS,Ih C,_,rfl,_,rfl,_,rfl,_,rfl,_,rfl,a,_,rfl,s12.seq hS,λpn hpn=>?_⟩;rw[KY e2 (by rw[aad];show _=(((b.length+1:Nat)):Int);grind) rfl];refine⟨_,rfl,(by show 3<=sizeLine;decide),λr hpt=>?_⟩;have s3:=Same.aM (o:=.lst (ii g)) hpn;have s4:=Same.aM (o:=.tup [.int (j:Int),.ref pn,.ref q]) hpt;have Z5:=(s3.trans s4) _ _ Z4;refine⟨d,vs,_,rfl,rfl,Z5,by rw[aa1];grind,?_⟩;have kU:Kp (upd H d (.lst [])) (upd (upd u pn (.lst (ii g))) r (.tup [.int (j:Int),.ref pn,.ref q])) _:=Kp.upd (us:=vs++[.ref r]) Z5 ach;have k4:=(Kp.of (B:=upd H d (.lst [])) s4).trans kU;have k34:=(Kp.of (B:=upd H d (.lst [])) s3).trans k4;have s5:Same H (upd (upd (upd u pn (.lst (ii g))) r (.tup [.int (j:Int),.ref pn,.ref q])) d (.lst (vs++[.ref r]))):=((s12.trans s3).trans s4).bW hfl;have hBq:=hB' _ hq;have Z6:=hB' _ (s2.free hpn);have hqL:=k34.seq (aV.of (K:=K) hqu) hBq;have hRq:=(hR.X_ hB').kp k34;have hCl:ClsAt K (upd H d (.lst [])) _ (vs++[.ref r]) (done++[((j:Int)::g)::xs]):=adW ((hC.kp (Kp.of s2)).kp k34) ⟨r,pn,q,(j:Int),g,xs,us,rfl,rfl,kU.bB bG,Z6,k4.seq (aV.of ak) Z6,hBq,hqL,hRq⟩;have acn:(upd (upd (upd u pn (.lst (ii g))) r (.tup [.int (j:Int),.ref pn,.ref q])) d (.lst (vs++[.ref r]))) d=some (.lst (vs++[.ref r])):=ak;generalize upd (upd (upd u pn (.lst (ii g))) r (.tup [.int (j:Int),.ref pn,.ref q])) d (.lst (vs++[.ref r]))=H5 at*;refine⟨_,rfl,?_⟩;dsimp only[JQ,d_,iB];refine gM (a:=q) (xs:=us) rfl (.inl hqL) λD hD=>⟨λi H6=>Same H5 H6/\H6 D=some (.lst (ii (rZ (xs.take i)))),⟨Same.aM hD,ak⟩,λi H6 p=>p.1,?_,?_⟩
  .rintro i v H6 hi ⟨s6,U⟩
   obtain⟨x,hx,p,rfl,_,Y⟩:=wJ hRq hi;have hil:i<us.length:=(aaV.mp hi).1;have KZ:=abC hR;refine⟨rfl,⟨_,rfl,p,_,rfl,.inl (s6.seq Y),_,_,rfl,rfl,_,U,?_,s6.bW hD,?_⟩⟩
   .unfold ii rZ
    rw[aac,aac,abg,aa1];grind
   .rw[ak,take_snoc hx]
    unfold ii rZ;rw[aaY,aaY,aac];rfl
  .rintro H6 ⟨s6,U⟩
   rw[abC hR,abp]at U;refine⟨D,rZ xs,rfl,aV.of U,_,_,rfl,rfl,b++put1 (((j:Int)::g)::xs),vs++[.ref r],some (.ref e),some (.int ((b.length:Int)+1)),some (.int ((b.length:Int)+1+(g.length:Int))),some (.ref q),y,?_,s5.trans s6,s6 _ _ acn,hCl.kp (Kp.of s6),?_⟩
   .rw[wK]
    have:((b.length:Int)+1+(g.length:Int))+((putRows xs).length:Int)=(((b++put1 (((j:Int)::g)::xs)).length:Nat):Int):=by
     show _=(((b++(((j:Int)::g)++putRows xs)).length:Nat):Int);rw[aad,aad,aae];grind
    rw[<-this];rfl
   .rw[hput]
    show b++(put1 _++put l)=_;rw[ady]
def Rz(a:Hy P w K mg C base):gF P w K mg base "split_calls" 2 ["calls"] (Bo PyVaneta.shape K):=by
 obtain⟨f,b,F,c⟩:=a.d35;obtain⟨l,k,d,e,g,j⟩:=U9 a;exact⟨f,b,Nj (sh:=ZF) F a.B.toBlt2 a.gsh (λ_ _ _ h=>Ry h) d e g j,F.kp,pF F λ_ _ _ _ _ _ _=>rfl,c⟩
end CL
namespace CL
open PySem PySem.Spec PyProof.Rows L2 MR Vaneta
def YG(K:Frag)(H:Hp)(a:Addr)(v:V)(A:Formula):Prop:=∃p,dF (v=.ref p) (Fl K H p (flat A)) (p≠a)
def Held(K:Frag)(H:Hp)(a:Addr)(b:List Formula):Prop:=∃vs,H a=some (.lst vs)/\Paired (YG K H a) vs b
def But(z:Addr)(H a:Hp):Prop:=∀b o,H b=some o->b≠z->a b=some o
section
variable{K:Frag}{H H':Hp}{z:Addr}
def But.of(e:Same H H'):But z H H':=λb o h _=>e b o h
def But.trans{d:Hp}(a:But z H H')(b:But z H' d):But z H d:=λc o h hc=>b c o (a c o h hc) hc
def But.bB(e:But z H H'){zs:List V}(hz:H z=some (.lst zs)){p:Addr}{xs:List V}(h:dG K H p xs):dG K H' p xs:=by
 rcases h with(h|⟨o,h⟩)|h
 .exact .inl (.inl (e _ _ h (gJ h hz (by intro z;cases z))))
 .exact .inl (.inr ⟨o,e _ _ h (gJ h hz (by intro z;cases z))⟩)
 .exact .inr h
def But.fl(e:But z H H'){zs:List V}(hz:H z=some (.lst zs)){p:Addr}{l:List Nd}(h:Fl K H p l)(b:p≠z):Fl K H' p l:=by
 obtain⟨c,d,f⟩:=h;exact⟨c,e _ _ d b,Paired.dY f λ_ _ ⟨a,q,g,j,k⟩=>⟨a,q,g,e.bB hz j,e.bB hz k⟩⟩
theorem Held.same{a:List Formula}{b:Addr}(h:Held K H b a)(e:Same H H'):Held K H' b a:=
 let⟨vs,h1,h2⟩:=h
 ⟨vs,e _ _ h1,Paired.dY h2 λ_ _ ⟨p,c,d,f⟩=>⟨p,c,d.same e,f⟩⟩
def Held.get{b:List Formula}{a:Addr}(h:Held K H a b){i:Nat}{A:Formula}(e:b[i]?=some A):Ex2 λvs p=>lM (H a=some (.lst vs)) (vs[i]?=some (.ref p)) (Fl K H p (flat A)) (p≠a):=by
 obtain⟨vs,c,d⟩:=h;obtain⟨v,f,p,rfl,g,j⟩:=KR d e;exact⟨vs,p,c,f,g,j⟩
def pI{b:Type}{R:V->b->Prop}{vs:List V}{l:List b}(h:Paired R vs l){v:V}{x:b}(d:R v x)(i:Nat):Paired R (vs.set i v) (l.set i x):=by
 have c:∀{vs:List V}{l:List b},Paired R vs l->∀i,Paired R (vs.set i v) (l.set i x):=by
  intro vs l h
  induction h with
  |nil=>intro i;exact .nil
  |cons a t e=>
   intro i;cases i with
   |zero=>exact .cons d t
   |succ i=>exact .cons a (e i)
 exact c h i
def Held.ne{d:List Formula}{f p:Addr}{A:Formula}(h:Held K H f d)(k:Z0 K H)(l:0<d.length)(m:Fl K H p (flat A)):p≠f:=by
 rintro rfl;obtain⟨vs,n,r⟩:=h;obtain⟨w,j,s⟩:=m;rw[n]at j;cases j;obtain⟨B,t⟩:∃B,d[0]?=some B:=⟨_,aa3 l⟩;obtain⟨v,u,q,rfl,⟨us,c,_⟩,_⟩:=KR r t;obtain⟨x,_,a,b,e,g,_⟩:=jH.get s u;cases e;rcases g with(g|⟨o,g⟩)|⟨o,_,_,g,_⟩
 .rw[c]at g;cases g
 .rw[c]at g;cases g
 .rw[k _ _ g]at c;cases c
end
inductive RB(K:Frag)(vs:List V)(H:Hp)(Q:VK)(e3:XK):Prop
|mk (a:Addr) (ns:List Int) (_:vs=[.ref a]) (_:aV K H a (ii ns)) (_:ns.length<=1000) (_:∀H',Same H H'->Q (.bl (ns.all isKey)) H')
def Bp:aJ ["numbers","number"] ["numbers"] (aA (top 91)):=scm
def fK(j:Hy P w K mg C base):gF P w K mg base "all_held" 1 ["numbers"] (RB K):=by
 obtain⟨f,q,F,r⟩:=j.d36;have B:=j.B;have o:=j.lH;refine⟨f,q,?_,F.kp,pF F λ_ _ _ _ _ _ _=>rfl,r⟩;refine eE F Bp λv A outer s H vs Q E y h=>?_;obtain⟨a,d,rfl,t,hz,k⟩:=h;refine⟨_,au (aF (aY (pq rfl) (by rfl) B.all agO (aj (iJ (own:=[("number",1)]) rfl Bp.nd (dZ (pv 0)) (bQ (N:=["numbers","number"]) (sc:=aA (top 91)) (by decide+kernel)) (λ_ _ _ _ _=>pN Bp 1) (λ_ _ _ _ _=>dj)
   (λ_ _ _ _ _=>vN jQ yH aD (pv 1) (cX o))) aq))),?_⟩
 dsimp only[Ac,JQ,d_,iB];refine gM (a:=a) (xs:=ii d) rfl (.inl t) λD m=>⟨λi b=>Same H b/\b D=some (.lst ((d.take i).map λc=>V.bl (isKey c))),⟨Same.aM m,ak⟩,λi b p=>p.1,?_,?_⟩
 .rintro i x b u ⟨l,e⟩
  obtain⟨c,hc,rfl⟩:=qK u;have fin:∃acc,dF (b D=some (.lst acc)) (acc.length<sizeLine) (Same H (upd b D (.lst (acc++[.bl (isKey c)])))/\upd b D (.lst (acc++[.bl (isKey c)])) D=some (.lst ((d.take (i+1)).map λc=>V.bl (isKey c)))):=by
   refine⟨_,e,?_,l.bW m,?_⟩
   .rw[aac,abg,aa1]
    have:i<=1000000\/1000000<i:=by omega
    omega
   .rw[ak,take_snoc hc,aaY]
    rfl
  refine⟨rfl,⟨_,rfl,_,_,rfl,rfl,_,rfl,?_⟩⟩;have n:isKey c=(decide (0<=c)&&decide (c<10)):=by
   unfold isKey
   congr 1
   exact adK.mpr (by omega)
  by_cases g:(0:Int)<=c
  .rw[aaU (aaD g)]
   rw[n,aaD g,afc]at fin;exact⟨_,_,rfl,rfl,fin⟩
  .rw[aaz (by rw[aat g];exact aaT)]
   rw[n,aat g,ae1]at fin;exact fin
 .rintro b ⟨l,e⟩
  refine⟨D,d.map isKey,rfl,aV.of ?_,?_⟩
  .rw[aac,abp]at e
   rw[e,abL];rfl
  .rw[aeo]
   exact k b l
def K4(H:Hp)(b:List Int)(Q:VK):Prop:=∀(a:Hp)(q:Addr),Same H a->H q=none->a q=some (.lst (ii b))->Q (.ref q) a
inductive V5(K:Frag)(vs:List V)(H:Hp)(Q:VK)(e3:XK):Prop
|mk (a:Addr) (ns:List Int) (_:vs=[.ref a]) (_:Sq K H a (ii ns)) (_:ns.length<=10000000) (_:K4 H ((ns.length:Int)::ns) Q)
def Yb:aJ ["text"] ["text"] (aA (top 92)):=scm
def pJ(j:Hy P w K mg C base):gF P w K mg base "counted" 1 ["text"] (V5 K):=by
 obtain⟨f,q,F,r⟩:=j.d37;have B:=j.B;refine⟨f,q,?_,F.kp,pF F λ_ _ _ _ _ _ _=>rfl,r⟩;refine eE F Yb λv A outer s H vs Q E x h=>?_;obtain⟨a,b,rfl,c,hz,k⟩:=h;refine⟨_,au (aF (bO f9 (aQ (aj (aY aX (by rfl) B.len ab8 (aj (pv 0) aq)) aq)) (fJ kY (by rfl) B.list boot_list (aj (pv 0) aq)))),?_⟩;refine⟨_,rfl,a,_,rfl,c,(by show 1<=sizeLine;decide),λl t=>?_⟩;have e:=Same.aM (o:=.lst [.int ((ii b).length:Int)]) t;refine⟨_,rfl,a,ii b,rfl,(by rcases c with c|c;exact .inl (e.seq c);exact .inr (e.bB c)),λl2 p=>?_⟩;have g:=Same.aM (o:=.lst (ii b)) p;refine⟨l,l2,_,_,rfl,rfl,g _ _ ak,ak,?_,λd m=>?_⟩
 .show 1+(ii b).length<=sizeLine
  rw[aac,aa1];grind
 have u:=Same.aM (o:=.lst ([.int ((ii b).length:Int)]++ii b)) m;have n:(ii b).length=b.length:=aac _;refine k _ d ((e.trans g).trans u) ((e.trans g).free m) ?_;rw[ak,n];rfl
inductive Ik(K:Frag)(vs:List V)(H:Hp)(Q:VK)(e3:XK):Prop
|mk (ph p:Addr) (fs:List Formula) (k:Int) (A:Formula) (_:vs=[.ref ph,.int k,.ref p]) (_:Held K H ph fs) (_:Fl K H p (flat A)) (_:p≠ph) (_:0<=k) (_:k.toNat<fs.length) (_:nodes A<=1000000) (_:inBounds A=false->K4 H [-5] Q) (_:inBounds A=true->∀(H':Hp)(q:Addr),But ph H H'->H q=none->H' q=some (.lst (ii [(atoms A:Int)]))->Held K H' ph (fs.set k.toNat A)->Q (.ref q) H')
def U_:aJ ["held","k","formula"] ["held","k","formula"] (aA (top 93)):=scm
def Bq(l:Hy P w K mg C base):gF P w K mg base "hold" 4 ["held","k","formula"] (Ik K):=by
 obtain⟨f,Y,F,mF⟩:=l.d38;have g5:=l.iG;obtain⟨f1,k_,G1,k1,b1,m1⟩:=HN l;obtain⟨f2,fd2,G2,k2,b2,m2⟩:=Ka l;refine⟨f,Y,?_,F.kp,xu F λ_ _ _ _ _ _ _ _ _=>rfl,mF⟩;refine eE F U_ λcdv A outer s H vs Q E z h=>?_;obtain⟨c,p,B,k,g,rfl,hH,D,x,M,hkl,hz,kN,kS⟩:=h;have N:bI 2 _:=z.mono (by decide);refine⟨_,ao (aZ (cO (cu (aB G1 z rfl m1 k1 b1 .nil aH (aj (pv 2) aq)))) (au (aF (aQ (aj (cX g5) aq)))) aO)
  (ao (GQ (pv 2) (GP (pv 0) (pv 1) set_list))
  (au (aF (aQ (aj (aB G2 N rfl m2 k2 b2 .nil aH (aj (pv 2) aq)) aq))))),?_⟩
 refine⟨_,rfl,p,g,rfl,D,by rw[aC];exact hz,λr d=>⟨_,rfl,?_⟩⟩;cases m:inBounds g with
 |false=>
  refine bD ⟨(by show 1<=sizeLine;decide),λq j=>?_⟩;have s2:=Same.aM (o:=.lst [.int (-5)]) j;exact kN m _ q (d.trans s2) (d.free j) ak
 |true=>
  have O:=hH.same d;have T:=D.same d;obtain⟨vs,t,I⟩:=O;have hvl:vs.length=B.length:=abC I;refine bF ⟨_,rfl,_,rfl,_,rfl,c,vs,k,k.toNat,rfl,rfl,t,?_,?_⟩
  .unfold Oe
   rw[aaU M,aaU (by grind)]
  have u:But c r (upd r c (.lst (vs.set k.toNat (.ref p)))):=λb o h m=>by rw[aU m];exact h
  have y:=u.fl t T x;refine⟨_,rfl,p,flat g,rfl,y,by rw[aC];exact hz,λH3 v=>⟨(by show 1<=sizeLine;decide),λq j=>?_⟩⟩;rw[pX];have J:=Same.aM (o:=.lst [.int ((atoms g:Nat):Int)]) j;have U:Held K (upd r c (.lst (vs.set k.toNat (.ref p)))) c (B.set k.toNat g):=⟨_,ak,pI (Paired.dY I λ_ _ ⟨a,e1,e2,L⟩=>⟨a,e1,u.fl t e2 L,L⟩) ⟨p,rfl,y,x⟩ _⟩;refine kS m _ q (((But.of d).trans u).trans (But.of (v.trans J))) ?_ ak (U.same (v.trans J));have n:=v.free j;refine d.free ?_;by_cases e:q=c
  .rw[e,ak]at n;cases n
  .rwa[aU e]at n
end CL
namespace MR
open Vaneta
theorem za:∀(a:List Token)(s:Cg)(A:Formula),run s a=some A->nodes A<=wS s.1+wO s.2+a.length
|[],(S,o),A,h=>by
 cases o with
 |none=>cases h
 |some B=>
  have hw:=CL.lu S B;have h':(match(bh S B).1 with|[]=>some (bh S B).2|_=>none)=some A:=h;cases e:(bh S B).1 with
  |nil=>
   rw[e]at h';cases h';show _<=wS S+nodes B+0;grind
  |cons f c=>rw[e]at h';cases h'
|t::r,s,A,h=>by
 rw[jL]at h;cases e:MR.take s t with
 |none=>rw[e]at h;cases h
 |some b=>
  rw[e]at h;have d:=za r b A h;have g:=Rq e;rw[aae];grind
end MR
namespace CL
open PySem PySem.Spec PyProof.Rows L2 MR Vaneta
def lJ{t:Text}{A:Formula}(h:formulaOf t=some A):nodes A<=2000:=by
 unfold formulaOf BYTES at h;by_cases b:2000<t.length
 .rw[aaU b]at h;cases h
 rw[aaz b]at h;cases e:tokens t with
 |none=>rw[e]at h;cases h
 |some a=>
  rw[e]at h;have c:formulaIn a=some A:=h;rw[<-zT]at c;have d:=za a _ A c;have f:=(lA _ t a (aaS _) e).1;have:nodes A<=0+0+a.length:=d;grind
def jy{l:List Int}{t:Text}(h:VanetaNeutral.text? l=some t):l=nm t:=by
 unfold VanetaNeutral.text? at h;by_cases a:NeutralIO.bytes l=true
 .rw[aaU a]at h
  cases h;unfold NeutralIO.bytes at a;rw[aeH]at a;unfold nm;rw[abL]
  symm
  refine(ae8 (g:=id) λz hz=>?_).trans (ahF _);have:=a z hz;rw[aa8]at this;have b:=adk this.1;have c:=adk this.2;show((UInt8.ofNat z.toNat).toNat:Int)=z;rw[UInt8.toNat_ofNat'];grind
 .rw[aaz a]at h;cases h
def Em(A:Formula):Prop:=inBounds A=true/\∀x∈leaves A,isName x.2=true
def Good(a:List Formula):Prop:=a.length=10/\∀A∈a,Em A
theorem Em.nodes{A:Formula}(h:Em A):nodes A<=200:=by
 have:=h.1;unfold inBounds at this;simp only[aa8,ab1]at this;grind
def Nk{k:Int}:isKey k=true↔0<=k/\k<=9:=by
 unfold isKey;rw[aa8,ab1,ab1]
section
variable{K:Frag}{H:Hp}
def Good.at{a:List Formula}(g:Good a){k:Int}(h:isKey k=true):a[k.toNat]?=some (formulaAt ⟨a⟩ k)/\Em (formulaAt ⟨a⟩ k)/\0<=k/\k.toNat<a.length:=by
 obtain⟨c,d⟩:=Nk.mp h;have b:k.toNat<a.length:=by rw[g.1];grind
 have e:a[k.toNat]?=some (formulaAt ⟨a⟩ k):=by
  unfold formulaAt;rw[acj,aa3 b];rfl
 exact⟨e,g.2 _ (aa6 e),c,b⟩
def Z7(K:Frag)(B H:Hp)(us:List V)(xs:List (List Int)):Prop:=El K B H us xs/\∀x∈xs,x.length<=17000
def CIs(n:Int)(d:List Int)(xs:List (List Int))(c:Call):Prop:=
 if n=0 then(sV λk x t=>lM (d=[k]) (xs=[x]) (VanetaNeutral.text? x=some t) (c=.read k t))
 else if n=1 then(∃k,dF (d=[k]) (xs=[]) (c=.form k))
 else if n=2 then(Ex2 λi k=>dF (d=[i,k]) (xs=[]) (c=.dual i k))
 else if n=3 then(Ex2 λk x=>dF (d=[k]) (xs=[x]) (c=.part k x))
 else if n=4 then(∃k,dF (d=[k]) (xs=[]) (c=.size k))
 else if n=5 then(∃k,dF (d=[k]) (xs=[]) (c=.atoms k))
 else if n=6 then(Ft λo i j k=>dF (d=[o,i,j,k]) (xs=[]) (c=.build o i j k))
 else if n=7 then(Oa λk x y a b=>xZ (d=[k]) (xs=[x,y]) (VanetaNeutral.text? x=some a) (VanetaNeutral.text? y=some b) (c=.rename k a b))
 else if n=8 then(Oa λi j k x a=>lM (d=[i,j,k]) (xs=[x]) (VanetaNeutral.text? x=some a) (c=.fill i j k a))
 else if n=9 then(sV λk x t=>lM (d=[k]) (xs=[x]) (VanetaNeutral.text? x=some t) (c=.truth k t))
 else if n=10 then(∃k,dF (d=[k]) (xs=[]) (c=.always k))
 else if n=11 then(Ex2 λi j=>dF (d=[i,j]) (xs=[]) (c=.same i j))
 else if n=12 then(Ex2 λi j=>dF (d=[i,j]) (xs=[]) (c=.case i j))
 else if n=13 then(Ex2 λx t=>lM (d=[]) (xs=[x]) (VanetaNeutral.text? x=some t) (c=.sequent t))
 else if n=14 then(Ft λx y t u=>xZ (d=[]) (xs=[x,y]) (VanetaNeutral.text? x=some t) (VanetaNeutral.text? y=some u) (c=.bag t u))
 else False
inductive dH(num:Int)(K:Frag)(vs:List V)(H:Hp)(Q:VK)(e3:XK):Prop
|mk (ph pn pr:Addr) (fs:List Formula) (ns:List Int) (us:List V) (xs:List (List Int)) (B:Hp) (c:Call) (_:vs=[.ref ph,.ref pn,.ref pr]) (_:Held K H ph fs) (_:Good fs) (_:aV K H pn (ii ns)) (_:aV K H pr us) (_:Z7 K B H us xs) (_:CIs num ns xs c) (_:∀(H':Hp)(q:Addr),But ph H H'->H q=none->H' q=some (.lst (ii (VanetaNeutral.encode (step ⟨fs⟩ c).2)))->Held K H' ph (step ⟨fs⟩ c).1.formulas->Q (.ref q) H')
end
def bC{s:State}{c:Call}{n:Nat}(h:does s c=.error n):step s c=(s,.refused n):=by unfold Vaneta.step;rw[h]
def cU{s a:State}{c:Call}{l:List Nat}(h:does s c=.ok (a,l)):step s c=(a,.told l):=by unfold Vaneta.step;rw[h]
def K5:aJ ["held","numbers","rows","formula"] ["held","numbers","rows"] (aA (top 94)):=scm
def Va(n:Hy P w K mg C base):gF P w K mg base "call_read" 8 ["held","numbers","rows"] (dH 0 K):=by
 obtain⟨f,fd,F,mF⟩:=n.d39;have g1:=n.cD;have g2:=n.bx;obtain⟨f1,k_,G1,k1,b1,m1⟩:=fK n;obtain⟨f2,fd2,G2,k2,b2,m2⟩:=Rw n;obtain⟨f3,Ia,G3,k3,D,m3⟩:=Bq n;refine⟨f,fd,?_,F.kp,xu F λ_ _ _ _ _ _ _ _ _=>rfl,mF⟩;refine eE F K5 λcdv A outer s H vs Q E I h=>?_;obtain⟨ph,pn,pr,a,ns,us,xs,B,c,rfl,J,hG,N,U,hR,hc,k⟩:=h;obtain⟨i,x,t,rfl,rfl,ht,rfl⟩:=hc;have Y:bI 1 _:=I.mono (by decide);have Rx:bI 4 _:=I.mono (by decide);refine⟨_,ao (aZ (cO (cu (aB G1 Y rfl m1 k1 b1 .nil aH (aj (pv 1) aq)))) (au (aF (aQ (aj (cX g2) aq)))) aO)
  (ao (pS K5 3 (aB G2 I rfl m2 k2 b2 .nil aH (aj (aP aN (pv 2) aD (λ_ _=>rfl)) aq)))
  (ao (aZ (aK iZ (pv 3) b_ (aR _)) (au (aF (aQ (aj (cX g1) aq)))) aO)
  (Rv (au (aF (aB G3 Rx rfl m3 k3 D .nil aH (aj (pv 0) (aj (aP aN (pv 1) aD (λ_ _=>rfl)) (aj (pv 3) aq))))))))),?_⟩
 refine⟨_,rfl,pn,[i],rfl,N,(by show 1<=1000;decide),λH1 d=>⟨_,rfl,?_⟩⟩;show(if(!(isKey i&&true))=true then _ else _);rw[adz];cases hi:isKey i with
 |false=>
  refine bD ⟨(by show 1<=sizeLine;decide),λq b=>?_⟩;have g:step ⟨a⟩ (.read i t)=(⟨a⟩,.refused 2):=bC (by show after (isKey i) 2 _=_;rw[hi];rfl);rw[g]at k;have l:=d.trans (Same.aM (o:=.lst [.int (-2)]) b);exact k _ q (But.of l) (d.free b) ak (J.same l)
 |true=>
  refine bF ?_;obtain⟨v,rfl⟩:∃v,us=[v]:=by
   have:=abC hR.1;cases us with
   |nil=>cases this
   |cons v us=>cases us with
    |nil=>exact⟨v,rfl⟩
    |cons _ _=>cases this
  obtain⟨x',hx',O,rfl,_,hpx⟩:=wJ hR.1 (i:=0) rfl;cases hx';have hS:aV K H1 O (tv t):=by rw[gO,<-jy ht];exact d.seq hpx
  refine⟨_,rfl,pr,_,_,_,rfl,rfl,d.seq U,aL (j:=0) rfl,O,t,rfl,hS,λe H2 l=>?_,λr e H2 p l T=>?_⟩
  .refine⟨_,rfl,rfl,_,rfl,bD ⟨(by show 1<=sizeLine;decide),λq b=>?_⟩⟩
   have g:step ⟨a⟩ (.read i t)=(⟨a⟩,.refused 1):=bC (by show after (isKey i) 2 (given (formulaOf t) 1 _)=_;rw[hi,e];rfl);rw[g]at k;have u:=(d.trans l).trans (Same.aM (o:=.lst [.int (-1)]) b);exact k _ q (But.of u) ((d.trans l).free b) ak (J.same u)
  .refine⟨_,rfl,rfl,_,rfl,bF λhK=>?_⟩
   have m:=d.trans l;have y:=J.same m;obtain⟨hk1,hk2,hk0,hkl⟩:=hG.at hi;have M:does ⟨a⟩ (.read i t)=kept ⟨a⟩ i r (atoms r):=by show after (isKey i) 2 (given (formulaOf t) 1 _)=_;rw[hi,e];rfl
   refine⟨_,rfl,_,rfl,pn,_,_,_,rfl,rfl,m.seq N,aL (j:=0) rfl,_,rfl,ph,p,a,i,r,rfl,y,T,y.ne hK (by grind) T,hk0,hkl,by have:=lJ e;grind,λL=>?_,λL=>?_⟩
   .intro H3 q u b z
    have g:step ⟨a⟩ (.read i t)=(⟨a⟩,.refused 5):=bC (by rw[M];unfold kept;rw[L];rfl);rw[g]at k;exact k _ q (But.of (m.trans u)) (m.free b) z (y.same u)
   .intro H3 q D b z hh
    have g:step ⟨a⟩ (.read i t)=(⟨a.set i.toNat r⟩,.told [atoms r]):=cU (by rw[M];unfold kept;rw[L];rfl);rw[g]at k;exact k _ q ((But.of m).trans D) (m.free b) z hh
def cZ(l m:List Nd):wt (l++m)=wt l+wt m:=by unfold wt;rw[aaY,List.sum_append]
def nY(b:Bool)(t:Text):(paren b t).length<=t.length+2:=by
 unfold paren;split
 .rw[aae,aad,abj];grind
 .grind
def nZ(s f g:UInt8)(A B:Text):(chain s f g A B).length<=A.length+B.length+5:=by
 have a:=nY (f != 0) A;have b:=nY (g != 0&&g != s) B;unfold chain;rw[aad,aae];omega
theorem cQ:∀A:Formula,(form A).length<=wt (flat A)
|.atom n a=>by
 show(if n=true then 126::a else a).length<=wt [(if n=true then 7 else 6,nm a)];rw[cF,bK];cases n<;>simp<;>grind
|.tensor A B=>by
 have b:=cQ A;have c:=cQ B;have d:=nZ 42 (signOf A) (signOf B) (form A) (form B);show(chain 42 _ _ _ _).length<=wt ((0,[])::(flat A++flat B));rw[cF,cZ];simp only[acg];grind
|.par A B=>by
 have b:=cQ A;have c:=cQ B;have d:=nZ 124 (signOf A) (signOf B) (form A) (form B);show(chain 124 _ _ _ _).length<=wt ((1,[])::(flat A++flat B));rw[cF,cZ];simp only[acg];grind
|.wth A B=>by
 have b:=cQ A;have c:=cQ B;have d:=nZ 38 (signOf A) (signOf B) (form A) (form B);show(chain 38 _ _ _ _).length<=wt ((2,[])::(flat A++flat B));rw[cF,cZ];simp only[acg];grind
|.plus A B=>by
 have b:=cQ A;have c:=cQ B;have d:=nZ 43 (signOf A) (signOf B) (form A) (form B);show(chain 43 _ _ _ _).length<=wt ((3,[])::(flat A++flat B));rw[cF,cZ];simp only[acg];grind
|.ofc A=>by
 have b:=cQ A;have c:=nY (signOf A != 0) (form A);show(33::paren _ _).length<=wt ((4,[])::flat A);rw[cF,aae];simp only[acg];grind
|.whn A=>by
 have b:=cQ A;have c:=nY (signOf A != 0) (form A);show(63::paren _ _).length<=wt ((5,[])::flat A);rw[cF,aae];simp only[acg];grind
def qT{a:Text}(h:isName a=true):a.length<=12:=by
 unfold isName at h;rw[aa8,aa8]at h;exact adk h.2.1
theorem eY:∀A:Formula,(∀x∈leaves A,isName x.2=true)->wt (flat A)<=17*nodes A
|.atom n a,h=>by
 have:a.length<=12:=qT (h (n,a) (by simp[leaves]));show wt [(_,nm a)]<=17*1;rw[cF,bK];show a.length+5+0<=17;grind
|.tensor A B,h=>by
 have c:=eY A (λx b=>h x (aa4.mpr (.inl b)));have d:=eY B (λx b=>h x (aa4.mpr (.inr b)));show wt ((0,[])::(flat A++flat B))<=17*(1+nodes A+nodes B);rw[cF,cZ];simp only[acg];grind
|.par A B,h=>by
 have c:=eY A (λx b=>h x (aa4.mpr (.inl b)));have d:=eY B (λx b=>h x (aa4.mpr (.inr b)));show wt ((1,[])::(flat A++flat B))<=17*(1+nodes A+nodes B);rw[cF,cZ];simp only[acg];grind
|.wth A B,h=>by
 have c:=eY A (λx b=>h x (aa4.mpr (.inl b)));have d:=eY B (λx b=>h x (aa4.mpr (.inr b)));show wt ((2,[])::(flat A++flat B))<=17*(1+nodes A+nodes B);rw[cF,cZ];simp only[acg];grind
|.plus A B,h=>by
 have c:=eY A (λx b=>h x (aa4.mpr (.inl b)));have d:=eY B (λx b=>h x (aa4.mpr (.inr b)));show wt ((3,[])::(flat A++flat B))<=17*(1+nodes A+nodes B);rw[cF,cZ];simp only[acg];grind
|.ofc A,h=>by
 have c:=eY A h;show wt ((4,[])::flat A)<=17*(1+nodes A);rw[cF];simp only[acg];grind
|.whn A,h=>by
 have c:=eY A h;show wt ((5,[])::flat A)<=17*(1+nodes A);rw[cF];simp only[acg];grind
theorem Em.wt{A:Formula}(h:Em A):wt (flat A)<=3400:=by
 have a:=eY A h.2;have b:=h.nodes;grind
def iR(t:Text):VanetaNeutral.encode (.told (toldText t))=((nm t).length:Int)::nm t:=by
 show((t.length::t.map λb=>b.toNat).map Int.ofNat)=_;rw[aaZ,bK,abL];rfl
def RD:aJ ["held","numbers","rows"] ["held","numbers","rows"] (aA (top 95)):=scm
def RG(d:Hy P w K mg C base):gF P w K mg base "call_form" 4 ["held","numbers","rows"] (dH 1 K):=by
 obtain⟨f,J,F,L⟩:=d.d40;have M:=d.bx;obtain⟨f1,k_,N,O,T,U⟩:=fK d;obtain⟨f2,fd2,Y,k2,b2,m2⟩:=uK d;obtain⟨f3,Ia,G3,k3,b3,m3⟩:=pJ d;refine⟨f,J,?_,F.kp,xu F λ_ _ _ _ _ _ _ _ _=>rfl,L⟩;refine eE F RD λcdv A outer s H vs Q E t h=>?_;obtain⟨ph,pn,pr,a,ns,us,xs,B,c,rfl,g,hG,u,hpr,hR,hc,k⟩:=h;obtain⟨i,rfl,rfl,rfl⟩:=hc;have r:bI 1 _:=t.mono (by decide);refine⟨_,ao (aZ (cO (cu (aB N r rfl U O T .nil aH (aj (pv 1) aq)))) (au (aF (aQ (aj (cX M) aq)))) aO)
  (au (aF (aB G3 r rfl m3 k3 b3 .nil aH (aj (aB Y t rfl m2 k2 b2 .nil aH (aj (aP aN (pv 0) (aP aN (pv 1) aD (λ_ _=>rfl)) (λ_ _=>rfl)) aq)) aq)))),?_⟩
 refine⟨_,rfl,pn,[i],rfl,u,(by show 1<=1000;decide),λH1 b=>⟨_,rfl,?_⟩⟩;show(if(!(isKey i&&true))=true then _ else _);rw[adz];cases hi:isKey i with
 |false=>
  refine bD ⟨(by show 1<=sizeLine;decide),λq l=>?_⟩;have m:step ⟨a⟩ (.form i)=(⟨a⟩,.refused 2):=bC (by show after (isKey i) 2 _=_;rw[hi];rfl);rw[m]at k;have e:=b.trans (Same.aM (o:=.lst [.int (-2)]) l);exact k _ q (But.of e) (b.free l) ak (g.same e)
 |true=>
  refine bF ?_;obtain⟨v,x,hk0,hkl⟩:=hG.at hi;obtain⟨vs,p,h1,h2,h3,h4⟩:=(g.same b).get v;have y:Fx vs i=some (.ref p):=by
   have:i=(i.toNat:Int):=by grind
   rw[this];exact aL h2
  have hw:=x.wt;have m:step ⟨a⟩ (.form i)=(⟨a⟩,.told (toldText (form (formulaAt ⟨a⟩ i)))):=cU (by show after (isKey i) 2 _=_;rw[hi];rfl);rw[m]at k;refine⟨_,rfl,_,rfl,pn,_,_,_,rfl,rfl,b.seq u,aL (j:=0) rfl,ph,vs,_,_,rfl,rfl,aV.of h1,y,p,_,rfl,h3,by grind,λH2 q e l z=>?_⟩;refine⟨q,nm (form (formulaAt ⟨a⟩ i)),rfl,.inl (aV.of z),?_,λH3 q3 s3 D I=>?_⟩
  .rw[bK]
   have:=cQ (formulaAt ⟨a⟩ i);grind
  .have n:=(b.trans e).trans s3
   exact k _ q3 (But.of n) ((b.trans e).free D) (by rw[iR];exact I) (g.same n)
def Il(A:Formula):atoms (dual A)=atoms A:=by
 induction A<;>simp_all [dual,atoms]
theorem Held.at{H:Hp}{a:Addr}{b:List Formula}(d:Held K H a b)(e:Good b){i:Int}(f:isKey i=true):Ex2 λvs p=>lM (H a=some (.lst vs)) (Fx vs i=some (.ref p)) (Fl K H p (flat (formulaAt ⟨b⟩ i))) (p≠a):=by
 obtain⟨c,m,n,o⟩:=e.at f;obtain⟨vs,p,g,j,k,l⟩:=d.get c;refine⟨vs,p,g,?_,k,l⟩;have:i=(i.toNat:Int):=by omega
 rw[this];exact aL j
def RJ:aJ ["held","numbers","rows"] ["held","numbers","rows"] (aA (top 96)):=scm
def RK(l:Hy P w K mg C base):gF P w K mg base "call_dual" 5 ["held","numbers","rows"] (dH 2 K):=by
 obtain⟨f,fd,F,mF⟩:=l.d41;have g2:=l.bx;obtain⟨f1,k_,G1,k1,b1,m1⟩:=fK l;obtain⟨f2,fd2,G2,k2,b2,m2⟩:=qM l;obtain⟨f3,Ia,G3,k3,t,m3⟩:=Bq l;refine⟨f,fd,?_,F.kp,xu F λ_ _ _ _ _ _ _ _ _=>rfl,mF⟩;refine eE F RJ λcdv A outer s H vs Q E L h=>?_;obtain⟨M,pn,pr,a,ns,us,xs,B,c,rfl,u,v,x,hpr,hR,hc,k⟩:=h;obtain⟨i,j,rfl,rfl,rfl⟩:=hc;have z:bI 1 _:=L.mono (by decide);refine⟨_,ao (aZ (cO (cu (aB G1 z rfl m1 k1 b1 .nil aH (aj (pv 1) aq)))) (au (aF (aQ (aj (cX g2) aq)))) aO)
  (au (aF (aB G3 L rfl m3 k3 t .nil aH (aj (pv 0) (aj (aP aN (pv 1) aD (λ_ _=>rfl)) (aj (aB G2 z rfl m2 k2 b2 .nil aH (aj (aP aN (pv 0) (aP aN (pv 1) aD (λ_ _=>rfl)) (λ_ _=>rfl)) aq)) aq)))))),?_⟩
 refine⟨_,rfl,pn,[i,j],rfl,x,(by show 2<=1000;decide),λH1 b=>⟨_,rfl,?_⟩⟩;show(if(!(isKey i&&(isKey j&&true)))=true then _ else _);rw[adz];cases hij:isKey i&&isKey j with
 |false=>
  refine bD ⟨(by show 1<=sizeLine;decide),λq e=>?_⟩;have m:step ⟨a⟩ (.dual i j)=(⟨a⟩,.refused 2):=bC (by show after (isKey i&&isKey j) 2 _=_;rw[hij];rfl);rw[m]at k;have n:=b.trans (Same.aM (o:=.lst [.int (-2)]) e);exact k _ q (But.of n) (b.free e) ak (u.same n)
 |true=>
  refine bF ?_;obtain⟨N,hj⟩:=adV.mp hij;obtain⟨vs,p,O,Y,h3,h4⟩:=(u.same b).at v N;obtain⟨_,_,hj0,hjl⟩:=v.at hj;have U:=(v.at N).2.1;have hno:=U.nodes;have D:does ⟨a⟩ (.dual i j)=kept ⟨a⟩ j (dual (formulaAt ⟨a⟩ i)) (atoms (dual (formulaAt ⟨a⟩ i))):=by show after (isKey i&&isKey j) 2 _=_;rw[hij,Il];rfl
  refine⟨_,rfl,_,rfl,pn,_,_,_,rfl,rfl,b.seq x,aL (j:=1) rfl,_,rfl,_,rfl,pn,_,_,_,rfl,rfl,b.seq x,aL (j:=0) rfl,M,vs,_,_,rfl,rfl,aV.of O,Y,p,_,rfl,h3,cA _,by rw[aC];grind,λH2 d n hd I=>?_⟩;rw[iM]at I;have g:=b.trans n;have J:=u.same g;refine⟨M,d,a,j,dual (formulaAt ⟨a⟩ i),rfl,J,I,ac6 (aW O hd),hj0,hjl,by rw[jg];grind,λy=>?_,λy=>?_⟩
  .intro H3 q T e r
   have m:step ⟨a⟩ (.dual i j)=(⟨a⟩,.refused 5):=bC (by rw[D];unfold kept;rw[y];rfl);rw[m]at k;exact k _ q (But.of (g.trans T)) (g.free e) r (J.same T)
  .intro H3 q t e r hh
   have m:step ⟨a⟩ (.dual i j)=(⟨a.set j.toNat (dual (formulaAt ⟨a⟩ i))⟩,.told [atoms (dual (formulaAt ⟨a⟩ i))]):=cU (by rw[D];unfold kept;rw[y];rfl);rw[m]at k;exact k _ q ((But.of g).trans t) (g.free e) r hh
def su:aJ ["held","numbers","rows","kind","first"] ["held","numbers","rows"] (aA (top 100)):=scm
def Nm(n:Hy P w K mg C base):gF P w K mg base "call_build" 5 ["held","numbers","rows"] (dH 6 K):=by
 obtain⟨f,fd,F,mF⟩:=n.d42;have X8:=n.cD;have g2:=n.bx;have g0:=n.qJ;have g5:=n.yS;have gp:=n.cJ;obtain⟨f1,k_,G1,k1,b1,m1⟩:=fK n;obtain⟨f2,fd2,G2,k2,b2,m2⟩:=Qw n;obtain⟨f4,V6,G4,k4,b4,m4⟩:=HD n;obtain⟨f3,Ia,G3,k3,N,m3⟩:=Bq n;refine⟨f,fd,?_,F.kp,xu F λ_ _ _ _ _ _ _ _ _=>rfl,mF⟩;obtain⟨ap,ep,hp⟩:=gp;refine eE F su λcdv A outer s H vs Q E hr h=>?_;obtain⟨O,pn,pr,a,ns,us,xs,B,c,rfl,D,I,hn,hpr,hR,hc,k⟩:=h;obtain⟨o,i,j,l,rfl,rfl,rfl⟩:=hc;have hr1:bI 1 _:=hr.mono (by decide);refine⟨_,ao (aZ (cO (cu (aB G1 hr1 rfl m1 k1 b1 .nil aH (aj (eU gK (pv 1) (cT aD) uz) aq)))) (au (aF (aQ (aj (cX g2) aq)))) aO)
  (ao (pS su 3 (aP aN (pv 1) aD (λ_ _=>rfl)))
  (ao (aZ (cO (vO jQ jQ (cX g0) (pv 3) (cX g5))) (au (aF (aQ (aj (cX X8) aq)))) aO)
  (ao (pS su 4 (aP aN (pv 0) (aP aN (pv 1) aD (λ_ _=>rfl)) (λ_ _=>rfl)))
  (ao (aZ (aK dU (aP bN (v9 ep) (pv 3) (λ_ _=>rfl)) aD (aR _)) (au (aF (aB G3 hr rfl m3 k3 N .nil aH (aj (pv 0) (aj (aP aN (pv 1) aD (λ_ _=>rfl)) (aj (aB G2 hr1 rfl m2 k2 b2 .nil aH (aj (pv 3) (aj (pv 4) aq))) aq)))))) aO)
  (au (aF (aB G3 hr rfl m3 k3 N .nil aH (aj (pv 0) (aj (aP aN (pv 1) aD (λ_ _=>rfl)) (aj (aB G4 hr1 rfl m4 k4 b4 .nil aH (aj (pv 3) (aj (pv 4) (aj (aP aN (pv 0) (aP aN (pv 1) aD (λ_ _=>rfl)) (λ_ _=>rfl)) aq)))) aq)))))))))),?_⟩
 refine⟨_,rfl,_,rfl,pn,_,rfl,hn,λps hps=>?_⟩;have s0:=Same.aM (o:=.lst (jD (ii [o,i,j,l]) (some 1) none)) hps;refine⟨ps,[i,j,l],rfl,aV.of ak,(by show 3<=1000;decide),λT s01=>⟨_,rfl,?_⟩⟩;have r:=s0.trans s01;show(if(!(isKey i&&(isKey j&&(isKey l&&true))))=true then _ else _);rw[adz];cases hij:isKey i&&(isKey j&&isKey l)with
 |false=>
  refine bD ⟨(by show 1<=sizeLine;decide),λq b=>?_⟩;have v:step ⟨a⟩ (.build o i j l)=(⟨a⟩,.refused 2):=bC (by show after (isKey i&&(isKey j&&isKey l)) 2 _=_;rw[hij];rfl);rw[v]at k;have g:=r.trans (Same.aM (o:=.lst [.int (-2)]) b);exact k _ q (But.of g) (r.free b) ak (D.same g)
 |true=>
  obtain⟨hi,hjl⟩:=adV.mp hij;obtain⟨hj,hl⟩:=adV.mp hjl;have x:=r.seq hn;have bad:¬(0<=o/\o<=5)->∀e q,Same T e->T q=none->e q=some (.lst (ii [-1]))->Q (.ref q) e:=λJ e q g b h2=>by
   have v:step ⟨a⟩ (.build o i j l)=(⟨a⟩,.refused 1):=bC (by
    show after (isKey i&&(isKey j&&isKey l)) 2 (after (decide (0<=o)&&decide (o<=5)) 1 _)=_;rw[hij];have:(decide (0<=o)&&decide (o<=5))=false:=by
     cases h:(decide (0<=o)&&decide (o<=5))with
     |false=>rfl
     |true=>
      rw[aa8,ab1,ab1]at h;exact absurd h J
    rw[this];rfl)
   rw[v]at k;exact k _ q (But.of (r.trans g)) (r.free b) h2 (D.same (r.trans g))
  refine bF ⟨_,rfl,pn,_,_,_,rfl,rfl,x,aL (j:=0) rfl,_,rfl,_,_,rfl,rfl,_,rfl,?_⟩;by_cases L:(0:Int)<=o
  .rw[aaU (aaD L)]
   refine⟨_,_,rfl,rfl,_,rfl,?_⟩;by_cases U:o<=5
   .rw[aaD U]
    refine bF ?_;obtain⟨vs,p,Y,hat,h3,h4⟩:=(D.same r).at I hi;obtain⟨vs',p',h1',hat',h3',h4'⟩:=(D.same r).at I hj;obtain rfl:vs=vs':=by rw[Y]at h1';cases h1';rfl
    obtain⟨_,_,hl0,hll⟩:=I.at hl;have hni:=(I.at hi).2.1.nodes;have hnj:=(I.at hj).2.1.nodes;have hdo:does ⟨a⟩ (.build o i j l)=kept ⟨a⟩ l (built o (formulaAt ⟨a⟩ i) (formulaAt ⟨a⟩ j)) (atoms (built o (formulaAt ⟨a⟩ i) (formulaAt ⟨a⟩ j))):=by
     show after (isKey i&&(isKey j&&isKey l)) 2 (after (decide (0<=o)&&decide (o<=5)) 1 _)=_;rw[hij,aaD L,aaD U];rfl
    generalize formulaAt ⟨a⟩ i=m at*;generalize formulaAt ⟨a⟩ j=t at*;have hnb:nodes (built o m t)<=401:=by
     unfold built
     (repeat' split)<;>simp only[nodes]<;>grind
    have fin:∀e d,Same T e->T d=none->Fl K e d (flat (built o m t))->Ik K [.ref O,.int l,.ref d] e Q E0:=λe d g M u=>by
     have y:=r.trans g;have hH2:=D.same y;refine⟨O,d,a,l,built o m t,rfl,hH2,u,ac6 (aW Y M),hl0,hll,by grind,λJ=>?_,λJ=>?_⟩
     .intro H3 q s3 b Yc
      have v:step ⟨a⟩ (.build o i j l)=(⟨a⟩,.refused 5):=bC (by rw[hdo];unfold kept;rw[J];rfl);rw[v]at k;exact k _ q (But.of (y.trans s3)) (y.free b) Yc (hH2.same s3)
     .intro H3 q N b Yc hh
      have v:step ⟨a⟩ (.build o i j l)=(⟨a.set l.toNat (built o m t)⟩,.told [atoms (built o m t)]):=cU (by rw[hdo];unfold kept;rw[J];rfl);rw[v]at k;exact k _ q ((But.of y).trans N) (y.free b) Yc hh
    refine⟨_,rfl,_,rfl,pn,_,_,_,rfl,rfl,x,aL (j:=1) rfl,O,vs,_,_,rfl,rfl,aV.of Y,hat,?_⟩;refine⟨_,rfl,ap,_,_,_,rfl,rfl,hp.sq _,iC ⟨L,by grind⟩,rfl,_,rfl,?_⟩;have one:o=4\/o=5->flat (built o m t)=(o,[])::flat m:=by rintro(rfl|rfl)<;>rfl
    have two:o=0\/o=1\/o=2\/o=3->flat (built o m t)=(o,[])::(flat m++flat t):=by rintro(rfl|rfl|rfl|rfl)<;>rfl
    show(if decide (V.int ((pc o:Nat):Int)=V.int 1)=true then _ else _);by_cases h45:o=4\/o=5
    .have hpc:pc o=1:=by rcases h45 with rfl|rfl<;>rfl
     rw[hpc];refine bD ⟨_,rfl,_,rfl,pn,_,_,_,rfl,rfl,x,aL (j:=3) rfl,_,rfl,_,rfl,o,p,flat m,rfl,h3,by rw[aC];grind,λe d g M u=>?_⟩;rw[<-one h45]at u;exact fin e d g M u
    .have h03:o=0\/o=1\/o=2\/o=3:=by grind
     have hpc:pc o=2:=by rcases h03 with rfl|rfl|rfl|rfl<;>rfl
     rw[hpc];refine bF ⟨_,rfl,_,rfl,pn,_,_,_,rfl,rfl,x,aL (j:=3) rfl,_,rfl,_,rfl,_,rfl,_,rfl,pn,_,_,_,rfl,rfl,x,aL (j:=2) rfl,O,vs,_,_,rfl,rfl,aV.of Y,hat',o,p,p',flat m,flat t,rfl,h3,h3',by rw[aC,aC];grind,λe d g M u=>?_⟩;rw[<-two h03]at u;exact fin e d g M u
   .rw[aat U]
    exact bD ⟨(by show 1<=sizeLine;decide),λq b=>bad (λz=>U z.2) _ q (Same.aM b) b ak⟩
  .rw[aaz (by rw[aat L];exact aaT)]
   exact⟨_,rfl,bD ⟨(by show 1<=sizeLine;decide),λq b=>bad (λz=>L z.1) _ q (Same.aM b) b ak⟩⟩
theorem En:∀{l:List Formula}{C:Formula},C∈l->wt (flat C)<=wt (flats l)
|A::l,C,h=>by
 rw[bA,cZ];rcases aa2.mp h with rfl|h
 .grind
 .have:=En h;grind
theorem K6:∀(p:List Int)(A B:Formula),iH p A=some B->wt (flat B)<=wt (flat A)
|[],A,B,h=>by cases h;exact aaS _
|i::p,A,B,h=>by
 unfold iH at h;split at h
 .cases e:(parts A)[i.toNat]? with
  |none=>rw[e]at h;cases h
  |some C=>
   rw[e]at h;have a:=K6 p C B h;have b:=En (aa6 e);rw[bL A,cF];grind
 .cases h
def El.one{B H:Hp}{us:List V}{x:List Int}(h:El K B H us [x]):∃p,dF (us=[.ref p]) (B p=none) (aV K H p (ii x)):=by
 cases h with
 |cons a t=>
  cases t;obtain⟨p,rfl,b,c⟩:=a;exact⟨p,rfl,b,c⟩
def El.two{B H:Hp}{us:List V}{x y:List Int}(h:El K B H us [x,y]):Ex2 λp q=>xZ (us=[.ref p,.ref q]) (B p=none) (aV K H p (ii x)) (B q=none) (aV K H q (ii y)):=by
 cases h with
 |cons a t=>
  obtain⟨q,rfl,b,c⟩:=El.one t;obtain⟨p,rfl,d,e⟩:=a;exact⟨p,q,rfl,d,e,b,c⟩
theorem Z7.one{B H:Hp}{us:List V}{x:List Int}(h:Z7 K B H us [x]):∃p,dF (us=[.ref p]) (B p=none) (aV K H p (ii x)):=El.one h.1
theorem Z7.two{B H:Hp}{us:List V}{x y:List Int}(h:Z7 K B H us [x,y]):Ex2 λp q=>xZ (us=[.ref p,.ref q]) (B p=none) (aV K H p (ii x)) (B q=none) (aV K H q (ii y)):=El.two h.1
def Eo:aJ ["held","numbers","rows","formula"] ["held","numbers","rows"] (aA (top 97)):=scm
def RL(g:Hy P w K mg C base):gF P w K mg base "call_part" 4 ["held","numbers","rows"] (dH 3 K):=by
 obtain⟨f,fd,F,mF⟩:=g.d43;have g2:=g.bx;have g4:=g.um;obtain⟨f1,k_,G1,k1,b1,m1⟩:=fK g;obtain⟨f4,V6,G4,k4,b4,m4⟩:=Um g;obtain⟨f2,fd2,G2,k2,b2,m2⟩:=uK g;obtain⟨f3,Ia,G3,k3,b3,m3⟩:=pJ g;refine⟨f,fd,?_,F.kp,xu F λ_ _ _ _ _ _ _ _ _=>rfl,mF⟩;refine eE F Eo λcdv A outer s H vs Q E v h=>?_;obtain⟨ph,pn,pr,a,ns,us,xs,B,c,rfl,t,L,M,N,hR,hc,k⟩:=h;obtain⟨i,x,rfl,rfl,rfl⟩:=hc;obtain⟨px,rfl,_,O⟩:=hR.one;have D:bI 1 _:=v.mono (by decide);have T:bI 2 _:=v.mono (by decide);refine⟨_,ao (aZ (cO (cu (aB G1 D rfl m1 k1 b1 .nil aH (aj (pv 1) aq)))) (au (aF (aQ (aj (cX g2) aq)))) aO)
  (ao (pS Eo 3 (aB G4 T rfl m4 k4 b4 .nil aH (aj (aP aN (pv 0) (aP aN (pv 1) aD (λ_ _=>rfl)) (λ_ _=>rfl)) (aj (aP aN (pv 2) aD (λ_ _=>rfl)) aq))))
  (ao (aZ (aK iZ (pv 3) b_ (aR _)) (au (aF (aQ (aj (cX g4) aq)))) aO)
  (au (aF (aB G3 D rfl m3 k3 b3 .nil aH (aj (aB G2 v rfl m2 k2 b2 .nil aH (aj (pv 3) aq)) aq)))))),?_⟩
 refine⟨_,rfl,pn,[i],rfl,M,(by show 1<=1000;decide),λH1 b=>⟨_,rfl,?_⟩⟩;show(if(!(isKey i&&true))=true then _ else _);rw[adz];cases hi:isKey i with
 |false=>
  refine bD ⟨(by show 1<=sizeLine;decide),λq m=>?_⟩;have n:step ⟨a⟩ (.part i x)=(⟨a⟩,.refused 2):=bC (by show after (isKey i) 2 _=_;rw[hi];rfl);rw[n]at k;have l:=b.trans (Same.aM (o:=.lst [.int (-2)]) m);exact k _ q (But.of l) (b.free m) ak (t.same l)
 |true=>
  refine bF ?_;obtain⟨vs,p,h1,U,h3,h4⟩:=(t.same b).at L hi;have z:=(L.at hi).2.1;have hw:=z.wt;have hno:=z.nodes;have I:does ⟨a⟩ (.part i x)=given (iH x (formulaAt ⟨a⟩ i)) 4 λA=>.ok (⟨a⟩,toldText (form A)):=by
   show after (isKey i) 2 (given ((placeIn x).bind λp=>partAt p (formulaAt ⟨a⟩ i)) 4 _)=_;rw[hi,Cd];rfl
  refine⟨_,rfl,_,rfl,pn,_,_,_,rfl,rfl,b.seq M,aL (j:=0) rfl,ph,vs,_,_,rfl,rfl,aV.of h1,U,_,rfl,pr,_,_,_,rfl,rfl,b.seq N,aL (j:=0) rfl,p,px,_,x,rfl,h3,b.seq O,by rw[aC];grind,λe H2 l=>?_,λu e H2 d l hd Y=>?_⟩
  .refine⟨_,rfl,rfl,_,rfl,bD ⟨(by show 1<=sizeLine;decide),λq m=>?_⟩⟩
   have n:step ⟨a⟩ (.part i x)=(⟨a⟩,.refused 4):=bC (by rw[I,e];rfl);rw[n]at k;have r:=(b.trans l).trans (Same.aM (o:=.lst [.int (-4)]) m);exact k _ q (But.of r) ((b.trans l).free m) ak (t.same r)
  .have n:step ⟨a⟩ (.part i x)=(⟨a⟩,.told (toldText (form u))):=cU (by rw[I,e];rfl)
   rw[n]at k;have hwB:=K6 _ _ _ e;have J:=b.trans l;refine⟨_,rfl,rfl,_,rfl,bF ⟨_,rfl,d,u,rfl,Y,by grind,λH3 q r m hq2=>?_⟩⟩;refine⟨q,nm (form u),rfl,.inl (aV.of hq2),?_,λH4 q4 s4 K7 Yd=>?_⟩
   .rw[bK]
    have:=cQ u;grind
   .have y:=(J.trans r).trans s4
    exact k _ q4 (But.of y) ((J.trans r).free K7) (by rw[iR];exact Yd) (t.same y)
def Im(a b:Name)(A:Formula):nodes (fill a (.atom false b) A)=nodes A/\atoms (fill a (.atom false b) A)=atoms A/\deep (fill a (.atom false b) A)=deep A:=by
 unfold Vaneta.fill
 induction A with
 |atom n c=>
  unfold fillBy;by_cases h:c=a
  .rw[aaU h];cases n<;>exact⟨rfl,rfl,rfl⟩
  .rw[aaz h];exact⟨rfl,rfl,rfl⟩
 |_=>simp_all [fillBy,nodes,atoms,deep]
def Ep(a b:Name)(A:Formula):inBounds (fill a (.atom false b) A)=inBounds A:=by
 obtain⟨c,d,e⟩:=Im a b A;unfold inBounds;rw[c,d,e]
def Np(a:Name)(A:Formula):fill a (.atom false a) A=A:=by
 unfold Vaneta.fill
 induction A with
 |atom n c=>
  unfold fillBy;by_cases h:c=a
  .subst h
   rw[aaU rfl];cases n<;>rfl
  .rw[aaz h]
 |_=>simp_all [fillBy]
theorem set_same{b:Type}:∀{l:List b}{i:Nat}{x:b},l[i]?=some x->l.set i x=l
|[],_,_,h=>by cases h
|a::l,0,x,h=>by cases h;rfl
|a::l,i+1,x,h=>by
 rw[List.set_cons_succ,set_same (l:=l) (by simpa using h)]
def uN:aJ ["held","numbers","rows","k","old","changed"] ["held","numbers","rows"] (aA (top 101)):=scm
def Vb(r:Hy P w K mg C base):gF P w K mg base "call_rename" 4 ["held","numbers","rows"] (dH 7 K):=by
 obtain⟨f,fd,F,mF⟩:=r.d44;have B2:=r.B;have X8:=r.cD;have N:=r.bx;obtain⟨f1,k_,G1,k1,b1,m1⟩:=fK r;obtain⟨f2,fd2,G2,k2,b2,m2⟩:=qL r;obtain⟨f3,Ia,G3,k3,b3,m3⟩:=VG r;obtain⟨f4,V6,G4,k4,b4,m4⟩:=Xy r;refine⟨f,fd,?_,F.kp,xu F λ_ _ _ _ _ _ _ _ _=>rfl,mF⟩;refine eE F uN λcdv A outer s H vs Q E O h=>?_;obtain⟨n,pn,v,l,ns,us,xs,B,c,rfl,I,hG,hn,u,hR,hc,k⟩:=h;obtain⟨i,x,y,a,b,rfl,rfl,ha,hb,rfl⟩:=hc;obtain⟨px,py,rfl,_,hpx,_,hpy⟩:=hR.two;have hr1:bI 1 _:=O.mono (by decide);have hu:=O.units;refine⟨_,ao (aZ (cO (cu (aB G1 hr1 rfl m1 k1 b1 .nil aH (aj (pv 1) aq)))) (au (aF (aQ (aj (cX N) aq)))) aO)
  (ao (aZ (PW.pt (Di (cO (cu (aB G2 O rfl m2 k2 b2 .nil aH (aj (aP aN (pv 2) aD (λ_ _=>rfl)) aq)))) (Ab (cO (cu (aB G2 O rfl m2 k2 b2 .nil aH (aj (aP aN (pv 2) aD (λ_ _=>rfl)) aq))))))) (au (aF (aQ (aj (cX X8) aq)))) aO)
  (ao (aZ (aK (pA hu) (aP aN (pv 2) aD (λ_ _=>rfl)) (aP aN (pv 2) aD (λ_ _=>rfl)) (aR _)) (au (aF (aQ (aj aD aq)))) aO)
  (ao (pS uN 3 (aP aN (pv 1) aD (λ_ _=>rfl)))
  (ao (pS uN 4 (fJ fU (by rfl) B2.tuple ag0 (aj (aP aN (pv 2) aD (λ_ _=>rfl)) aq)))
  (ao (pS uN 5 (aB G3 hr1 rfl m3 k3 b3 .nil aH (aj (aP aN (pv 0) (pv 3) (λ_ _=>rfl)) (aj (pv 4) aq))))
  (ao (GQ (aB G4 hr1 rfl m4 k4 b4 .nil aH (aj (aP aN (pv 0) (pv 3) (λ_ _=>rfl)) (aj (pv 4) (aj (fJ fU (by rfl) B2.tuple ag0 (aj (aP aN (pv 2) aD (λ_ _=>rfl)) aq)) aq)))) (GP (pv 0) (pv 3) set_list))
  (au (aF (aQ (aj (pv 5) aq)))))))))),?_⟩
 refine⟨_,rfl,pn,[i],rfl,hn,(by show 1<=1000;decide),λH1 J=>⟨_,rfl,?_⟩⟩;show(if(!(isKey i&&true))=true then _ else _);rw[adz];cases hi:isKey i with
 |false=>
  refine bD ⟨(by show 1<=sizeLine;decide),λq g=>?_⟩;have L:step ⟨l⟩ (.rename i a b)=(⟨l⟩,.refused 2):=bC (by show after (isKey i) 2 _=_;rw[hi];rfl);rw[L]at k;have t:=J.trans (Same.aM (o:=.lst [.int (-2)]) g);exact k _ q (But.of t) (J.free g) ak (I.same t)
 |true=>
  refine bF ?_;have hxa:=jy ha;have YH:=jy hb;subst hxa YH;have bad:(isName a&&isName b)=false->∀M q,Same H M->H q=none->M q=some (.lst (ii [-1]))->Q (.ref q) M:=λhf M q t g h2=>by
   have L:step ⟨l⟩ (.rename i a b)=(⟨l⟩,.refused 1):=bC (by show after (isKey i) 2 (after (isName a&&isName b) 1 _)=_;rw[hi,hf];rfl);rw[L]at k;exact k _ q (But.of t) g h2 (I.same t)
  refine⟨_,rfl,v,_,_,_,rfl,rfl,J.seq u,aL (j:=0) rfl,px,a,rfl,.inl (by rw[gO];exact J.seq hpx),λM t=>⟨_,rfl,?_⟩⟩;have D:=J.trans t;cases hna:isName a with
  |false=>exact bD (bD ⟨(by show 1<=sizeLine;decide),λq g=>bad (by rw[hna];rfl) _ q (D.trans (Same.aM g)) (D.free g) ak⟩)
  |true=>
   refine bF ⟨_,rfl,v,_,_,_,rfl,rfl,D.seq u,aL (j:=1) rfl,py,b,rfl,.inl (by rw[gO];exact D.seq hpy),λH3 s3=>⟨_,rfl,?_⟩⟩;have m:=D.trans s3;cases hnb:isName b with
   |false=>exact bD ⟨(by show 1<=sizeLine;decide),λq g=>bad (by rw[hna,hnb];rfl) _ q (m.trans (Same.aM g)) (m.free g) ak⟩
   |true=>
    refine bF ?_;have Z8:a≠[]:=λe=>by subst e;exact absurd hna (by decide)
    obtain⟨hk1,hfit,hk0,hkl⟩:=hG.at hi;have hdo:does ⟨l⟩ (.rename i a b)=kept ⟨l⟩ i (Vaneta.fill a (.atom false b) (formulaAt ⟨l⟩ i)) (if a=b then 0 else howOften a (formulaAt ⟨l⟩ i)):=by
     show after (isKey i) 2 (after (isName a&&isName b) 1 _)=_;rw[hi,hna,hnb];rfl
    have hbd:inBounds (Vaneta.fill a (.atom false b) (formulaAt ⟨l⟩ i))=true:=by rw[Ep];exact hfit.1
    have L:step ⟨l⟩ (.rename i a b)=(⟨l.set i.toNat (Vaneta.fill a (.atom false b) (formulaAt ⟨l⟩ i))⟩,.told [if a=b then 0 else howOften a (formulaAt ⟨l⟩ i)]):=cU (by rw[hdo];unfold kept;rw[hbd];rfl);rw[L]at k;refine⟨_,rfl,v,_,_,_,rfl,rfl,m.seq u,aL (j:=0) rfl,_,rfl,v,_,_,_,rfl,rfl,m.seq u,aL (j:=1) rfl,Bf (m.seq hpx) (m.seq hpy) ⟨_,rfl,?_⟩⟩;by_cases hab:a=b
    .subst hab
     rw[aaD rfl];refine bD ⟨(by show 1<=sizeLine;decide),λq g=>?_⟩;rw[Np,set_same hk1,aaU rfl]at k;have T:=m.trans (Same.aM (o:=.lst [.int 0]) g);exact k _ q (But.of T) (m.free g) ak (I.same T)
    .rw[aat (λe=>hab (cN e))]
     rw[aaz hab]at k;refine bF ?_;have hno:=hfit.nodes;refine⟨_,rfl,pn,_,_,_,rfl,rfl,m.seq hn,aL (j:=0) rfl,_,rfl,v,_,_,_,rfl,rfl,m.seq u,aL (j:=0) rfl,px,_,rfl,.inl ⟨m.seq hpx,λto hto=>?_⟩⟩;have T:=Same.aM (o:=.tup (ii (nm a))) hto;have YJ:=m.trans T;obtain⟨vs,p,h1,hat,h3,h4⟩:=(I.same YJ).at hG hi;refine⟨_,rfl,_,rfl,n,vs,_,_,rfl,rfl,aV.of h1,hat,_,rfl,p,to,_,nm a,rfl,h3,bG,by rw[aC];grind,λH5 z=>?_⟩;have s15:=YJ.trans z;refine⟨_,rfl,_,rfl,n,vs,_,_,rfl,rfl,aV.of (z _ _ h1),hat,_,rfl,_,rfl,v,_,_,_,rfl,rfl,s15.seq u,aL (j:=1) rfl,py,_,rfl,.inl ⟨s15.seq hpy,λtn htn=>?_⟩⟩;have U:=Same.aM (o:=.tup (ii (nm b))) htn;refine⟨p,to,tn,_,nm a,nm b,rfl,h3.same (z.trans U),(z.trans U).bB bG,bG,by rw[aC];grind,λH7 d s7 hd hfd=>?_⟩;rw[Ce Z8]at hfd;have s67:=U.trans s7;have s57:=z.trans s67;have s17:=s15.trans s67;obtain⟨Y,g1,N⟩:=I.same s17;have hwl:Y.length=l.length:=abC N;refine⟨_,rfl,_,rfl,n,Y,i,i.toNat,rfl,rfl,g1,?_,?_⟩
     .unfold Oe
      rw[aaU hk0,aaU (by grind)]
     have hdp:d≠n:=ac6 (aW ((z.trans U) _ _ h1) hd);have bU:But n H7 (upd H7 n (.lst (Y.set i.toNat (.ref d)))):=λb o h hb=>by rw[aU hb];exact h
     have hH2:Held K (upd H7 n (.lst (Y.set i.toNat (.ref d)))) n (l.set i.toNat (Vaneta.fill a (.atom false b) (formulaAt ⟨l⟩ i))):=⟨_,ak,pI (Paired.dY N λ_ _ ⟨a,e1,e2,e3⟩=>⟨a,e1,bU.fl g1 e2 e3,e3⟩) ⟨d,rfl,bU.fl g1 hfd hdp,hdp⟩ _⟩;refine⟨_,rfl,(by show 1<=sizeLine;decide),λq g=>?_⟩;rw[Jp Z8];have s8:=Same.aM (o:=.lst [.int ((howOften a (formulaAt ⟨l⟩ i):Nat):Int)]) g;refine k _ q (((But.of s17).trans bU).trans (But.of s8)) ?_ ak (hH2.same s8);refine s17.free ?_;by_cases e:q=n
     .rw[e,ak]at g;cases g
     .rwa[aU e]at g
def cntK(A:Formula)(n:Nat):List Int:=(List.range n).map λ(j:Nat)=>((kc (flat A) (j:Int):Nat):Int)
def Nq(A:Formula):VanetaNeutral.encode (.told (toldSize A))=[(nodes A:Int),(atoms A:Int),(deep A:Int)]++cntK A 6:=by
 obtain⟨a,b,c,d,f,g⟩:=Ow A;have e:cntK A 6=[((kc (flat A) 0:Nat):Int),((kc (flat A) 1:Nat):Int),((kc (flat A) 2:Nat):Int),((kc (flat A) 3:Nat):Int),((kc (flat A) 4:Nat):Int),((kc (flat A) 5:Nat):Int)]:=rfl;rw[e,a,b,c,d,f,g];rfl
def qU:aJ ["held","numbers","rows","formula","counts","kind"] ["held","numbers","rows"] (aA (top 98)):=scm
def RM(b:Hy P w K mg C base):gF P w K mg base "call_size" 3 ["held","numbers","rows"] (dH 4 K):=by
 obtain⟨f,fd,F,mF⟩:=b.d45;have L:=b.B;have g2:=b.bx;have g0:=b.qJ;have g5:=b.yS;obtain⟨f1,k_,G1,k1,b1,m1⟩:=fK b;obtain⟨f2,fd2,G2,k2,b2,m2⟩:=VF b;obtain⟨f3,Ia,G3,k3,b3,m3⟩:=Ka b;obtain⟨f4,V6,G4,k4,b4,m4⟩:=Ea b;refine⟨f,fd,?_,F.kp,xu F λ_ _ _ _ _ _ _ _ _=>rfl,mF⟩;refine eE F qU λcdv A outer s H vs Q E M h=>?_;obtain⟨ph,pn,pr,g,ns,us,xs,B,c,rfl,z,O,T,hpr,hR,hc,k⟩:=h;obtain⟨i,rfl,rfl,rfl⟩:=hc;have u:bI 1 _:=M.mono (by decide);refine⟨_,ao (aZ (cO (cu (aB G1 u rfl m1 k1 b1 .nil aH (aj (pv 1) aq)))) (au (aF (aQ (aj (cX g2) aq)))) aO)
  (ao (Ad (i:=3) qU.nd rfl (Or.inr rfl) (aP aN (pv 0) (aP aN (pv 1) aD (λ_ _=>rfl)) (λ_ _=>rfl)))
  (ao (mK (i:=4) (own:=[("kind",5)]) rfl qU.nd rfl rfl (qG rfl rfl rfl (by decide+kernel)) (Mp rfl L.range (aj (cX g0) (aj (bO iY (cX g5) aD) aq))) (bQ (N:=["held","numbers","rows","formula","counts","kind"]) (sc:=aA (top 98)) (by decide+kernel)) (λ_ _ _ _ _=>pN qU 5) (λ_ _ _ _ _=>dj)
    (λ_ _ _ _ _=>aB G2 u rfl m2 k2 b2 .nil aH (aj (pv 3) (aj (pv 5) aq))))
  (au (aF (bO f9 (aQ (aj (aY aX (by rfl) L.len ab8 (aj (pv 3) aq)) (aj (aB G3 M rfl m3 k3 b3 .nil aH (aj (pv 3) aq)) (aj (aB G4 u rfl m4 k4 b4 .nil aH (aj (pv 3) aq)) aq)))) (pv 4)))))),?_⟩
 refine⟨_,rfl,pn,[i],rfl,T,(by show 1<=1000;decide),λH1 m=>⟨_,rfl,?_⟩⟩;show(if(!(isKey i&&true))=true then _ else _);rw[adz];cases hi:isKey i with
 |false=>
  refine bD ⟨(by show 1<=sizeLine;decide),λq r=>?_⟩;have I:step ⟨g⟩ (.size i)=(⟨g⟩,.refused 2):=bC (by show after (isKey i) 2 _=_;rw[hi];rfl);rw[I]at k;have e:=m.trans (Same.aM (o:=.lst [.int (-2)]) r);exact k _ q (But.of e) (m.free r) ak (z.same e)
 |true=>
  refine bF ?_;obtain⟨vs,p,h1,hat,U,h4⟩:=(z.same m).at O hi;have hno:=(O.at hi).2.1.nodes;have I:step ⟨g⟩ (.size i)=(⟨g⟩,.told (toldSize (formulaAt ⟨g⟩ i))):=cU (by show after (isKey i) 2 _=_;rw[hi];rfl);rw[I]at k;generalize formulaAt ⟨g⟩ i=a at*;have v:(flat a).length<=1000000:=by rw[aC];grind
  refine⟨_,rfl,_,rfl,pn,_,_,_,rfl,rfl,m.seq T,aL (j:=0) rfl,ph,vs,_,_,rfl,rfl,aV.of h1,hat,?_⟩;refine⟨_,_,rfl,rfl,0,6,rfl,⟨by decide,by decide,by decide,by decide⟩,λD Y=>?_⟩;refine Dy (lo:=0) (n:=6) (λn t=>Same H1 t/\t D=some (.lst (ii (cntK a n)))) ⟨Same.aM Y,ak⟩ ?_ ?_
  .rintro n t hn6 ⟨e,J⟩
   refine⟨rfl,_,rfl,_,rfl,p,flat a,_,rfl,U.same e,v,λH3 l=>⟨_,l _ _ J,?_,(e.trans l).bW Y,?_⟩⟩
   .unfold ii cntK
    rw[aac,aac,aeU,aa1];grind
   .rw[ak]
    unfold ii cntK;rw[ag4,aaY,aaY,ag1];rfl
  .rintro t ⟨e,J⟩
   have s12:=m.trans e;have x:=U.same e;obtain⟨ws,hw1,hw2⟩:=id x;refine⟨_,rfl,p,ws,rfl,.inl (aV.of hw1),_,rfl,p,flat a,rfl,x,v,λH3 l=>?_⟩;refine⟨_,rfl,p,a,rfl,x.same l,v,λH4 s4=>⟨(by show 3<=sizeLine;decide),λq r=>?_⟩⟩;rw[pX,hw2.len,aC];have s5:=Same.aM (o:=.lst [.int (nodes a:Int),.int (atoms a:Int),.int (deep a:Int)]) r;refine⟨_,rfl,q,D,_,_,rfl,rfl,ak,(l.trans (s4.trans s5)) _ _ J,(by show 9<=sizeLine;decide),λd hd=>?_⟩;have s6:=Same.aM (o:=.lst ([.int (nodes a:Int),.int (atoms a:Int),.int (deep a:Int)]++ii (cntK a 6))) hd;have y:=(s12.trans l).trans (s4.trans s5);refine k _ d (But.of (y.trans s6)) (y.free hd) ?_ (z.same (y.trans s6));rw[ak,Nq];rfl
end CL
namespace L2
open PySem PySem.Spec PyProof.Rows
open Classical in
noncomputable def eqR(h:Heap)(d:PyData)(y:Value):Bool:=if Ex2 λd' as=>Reads h y d' as/\PyData.eqv d' d=true then true else false
def RN{h:Heap}{d d':PyData}{y:Value}{as:List Addr}(r:Reads h y d' as):eqR h d y=PyData.eqv d' d:=by
 unfold eqR;split
 .rename_i e
  obtain⟨d2,c,a,b⟩:=e;obtain⟨rfl,_⟩:=reads_det (h:=h) (h':=h) (λ_ _ e _=>e) r a;exact b.symm
 .rename_i e
  cases hq:PyData.eqv d' d with
  |false=>rfl
  |true=>exact absurd ⟨d',as,r,hq⟩ e
inductive Br(K:Frag)(x:V)(vs:List V)(H:Hp)(Q:VK):Prop
|mk l xs ds y d (_:x=.ref l) (_:vs=[y]) (_:H l=some (.lst xs)) (_:jc K H xs ds) (_:∀z∈ds,SeqAt.shaped z=true) (_:Dp K H y d) (_:SeqAt.shaped d=true) (_:Q (.int ((ds.countP λz=>PyData.eqv z d:Nat):Int)) H)
section
variable{X:Cx}
theorem RP{h:Heap}{d:PyData}:∀{ds:List PyData}{us:List Value}{as:List Addr},ReadsAll h us ds as->us.countP (eqR h d)=ds.countP λz=>PyData.eqv z d
|_,_,_,.nil=>rfl
|_,_,_,.cons r a=>by
 rw[ae5,ae5,RP a,RN r]
theorem atR{h:Heap}:∀{ds:List PyData}{us:List Value}{as:List Addr},ReadsAll h us ds as->∀y∈us,∃z∈ds,∃b,Reads h y z b
|_,_,_,.nil,y,a=>by cases a
|_,_,_,.cons r c,y,a=>by
 rcases aa2.mp a with rfl|a
 .exact⟨_,aa0,_,r⟩
 .obtain⟨z,d,e⟩:=atR c y a
  exact⟨z,aaX _ d,e⟩
def sE(hu:X.A.in1.units+64<cLine):Zu X "list.count" (Br X.K):=by
 intro pins s D H x vs v us Q I j k h;obtain⟨l,xs,ds,y,d,rfl,rfl,m,o,b,p,t,q⟩:=h;cases j;obtain⟨u,rfl,A⟩:=k.one;obtain⟨z,a,n,r,E,e⟩:=I.Dq m;obtain⟨as,c⟩:=Dp.readsAll I ds xs a o r;obtain⟨B,C⟩:=Dp.reads I d y u p A;refine afJ F.slot_list_count ⟨_,e,rfl⟩ F.entry_list_count (F.args_list_count_2 _ _) (SeqAt.list_countAt l a.toArray n none #[] u (eqR s.heap d)) ⟨e,λw hw=>?_,?_⟩
 .obtain⟨z,hz,g,f⟩:=atR c w (by simpa using hw)
  rw[RN f];exact SeqAt.eqAt_reads z d X.A.in1 s w u g B f C (ag2 (b z hz)) (ag2 t) (SeqAt.room_of_shaped (b z hz) hu)
 .rw[show a.toArray.toList=a from rfl,RP c]
  exact⟨.int _,H,I.tok _,⟨_,rfl⟩,q⟩
end
end L2
namespace CL
open PySem PySem.Spec PyProof.Rows L2 MR Vaneta
def V7(k:Int)(n:List Int):PyData:=.tuple [.int k,.tuple (n.map PyData.int)]
def RQ(x:Nd)(k:Int)(n:List Int):PyData.eqv (rR x) (V7 k n)=(decide (x.1=k)&&decide (x.2=n)):=by
 unfold rR V7;simp only[PyData.eqv,PyData.eqvAll,jV,adz]
 congr 1
def gB(x:Nd):SeqAt.shaped (rR x)=true:=by
 unfold SeqAt.shaped rR;rw[aa8];have:=gZ x.2;refine⟨by simp[PyData.canLay0,PyData.canLayAll0,lay_ints],aaD ?_⟩;simp only[PyData.depth,PyData.depthAll];grind
def wM(t:Bool):Int:=if t=true then 7 else 6
def cnt(l:List Nd)(k:Int)(n:List Int):Nat:=(l.map rR).countP λz=>PyData.eqv z (V7 k n)
def cnt_cons(x:Nd)(l:List Nd)(k:Int)(n:List Int):cnt (x::l) k n=cnt l k n+if x.1=k/\x.2=n then 1 else 0:=by
 unfold cnt;rw[aaZ,ae5,RQ]
 congr 1
 by_cases a:x.1=k<;>by_cases b:x.2=n<;>simp[a,b]
def cnt_append(l m:List Nd)(k:Int)(n:List Int):cnt (l++m) k n=cnt l k n+cnt m k n:=by
 unfold cnt;rw[aaY,List.countP_append]
def eZ(l m:List (Bool×Name))(t:Bool)(a:Name):countOf (l++m) t a=countOf l t a+countOf m t a:=by
 unfold countOf;rw[adn,aad]
def sG(t:Bool):wM t=6\/wM t=7:=by cases t<;>simp[wM]
theorem dI(t:Bool)(a:Name):∀A:Formula,cnt (flat A) (wM t) (nm a)=countOf (leaves A) t a
|.atom n b=>by
 show cnt [(if n=true then 7 else 6,nm b)] _ _=countOf [(n,b)] t a;rw[cnt_cons];have c:nm b=nm a↔b=a:=⟨cN,λe=>by rw[e]⟩;unfold countOf;by_cases h:b=a
 .subst h
  cases n<;>cases t<;>simp[wM,cnt]
 .have:¬nm b=nm a:=λe=>h (cN e)
  cases n<;>cases t<;>simp[wM,cnt,h,this]
|.tensor A B=>by
 rw[show flat (.tensor A B)=(0,[])::(flat A++flat B)from rfl,cnt_cons,cnt_append,dI t a A,dI t a B,aaz (by rcases sG t with h|h<;>rw[h]<;>simp),show leaves (.tensor A B)=leaves A++leaves B from rfl,eZ];rfl
|.par A B=>by
 rw[show flat (.par A B)=(1,[])::(flat A++flat B)from rfl,cnt_cons,cnt_append,dI t a A,dI t a B,aaz (by rcases sG t with h|h<;>rw[h]<;>simp),show leaves (.par A B)=leaves A++leaves B from rfl,eZ];rfl
|.wth A B=>by
 rw[show flat (.wth A B)=(2,[])::(flat A++flat B)from rfl,cnt_cons,cnt_append,dI t a A,dI t a B,aaz (by rcases sG t with h|h<;>rw[h]<;>simp),show leaves (.wth A B)=leaves A++leaves B from rfl,eZ];rfl
|.plus A B=>by
 rw[show flat (.plus A B)=(3,[])::(flat A++flat B)from rfl,cnt_cons,cnt_append,dI t a A,dI t a B,aaz (by rcases sG t with h|h<;>rw[h]<;>simp),show leaves (.plus A B)=leaves A++leaves B from rfl,eZ];rfl
|.ofc A=>by
 rw[show flat (.ofc A)=(4,[])::flat A from rfl,cnt_cons,dI t a A,aaz (by rcases sG t with h|h<;>rw[h]<;>simp)];rfl
|.whn A=>by
 rw[show flat (.whn A)=(5,[])::flat A from rfl,cnt_cons,dI t a A,aaz (by rcases sG t with h|h<;>rw[h]<;>simp)];rfl
theorem tQ(a:Name):∀l:List Name,(putName a l).length<=l.length+1
|[]=>aaS _
|b::r=>by
 unfold putName;have:=tQ a r;split
 .grind
 .split
  .simp
  .rw[aae,aae];grind
def jz(l:List (Bool×Name)):(namesOf l).length<=l.length:=by
 have a:∀(l:List (Bool×Name))(acc:List Name),(l.foldl (λr x=>putName x.2 r) acc).length<=acc.length+l.length:=by
  intro l
  induction l with
  |nil=>intro acc;exact aaS _
  |cons x l b=>
   intro acc;have c:=b (putName x.2 acc);have d:=tQ x.2 acc;rw[ag3,aae];grind
 have:(namesOf l).length<=0+l.length:=a l [];grind
def dN(A:Formula):(leaves A).length=atoms A:=by
 induction A<;>simp_all [leaves,atoms]
def Em.few{A:Formula}(h:Em A):atoms A<2000:=by
 have:=h.1;unfold inBounds at this;simp only[aa8,ab1]at this;omega
def pK(A:Formula)(n:List Int):List Int:=((n.length:Int)::n)++[((cnt (flat A) 6 n:Nat):Int),((cnt (flat A) 7 n:Nat):Int)]
def Io(A:Formula):VanetaNeutral.encode (.told (toldAtoms (leaves A)))=(((namesOf (leaves A)).map nm).length:Int)::((namesOf (leaves A)).map nm).flatMap (pK A):=by
 show((((namesOf (leaves A)).length)::(namesOf (leaves A)).flatMap λa=>toldText a++[countOf (leaves A) false a,countOf (leaves A) true a]).map Int.ofNat)=_;rw[aaZ,aac,List.map_flatMap,List.flatMap_map]
 congr 1
 refine congrArg (λf=>List.flatMap f (namesOf (leaves A))) (funext λa=>?_);have b:cnt (flat A) 6 (nm a)=countOf (leaves A) false a:=dI false a A;have c:cnt (flat A) 7 (nm a)=countOf (leaves A) true a:=dI true a A;unfold pK;rw[b,c,bK];unfold toldText nm;rw[aaY,aaZ,abL];rfl
def jX:aJ ["held","numbers","rows","formula","names","answer","name"] ["held","numbers","rows"] (aA (top 99)):=scm
def Nr(g:Hy P w K mg C base):gF P w K mg base "call_atoms" 2 ["held","numbers","rows"] (dH 5 K):=by
 obtain⟨f,fd,F,mF⟩:=g.d46;have B2:=g.B;have g2:=g.bx;have g6:=g.jw;have g7:=g.je;obtain⟨f1,k_,G1,k1,b1,m1⟩:=fK g;obtain⟨f2,fd2,G2,k2,b2,m2⟩:=mR g;obtain⟨f3,Ia,G3,k3,b3,m3⟩:=pJ g;refine⟨f,fd,?_,F.kp,xu F λ_ _ _ _ _ _ _ _ _=>rfl,mF⟩;refine eE F jX λcdv A outer s H vs Q E N h=>?_;obtain⟨ph,pn,pr,u,ns,us,xs,B,c,rfl,hH,hG,hn,hpr,hR,hc,k⟩:=h;obtain⟨i,rfl,rfl,rfl⟩:=hc;have hu1:∀B:Around,bI 1 B->B.in1.units+64<cLine:=λB r=>by
  have:=r.un;show B.units+1+64<_;grind
 refine⟨_,ao (aZ (cO (cu (aB G1 N rfl m1 k1 b1 .nil aH (aj (pv 1) aq)))) (au (aF (aQ (aj (cX g2) aq)))) aO)
  (ao (pS jX 3 (aP aN (pv 0) (aP aN (pv 1) aD (λ_ _=>rfl)) (λ_ _=>rfl)))
  (ao (pS jX 4 (aB G2 N rfl m2 k2 b2 .nil aH (aj (pv 3) aq)))
  (ao (pS jX 5 (aQ (aj (aY aX (by rfl) B2.len ab8 (aj (pv 4) aq)) aq)))
  (ao (cW abu rfl (fH (pv 4)) (pN jX 6)
   (ao (bH (dD aaW adp adq gW (pv 5) (aj (aB G3 N rfl m3 k3 b3 .nil aH (aj (pv 6) aq)) aq)))
   (ao (bH (dD aaW abv abw bY (pv 5) (aj (dD aaW aeI aeJ (sE (hu1 _ N)) (pv 3) (aj (dw (aj (cX g6) (aj (pv 6) aq))) aq)) aq)))
   (au (bH (dD aaW abv abw bY (pv 5) (aj (dD aaW aeI aeJ (sE (hu1 _ N)) (pv 3) (aj (dw (aj (cX g7) (aj (pv 6) aq))) aq)) aq)))))))
  (au (aF (pv 5))))))),?_⟩
 refine⟨_,rfl,pn,[i],rfl,hn,(by show 1<=1000;decide),λH1 D=>⟨_,rfl,?_⟩⟩;show(if(!(isKey i&&true))=true then _ else _);rw[adz];cases hi:isKey i with
 |false=>
  refine bD ⟨(by show 1<=sizeLine;decide),λq hq=>?_⟩;have he:step ⟨u⟩ (.atoms i)=(⟨u⟩,.refused 2):=bC (by show after (isKey i) 2 _=_;rw[hi];rfl);rw[he]at k;have I:=D.trans (Same.aM (o:=.lst [.int (-2)]) hq);exact k _ q (But.of I) (D.free hq) ak (hH.same I)
 |true=>
  refine bF ?_;obtain⟨vs,p,n,hat,O,h4⟩:=(hH.same D).at hG hi;have L:=(hG.at hi).2.1;have he:step ⟨u⟩ (.atoms i)=(⟨u⟩,.told (toldAtoms (leaves (formulaAt ⟨u⟩ i)))):=cU (by show after (isKey i) 2 _=_;rw[hi];rfl);rw[he]at k;generalize formulaAt ⟨u⟩ i=d at*;have hno:=L.nodes;refine⟨_,rfl,_,rfl,pn,_,_,_,rfl,rfl,D.seq hn,aL (j:=0) rfl,ph,vs,_,_,rfl,rfl,aV.of n,hat,?_⟩;have Ip:gj (flat d)=(leaves d).map λy=>nm y.2:=by
   unfold gj;rw[gn,abL];rfl
  refine⟨_,rfl,p,flat d,rfl,O,cA d,⟨by rw[aC];grind,by rw[Ip,aac,dN];exact L.few⟩,?_,λH2 q ys I hq hql hN tM hmem=>?_⟩
  .intro x hx h0
   have hx2:x∈(flat d).filter λx=>decide (pc x.1=0):=aez.mpr ⟨hx,aaD h0⟩;rw[gn]at hx2;obtain⟨y,g,rfl⟩:=aa5.mp hx2;have hnm:=L.2 y g;intro e;have:y.2=[]:=cN (b:=[]) e;rw[this]at hnm;exact absurd hnm (by decide)
  have hys:ys.map (·.1)=(namesOf (leaves d)).map nm:=fC tM (λx=>by rw[hmem x,Ip]);have hyl:ys.length<=200:=by
   have n:=congrArg List.length hys;rw[aac,aac]at n;have h2:=jz (leaves d);rw[dN]at h2;have O:=L.1;unfold inBounds at O;simp only[aa8,ab1]at O;grind
  have Ye:∀y∈ys,y.1.length<=12:=λy g=>by
   have n:y.1∈ys.map (·.1):=aa5.mpr ⟨y,g,rfl⟩;rw[hmem,Ip]at n;obtain⟨z,hz,e⟩:=aa5.mp n;rw[<-e,bK];exact qT (L.2 z hz)
  have hal:∀j:Nat,(((ys.take j).map (·.1)).flatMap (pK d)).length<=15*200:=λj=>by
   have gen:∀l:List (List Int×Addr),(∀y∈l,y.1.length<=12)->((l.map (·.1)).flatMap (pK d)).length<=15*l.length:=by
    intro l
    induction l with
    |nil=>intro _;exact aaS _
    |cons y l ih=>
     intro h;have n:=ih λz hz=>h z (aaX _ hz);have h2:=h y aa0;rw[aaZ,aeX,aad,aae];have:(pK d y.1).length=y.1.length+3:=by unfold pK;simp
     grind
   have n:=gen (ys.take j) λy g=>Ye y (ae0 g);have h2:(ys.take j).length<=200:=by rw[abg];grind
   grind
  refine⟨_,rfl,q,_,rfl,.inl (aV.of hql),(by show 1<=sizeLine;decide),λm M=>?_⟩;have hrl:(rf ys).length=ys.length:=aac _;rw[hrl];have s3:=Same.aM (o:=.lst [.int (ys.length:Int)]) M;refine⟨_,rfl,q,rfl,⟨_,aV.of (s3 _ _ hql)⟩,dR (K:=K) (a:=q) (xs:=rf ys) (λj σ T=>∃o6:Option V,dF (σ=[some (.ref ph),some (.ref pn),some (.ref pr),some (.ref p),some (.ref q),some (.ref m),o6]) (Same H2 T) (T m=some (.lst (ii ((ys.length:Int)::((ys.take j).map (·.1)).flatMap (pK d))))))
   ⟨none,rfl,s3,ak⟩ (λj σ T _ ⟨_,_,s,_⟩=>aV.of (s _ _ hql)) ?_ ?_⟩
  .rintro j v σ T hj ⟨o6,rfl,s4,U⟩
   obtain⟨y,g,rfl⟩:=qK hj;have Tc:=Ye y (aa6 g);have RT:=s4.bB (hN y (aa6 g));have hacc:=hal j;refine⟨_,rfl,.inl ⟨rfl,_,aV.of U⟩,_,rfl,y.2,y.1,rfl,.inr RT,by grind,λH4 c s5 hc hcl=>⟨m,c,_,_,rfl,rfl,s5 _ _ U,hcl,?_,?_⟩⟩
   .show(ii _).length+(ii _).length<=sizeLine
    rw[aac,aac,aae,aae,aa1];grind
   have s6:Same H2 (upd H4 m (.lst (ii ((ys.length:Int)::((ys.take j).map (·.1)).flatMap (pK d))++ii ((y.1.length:Int)::y.1)))):=(s4.trans s5).bW M;have h6:(upd H4 m (.lst (ii ((ys.length:Int)::((ys.take j).map (·.1)).flatMap (pK d))++ii ((y.1.length:Int)::y.1)))) m=some (.lst (ii ((ys.length:Int)::((ys.take j).map (·.1)).flatMap (pK d))++ii ((y.1.length:Int)::y.1))):=ak;have hln:(ii ((ys.length:Int)::((ys.take j).map (·.1)).flatMap (pK d))++ii ((y.1.length:Int)::y.1)).length<=4000:=by
    rw[aad,aac,aac,aae,aae];grind
   have hgoal:ii ((ys.length:Int)::((ys.take (j+1)).map (·.1)).flatMap (pK d))=(ii ((ys.length:Int)::((ys.take j).map (·.1)).flatMap (pK d))++ii ((y.1.length:Int)::y.1))++[.int ((cnt (flat d) 6 y.1:Nat):Int)]++[.int ((cnt (flat d) 7 y.1:Nat):Int)]:=by
    rw[take_snoc g,aaY,aeF];unfold ii;simp[pK]
   rw[hgoal];generalize ii ((ys.length:Int)::((ys.take j).map (·.1)).flatMap (pK d))++ii ((y.1.length:Int)::y.1)=acc at*;generalize upd H4 m (.lst acc)=H5 at*;have nod:∀{Y:Hp},Same H2 Y->∃J,dF (Y p=some (.lst J)) (jH K Y J (flat d)) (dG K Y y.2 (ii y.1)):=λ{Y} s=>by
    obtain⟨J,a,b⟩:=O.same (I.trans s);exact⟨J,a,b,s.bB (hN y (aa6 g))⟩
   have hsh:∀z∈(flat d).map rR,SeqAt.shaped z=true:=λz hz=>by
    obtain⟨x,_,rfl⟩:=aa5.mp hz;exact gB x
   obtain⟨J,hw1,hw2,hw3⟩:=nod s6;refine⟨_,rfl,.inl ⟨rfl,_,aV.of h6⟩,_,rfl,.inl ⟨rfl,_,aV.of hw1⟩,_,rfl,(by show 2<=sizeLine;decide),λt ht=>?_⟩;have s7:=Same.aM (o:=.tup [.int 6,.ref y.2]) ht;refine⟨p,J,(flat d).map rR,.ref t,V7 6 y.1,rfl,rfl,s7 _ _ hw1,rT (hw2.same s7),hsh,.tup bG (.cons (.int _) (.cons (gY (s7.bB hw3)) .nil)),gB (6,y.1),m,_,_,rfl,rfl,s7 _ _ h6,by rw[aa1];grind,?_⟩;have s8:=(s6.trans s7).bW (o:=.lst (acc++[.int ((cnt (flat d) 6 y.1:Nat):Int)])) M;obtain⟨ws2,hv1,hv2,hv3⟩:=nod s8;refine⟨_,rfl,.inl ⟨rfl,_,aV.of ak⟩,_,rfl,.inl ⟨rfl,_,aV.of hv1⟩,_,rfl,(by show 2<=sizeLine;decide),λt2 ht2=>?_⟩;have s9:=Same.aM (o:=.tup [.int 7,.ref y.2]) ht2;refine⟨p,ws2,(flat d).map rR,.ref t2,V7 7 y.1,rfl,rfl,s9 _ _ hv1,rT (hv2.same s9),hsh,.tup bG (.cons (.int _) (.cons (gY (s9.bB hv3)) .nil)),gB (7,y.1),m,_,_,rfl,rfl,s9 _ _ ak,by rw[aad,abj,aa1];grind,?_⟩;exact⟨some (.ref y.2),rfl,(s8.trans s9).bW M,ak⟩
  .rintro σ T ⟨o6,rfl,s4,U⟩
   rw[hrl,abp,hys]at U;have s24:=(D.trans I).trans s4;refine⟨_,rfl,k _ m (But.of s24) ((D.trans I).free M) ?_ (hH.same s24)⟩;rw[Io,U,<-hys,aac]
def Vc{K:Frag}{H:Hp}{p q:Addr}{a b:List Int}{Q:VK}(c:dG K H p (ii a))(d:dG K H q (ii b))(k:Q (.bl (!decide (a=b))) H):Xi K (.ref p) (.ref q) H Q:=by
 refine⟨_,_,gY c,gY d,lq a,lq b,?_⟩;have e:PyData.eqv (.tuple (a.map PyData.int)) (.tuple (b.map PyData.int))=decide (a=b):=by simp only[PyData.eqv];exact jV a b
 rw[e];exact k
theorem wN{a:List Int}{G:List Nd}(b:G.length<=1000):∀l:List Nd,(l.flatMap (iU a G)).length<=1001*l.length
|[]=>aaS _
|x::l=>by
 have:=wN (a:=a) b l;rw[aeX,aad,aae];have c:(iU a G x).length<=1001:=by
  unfold iU;split
  .split
   .grind
   .rw[aac];grind
  .simp
 grind
inductive Er(K:Frag)(vs:List V)(H:Hp)(Q:VK)(e3:XK):Prop
|mk (p q g:Addr) (l G:List Nd) (a:List Int) (_:vs=[.ref p,.ref q,.ref g]) (_:Fl K H p l) (_:dG K H q (ii a)) (_:Fl K H g G) (_:Kinds G) (_:l.length<=1000) (_:G.length<=1000) (_:Back K H (l.flatMap (iU a G)) Q)
def n6:aJ ["formula","wanted","filling","turned_filling","nodes","kind","name"] ["formula","wanted","filling"] (aA (top 22)):=scm
def Nt(Y:Hy P w K mg C base):gF P w K mg base "filled" 2 ["formula","wanted","filling"] (Er K):=by
 obtain⟨f,fd,F,mF⟩:=Y.d47;have g6:=Y.jw;obtain⟨f1,k_,G1,k1,b1,m1⟩:=qM Y;refine⟨f,fd,?_,F.kp,xu F λ_ _ _ _ _ _ _ _ _=>rfl,mF⟩;refine eE F n6 λcdv A outer s H vs Q E hr h=>?_;obtain⟨p,q,g,l,G,a,rfl,hF,hq,hG,hkG,hzl,hzG,k⟩:=h;have hu:=hr.units;refine⟨_,ao (pS n6 3 (aB G1 hr rfl m1 k1 b1 .nil aH (aj (pv 2) aq)))
  (ao (pS n6 4 (aQ aq))
  (ao (cW abu rfl (fH (pv 0)) (dM (K:=K) (a:=5) (b:=6) rfl rfl n6.nd rfl rfl rfl rfl)
   (au (aZ (aK (Hs hu) (pv 6) (pv 1) (aR _))
    (au (bH (dD aaW abv abw bY (pv 4) (aj (dw (aj (pv 5) (aj (pv 6) aq))) aq))))
    (au (aZ (aK dU (pv 5) (cX g6) (aR _))
     (au (bH (dD aaW adp adq gW (pv 4) (aj (pv 2) aq))))
     (au (bH (dD aaW adp adq gW (pv 4) (aj (pv 3) aq)))))))))
  (au (aF (pv 4))))),?_⟩
 refine⟨_,rfl,g,G,rfl,hG,hkG,by grind,λH1 td D htd hFd=>⟨abe _,λd r=>?_⟩⟩;obtain⟨ws,tM,hN⟩:=id hF;have hlen:=hN.len;have sN:Same H1 (upd H1 d (.lst [])):=Same.aM r;have s2:=D.trans sN;refine⟨_,rfl,p,rfl,⟨_,aV.of (s2 _ _ tM)⟩,dR (K:=K) (a:=p) (xs:=ws) (λi N j=>sV λ(o5 o6:Option V)(vs:List V)=>lM (N=[some (.ref p),some (.ref q),some (.ref g),some (.ref td),some (.ref d),o5,o6]) (Same H1 j) (j d=some (.lst vs)) (jH K j vs ((l.take i).flatMap (iU a G))))
  ⟨none,none,[],rfl,sN,ak,.nil⟩ (λi N j _ ⟨_,_,_,_,e,_,_⟩=>aV.of ((D.trans e) _ _ tM)) ?_ ?_⟩
 .rintro i v N j hi ⟨o5,o6,vs,rfl,m,c,n⟩
  obtain⟨x,hx,pt,I,rfl,h1,h2⟩:=hN.get hi;have u:=D.trans m;have hil:i<l.length:=(aaV.mp hx).1;have hvl:vs.length<=1001*1000:=by
   rw[n.len];have:=wN (a:=a) hzG (l.take i);rw[abg]at this;have h3:min i l.length<=1000:=by grind
   have:1001*min i l.length<=1001*1000:=ae_ _ h3;grind
  have hstep:(l.take (i+1)).flatMap (iU a G)=(l.take i).flatMap (iU a G)++iU a G x:=by
   rw[take_snoc hx,aeF,aeX,List.flatMap_nil,acQ]
  rw[hstep];refine⟨pt,_,rfl,u.bB h1,rfl,_,_,rfl,_,_,rfl,rfl,?_⟩;refine⟨_,rfl,_,rfl,Vc (u.bB h2) (u.bB hq) ⟨_,rfl,?_⟩⟩;by_cases J:x.2=a
  .rw[aaD J]
   refine bF ⟨_,rfl,rfl,_,rfl,?_⟩;dsimp only;by_cases O:x.1=6
   .rw[aaU (aaD (by rw[O]))]
    have L:iU a G x=G:=by unfold iU;rw[aaU J,aaU O]
    rw[L];obtain⟨M,U,B⟩:=hG.same u;have Z9:=B.len;refine⟨_,rfl,.inl ⟨rfl,_,aV.of c⟩,_,rfl,d,g,vs,M,rfl,rfl,c,U,by rw[aa1];grind,some (.int x.1),some (.ref I),vs++M,rfl,m.bW r,ak,?_⟩;exact(n.append B).jU (cP.bW c)
   .rw[aaz (by rw[aat (λz=>O (V.int.inj z))];exact aaT)]
    have L:iU a G x=G.map λy=>(dk y.1,y.2):=by unfold iU;rw[aaU J,aaz O]
    rw[L];obtain⟨M,U,B⟩:=hFd.same m;have Z9:=B.len;rw[aac]at Z9;refine⟨_,rfl,.inl ⟨rfl,_,aV.of c⟩,_,rfl,d,td,vs,M,rfl,rfl,c,U,by rw[aa1];grind,some (.int x.1),some (.ref I),vs++M,rfl,m.bW r,ak,?_⟩;exact(n.append B).jU (cP.bW c)
  .rw[aat J]
   have L:iU a G x=[x]:=by unfold iU;rw[aaz J]
   rw[L];refine bD ⟨_,rfl,.inl ⟨rfl,_,aV.of c⟩,_,rfl,_,rfl,(by show 2<=sizeLine;decide),λt ht=>?_⟩;have T:=Same.aM (o:=.tup [.int x.1,.ref I]) ht;have Yd:=T _ _ c;refine⟨d,vs,_,rfl,rfl,Yd,by rw[aa1];grind,some (.int x.1),some (.ref I),vs++[.ref t],rfl,(m.trans T).bW r,ak,?_⟩;exact(((n.same T).append (jH.one ⟨t,I,rfl,bG,(u.trans T).bB h2⟩))).jU (cP.bW Yd)
 .rintro N j ⟨o5,o6,vs,rfl,m,c,n⟩
  rw[hlen,abp]at n;exact⟨_,rfl,k j d (D.trans m) (D.free r) ⟨vs,c,n⟩⟩
def Held.put{K:Frag}{H:Hp}{c d:Addr}{j:List Formula}{e:List V}{i:Nat}{A:Formula}(k:H c=some (.lst e))(m:Paired (YG K H c) e j)(n:Fl K H d (flat A))(g:d≠c):
  But c H (upd H c (.lst (e.set i (.ref d))))/\Held K (upd H c (.lst (e.set i (.ref d)))) c (j.set i A):=by
 have f:But c H (upd H c (.lst (e.set i (.ref d)))):=λb o h p=>by rw[aU p];exact h
 exact⟨f,_,ak,pI (Paired.dY m λ_ _ ⟨a,q,r,l⟩=>⟨a,q,f.fl k r l,l⟩) ⟨d,rfl,f.fl k n g,g⟩ _⟩
def qW:aJ ["held","numbers","rows","name","formula","made"] ["held","numbers","rows"] (aA (top 102)):=scm
def RV(l:Hy P w K mg C base):gF P w K mg base "call_fill" 4 ["held","numbers","rows"] (dH 8 K):=by
 obtain⟨f,fd,F,mF⟩:=l.d48;have B2:=l.B;have X8:=l.cD;have g2:=l.bx;have g5:=l.iG;obtain⟨f1,k_,G1,k1,b1,m1⟩:=fK l;obtain⟨f2,fd2,G2,k2,b2,m2⟩:=qL l;obtain⟨f3,Ia,G3,k3,b3,m3⟩:=VG l;obtain⟨f4,V6,G4,k4,b4,m4⟩:=Nt l;obtain⟨f5,fd5,G5,k5,b5,m5⟩:=HN l;refine⟨f,fd,?_,F.kp,xu F λ_ _ _ _ _ _ _ _ _=>rfl,mF⟩;refine eE F qW λcdv A outer s H vs Q E L h=>?_;obtain⟨z,pn,pr,b,ns,us,xs,B,c,rfl,t,D,M,hpr,hR,hc,k⟩:=h;obtain⟨i,j,m,x,a,rfl,rfl,ha,rfl⟩:=hc;obtain⟨px,rfl,_,hpx⟩:=hR.one;have hr1:bI 1 _:=L.mono (by decide);have hr2:bI 2 _:=L.mono (by decide);refine⟨_,ao (aZ (cO (cu (aB G1 hr1 rfl m1 k1 b1 .nil aH (aj (pv 1) aq)))) (au (aF (aQ (aj (cX g2) aq)))) aO)
  (ao (aZ (cO (cu (aB G2 L rfl m2 k2 b2 .nil aH (aj (aP aN (pv 2) aD (λ_ _=>rfl)) aq)))) (au (aF (aQ (aj (cX X8) aq)))) aO)
  (ao (pS qW 3 (fJ fU (by rfl) B2.tuple ag0 (aj (aP aN (pv 2) aD (λ_ _=>rfl)) aq)))
  (ao (pS qW 4 (aP aN (pv 0) (aP aN (pv 1) aD (λ_ _=>rfl)) (λ_ _=>rfl)))
  (ao (pS qW 5 (aB G4 hr2 rfl m4 k4 b4 .nil aH (aj (pv 4) (aj (pv 3) (aj (aP aN (pv 0) (aP aN (pv 1) aD (λ_ _=>rfl)) (λ_ _=>rfl)) aq)))))
  (ao (aZ (cO (cu (aB G5 L rfl m5 k5 b5 .nil aH (aj (pv 5) aq)))) (au (aF (aQ (aj (cX g5) aq)))) aO)
  (ao (GQ (pv 5) (GP (pv 0) (aP aN (pv 1) aD (λ_ _=>rfl)) set_list))
  (au (aF (aQ (aj (aB G3 hr1 rfl m3 k3 b3 .nil aH (aj (pv 4) (aj (pv 3) aq))) aq)))))))))),?_⟩
 refine⟨_,rfl,pn,[i,j,m],rfl,M,(by show 3<=1000;decide),λH1 I=>⟨_,rfl,?_⟩⟩;show(if(!(isKey i&&(isKey j&&(isKey m&&true))))=true then _ else _);rw[adz];have J:does ⟨b⟩ (.fill i j m a)=after (isKey i&&(isKey j&&isKey m)) 2 (doFill ⟨b⟩ i j m a):=rfl;cases hij:isKey i&&(isKey j&&isKey m)with
 |false=>
  refine bD ⟨(by show 1<=sizeLine;decide),λq g=>?_⟩;have n:step ⟨b⟩ (.fill i j m a)=(⟨b⟩,.refused 2):=bC (by rw[J,hij];rfl);rw[n]at k;have N:=I.trans (Same.aM (o:=.lst [.int (-2)]) g);exact k _ q (But.of N) (I.free g) ak (t.same N)
 |true=>
  refine bF ?_;rw[hij]at J;obtain⟨hi,hjm⟩:=adV.mp hij;obtain⟨hj,hm⟩:=adV.mp hjm;have hxa:=jy ha;subst hxa;refine⟨_,rfl,pr,_,_,_,rfl,rfl,I.seq hpr,aL (j:=0) rfl,px,a,rfl,.inl (by rw[gO];exact I.seq hpx),λH2 N=>⟨_,rfl,?_⟩⟩;have v:=I.trans N;cases hna:isName a with
  |false=>
   refine bD ⟨(by show 1<=sizeLine;decide),λq g=>?_⟩;have n:step ⟨b⟩ (.fill i j m a)=(⟨b⟩,.refused 1):=bC (by rw[J];show doFill ⟨b⟩ i j m a=_;unfold doFill;rw[hna];rfl);rw[n]at k;have O:=v.trans (Same.aM (o:=.lst [.int (-1)]) g);exact k _ q (But.of O) (v.free g) ak (t.same O)
  |true=>
   refine bF ?_;have U:a≠[]:=λe=>by subst e;exact absurd hna (by decide)
   have hfi:=(D.at hi).2.1;have hfj:=(D.at hj).2.1;have hni:=hfi.nodes;have hnj:=hfj.nodes;obtain⟨_,_,hm0,hml⟩:=D.at hm;have Z_:does ⟨b⟩ (.fill i j m a)=kept ⟨b⟩ m (Vaneta.fill a (formulaAt ⟨b⟩ j) (formulaAt ⟨b⟩ i)) (howOften a (formulaAt ⟨b⟩ i)):=by
    rw[J];show doFill ⟨b⟩ i j m a=_;unfold doFill;rw[hna];rfl
   refine⟨_,rfl,pr,_,_,_,rfl,rfl,v.seq hpr,aL (j:=0) rfl,px,_,rfl,.inl ⟨v.seq hpx,λto hto=>?_⟩⟩;have O:=Same.aM (o:=.tup (ii (nm a))) hto;have y:=v.trans O;obtain⟨vs,p,T,hat,h3,h4⟩:=(t.same y).at D hi;obtain⟨Y,p',h1',hat',h3',h4'⟩:=(t.same y).at D hj;have evs:Y=vs:=by rw[T]at h1';cases h1';rfl
   subst evs;refine⟨_,rfl,_,rfl,pn,_,_,_,rfl,rfl,y.seq M,aL (j:=0) rfl,z,Y,_,_,rfl,rfl,aV.of T,hat,?_⟩;refine⟨_,rfl,_,rfl,_,rfl,_,rfl,pn,_,_,_,rfl,rfl,y.seq M,aL (j:=1) rfl,z,Y,_,_,rfl,rfl,aV.of T,hat',p,to,p',_,_,nm a,rfl,h3,bG,h3',cA _,by rw[aC];grind,by rw[aC];grind,λH4 d s4 hd hfd=>?_⟩;rw[yr U]at hfd;have YJ:=y.trans s4;have hdn:nodes (Vaneta.fill a (formulaAt ⟨b⟩ j) (formulaAt ⟨b⟩ i))<=1000000:=by
    rw[<-aC,<-yr U];have:=wN (a:=nm a) (G:=flat (formulaAt ⟨b⟩ j)) (by rw[aC];grind) (flat (formulaAt ⟨b⟩ i));rw[aC]at this;have h5:1001*nodes (formulaAt ⟨b⟩ i)<=1001*200:=ae_ _ hni;grind
   refine⟨_,rfl,d,_,rfl,hfd,by rw[aC];exact hdn,λH5 s5=>⟨_,rfl,?_⟩⟩;have r:=YJ.trans s5;cases hb:inBounds (Vaneta.fill a (formulaAt ⟨b⟩ j) (formulaAt ⟨b⟩ i))with
   |false=>
    refine bD ⟨(by show 1<=sizeLine;decide),λq g=>?_⟩;have n:step ⟨b⟩ (.fill i j m a)=(⟨b⟩,.refused 5):=bC (by rw[Z_];unfold kept;rw[hb];rfl);rw[n]at k;have u:=r.trans (Same.aM (o:=.lst [.int (-5)]) g);exact k _ q (But.of u) (r.free g) ak (t.same u)
   |true=>
    refine bF ?_;have n:step ⟨b⟩ (.fill i j m a)=(⟨b.set m.toNat (Vaneta.fill a (formulaAt ⟨b⟩ j) (formulaAt ⟨b⟩ i))⟩,.told [howOften a (formulaAt ⟨b⟩ i)]):=cU (by rw[Z_];unfold kept;rw[hb];rfl);rw[n]at k;obtain⟨ws,w1,w2⟩:=t.same r;have hwl:ws.length=b.length:=abC w2;have hdp:d≠z:=ac6 (aW T hd);obtain⟨bU,hH2⟩:=Held.put (i:=m.toNat) w1 w2 (hfd.same s5) hdp;refine⟨_,rfl,_,rfl,_,rfl,pn,_,_,_,rfl,rfl,r.seq M,aL (j:=2) rfl,z,ws,m,m.toNat,rfl,rfl,w1,?_,?_⟩
    .unfold Oe
     rw[aaU hm0,aaU (by grind)]
    have V8:=s4.trans s5;refine⟨_,rfl,_,rfl,p,to,_,nm a,rfl,bU.fl w1 (h3.same V8) h4,bU.bB w1 (V8.bB bG),by rw[aC];grind,λH6 u=>⟨(by show 1<=sizeLine;decide),λq g=>?_⟩⟩;rw[Jp U];have s7:=Same.aM (o:=.lst [.int ((howOften a (formulaAt ⟨b⟩ i):Nat):Int)]) g;refine k _ q (((But.of r).trans bU).trans (But.of (u.trans s7))) ?_ ak (hH2.same (u.trans s7));have Yg:=u.free g;refine r.free ?_;by_cases e:q=z
    .rw[e,ak]at Yg;cases Yg
    .rwa[aU e]at Yg
def Og(z:Addr)(H:Hp)(us:List V)(b:List Text):Prop:=Paired (λv t=>∃a,dF (v=.ref a) (H a=some (.lst (tv t))) (a≠z)) us b
def Og.but{z:Addr}{H b:Hp}{us:List V}{c:List Text}(h:Og z H us c)(e:But z H b):Og z b us c:=Paired.dY h λ_ _ ⟨a,f,g,d⟩=>⟨a,f,e _ _ g d,d⟩
def Og.same{z:Addr}{H a:Hp}{us:List V}{b:List Text}(h:Og z H us b)(e:Same H a):Og z a us b:=h.but (But.of e)
def Og.snoc{z:Addr}{H:Hp}{us:List V}{b:List Text}{a:Addr}{t:Text}(h:Og z H us b)(c:H a=some (.lst (tv t)))(hz:a≠z):Og z H (us++[.ref a]) (b++[t]):=adW h ⟨a,rfl,c,hz⟩
theorem But.upd{z:Addr}{H:Hp}{o:HO}:But z H (upd H z o):=λb u h a=>by rw[aU a];exact h
def Vd(t:Text){a b:Nat}(h:a<=b)(c:b<=t.length):jD (tv t) (some (a:Int)) (some (b:Int))=tv ((t.drop a).take (b - a)):=by
 rw[qN _ h (by rw[jG];exact c)];unfold tv;rw[aeC,aer]
def RW(t:Text){a:Nat}(h:a<=t.length):jD (tv t) (some (a:Int)) none=tv (t.drop a):=by
 unfold jD;rw[HT.qD,HT.vU,aey (by rw[jG];exact h),ac3 (by rw[ace];exact aaS _)];unfold tv;rw[aer]
inductive zc(K:Frag)(vs:List V)(H:Hp)(Q:VK)(e3:XK):Prop
|mk (p:Addr) (t:Text) (c:UInt8) (_:vs=[.ref p,.int (bi c)]) (_:aV K H p (tv t)) (_:t.length<=100000) (_:∀(H':Hp)(q:Addr)(us:List V),Same H H'->H q=none->H' q=some (.lst us)->Og q H' us (cutAt c t)->Q (.ref q) H')
def ji:aJ ["text","sign","stretches","begin","position","byte"] ["text","sign"] (aA (top 60)):=scm
def wQ(g:Hy P w K mg C base):gF P w K mg base "split_at" 1 ["text","sign"] (zc K):=by
 obtain⟨f,fd,F,mF⟩:=g.d49;have B:=g.B;refine⟨f,fd,?_,F.kp,Ba F λ_ _ _ _ _ _ _ _=>rfl,mF⟩;refine eE F ji λcdv A outer s H vs Q E hr h=>?_;obtain⟨p,t,c,rfl,N,hz,k⟩:=h;refine⟨_,ao (pS ji 2 (aQ aq))
  (ao (pS ji 3 aD)
  (ao (cW abu rfl (Ao rfl B.enumerate (aj (pv 0) aq)) (dM (K:=K) (a:=4) (b:=5) rfl rfl ji.nd rfl rfl rfl rfl)
   (au (aZ (aK dU (pv 5) (pv 1) (aR _))
    (ao (bH (dD aaW abv abw bY (pv 2) (aj (eU gK (pv 0) (cT (pv 3)) (cT (pv 4))) aq)))
    (au (pS ji 3 (bO iY (pv 4) aD)))) aO)))
  (ao (bH (dD aaW abv abw bY (pv 2) (aj (eU gK (pv 0) (cT (pv 3)) uz) aq)))
  (au (aF (pv 2)))))),?_⟩
 refine⟨abe _,λj L=>?_⟩;have sN:Same H (upd H j (.lst [])):=Same.aM L;refine⟨_,rfl,p,_,rfl,sN.seq N,Ed (K:=K) (a:=p) (xs:=tv t) (λi O r=>Oa λ(o4 o5:Option V)(us:List V)(u:List Text)(b:Nat)=>An9 (O=[some (.ref p),some (.int (bi c)),some (.ref j),some (.int (b:Int)),o4,o5]) (Same H r) (r j=some (.lst us)) (Og j r us u) (b<=i) (i<=t.length) (us.length<=i) (cutAt c t=u++cutAt c (t.drop b)) (∀x∈(t.drop b).take (i - b),x≠c))
  ⟨none,none,[],[],0,rfl,sN,ak,.nil,aaS _,abe _,abe _,by simp,λx m=>by simp at m⟩ (λi O r _ ⟨_,_,_,_,_,_,e,_,_,_,_,_,_,_⟩=>e.seq N) ?_ ?_⟩
 .rintro i v O r T hi ⟨o4,o5,us,u,b,rfl,U,I,Y,M,hil,KZ,J,D⟩ hT
  obtain⟨x,m,rfl⟩:=qK hi;have hlt:i<t.length:=(aaV.mp m).1;have V9:t[i]=x:=(aaV.mp m).2;have l:=Same.aM (o:=.tup [.int ((i:Nat):Int),.int (bi x)]) hT;have q:=l _ _ I;have s12:=U.trans l;have hdr:(t.drop b).take (i+1 - b)=(t.drop b).take (i - b)++[x]:=by
   rw[show i+1 - b=(i - b)+1 by grind];refine take_snoc ?_;rw[aew,show b+(i - b)=i by grind];exact m
  have hsp:t.drop b=(t.drop b).take (i - b)++x::t.drop (i+1):=by
   have h1:=adu (i - b) (t.drop b);rw[List.drop_drop,show b+(i - b)=i by grind,ab_ hlt,V9]at h1;exact h1.symm
  refine⟨T,_,rfl,bG,rfl,_,_,rfl,_,_,rfl,rfl,?_⟩;refine⟨_,rfl,_,rfl,rfl,_,rfl,?_⟩;dsimp only;by_cases hxc:x=c
  .subst hxc
   rw[aaU (aaD rfl)];refine⟨_,rfl,.inl ⟨rfl,_,aV.of q⟩,_,rfl,_,rfl,_,rfl,_,rfl,_,rfl,p,_,rfl,s12.seq N,λd n=>?_⟩;rw[Vd t M hil];have s3:=Same.aM (o:=.lst (tv ((t.drop b).take (i - b)))) n;have hl3:=s3 _ _ q;refine⟨j,us,_,rfl,rfl,hl3,by rw[aa1];grind,?_⟩;have s4:=(s12.trans s3).bW (o:=.lst (us++[.ref d])) L;have Yh:d≠j:=λe=>by subst e;rw[q]at n;cases n
   have hX3:=((Y.same (l.trans s3)).snoc (a:=d) ak Yh).but (But.upd (o:=.lst (us++[.ref d])));refine⟨_,rfl,_,_,rfl,rfl,?_⟩;refine⟨some (.int ((i:Nat):Int)),some (.int (bi x)),us++[.ref d],u++[(t.drop b).take (i - b)],i+1,rfl,s4,ak,hX3,by grind,by grind,by rw[aad,abj];grind,?_,λy g=>by rw[adB]at g;simp at g⟩;rw[J,ady]
   congr 1
   conv=>lhs;rw[hsp]
   rw[Cw _ D];rfl
  .rw[aaz (by rw[aat (λz=>hxc (oO (V.int.inj z)))];exact aaT)]
   refine⟨some (.int ((i:Nat):Int)),some (.int (bi x)),us,u,b,rfl,s12,q,Y.same l,by grind,by grind,by grind,J,λy g=>?_⟩;rw[hdr]at g;rcases aa4.mp g with g|g
   .exact D y g
   .rcases abO.mp g with rfl
    exact hxc
 .rintro O r ⟨o4,o5,us,u,b,rfl,U,I,Y,M,hil,KZ,J,D⟩
  rw[jG]at M hil KZ D;refine⟨_,rfl,.inl ⟨rfl,_,aV.of I⟩,_,rfl,_,rfl,_,rfl,p,_,rfl,U.seq N,λd n=>?_⟩;rw[RW t M];have l:=Same.aM (o:=.lst (tv (t.drop b))) n;have q:=l _ _ I;have Yh:d≠j:=λe=>by subst e;rw[I]at n;cases n
  refine⟨j,us,_,rfl,rfl,q,by rw[aa1];grind,_,rfl,?_⟩;have hw:∀x∈t.drop b,x≠c:=λx m=>D x (by rw[ac3 (by rw[ace];exact aaS _)];exact m);have hX2:=((Y.same l).snoc (a:=d) ak Yh).but (But.upd (o:=.lst (us++[.ref d])));refine k _ j (us++[.ref d]) ((U.trans l).bW L) L ak ?_;rw[J,Cv hw];exact hX2
def sI(K:Frag)(H:Hp)(us:List V)(xs:List (List V)):Prop:=Paired (λv x=>∃a,v=.ref a/\(H a=some (.lst x)\/dG K H a x)) us xs
def sI.same{K:Frag}{H b:Hp}{us:List V}{xs:List (List V)}(h:sI K H us xs)(e:Same H b):sI K b us xs:=Paired.dY h λ_ _ ⟨a,c,d⟩=>⟨a,c,d.elim (λq=>.inl (e _ _ q)) λq=>.inr (e.bB q)⟩
inductive Es(K:Frag)(vs:List V)(H:Hp)(Q:VK)(e3:XK):Prop
|mk (p b:Addr) (us:List V) (xs:List (List V)) (bs:List V) (_:vs=[.ref p,.ref b]) (_:aV K H p us) (_:sI K H us xs) (_:H b=some (.lst bs)) (_:∀x∈xs,x.length<=10000) (_:bs.length<=1000) (_:xs.length<=1000) (_:∀(H':Hp)(q:Addr),Same H H'->H q=none->H' q=some (.lst (dB bs xs))->Q (.ref q) H')
def sJ:aJ ["texts","between","whole","position","text"] ["texts","between"] (aA (top 61)):=scm
def sO(r:Hy P w K mg C base):gF P w K mg base "joined" 1 ["texts","between"] (Es K):=by
 obtain⟨f,fd,F,mF⟩:=r.d50;have B:=r.B;refine⟨f,fd,?_,F.kp,Ba F λ_ _ _ _ _ _ _ _=>rfl,mF⟩;refine eE F sJ λcdv A outer s H vs Q E hr h=>?_;obtain⟨p,b,us,xs,c,rfl,O,hR,hb,M,hz2,hz3,k⟩:=h;have KZ:us.length=xs.length:=abC hR;refine⟨_,ao (pS sJ 2 (aQ aq))
  (ao (cW abu rfl (Ao rfl B.enumerate (aj (pv 0) aq)) (dM (K:=K) (a:=3) (b:=4) rfl rfl sJ.nd rfl rfl rfl rfl)
   (ao (aZ (aK tH (pv 3) aD (aR _))
    (au (bH (dD aaW adp adq wG (pv 2) (aj (pv 1) aq)))) aO)
   (au (bH (dD aaW adp adq wG (pv 2) (aj (pv 4) aq))))))
  (au (aF (pv 2)))),?_⟩
 refine⟨abe _,λd j=>?_⟩;have U:Same H (upd H d (.lst [])):=Same.aM j;refine⟨_,rfl,p,_,rfl,U.seq O,Ed (K:=K) (a:=p) (xs:=us) (λi t g=>Ex2 λ(z D:Option V)=>dF (t=[some (.ref p),some (.ref b),some (.ref d),z,D]) (Same H g) (g d=some (.lst (dB c (xs.take i)))))
  ⟨none,none,rfl,U,ak⟩ (λi t g _ ⟨_,_,_,e,_⟩=>e.seq O) ?_ ?_⟩
 .rintro i v t g T hi ⟨z,D,rfl,I,u⟩ hT
  obtain⟨x,J,a,rfl,ha⟩:=wJ hR hi;have hix:i<xs.length:=(aaV.mp J).1;have Vs:x∈xs:=aa6 J;have hxl:=M x Vs;have hjl:(dB c (xs.take i)).length<=1000*11000:=by
   have h1:=jO c 10000 (xs.take i) λy r=>M y (ae0 r);have h2:(xs.take i).length<=1000:=by rw[abg];grind
   have h3:(xs.take i).length*(10000+c.length)<=1000*11000:=agk h2 (by grind);grind
  have Y:=Same.aM (o:=.tup [.int ((i:Nat):Int),.ref a]) hT;have m:=I.trans Y;have n:=Y _ _ u;have hsn:dB c (xs.take (i+1))=dB c (xs.take i)++((if xs.take i=[]then[]else c)++x):=by rw[take_snoc J,vp]
  rw[hsn];refine⟨T,_,rfl,bG,rfl,_,_,rfl,_,_,rfl,rfl,?_⟩;refine⟨_,rfl,_,_,rfl,rfl,_,rfl,?_⟩;dsimp only;have N:∀{L:Hp},Same H L->L a=some (.lst x)\/dG K L a x:=λl=>ha.elim (λq=>.inl (l _ _ q)) λq=>.inr (l.bB q);by_cases h0:i=0
  .subst h0
   rw[aaz (by decide)];refine⟨_,rfl,.inl ⟨rfl,_,aV.of n⟩,_,rfl,d,a,_,x,rfl,rfl,n,N m,by rw[aa1];grind,?_⟩;exact⟨some (.int ((0:Nat):Int)),some (.ref a),rfl,m.bW j,by rw[ak];rfl⟩
  .rw[aaU (aaD (by grind))]
   have hne:¬xs.take i=[]:=λe=>by
    have:=congrArg List.length e;rw[abg,acg]at this;grind
   rw[aaz hne];refine⟨_,rfl,.inl ⟨rfl,_,aV.of n⟩,_,rfl,d,b,_,c,rfl,rfl,n,.inl (m _ _ hb),by rw[aa1];grind,?_⟩;have l:=m.bW (o:=.lst (dB c (xs.take i)++c)) j;refine⟨_,rfl,.inl ⟨rfl,_,aV.of ak⟩,_,rfl,d,a,_,x,rfl,rfl,ak,N l,by rw[aad,aa1];grind,?_⟩;exact⟨some (.int ((i:Nat):Int)),some (.ref a),rfl,l.bW j,by rw[ak,ady]⟩
 .rintro t g ⟨z,D,rfl,I,u⟩
  rw[KZ,abp]at u;exact⟨_,rfl,k g d I j u⟩
end CL
namespace L2
open PySem PySem.Spec PyProof.Rows
def K8{X:Cx}{K:Frag}{e:Expr}{t:TE}(f:X.K=K)(h:PE X e t):PE X e (λc H Q=>t c H λv b=>Z0 K b->Q v b):=λpins s c H Q I q=>by
 subst f;exact cV (h pins s c H _ I q) λu k ⟨x,b,d,g,j⟩=>⟨x,b,d,g,j λa o e=>(d.bs a o (d.mod.WX a o e)).2⟩
def Ir{X:Cx}{K:Frag}(h:X.K=K):o_ X (compareOp .In) (rIn K false):=h▸nJ
end L2
namespace CL
open PySem PySem.Spec PyProof.Rows L2 MR Vaneta
theorem any_none:∀l:List (Option Formula),((l.map ofD).any λz=>PyData.eqv z .none)=l.any λo=>o.isNone
|[]=>rfl
|none::l=>by
 rw[aaZ,aeN,aeN];simp[ofD,PyData.eqv]
|some A::l=>by
 rw[aaZ,aeN,aeN,any_none l];simp[ofD,PyData.eqv]
theorem K9:∀l:List (Option Formula),PyData.canLayAll0 (l.map ofD)=true
|[]=>by simp[PyData.canLayAll0]
|o::l=>by
 rw[aaZ];simp[PyData.canLayAll0,(lay_of o).1,K9 l]
def Yi{K:Frag}{H:Hp}{W:Addr}{vs:List V}{l:List (Option Formula)}(h:Paired (OF K H W) vs l):jc K H vs (l.map ofD):=by
 induction h with
 |nil=>exact .nil
 |cons a _ b=>exact .cons (V2 a) b
def OF.but{K:Frag}{H a:Hp}{W:Addr}{zs:List V}(d:H W=some (.lst zs))(b:But W H a){v:V}{o:Option Formula}(h:OF K H W v o):OF K a W v o:=by
 cases o with
 |none=>exact h
 |some A=>
  obtain⟨p,e,f,c⟩:=h;exact⟨p,e,b.fl d f c,c⟩
theorem OF.same{K:Frag}{H a:Hp}{W:Addr}(b:Same H a){v:V}{o:Option Formula}(h:OF K H W v o):OF K a W v o:=by
 cases o with
 |none=>exact h
 |some A=>
  obtain⟨p,e,c,d⟩:=h;exact⟨p,e,c.same b,d⟩
def Yj{K:Frag}{H:Hp}{D p:Addr}{vs:List V}{os:List (Option Formula)}{A:Formula}(j:H D=some (.lst vs))(h:Paired (OF K H D) vs os)(k:Z0 K H)(l:Fl K H p (flat A)):p≠D:=by
 rintro rfl;obtain⟨s,f,e⟩:=l;rw[j]at f;cases f;have g:=e.len;rw[aC]at g;have q:=ni A;generalize flat A=u at e;cases h with
 |nil=>simp at g;grind
 |@cons v o vs os a t=>
  cases e with
  |cons b _=>
   obtain⟨w,x,rfl,c,y⟩:=b;cases o with
   |none=>exact absurd a (by intro z;cases z)
   |some B=>
    obtain⟨C,m,⟨us,d,E⟩,_⟩:=a;cases m;rcases c with(c|⟨o,c⟩)|⟨o,r,n,c,_⟩
    .rw[d]at c;cases c
    .rw[d]at c;cases c
    .rw[k _ _ c]at d;cases d
inductive K_(K:Frag)(vs:List V)(H:Hp)(Q:VK)(e3:XK):Prop
|mk (p:Addr) (t:Text) (_:vs=[.ref p]) (_:aV K H p (tv t)) (_:t.length<=100000) (_:sequentOf t=none->∀H',Same H H'->Q .non H') (_:∀s,sequentOf t=some s->∀(H':Hp)(q:Addr),Same H H'->H q=none->Held K H' q s->Q (.ref q) H')
def jY:aJ ["text","parts","formulas","byte","part"] ["text"] (aA (top 68)):=scm
def Et(l:Hy P w K mg C base):gF P w K mg base "sequent_in" 8 ["text"] (K_ K):=by
 obtain⟨f,fd,F,mF⟩:=l.d51;have B:=l.B;have g32:=l.qI;have g44:=l.J4;have g20:=l.uh;obtain⟨f1,k_,G1,k1,b1,m1⟩:=wQ l;obtain⟨f2,fd2,G2,k2,b2,m2⟩:=Rw l;refine⟨f,fd,?_,F.kp,pF F λ_ _ _ _ _ _ _=>rfl,mF⟩;refine eE F jY λcdv A outer s H vs Q E U h=>?_;obtain⟨p,t,rfl,hp,hz,kN,kS⟩:=h;have hr1:bI 1 _:=U.mono (by decide);have hu:=U.units;refine⟨_,ao (aZ (cu (aY (pq rfl) (by rfl) B.all agO (aj (iJ (own:=[("byte",3)]) rfl jY.nd (dZ (pv 0)) (bQ (N:=["text","parts","formulas","byte","part"]) (sc:=aA (top 68)) (by decide+kernel)) (λ_ _ _ _ _=>pN jY 3) (λ_ _ _ _ _=>dj)
   (λ_ _ _ _ _=>jq dU (pv 3) (cX g32) (aR _))) aq))) (au (aF (aQ aq))) aO)
  (ao (pS jY 1 (aB G1 hr1 rfl m1 k1 b1 .nil aH (aj (pv 0) (aj (cX g44) aq))))
  (ao (aZ (aK tH (aY aX (by rfl) B.len ab8 (aj (pv 1) aq)) (cX g20) (aR _)) (au (aF b_)) aO)
  (ao (mK (i:=2) (own:=[("part",4)]) rfl jY.nd rfl rfl (qG rfl rfl rfl (by decide+kernel)) (dZ (pv 1)) (bQ (N:=["text","parts","formulas","byte","part"]) (sc:=aA (top 68)) (by decide+kernel)) (λ_ _ _ _ _=>pN jY 4) (λ_ _ _ _ _=>dj)
   (λ_ _ _ _ _=>K8 (K:=K) rfl (aB G2 U rfl m2 k2 b2 .nil aH (aj (pv 4) aq))))
  (au (aF (dO (aK (rQ hu) b_ (pv 2) (by rfl)) b_ (pv 2))))))),?_⟩
 have e32:∀c:UInt8,V.bl (decide (V.int (bi c)=V.int 32))=V.bl (c==32):=λc=>by
  congr 1
  by_cases h:c=32
  .subst h;rfl
  .have I:¬(V.int (bi c)=V.int 32):=λz=>h (oO (b:=32) (V.int.inj z))
   rw[aat I]
   symm
   simpa using h
 have d:sequentOf t=if t.all (λb=>b==32)=true then some []else if 20<(cutAt 44 t).length then none else allOf ((cutAt 44 t).map formulaOf):=rfl;dsimp only[uf,W3,tB,JQ,d_,iB];refine gM (a:=p) (xs:=tv t) rfl (.inl hp) λD hD=>⟨λi g=>Same H g/\g D=some (.lst ((t.take i).map λc=>V.bl (c==32))),⟨Same.aM hD,ak⟩,λi g p=>p.1,?_,?_⟩
 .rintro i x g Y ⟨u,O⟩
  obtain⟨c,hc,rfl⟩:=qK Y;have hil:i<t.length:=(aaV.mp hc).1;refine⟨rfl,_,rfl,rfl,_,O,?_,u.bW hD,?_⟩
  .rw[aac,abg,aa1];omega
  .rw[ak,take_snoc hc,aaY]
   show some (HO.lst (_++[V.bl (decide (V.int (bi c)=V.int 32))]))=_;rw[e32];rfl
 .rintro H1 ⟨u,O⟩
  rw[jG,abp]at O;refine⟨D,t.map (λc=>c==32),rfl,aV.of (by rw[O,abL];rfl),_,rfl,?_⟩;have acq:(t.map λc=>c==32).all id=t.all λb=>b==32:=by rw[aeo];rfl
  rw[acq];by_cases L:t.all (λb=>b==32)=true
  .rw[aaU L]at d
   rw[aaU L];refine⟨abe _,λq hq=>?_⟩;exact kS [] d _ q (u.trans (Same.aM hq)) (u.free hq) ⟨[],ak,.nil⟩
  .rw[aaz L]at d
   rw[aaz L];refine⟨_,rfl,p,t,44,rfl,u.seq hp,hz,λH2 q us s2 hq hql hX=>?_⟩;have T:=u.trans s2;have KZ:us.length=(cutAt 44 t).length:=abC hX;refine⟨_,rfl,q,_,rfl,.inl (aV.of hql),_,_,rfl,rfl,_,rfl,?_⟩;rw[KZ];by_cases h20:20<(cutAt 44 t).length
   .rw[aaU h20]at d
    rw[aaD (by omega:(20:Int)<((cutAt 44 t).length:Int))];exact bD (kN d H2 T)
   .rw[aaz h20]at d
    rw[aat (by omega:¬(20:Int)<((cutAt 44 t).length:Int))];refine bF ?_;dsimp only[yF,uf,qz];refine gM (a:=q) (xs:=us) rfl (.inl (aV.of hql)) (λy M=>⟨λi g=>∃vs,dF (Same H2 g) (g y=some (.lst vs)) (Paired (OF K g y) vs (((cutAt 44 t).take i).map formulaOf)),⟨[],Same.aM M,ak,.nil⟩,λi g ⟨_,e,_,_⟩=>e,?_,?_⟩)
    .rintro i v g Y ⟨vs,J,n,j⟩
     obtain⟨x,hx,a,rfl,ha,_⟩:=wJ hX Y;have hvl:vs.length<=20:=by
      have:=abC j;rw[aac,abg]at this;omega
     have hnext:((cutAt 44 t).take (i+1)).map formulaOf=((cutAt 44 t).take i).map formulaOf++[formulaOf x]:=by rw[take_snoc hx,aaY];rfl
     refine⟨rfl,_,rfl,a,x,rfl,aV.of (J _ _ ha),λI H4 m hk=>?_,λA hA H4 pp m hF hk=>?_⟩
     .have k:=m _ _ n
      refine⟨vs,k,by rw[aa1];omega,vs++[.non],(J.trans m).bW M,ak,?_⟩;rw[hnext];refine adW (Paired.dY j λ_ _ z=>(z.same m).but k But.upd) ?_;rw[I];rfl
     .have k:=m _ _ n
      have hO4:=Paired.dY j λ_ _ (z:OF K g y _ _)=>z.same m;have hpD:pp≠y:=Yj k hO4 hk hF;refine⟨vs,k,by rw[aa1];omega,vs++[.ref pp],(J.trans m).bW M,ak,?_⟩;rw[hnext];refine adW (Paired.dY hO4 λ_ _ z=>z.but k But.upd) ?_;rw[hA];exact⟨pp,rfl,But.upd.fl k hF hpD,hpD⟩
    .rintro H3 ⟨vs,J,n,j⟩
     rw[KZ,abp]at j;have Bs:=T.trans J;refine⟨_,rfl,y,vs,_,.none,rfl,aV.of n,Yi j,K9 _,by simp[PyData.depth],.non,by simp[PyData.canLay0],_,rfl,?_⟩;rw[any_none];cases hal:allOf ((cutAt 44 t).map formulaOf)with
     |none=>
      obtain⟨x,hx,I⟩:=vq hal;have:(((cutAt 44 t).map formulaOf).any λo=>o.isNone)=true:=agP.mpr ⟨none,aa5.mpr ⟨x,hx,I⟩,rfl⟩;rw[this];rw[hal]at d;exact bD (kN d H3 Bs)
     |some sq=>
      have hm:=oV hal;rw[hm]at j;rw[hm];have:((sq.map some).any λo:Option Formula=>o.isNone)=false:=by
       rw[afy];intro o ho;obtain⟨A,_,rfl⟩:=aa5.mp ho;simp
      rw[this];rw[hal]at d;refine bF ⟨_,rfl,kS sq d H3 y Bs (T.free M) ⟨vs,n,?_⟩⟩
      clear hm hal d this n
      induction sq generalizing vs with
      |nil=>cases j;exact .nil
      |cons A sq ih=>
       cases j with
       |cons a r=>exact .cons a (ih _ r)
def Nu{K:Frag}{H:Hp}{z:Addr}{vs:List V}{s:List Formula}(h:Paired (YG K H z) vs s):∃xs,sI K H vs xs/\Paired (λx A=>jH K H x (flat A)) xs s:=by
 induction h with
 |nil=>exact⟨[],.nil,.nil⟩
 |cons a _ b=>
  obtain⟨xs,c,d⟩:=b;obtain⟨p,e,⟨f,g,j⟩,_⟩:=a;exact⟨f::xs,.cons ⟨p,e,.inl g⟩ c,.cons j d⟩
def Nv{K:Frag}{H:Hp}{xs:List (List V)}{s:List Formula}(h:Paired (λx A=>jH K H x (flat A)) xs s):jH K H xs.flatten (flats s):=by
 induction h with
 |nil=>exact .nil
 |cons a _ b=>
  rw[List.flatten_cons,bA];exact a.append b
def RX{K:Frag}{H:Hp}{xs:List (List V)}{s:List Formula}(h:Paired (λx A=>jH K H x (flat A)) xs s)(n:Nat):(∀A∈s,nodes A<=n)->∀x∈xs,x.length<=n:=by
 induction h with
 |nil=>intro _ x b;cases b
 |cons a _ d=>
  intro c x b;rcases aa2.mp b with rfl|b
  .rw[a.len,aC];exact c _ aa0
  .exact d (λA e=>c A (aaX _ e)) x b
def Held.len{K:Frag}{H:Hp}{p:Addr}{s:List Formula}(h:Held K H p s):∃vs,dF (H p=some (.lst vs)) (vs.length=s.length) (Paired (YG K H p) vs s):=let⟨vs,h1,h2⟩:=h;⟨vs,h1,abC h2,h2⟩
def wR(s:List Formula):Prop:=s.length<=20/\∀A∈s,Em A
inductive zf(K:Frag)(vs:List V)(H:Hp)(Q:VK)(e3:XK):Prop
|mk (p:Addr) (s:List Formula) (_:vs=[.ref p]) (_:Held K H p s) (_:wR s) (_:Back K H (flats s) Q)
def Iu:aJ ["sequent"] ["sequent"] (aA (top 69)):=scm
def wU(c:Hy P w K mg C base):gF P w K mg base "nodes_in" 2 ["sequent"] (zf K):=by
 obtain⟨f,j,F,l⟩:=c.d52;obtain⟨U,N,m,n,r,t⟩:=sO c;refine⟨f,j,?_,F.kp,pF F λ_ _ _ _ _ _ _=>rfl,l⟩;refine eE F Iu λO A outer s H vs Q E u h=>?_;obtain⟨p,sq,rfl,v,hs,k⟩:=h;refine⟨_,au (aF (aB m u rfl t n r .nil aH (aj (pv 0) (aj (aQ aq) aq)))),?_⟩;refine⟨_,rfl,abe _,λe y=>?_⟩;have a:=Same.aM (o:=.lst []) y;obtain⟨vs,z,Y,B⟩:=(v.same a).len;obtain⟨xs,D,b⟩:=Nu B;have T:xs.length=sq.length:=abC b;refine⟨p,e,vs,xs,[],rfl,aV.of z,D,ak,λx I=>?_,abe _,by have:=hs.1;grind,λJ q d L g=>?_⟩
 .have:=RX b 200 (λA M=>(hs.2 A M).nodes) x I
  grind
 .rw[yt]at g
  exact k J q (a.trans d) (a.free L) ⟨_,g,(Nv b).same d⟩
inductive La(K:Frag)(vs:List V)(H:Hp)(Q:VK)(e3:XK):Prop
|mk (p:Addr) (s:List Formula) (_:vs=[.ref p]) (_:Held K H p s) (_:wR s) (_:∀(H':Hp)(q:Addr),Same H H'->H q=none->H' q=some (.lst (tv (sequentForm s)))->Q (.ref q) H')
def wV:aJ ["sequent","formula"] ["sequent"] (aA (top 72)):=scm
def RZ(j:Hy P w K mg C base):gF P w K mg base "sequent_form" 4 ["sequent"] (La K):=by
 obtain⟨f,fd,F,mF⟩:=j.d53;have J:=j.qI;have L:=j.J4;obtain⟨f1,k_,G1,k1,b1,m1⟩:=sO j;obtain⟨f2,fd2,G2,k2,b2,m2⟩:=uK j;refine⟨f,fd,?_,F.kp,pF F λ_ _ _ _ _ _ _=>rfl,mF⟩;refine eE F wV λcdv A outer s H vs Q E y h=>?_;obtain⟨p,sq,rfl,hH,hs,k⟩:=h;have M:bI 1 _:=y.mono (by decide);obtain⟨vs,h1,h2,h3⟩:=hH.len;refine⟨_,au (aF (aB G1 M rfl m1 k1 b1 .nil aH (aj (iJ (own:=[("formula",1)]) rfl wV.nd (dZ (pv 0)) (bQ (N:=["sequent","formula"]) (sc:=aA (top 72)) (by decide+kernel)) (λ_ _ _ _ _=>pN wV 1) (λ_ _ _ _ _=>dj)
   (λ_ _ _ _ _=>aB G2 y rfl m2 k2 b2 .nil aH (aj (pv 1) aq))) (aj (aQ (aj (cX L) (aj (cX J) aq))) aq)))),?_⟩
 dsimp only[Ac,vR,d_,iB];refine gM (a:=p) (xs:=vs) rfl (.inl (aV.of h1)) λD z=>⟨λi d=>∃us,dF (Same H d) (d D=some (.lst us)) (Og D d us ((sq.take i).map form)),⟨[],Same.aM z,ak,.nil⟩,λi d ⟨_,e,_,_⟩=>e,?_,?_⟩
 .rintro i v d hi ⟨us,l,m,g⟩
  obtain⟨B,n,a,rfl,ha,hap⟩:=wJ h3 hi;have I:=hs.2 B (aa6 n);have hw:=I.wt;have KZ:us.length<=20:=by
   have:=abC g;rw[aac,abg]at this;have:=hs.1;omega
  refine⟨rfl,_,rfl,a,_,rfl,ha.same l,by omega,λH2 q c r O=>?_⟩;have T:q≠D:=λe=>by subst e;rw[m]at r;cases r
  have U:=c _ _ m;refine⟨us,U,by rw[aa1];omega,us++[.ref q],(l.trans c).bW z,ak,?_⟩;rw[take_snoc n,aaY];exact((g.same c).snoc (t:=form B) (by rw[gO];exact O) T).but But.upd
 .rintro d ⟨us,l,m,g⟩
  rw[h2,abp]at g;refine⟨(by show 2<=sizeLine;decide),λe he=>?_⟩;have c:=Same.aM (o:=.lst [.int 44,.int 32]) he;refine⟨D,e,us,(sq.map form).map tv,_,rfl,aV.of (c _ _ m),?_,ak,?_,(by show 2<=1000;decide),?_,λH3 q s3 r Y=>?_⟩
  .have u:=g.same c
   clear g m
   generalize sq.map form=ts at u
   induction u with
   |nil=>exact .nil
   |cons a _ ih=>
    obtain⟨b,e1,e2,_⟩:=a;exact .cons ⟨b,e1,.inl e2⟩ ih
  .intro x hx
   obtain⟨t,ht,rfl⟩:=aa5.mp hx;obtain⟨B,n,rfl⟩:=aa5.mp ht;have h5:=cQ B;have h6:=(hs.2 B n).wt;rw[jG];omega
  .rw[aac,aac]
   have:=hs.1;omega
  .refine k H3 q ((l.trans c).trans s3) ((l.trans c).free r) ?_
   rw[Y,kI];unfold tv;rw[nD];rfl
theorem sS(t:Bool)(a:Name):∀s:List Formula,cnt (flats s) (wM t) (nm a)=countOf (seqLeaves s) t a
|[]=>rfl
|A::s=>by
 rw[bA,cnt_append,dI,sS t a s];show _=countOf (leaves A++seqLeaves s) t a;rw[eZ]
theorem mZ:∀s:List Formula,gj (flats s)=(seqLeaves s).map λy=>nm y.2
|[]=>rfl
|A::s=>by
 have a:=mZ s;unfold gj at a⊢;rw[bA,adn,aaY,a,gn,abL];show _=(leaves A++seqLeaves s).map _;rw[aaY];rfl
def Eu(s:List Formula):Kinds (flats s):=by
 intro x a;unfold flats at a;obtain⟨A,_,h⟩:=List.mem_flatMap.mp a;exact cA A x h
def xW{s:List Formula}(h:wR s):(seqLeaves s).length<=1200:=by
 have c:∀s:List Formula,(∀A∈s,Em A)->(seqLeaves s).length<=60*s.length:=by
  intro s
  induction s with
  |nil=>intro _;exact aaS _
  |cons A s d=>
   intro b;have e:=d λB f=>b B (aaX _ f);have a:=(b A aa0).1;unfold inBounds at a;simp only[aa8,ab1]at a;show(leaves A++seqLeaves s).length<=_;rw[aad,dN,aae];grind
 have e:=c s h.2;have a:=h.1;have:60*s.length<=60*20:=ae_ _ a;grind
def zj{s:List Formula}(h:wR s):(flats s).length<=4000:=by
 have c:∀s:List Formula,(∀A∈s,Em A)->(flats s).length<=200*s.length:=by
  intro s
  induction s with
  |nil=>intro _;exact aaS _
  |cons A s d=>
   intro a;have e:=d λB f=>a B (aaX _ f);have b:=(a A aa0).nodes;rw[bA,aad,aC,aae];grind
 have e:=c s h.2;have b:=h.1;have:200*s.length<=200*20:=ae_ _ b;grind
def zm{A:Formula}(h:∀x∈leaves A,isName x.2=true):∀x∈flat A,pc x.1=0->x.2≠[]:=by
 intro x d f;have a:x∈(flat A).filter λx=>decide (pc x.1=0):=aez.mpr ⟨d,aaD f⟩;rw[gn]at a;obtain⟨y,g,rfl⟩:=aa5.mp a;have c:=h y g;intro e;have:y.2=[]:=cN (b:=[]) e;rw[this]at c;exact absurd c (by decide)
def Ew(x:Nd):Bool:=inV (.int x.1) [.int 6,.int 7,.int 0,.int 1]
theorem jZ:∀A:Formula,(flat A).all Ew=multiplicative A
|.atom n a=>by cases n<;>rfl
|.tensor A B=>by
 rw[show flat (.tensor A B)=(0,[])::(flat A++flat B)from rfl,ado,af2,jZ A,jZ B];rfl
|.par A B=>by
 rw[show flat (.par A B)=(1,[])::(flat A++flat B)from rfl,ado,af2,jZ A,jZ B];rfl
|.wth A B=>by
 rw[show flat (.wth A B)=(2,[])::(flat A++flat B)from rfl,ado];rfl
|.plus A B=>by
 rw[show flat (.plus A B)=(3,[])::(flat A++flat B)from rfl,ado];rfl
|.ofc A=>by
 rw[show flat (.ofc A)=(4,[])::flat A from rfl,ado];rfl
|.whn A=>by
 rw[show flat (.whn A)=(5,[])::flat A from rfl,ado];rfl
theorem wW:∀s:List Formula,(flats s).all Ew=s.all multiplicative
|[]=>rfl
|A::s=>by rw[bA,af2,jZ,wW s,ado]
inductive R6(K:Frag)(vs:List V)(H:Hp)(Q:VK)(e3:XK):Prop
|mk (p:Addr) (s:List Formula) (_:vs=[.ref p]) (_:Held K H p s) (_:wR s) (_:∀H',Same H H'->Q (.bl (s.all multiplicative)) H')
def Bt:aJ ["sequent","kind","name"] ["sequent"] (aA (top 71)):=scm
def Ve(c:Hy P w K mg C base):gF P w K mg base "is_multiplicative" 3 ["sequent"] (R6 K):=by
 obtain⟨f,u,F,y⟩:=c.d54;have B:=c.B;have z:=c.qJ;have I:=c.Qs;have J:=c.jw;have L:=c.je;obtain⟨f1,k_,M,O,T,U⟩:=wU c;refine⟨f,u,?_,F.kp,pF F λ_ _ _ _ _ _ _=>rfl,y⟩;refine eE F Bt λcdv A outer s H vs Q E Y h=>?_;obtain⟨p,sq,rfl,hH,hs,k⟩:=h;refine⟨_,au (aF (aY (pq rfl) (by rfl) B.all agO (aj (iJ (own:=[("kind",1),("name",2)]) rfl Bt.nd (dZ (aB M Y rfl U O T .nil aH (aj (pv 0) aq))) (bQ (N:=["sequent","kind","name"]) (sc:=aA (top 71)) (by decide+kernel))
  (λ_ _ _ _ _=>dM (K:=K) (a:=1) (b:=2) rfl rfl Bt.nd rfl rfl rfl rfl) (λ_ _ _ _ _=>dj)
  (λ_ _ _ _ _=>jq (Ir (K:=K) rfl) (pv 1) (dw (aj (cX J) (aj (cX L) (aj (cX z) (aj (cX I) aq))))) (by rfl))) aq))),?_⟩
 dsimp only[Ac,JQ,d_,iB];refine .inl ⟨_,rfl,p,sq,rfl,hH,hs,λH1 q s1 hq hF=>?_⟩;obtain⟨ws,hw,l⟩:=hF;have r:=l.len;have hfl:=zj hs;refine⟨q,rfl,⟨_,aV.of hw⟩,λD m=>uE (xs:=ws) (λi d=>Same H1 d/\d D=some (.lst (((flats sq).take i).map λx=>V.bl (Ew x)))) ⟨Same.aM m,ak⟩ (λi d _ e=>aV.of (e.1 _ _ hw)) ?_ ?_⟩
 .rintro i v d hi ⟨g,j⟩
  obtain⟨x,hx,pt,qx,rfl,h1,h2⟩:=l.get hi;refine⟨pt,_,rfl,g.bB h1,rfl,_,_,rfl,_,_,rfl,rfl,rfl,?_⟩;refine⟨_,rfl,(by show 4<=sizeLine;decide),λt ht=>⟨t,_,rfl,.inr bG,rfl,rfl,?_⟩⟩;have n:=Same.aM (o:=.tup [.int 6,.int 7,.int 0,.int 1]) ht;refine⟨_,n _ _ j,?_,(g.trans n).bW m,?_⟩
  .rw[aac,abg,aa1];omega
  .rw[ak,take_snoc hx,aaY]
   rfl
 .rintro d ⟨g,j⟩
  rw[r,abp]at j;refine⟨D,(flats sq).map Ew,rfl,aV.of (by rw[j,abL];rfl),?_⟩;rw[aeo];have e:(flats sq).all (id∘Ew)=sq.all multiplicative:=wW sq;rw[e];exact k d (s1.trans g)
end CL
namespace L2
open PySem PySem.Spec PyProof.Rows
def zp{X:Cx}{K:Frag}{A:Around}(hu:A.in1.units+64<cLine)(a:X.A=A)(h:X.K=K):Zt X "list.count" (Br K):=by
 subst a h;exact sE hu
def R7{X:Cx}{K:Frag}{o e:Expr}{a:List Expr}{d:TE}{t:TA}{name:Str}{c b:Pos}{T id:String}{r:V->List V->Hp->VK->Prop}(m:X.K=K)(n:PlainAttrs T)(slot:Slot T name id)(l:typeOf (.builtin id)=pure (.type "method_descriptor"))(p:Zt X id r)(q:PE X o d)(s:PA X (e::a) t)
  (g:attributeBase o name X.env (eval o X.env)=eval o X.env:=by rfl)
  (k:((backTo b (starEach (e::a) X.env)).all (λx=> !x.1)&&(backToKw b (keywordEach [] X.env)).all (λx=>x.1.isSome)&&decide ((e::a).length+([]:List Keyword).length+(if([]:List Keyword).isEmpty then 0 else 1)<30))=true:=by rfl)
  (j:(c.endLine==b.line)=true:=by rfl)(hs:starEach (e::a) X.env=(false,eval e X.env)::starEach a X.env:=by rfl)(f:(backTo b (starEach a X.env)).any (·.1)=false:=by rfl):
  PE X (.Call (.Attribute o name c) (e::a) [] b) (tBM K T r d t):=m▸dD n slot l p q s g k j hs f
end L2
namespace CL
open PySem PySem.Spec PyProof.Rows L2 MR Vaneta
inductive V_(K:Frag)(vs:List V)(H:Hp)(Q:VK)(e3:XK):Prop
|mk (p:Addr) (s:List Formula) (_:vs=[.ref p]) (_:Held K H p s) (_:wR s) (_:∀H',Same H H'->Q (.bl (balanced s)) H')
def Bu:aJ ["sequent","nodes","name"] ["sequent"] (aA (top 70)):=scm
def Yk(b:Hy P w K mg C base):gF P w K mg base "is_balanced" 3 ["sequent"] (V_ K):=by
 obtain⟨f,fd,F,mF⟩:=b.d55;have B:=b.B;have g6:=b.jw;have g7:=b.je;obtain⟨f1,k_,G1,k1,b1,m1⟩:=wU b;obtain⟨f2,fd2,G2,k2,b2,m2⟩:=mR b;refine⟨f,fd,?_,F.kp,pF F λ_ _ _ _ _ _ _=>rfl,mF⟩;refine eE F Bu λcdv A outer s H vs Q E m h=>?_;obtain⟨p,sq,rfl,hH,hs,k⟩:=h;have hr1:bI 1 _:=m.mono (by decide);have J:∀B:Around,bI 2 B->B.in1.units+64<cLine:=λB r=>by
  have:=r.un;show B.units+1+64<_;grind
 refine⟨_,ao (Ad (i:=1) Bu.nd rfl (Or.inr rfl) (aB G1 m rfl m1 k1 b1 .nil aH (aj (pv 0) aq)))
  (au (aF (aY (pq rfl) (by rfl) B.all agO (aj (iJ (own:=[("name",2)]) rfl Bu.nd (dZ (aB G2 hr1 rfl m2 k2 b2 .nil aH (aj (pv 1) aq))) (bQ (N:=["sequent","nodes","name"]) (sc:=aA (top 70)) (by decide+kernel))
  (λ_ _ _ _ _=>pN Bu 2) (λ_ _ _ _ _=>dj)
  (λ_ _ _ _ _=>jq dU (R7 (K:=K) rfl aaW aeI aeJ (zp (K:=K) (J _ m) rfl rfl) (pv 1) (aj (dw (aj (cX g6) (aj (pv 2) aq))) aq))
   (R7 (K:=K) rfl aaW aeI aeJ (zp (K:=K) (J _ m) rfl rfl) (pv 1) (aj (dw (aj (cX g7) (aj (pv 2) aq))) aq)) (aR _))) aq)))),?_⟩
 refine⟨_,rfl,p,sq,rfl,hH,hs,λH1 q s1 hq Y=>?_⟩;have hfl:=zj hs;have hsl:=xW hs;have hnm:∀x∈flats sq,pc x.1=0->x.2≠[]:=λx hx=>by
  unfold flats at hx;obtain⟨A,hA,h⟩:=List.mem_flatMap.mp hx;exact zm (hs.2 A hA).2 x h
 refine .inl ⟨_,rfl,q,_,rfl,Y,Eu sq,⟨by grind,by rw[mZ,aac];grind⟩,hnm,λH2 qn ys s2 hqn L hN tM hmem=>?_⟩;have M:ys.map (·.1)=(namesOf (seqLeaves sq)).map nm:=fC tM (λx=>by rw[hmem x,mZ]);have hyl:ys.length<=1200:=by
  have I:=congrArg List.length M;rw[aac,aac]at I;have h2:=jz (seqLeaves sq);grind
 have hrl:(rf ys).length=ys.length:=aac _;refine⟨qn,rfl,⟨_,aV.of L⟩,λD hD=>uE (xs:=rf ys) (λi c=>Same H2 c/\c D=some (.lst ((ys.take i).map λy=>V.bl (decide (V.int ((cnt (flats sq) 6 y.1:Nat):Int)=V.int ((cnt (flats sq) 7 y.1:Nat):Int)))))) ⟨Same.aM hD,ak⟩ (λi c _ e=>aV.of (e.1 _ _ L)) ?_ ?_⟩
 .rintro i v c hi ⟨g,u⟩
  obtain⟨y,b,rfl⟩:=qK hi;have YK:=s2.trans g;have O:=g.bB (hN y (aa6 b));have T:∀z∈(flats sq).map rR,SeqAt.shaped z=true:=λz hz=>by
   obtain⟨x,_,rfl⟩:=aa5.mp hz;exact gB x
  obtain⟨ws,l,U⟩:=Y.same YK;refine⟨rfl,_,rfl,.inl ⟨rfl,_,aV.of l⟩,_,rfl,(by show 2<=sizeLine;decide),λt ht=>?_⟩;have j:=Same.aM (o:=.tup [.int 6,.ref y.2]) ht;refine⟨q,ws,(flats sq).map rR,.ref t,V7 6 y.1,rfl,rfl,j _ _ l,rT (U.same j),T,.tup bG (.cons (.int _) (.cons (gY (j.bB O)) .nil)),gB (6,y.1),?_⟩;refine⟨_,rfl,.inl ⟨rfl,_,aV.of (j _ _ l)⟩,_,rfl,(by show 2<=sizeLine;decide),λt2 ht2=>?_⟩;have s5:=Same.aM (o:=.tup [.int 7,.ref y.2]) ht2;have d:=j.trans s5;refine⟨q,ws,(flats sq).map rR,.ref t2,V7 7 y.1,rfl,rfl,d _ _ l,rT (U.same d),T,.tup bG (.cons (.int _) (.cons (gY (d.bB O)) .nil)),gB (7,y.1),rfl,?_⟩;refine⟨_,d _ _ u,?_,(g.trans d).bW hD,?_⟩
  .rw[aac,abg,aa1];grind
  .rw[ak,take_snoc b,aaY]
   rfl
 .rintro c ⟨g,u⟩
  rw[hrl,abp]at u;refine⟨D,ys.map λy=>decide (V.int ((cnt (flats sq) 6 y.1:Nat):Int)=V.int ((cnt (flats sq) 7 y.1:Nat):Int)),rfl,aV.of (by rw[u,abL];rfl),?_⟩;have e:((ys.map λy=>decide (V.int ((cnt (flats sq) 6 y.1:Nat):Int)=V.int ((cnt (flats sq) 7 y.1:Nat):Int))).all id)=balanced sq:=by
   rw[aeo];have I:(ys.map (·.1)).all (λn=>decide (V.int ((cnt (flats sq) 6 n:Nat):Int)=V.int ((cnt (flats sq) 7 n:Nat):Int)))=balanced sq:=by
    rw[M,aeo];unfold balanced
    congr 1
    funext a
    have h6:cnt (flats sq) 6 (nm a)=countOf (seqLeaves sq) false a:=sS false a sq;have h7:cnt (flats sq) 7 (nm a)=countOf (seqLeaves sq) true a:=sS true a sq;show decide _=_;rw[h6,h7];by_cases q:countOf (seqLeaves sq) false a=countOf (seqLeaves sq) true a
    .rw[q];simp
    .rw[aat (λz=>q (by have:=V.int.inj z;grind))]
     symm
     simpa using q
   rw[<-I,aeo];rfl
  rw[e];exact k c ((s1.trans s2).trans g)
end CL
namespace L2
open PySem PySem.Spec PyProof.Rows
def wX{X:Cx}{K:Frag}(h:X.K=K):iW X (.type "tuple") (λxs H Q=>Ex2 λp ys=>xs=[.ref p]/\((aV K H p ys/\∀l,H l=none->Q (.ref l) (upd H l (.tup ys)))\/(dG K H p ys/\Q (.ref p) H))):=h▸fU
end L2
namespace CL
open PySem PySem.Spec PyProof.Rows L2 MR Vaneta
inductive Ey(K:Frag)(vs:List V)(H:Hp)(Q:VK)(e3:XK):Prop
|mk (p:Addr) (t:Text) (_:vs=[.ref p]) (_:aV K H p (tv t)) (_:t.length<=100000) (_:namesIn t=none->∀H',Same H H'->Q .non H') (_:∀ns,namesIn t=some ns->∀(H':Hp)(q:Addr)(ks:List (List Int×Addr)),Same H H'->H q=none->H' q=some (.lst (rf ks))->Kc K H' ks->ks.map (·.1)=ns.map nm->Q (.ref q) H')
def j4:aJ ["text","names","stretch","name"] ["text"] (aA (top 75)):=scm
def Ny(d:Hy P w K mg C base):gF P w K mg base "choice_in" 4 ["text"] (Ey K):=by
 obtain⟨f,fd,F,mF⟩:=d.d56;have B:=d.B;have g32:=d.qI;obtain⟨f1,k_,G1,k1,b1,m1⟩:=wQ d;obtain⟨f2,fd2,G2,k2,b2,m2⟩:=qL d;refine⟨f,fd,?_,F.kp,pF F λ_ _ _ _ _ _ _=>rfl,mF⟩;refine eE F j4 λcdv A outer s H vs Q E U h=>?_;obtain⟨p,t,rfl,hp,hz,kN,kS⟩:=h;have hr1:bI 1 _:=U.mono (by decide);have hu:=U.units;refine⟨_,ao (aZ (aK (pA hu) (pv 0) (aQ aq) (aR _)) (au (aF (aQ aq))) aO)
  (ao (mK (i:=1) (own:=[("stretch",2)]) rfl j4.nd rfl rfl (qG rfl rfl rfl (by decide+kernel)) (dZ (aB G1 hr1 rfl m1 k1 b1 .nil aH (aj (pv 0) (aj (cX g32) aq)))) (bQ (N:=["text","names","stretch","name"]) (sc:=aA (top 75)) (by decide+kernel)) (λ_ _ _ _ _=>pN j4 2) (λ_ _ _ _ _=>dj)
   (λ_ _ _ _ _=>fJ (wX (K:=K) rfl) (by rfl) B.tuple ag0 (aj (pv 2) aq)))
  (au (aF (dO (cu (aY (pq rfl) (by rfl) B.all agO (aj (iJ (own:=[("name",3)]) rfl j4.nd (dZ (pv 1)) (bQ (N:=["text","names","stretch","name"]) (sc:=aA (top 75)) (by decide+kernel)) (λ_ _ _ _ _=>pN j4 3) (λ_ _ _ _ _=>dj)
   (λ_ _ _ _ _=>aB G2 U rfl m2 k2 b2 .nil aH (aj (pv 3) aq))) aq))) (pv 1) b_)))),?_⟩
 refine⟨_,rfl,abe _,λe j=>?_⟩;have r:=Same.aM (o:=.lst []) j;refine Bf (a:=nm t) (b:=[]) (by rw[<-gO];exact r.seq hp) (aV.of ak) ⟨_,rfl,?_⟩;by_cases Y:t=[]
 .subst Y
  rw[aaD (show nm []=[]from rfl)];refine bD ⟨abe _,λq hq=>?_⟩;exact kS [] rfl _ q [] (r.trans (Same.aM hq)) (r.free hq) ak (λx k=>by cases k) rfl
 .rw[aat (show ¬nm t=[]from λz=>Y (cN (b:=[]) z))]
  have L:namesIn t=if(cutAt 32 t).all isName=true then some (cutAt 32 t)else none:=by
   unfold Vaneta.namesIn;rw[aaz (by simpa using Y)]
  refine bF ?_;dsimp only[yF,uf,qz];refine(.inl ⟨_,rfl,p,t,32,rfl,r.seq hp,hz,λH2 q us s2 hq hql hX=>?_⟩);have hcl:=vo 32 t;have KZ:us.length=(cutAt 32 t).length:=abC hX;refine⟨q,rfl,⟨_,aV.of hql⟩,λD hD=>uE (xs:=us) (λi m=>∃ks,lM (Same H2 m) (m D=some (.lst (rf ks))) (Kc K m ks) (ks.map (·.1)=((cutAt 32 t).take i).map nm)) ⟨[],Same.aM hD,ak,λx k=>(by cases k),rfl⟩ (λi m _ ⟨_,e,_,_,_⟩=>aV.of (e _ _ hql)) ?_ ?_⟩
  .rintro i v m hi ⟨ks,O,u,T,j⟩
   obtain⟨x,k,a,rfl,I,_⟩:=wJ hX hi;have hkl:ks.length<=100001:=by
    have:=congrArg List.length j;rw[aac,aac,abg]at this;omega
   refine⟨rfl,_,rfl,a,_,rfl,.inl ⟨aV.of (O _ _ I),λl hl'=>?_⟩⟩;have g:=Same.aM (o:=.tup (tv x)) hl';refine⟨rf ks,g _ _ u,by rw[aac,aa1];omega,ks++[(nm x,l)],(O.trans g).bW hD,?_,?_,?_⟩
   .rw[ak]
    unfold rf;rw[aaY];rfl
   .have hT:cP m (upd (upd m l (.tup (tv x))) D (.lst (rf ks++[.ref l]))):=g.t.trans (cP.bW (g _ _ u))
    intro y d;rcases aa4.mp d with d|d
    .exact hT.bB (T y d)
    .rcases abO.mp d with rfl
     exact(cP.bW (g _ _ u)).bB (by rw[<-gO];exact bG)
   .rw[aaY,j,take_snoc k,aaY]
    rfl
  .rintro m ⟨ks,O,u,T,j⟩
   rw[KZ,abp]at j;have Bs:=(r.trans s2).trans O;have hkl:ks.length<=100001:=by
    have:=congrArg List.length j;rw[aac,aac]at this;omega
   dsimp only[gA,Ac,Zb,tB,JQ,d_,iB];refine gM (a:=D) (xs:=rf ks) rfl (.inl (aV.of u)) λD2 hD2=>⟨λi n=>Same m n/\n D2=some (.lst (((cutAt 32 t).take i).map λc=>V.bl (isName c))),⟨Same.aM hD2,ak⟩,λi n p=>p.1,?_,?_⟩
   .rintro i v n hi ⟨g,M⟩
    obtain⟨y,d,rfl⟩:=qK hi;have hyc:∃x,(cutAt 32 t)[i]?=some x/\y.1=nm x:=by
     have J:=congrArg (λl:List (List Int)=>l[i]?) j;simp only[abV,d]at J;cases hc:(cutAt 32 t)[i]? with
     |none=>rw[hc]at J;simp at J
     |some x=>rw[hc]at J;exact⟨x,rfl,by simpa using J⟩
    obtain⟨x,k,ex⟩:=hyc;have RT:=g.bB (T y (aa6 d));rw[ex]at RT;refine⟨rfl,_,rfl,y.2,x,rfl,.inr (by rw[gO];exact RT),λH5 s5=>⟨_,s5 _ _ M,?_,(g.trans s5).bW hD2,?_⟩⟩
    .rw[aac,abg,aa1];omega
    .rw[ak,take_snoc k,aaY];rfl
   .rintro n ⟨g,M⟩
    have hlen:(rf ks).length=(cutAt 32 t).length:=by
     have:=congrArg List.length j;rw[aac,aac]at this;rw[aac];exact this
    rw[hlen,abp]at M;refine⟨D2,(cutAt 32 t).map isName,rfl,aV.of (by rw[M,abL];rfl),_,rfl,?_⟩;rw[aeo];show(if(cutAt 32 t).all isName=true then _ else _);by_cases I:(cutAt 32 t).all isName=true
    .rw[aaU I]
     rw[aaU I]at L;exact⟨_,rfl,kS _ L n D ks (Bs.trans g) ((r.trans s2).free hD) (g _ _ u) (λx k=>g.bB (T x k)) j⟩
    .rw[aaz I]
     rw[aaz I]at L;exact kN L n (Bs.trans g)
inductive Ez(K:Frag)(vs:List V)(H:Hp)(Q:VK)(e3:XK):Prop
|mk (p:Addr) (ks:List (List Int×Addr)) (n:Nat) (_:vs=[.ref p,.int (n:Int)]) (_:aV K H p (rf ks)) (_:ks.length<=1000) (_:∀(H':Hp)(q:Addr),Same H H'->H q=none->H' q=some (.lst (rf (aG ks n)))->Q (.ref q) H')
def n8:aJ ["names","number","highest","name","position"] ["names","number"] (aA (top 78)):=scm
def zq(u:Hy P w K mg C base):gF P w K mg base "chosen" 1 ["names","number"] (Ez K):=by
 obtain⟨f,L,F,M⟩:=u.d57;have B:=u.B;refine⟨f,L,?_,F.kp,Ba F λ_ _ _ _ _ _ _ _=>rfl,M⟩;refine eE F n8 λY A outer s H vs Q E hr h=>?_;obtain⟨p,ks,n,rfl,q,hz,k⟩:=h;have t:(rf ks).length=ks.length:=aac _;refine⟨_,ao (Ad (i:=2) n8.nd rfl (Or.inr rfl) (bO vL (aY aX (by rfl) B.len ab8 (aj (pv 0) aq)) aD))
  (au (aF (iJ (own:=[("position",4),("name",3)]) rfl n8.nd (Ao rfl B.enumerate (aj (pv 0) aq)) (bQ (N:=["names","number","highest","name","position"]) (sc:=aA (top 78)) (by decide+kernel))
   (λ_ _ _ _ _=>dM (K:=K) (a:=4) (b:=3) rfl rfl n8.nd rfl rfl rfl rfl)
   (λ_ _ _ _ _=>uD (aK dU (bO G9 (bO W7 (pv 1) (bO vL (pv 2) (pv 4))) aD) aD (aR _))) (λ_ _ _ _ _=>pv 3)))),?_⟩
 refine⟨_,rfl,p,_,rfl,.inl q,_,_,rfl,rfl,?_⟩;rw[t];refine⟨_,rfl,p,_,rfl,q,λD r=>Uv (K:=K) (a:=p) (xs:=rf ks) (λi c=>Same H c/\c D=some (.lst (rf (z7 ks.length n (ks.take i))))) ⟨Same.aM r,ak⟩ (λi c _ e=>e.1.seq q) ?_ ?_⟩
 .rintro i v c T O ⟨j,d⟩ U
  obtain⟨x,y,rfl⟩:=qK O;have I:i<ks.length:=(aaV.mp y).1;have l:=Same.aM (o:=.tup [.int ((i:Nat):Int),.ref x.2]) U;refine⟨T,_,rfl,bG,rfl,_,_,rfl,_,_,rfl,rfl,rfl,?_⟩;have z:((ks.length:Int) - 1) - ((i:Nat):Int)=((ks.length - 1 - i:Nat):Int):=by grind
  refine⟨_,rfl,_,rfl,_,rfl,_,_,rfl,rfl,_,_,rfl,rfl,?_,_,_,rfl,rfl,rfl,_,rfl,?_⟩
  .show(0:Int)<=_
   rw[z];exact ad5 _
  show(if decide (V.int (Builtin.bitAnd ((n:Int)/2^(((ks.length:Int) - 1) - ((i:Nat):Int)).toNat) 1)=V.int 1)=true then _ else _);rw[z,Tv];have g:z7 ks.length n (ks.take (i+1))=z7 ks.length n (ks.take i)++if n.testBit (ks.length - 1 - i)=true then[x]else[]:=by
   rw[take_snoc y,L_,abg,aey (ad8 I)]
  by_cases m:n.testBit (ks.length - 1 - i)=true
  .rw[aaU m,aaU (aaD rfl)]
   rw[aaU m]at g;have J:=Pj ks.length n (ks.take i);rw[abg]at J;refine⟨_,rfl,_,l _ _ d,by rw[aac,aa1];grind,(j.trans l).bW r,?_⟩;rw[ak,g];unfold rf;rw[aaY];rfl
  .rw[aaz m,aaz (by decide)]
   rw[aaz m,acQ]at g;exact⟨j.trans l,by rw[g];exact l _ _ d⟩
 .rintro c ⟨j,d⟩
  rw[t,abp,TF]at d;exact k c D j r d
end CL
namespace L2
open PySem PySem.Spec PyProof.Rows
def bR.same{K:Frag}{H b:Hp}{a:DL}(h:bR K H a)(e:Same H b):bR K b a:=λx c=>e.bB (h x c)
end L2
namespace CL
open PySem PySem.Spec PyProof.Rows L2 MR Vaneta
abbrev nI(n:Nat):V:=.int (n:Int)
inductive Lb(P:Program)(w:World)(K:Frag)(vs:List V)(H:Hp)(Q:VK)(e3:XK):Prop
|mk (p d:Addr) (A:Formula) (kvs:DL) (T:List Int->Nat) (m:Nat) (_:vs=[.ref p,.ref d,nI (2^m - 1)]) (_:Fl K H p (flat A)) (_:nodes A<=100000) (_:H d=some (cH P w d kvs)) (_:bR K H kvs) (_:∀x∈flat A,pc x.1=0->dz kvs x.2=some (nI (T x.2))/\T x.2<2^m) (_:∀H',Same H H'->Q (nI (tab T m A)) H')
def wY:aJ ["formula","tables","full","found","kind","name"] ["formula","tables","full"] (aA (top 76)):=scm
def EY(L:Hy P w K mg C base):gF P w K mg base "table_of" 1 ["formula","tables","full"] (Lb P w K):=by
 obtain⟨f,fd,F,mF⟩:=L.d58;have B:=L.B;have g0:=L.qJ;have g1:=L.Qs;have g2:=L.Xr;have g3:=L.Xq;have g6:=L.jw;have g7:=L.je;refine⟨f,fd,?_,F.kp,xu F λ_ _ _ _ _ _ _ _ _=>rfl,mF⟩;refine eE F wY λcdv A outer s H vs Q E hr h=>?_;obtain⟨p,d,M,kvs,T,m,rfl,hF,hz,hd,hk,hT,k⟩:=h;have hu:_+1<cLine:=adf (adN (by decide:1<=64) _) hr.units;refine⟨_,ao (pS wY 3 (aQ aq))
  (ao (cW abu rfl (mL rfl B.reversed (aj (pv 0) aq)) (dM (K:=K) (a:=4) (b:=5) rfl rfl wY.nd rfl rfl rfl rfl)
   (au (aZ (aK dU (pv 4) (cX g6) (aR _))
    (au (bH (dD aaW abv abw bY (pv 3) (aj (wD hu (pv 1) (pv 5) (λ_ _=>rfl)) aq))))
    (au (aZ (aK dU (pv 4) (cX g7) (aR _))
     (au (bH (dD aaW abv abw bY (pv 3) (aj (bO PK (pv 2) (wD hu (pv 1) (pv 5) (λ_ _=>rfl))) aq))))
     (au (aZ (aK nJ (pv 4) (dw (aj (cX g0) (aj (cX g2) aq))) (by rfl))
      (au (bH (dD aaW abv abw bY (pv 3) (aj (bO G9 (fO aaW ab2 ab4 fZ (pv 3)) (fO aaW ab2 ab4 fZ (pv 3))) aq))))
      (au (aZ (aK nJ (pv 4) (dw (aj (cX g1) (aj (cX g3) aq))) (by rfl))
       (au (bH (dD aaW abv abw bY (pv 3) (aj (bO Zj (fO aaW ab2 ab4 fZ (pv 3)) (fO aaW ab2 ab4 fZ (pv 3))) aq))))
       aO)))))))))
  (au (aF (fO aaW ab2 ab4 fZ (pv 3))))),?_⟩
 refine⟨abe _,λc O=>?_⟩;obtain⟨ws,tM,hN⟩:=hF;have hlen:=hN.len;have hfz:=aC M;have hall:=zQ (t0 T m) t1 t2 M;have sD:Same H (upd H c (.lst [])):=Same.aM O;refine⟨_,rfl,p,ws,rfl,aV.of (sD _ _ tM),Bg (xs:=ws) (λi σ H'=>sV λ(o4 o5:Option V)(st:List Nat)=>lM (σ=[some (.ref p),some (.ref d),some (nI (2^m - 1)),some (.ref c),o4,o5]) (Same H H') (H' c=some (.lst (Fy nI st))) (stk (t0 T m) t1 t2 ((flat M).drop ((flat M).length - i))=some st))
  ⟨none,none,[],rfl,sD,ak,by rw[agZ,aev];rfl⟩ (λi σ H' _ ⟨_,_,_,_,j,_,_⟩=>aV.of (j _ _ tM)) ?_ ?_⟩
 .rintro i v σ H' hi hv ⟨o4,o5,st,rfl,j,I,uo⟩
  obtain⟨x,hx,pt,q,rfl,h1,h2⟩:=hN.get hv;rw[hlen]at hi hx;have hdr:=wz hi hx;obtain⟨g,D⟩:=wj (t0 T m) t1 t2 hall ((flat M).length - (i+1));rw[hdr]at D;obtain⟨s0,hs0,hcase⟩:=lO (t0 T m) t1 t2 D;rw[uo]at hs0;cases hs0;have ZM:st.length<=100000:=abJ (uJ (t0 T m) t1 t2 _ _ uo) (by rw[ace];omega);have Vs:x∈flat M:=aa6 hx;have hkd:=cA M x Vs;have hpl:(Fy nI st).length=st.length:=by simp[Fy]
  rw[<-hdr]at D;have hk':=hk.same j;have hd':=j _ _ hd;have h2':=j.bB h2;have leaf:∀{y:Nat},g=y::st->upd H' c (.lst (Fy nI st++[nI y])) c=some (.lst (Fy nI g)):=λ{y} e=>by rw[ak,e,eX]
  refine⟨pt,_,rfl,j.bB h1,rfl,_,_,rfl,_,_,rfl,rfl,?_⟩;refine⟨_,rfl,rfl,_,rfl,?_⟩;dsimp only;by_cases h6:x.1=6
  .rw[aaU (aaD (by rw[h6]))]
   have U:pc x.1=0:=by rw[h6];rfl
   obtain⟨hT1,hT2⟩:=hT x Vs U;have est:g=T x.2::st:=by
    rcases hcase with⟨_,rfl⟩|⟨e,_⟩|⟨e,_⟩
    .show t0 T m x::st=_;unfold t0;rw[aaU h6]
    .rw[U]at e;cases e
    .rw[U]at e;cases e
   refine⟨_,rfl,.inl ⟨rfl,_,aV.of I⟩,_,rfl,_,rfl,d,q,kvs,x.2,_,rfl,rfl,hd',hk',h2',hT1,c,_,_,rfl,rfl,I,by rw[hpl,aa1];omega,?_⟩;exact⟨some (.int x.1),some (.ref q),g,rfl,j.bW O,leaf est,D⟩
  .rw[aaz (by rw[aat (λz=>h6 (V.int.inj z))];exact aaT)]
   refine⟨_,rfl,rfl,_,rfl,?_⟩;dsimp only;by_cases h7:x.1=7
   .rw[aaU (aaD (by rw[h7]))]
    have U:pc x.1=0:=by rw[h7];rfl
    obtain⟨hT1,hT2⟩:=hT x Vs U;have est:g=(2^m - 1 - T x.2)::st:=by
     rcases hcase with⟨_,rfl⟩|⟨e,_⟩|⟨e,_⟩
     .show t0 T m x::st=_;unfold t0;rw[aaz h6]
     .rw[U]at e;cases e
     .rw[U]at e;cases e
    refine⟨_,rfl,.inl ⟨rfl,_,aV.of I⟩,_,rfl,_,rfl,_,rfl,d,q,kvs,x.2,_,rfl,rfl,hd',hk',h2',hT1,_,_,rfl,rfl,c,_,_,rfl,rfl,I,by rw[hpl,aa1];omega,?_⟩;refine⟨some (.int x.1),some (.ref q),g,rfl,j.bW O,?_,D⟩;show upd H' c (.lst (Fy nI st++[V.int (Builtin.bitXor ((2^m - 1:Nat):Int) ((T x.2:Nat):Int))])) c=_;rw[yx hT2];exact leaf est
   .rw[aaz (by rw[aat (λz=>h7 (V.int.inj z))];exact aaT)]
    refine⟨_,rfl,(by show 2<=sizeLine;decide),λt ht=>⟨t,_,rfl,.inr bG,rfl,rfl,_,rfl,?_⟩⟩;have s2:=Same.aM (o:=.tup [.int 0,.int 2]) ht;have s12:=j.trans s2;have hst2:=s2 _ _ I;have e02:inV (.int x.1) [.int 0,.int 2]=decide (x.1=0\/x.1=2):=by
     rcases k8 hkd with e|e|e|e|e|e|e|e<;>rw[e]<;>rfl
    show(if inV (.int x.1) [.int 0,.int 2]=true then _ else _);rw[e02];have two:∀{N:Hp}{y:Nat}{a b:Nat}{r:List Nat},Same H N->N c=some (.lst (Fy nI st))->st=a::b::r->g=y::r->
      Ex2 λxs y1=>lM (N c=some (.lst xs)) (xs[xs.length - 1]?=some y1) (y1=nI a) (Ex2 λu y2=>lM (upd N c (.lst xs.dropLast) c=some (.lst u)) (u[u.length - 1]?=some y2) (y2=nI b) (∃J,lM (upd (upd N c (.lst xs.dropLast)) c (.lst u.dropLast) c=some (.lst J)) (J.length<sizeLine) (upd (upd (upd N c (.lst xs.dropLast)) c (.lst u.dropLast)) c (.lst (J++[nI y])) c=some (.lst (Fy nI g))) (Same H (upd (upd (upd N c (.lst xs.dropLast)) c (.lst u.dropLast)) c (.lst (J++[nI y])))))):=λ{N y a b r} s3 h3 l n=>by
     subst l;refine⟨_,nI a,h3,by rw[eX];exact cY _ _,rfl,Fy nI (b::r),nI b,by rw[ak,eX,adl],by rw[eX];exact cY _ _,rfl,Fy nI r,by rw[ak,eX,adl],?_,by rw[ak,n,eX],((s3.bW O).bW O).bW O⟩;rw[aa1];simp only[aae]at ZM;simp[Fy];omega
    by_cases Y:x.1=0\/x.1=2
    .rw[aaD Y]
     have hp2:pc x.1=2:=by rcases Y with e|e<;>rw[e]<;>rfl
     obtain⟨a,b,r,l,n⟩:∃a b r,st=a::b::r/\g=(a&&& b)::r:=by
      rcases hcase with⟨e,_⟩|⟨e,_⟩|⟨_,a,b,r,l,n⟩
      .rw[hp2]at e;cases e
      .rw[hp2]at e;cases e
      .refine⟨a,b,r,l,?_⟩
       rw[n];show t2 x a b::r=_;unfold t2;rw[aaU Y]
     obtain⟨xs,y1,q1,q2,rfl,u,y2,q3,q4,rfl,J,q5,q6,q7,q8⟩:=two s12 hst2 l n;refine bD ⟨_,rfl,.inl ⟨rfl,_,aV.of hst2⟩,_,rfl,.inl ⟨rfl,_,aV.of hst2⟩,c,xs,_,rfl,rfl,q1,q2,_,rfl,.inl ⟨rfl,_,aV.of q3⟩,c,u,_,rfl,rfl,q3,q4,_,_,rfl,rfl,c,J,_,rfl,rfl,q5,q6,?_⟩;have eb:nI (a&&& b)=V.int (Builtin.bitAnd (a:Int) (b:Int)):=congrArg V.int (vH a b).symm;rw[eb]at q7 q8;exact⟨some (.int x.1),some (.ref q),g,rfl,q8,q7,D⟩
    .rw[aat Y]
     refine bF ⟨_,rfl,(by show 2<=sizeLine;decide),λt2' ht2=>⟨t2',_,rfl,.inr bG,rfl,rfl,_,rfl,?_⟩⟩;have s3:=Same.aM (o:=.tup [.int 1,.int 3]) ht2;have Bs:=s12.trans s3;have hst3:=s3 _ _ hst2;have e13:inV (.int x.1) [.int 1,.int 3]=decide (x.1=1\/x.1=3):=by
      rcases k8 hkd with e|e|e|e|e|e|e|e<;>rw[e]<;>rfl
     show(if inV (.int x.1) [.int 1,.int 3]=true then _ else _);rw[e13];by_cases h13:x.1=1\/x.1=3
     .rw[aaD h13]
      have hp2:pc x.1=2:=by rcases h13 with e|e<;>rw[e]<;>rfl
      obtain⟨a,b,r,l,n⟩:∃a b r,st=a::b::r/\g=(a|||b)::r:=by
       rcases hcase with⟨e,_⟩|⟨e,_⟩|⟨_,a,b,r,l,n⟩
       .rw[hp2]at e;cases e
       .rw[hp2]at e;cases e
       .refine⟨a,b,r,l,?_⟩
        rw[n];show t2 x a b::r=_;unfold t2;rw[aaz Y]
      obtain⟨xs,y1,q1,q2,rfl,u,y2,q3,q4,rfl,J,q5,q6,q7,q8⟩:=two Bs hst3 l n;refine bD ⟨_,rfl,.inl ⟨rfl,_,aV.of hst3⟩,_,rfl,.inl ⟨rfl,_,aV.of hst3⟩,c,xs,_,rfl,rfl,q1,q2,_,rfl,.inl ⟨rfl,_,aV.of q3⟩,c,u,_,rfl,rfl,q3,q4,_,_,rfl,rfl,c,J,_,rfl,rfl,q5,q6,?_⟩;have eb:nI (a|||b)=V.int (Builtin.bitOr (a:Int) (b:Int)):=congrArg V.int (Ju a b).symm;rw[eb]at q7 q8;exact⟨some (.int x.1),some (.ref q),g,rfl,q8,q7,D⟩
     .rw[aat h13]
      have hp1:pc x.1=1:=by
       rcases k8 hkd with e|e|e|e|e|e|e|e
       .exact absurd (Or.inl e) Y
       .exact absurd (Or.inl e) h13
       .exact absurd (Or.inr e) Y
       .exact absurd (Or.inr e) h13
       .rw[e];rfl
       .rw[e];rfl
       .exact absurd e h6
       .exact absurd e h7
      have est:g=st:=by
       rcases hcase with⟨e,_⟩|⟨_,a,r,l,n⟩|⟨e,_⟩
       .rw[hp1]at e;cases e
       .rw[n,l];rfl
       .rw[hp1]at e;cases e
      exact bF ⟨some (.int x.1),some (.ref q),g,rfl,Bs,by rw[est];exact hst3,D⟩
 .rintro σ H' ⟨o4,o5,st,rfl,j,I,uo⟩
  rw[hlen,adB,afC,hall]at uo;cases uo;refine⟨_,rfl,.inl ⟨rfl,_,aV.of I⟩,c,_,nI (tab T m M),rfl,rfl,I,rfl,k _ (j.bW O)⟩
end CL
namespace MR
open PySem PyProof.Rows PyProof.Rows.G L2
section
variable{prog:Program}{w:World}{A:Around}{E:Value->Shared->Prop}{s:Shared}
def xX:isSubtype (.type "dict") (.type "dict")=pure true:=by rw[aht];kernel_rfl
def Iv(q:A.handled=none)(I S:Addr)(n:S≠I)(o:Obj)(a:Array DictEntry)(g:Nat)(j:o.data=.dict a g):
  Walks prog w A I [I,S] [I] a.size (λi v=>∃en,a[i]?=some en/\v=en.key) (λi h=>h.IsKeyIter I S i a.size g/\h.get? S=some o) where
 sub:=λb c=>by simp at c;simp[c]
 frame:=λ_ _ _ st k=>⟨st.1.at λo e=>k I (by simp) o e,k S (by simp) _ st.2⟩
 item:=λi s Q E l st d=>by
  refine xV st.1 st.2 j rfl (en:=a[i]) (by simp[l]) λh' m f=>?_;exact d _ h' s.toks ⟨a[i],by simp[l],rfl⟩ ⟨m,f.extBut _ _ n st.2⟩ λb o c e=>f.extBut b o (λh=>c (by simp[h])) e
 done:=λs Q E st d=>Am q st.1 st.2 j rfl (aaS _) λh' p=>d h' s.toks λb o c e=>p b o (λh=>c (by simp[h])) e
 self:=λ_ _ _ _ st d=>wpAny_pyIter_keyiter st.1 d
def keys_eq{a:Array DictEntry}{acc:Array Value}(h:ItemsOf (λi v=>∃en,a[i]?=some en/\v=en.key) acc a.size):acc.toList=a.toList.map (·.key):=by
 apply afv;intro i;rw[abV,abf,abf];cases e:acc[i]? with
 |none=>
  have:acc.size<=i:=agc.mp e;rw[ael (by rw[<-h.1];exact this)];rfl
 |some v=>
  obtain⟨x,b,ev⟩:=h.2 i v e;rw[b,ev];rfl
def Bv{S:Addr}{o:Obj}{d:Array DictEntry}{f:Nat}(hh:A.handled=none)(O:(S==sysModules)=false)(I:s.heap.get? S=some o)(p:o.ExactDict)(z:o.data=.dict d f)(T:d.size<=sizeLine){Q:List Value->Shared->Prop}
  (hQ:∀(h':Heap)(tk:Nat),(∀b o,s.heap.get? b=some o->h'.get? b=some o)->s.heap.objs.size<=h'.objs.size->Q (d.toList.map (·.key)) {s with heap:=h',toks:=tk}):wpAny (model prog w) A (collect (.ref S)) Q E s:=by
 have J:S<s.heap.objs.size:=aa_ I;unfold collect;refine pP (ahs (adS F.entry_proto_collect ?_));rw[adA F.plain_proto_collect _];show wpAny _ A.in1 (newList []>>=λl=>again (.builtin "list.__iadd__" ⟨[l,.ref S],[]⟩)) _ _ s;refine pP (adO ?_);refine aaR ⟨aes afw _,adS F.entry_list_iadd ?_⟩;rw[adA afw _];show wpAny _ A.in1 (Builtin.List.listExtendWith (.ref s.heap.objs.size) (.ref S) (.ref s.heap.objs.size)) _ _ _;have k:(s.heap.push {cls:=.type "list",data:=.seq ([]:List Value).toArray}).get? S=some o:=aaQ _ I;have hT1:Shared.TypeIs {s with heap:=s.heap.push {cls:=.type "list",data:=.seq ([]:List Value).toArray}} (.ref S) "dict":=⟨o,k,p.1⟩;have r:s.heap.objs.size≠S:=adI J;have h1:Builtin.List.listSameRef (.ref s.heap.objs.size) (.ref S)=false:=by simp[Builtin.List.listSameRef,r]
 have h2:(Value.type "dict"==Value.type "list")=false:=by decide
 have h3:(Value.type "dict"==Value.type "tuple")=false:=by decide
 unfold Builtin.List.listExtendWith;refine pP (afq hT1 ?_);simp only[h1,h2,h3,afb,aa7,acd];refine pP (Mx O k p z ?_);refine pP (acp ?_);unfold Builtin.List.listLengthHint;generalize x:(s.heap.push {cls:=.type "list",data:=.seq ([]:List Value).toArray}:Heap)=a at*;have n:a.objs.size=s.heap.objs.size+1:=by rw[<-x,ab6]
 have hl0:a.get? s.heap.objs.size=some {cls:=.type "list",data:=.seq ([]:List Value).toArray}:=by rw[<-x];exact abb _ rfl
 have U:∀b c,s.heap.get? b=some c->a.get? b=some c:=λb c e=>by rw[<-x];exact aaQ _ e
 have j:∀b c,a.get? b=some c->(a.push {cls:=.type "dict_keyiterator",data:=.fields #[.ref S,.int 0 0,.int d.size 0,.int f 0]}).get? b=some c:=λb c e=>aaQ _ e;have hit:(a.push {cls:=.type "dict_keyiterator",data:=.fields #[.ref S,.int 0 0,.int d.size 0,.int f 0]}).IsKeyIter a.objs.size S 0 d.size f:=⟨_,abb _ rfl,rfl,rfl⟩;generalize hI:(a.push {cls:=.type "dict_keyiterator",data:=.fields #[.ref S,.int 0 0,.int d.size 0,.int f 0]}:Heap)=g at*;have t:Shared.TypeIs {s with heap:=g} (.ref S) "dict":=⟨o,j _ _ k,p.1⟩;refine pP (afS (s:={s with heap:=g}) t ahd.lookup ?_);generalize B:("dict.__len__":String)=id0
 wp_delta
 rw[show splitId id0=some ("dict","__len__")from by subst B;decide+kernel];subst B;refine pP (ae4 (b:=true) t xX ?_);simp only[aep,aa7,acd];rw[aaU ?hc]
 case hc=>decide+kernel
 refine pP (afq t ?_);dsimp only;refine aaR ?_;rw[aaU ?hc2]
 case hc2=>decide+kernel
 refine pP (afG ?_);have C:g.get? s.heap.objs.size=some {cls:=.type "list",data:=.seq ([]:List Value).toArray}:=j _ _ hl0;refine pP ?_;show wpAny _ A.in1 (updateSeq s.heap.objs.size (·.push .none)>>=λ_=>updateSeq s.heap.objs.size (·.pop)) _ _ _;refine pP (afd C rfl ?_);have D:=abN (Obj.mapSeq (·.push Value.none)) C rfl;refine afd D rfl ?_;have hS3:=abN (Obj.mapSeq (·.pop)) D rfl;have u:∀b o,b≠s.heap.objs.size->g.get? b=some o->((g.update s.heap.objs.size (Obj.mapSeq (·.push Value.none))).update s.heap.objs.size (Obj.mapSeq (·.pop))).get? b=some o:=
  λb o L e=>(ac5 _ _ (ac6 L)).trans ((ac5 _ _ (ac6 L)).trans e)
 have N:S≠a.objs.size:=by rw[n];exact abt (aci J)
 have y:a.objs.size≠s.heap.objs.size:=by rw[n];exact agE _
 have W:=(Iv (prog:=prog) (w:=w) (A:=A.in1) (by simp[hh]) a.objs.size S N o d f z).toS;have hSf:s.heap.objs.size∉[a.objs.size,S]:=by
  simp only[aa2,abO,adU,afM,ahO];exact⟨λq=>y q.symm,r⟩
 refine aaR ⟨aes F.plain_extend_loop _,codeAny_extend_loopS W T _ hSf _ d.size 0 _ _ _ rfl (abe _)
  ⟨hit.at λo e=>u _ o y e,u _ _ (λq=>r q.symm) (j _ _ k)⟩ hS3 (ItemsOf.nil _) λM Y c' m H hacc=>?_⟩
 show wpAny _ A (load s.heap.objs.size>>=_) _ _ M;refine pP (agS H ?_);refine aaR ?_;have acs:Y.toList=d.toList.map (·.key):=keys_eq hacc;obtain⟨h',g',d',tk',os'⟩:=M;have eg:g'=s.gens:=m.gens;have ed:d'=s.drawn:=m.drawn;have eo:os'=s.os:=m.os;subst eg;subst ed;subst eo;rw[acs];refine hQ h' tk' (λb c e=>?_) (ad8 (aa_ H));have v:b<s.heap.objs.size:=aa_ e;refine m.heap b c ?_ (u b c (abt v) (j b c (U b c e)));simp only[aa2,abO,adU,afM,ahO];exact⟨abt v,by rw[n];exact abt (aci v)⟩
def E_{c:Value}{zs:List (List Int×Addr)}{Q:Value->Shared->Prop}(hlen:zs.length<=8191)
  (acu:∀{N:List Value->Shared->Prop},(∀(h':Heap)(tk:Nat),(∀b o,s.heap.get? b=some o->h'.get? b=some o)->s.heap.objs.size<=h'.objs.size->N (zs.map λx=>Value.ref x.2) {s with heap:=h',toks:=tk})->wpAny (model prog w) A.in1 (collect c) N E s)
  (keys:∀x∈zs,IsT prog w s.heap x.1 x.2)(nd:(zs.map (·.1)).Nodup)(ne:∀x∈zs,x.1≠[])
  (h:∀(h':Heap)(tk:Nat)(p:Addr)(n:Nat)(ys:List (List Int×Addr)),s.heap.objs.size<=p->ys.Perm zs->(ys.map (·.1)).Pairwise (λa b=>rB a b=true)->h'.get? p=some {cls:=.type "list",data:=.seq (ys.map λx=>Value.ref x.2).toArray n}->
   (∀b o,s.heap.get? b=some o->h'.get? b=some o)->Q (.ref p) {s with heap:=h',toks:=tk}):
  wpAny (model prog w) A (call (.builtin "sorted") [c]) Q E s:=by
 have z:(zs.map λx=>Value.ref x.2).length<=sizeLine:=by rw[aac,aa1];grind
 refine aex kind_sorted plain_sorted entry_sorted (args_sorted1 _) ?_;unfold Builtin.«sorted»;refine pP (m:=checkCount "sorted" 1 1 _) (aaR ?_);refine pP (acu λd H O hz=>?_);refine pP (agw ?_ z);generalize u:(zs.map λx=>Value.ref x.2)=vs at z⊢;have y:(d.push (seqObj "list" vs.toArray 0)).get? d.objs.size=some (seqObj "list" vs.toArray 0):=abb _ rfl;have T:∀b o,s.heap.get? b=some o->(d.push (seqObj "list" vs.toArray 0)).get? b=some o:=λb o e=>aaQ _ (O b o e);have t:∀x∈zs,IsT prog w (d.push (seqObj "list" vs.toArray 0)) x.1 x.2:=λx k=>(keys x k).keep' λo e=>T _ o e;obtain⟨fs,U⟩:=zX zs t ne;rw[u]at U;show wpAny _ _ _ _ _ {s with heap:=d.push (seqObj "list" vs.toArray 0),toks:=H};refine pP (acp (ade slot_list_sort ⟨_,y,rfl⟩ entry_list_sort (list_sort_tups (s:={s with heap:=d.push (seqObj "list" vs.toArray 0),toks:=H}) y U (λv Y=>?_) z λI a1 a2 a3=>⟨_,rfl, ?ret⟩) (args_list_sort _)))
 .rw[<-u]at Y
  obtain⟨x,k,rfl⟩:=aa5.mp Y;exact⟨_,Gk (t x k)⟩
 case ret=>
  refine aaR ⟨_,rfl,?_⟩;have J:(arrOf I).toList.Perm ((pairsOf vs).toList):=a1.toList;have ep2:(pairsOf vs).toList=zs.map λx=>(Value.ref x.2,Value.ref x.2):=by rw[qp,<-u,abL];rfl
  obtain⟨ys,B,l⟩:=kO (f:=λx:List Int×Addr=>(Value.ref x.2,Value.ref x.2)) J zs ep2;have D:∀x∈ys,IsT prog w (d.push (seqObj "list" vs.toArray 0)) x.1 x.2:=λx k=>t x (B.mem_iff.mp k);have psz:(pairsOf vs).size=ys.length:=by
   rw[<-abh,<-J.length_eq,l,aac]
  have ndY:(ys.map (·.1)).Nodup:=by rw[(B.map (·.1)).nodup_iff];exact nd
  have Wz:(arrOf I).map (·.2)=(ys.map λx=>Value.ref x.2).toArray:=by
   apply afH.mp;rw[agL,l,abL];rfl
  rw[Wz];have zY:(ys.map (·.1)).Pairwise (λa b=>rB a b=true):=by
   rw[adL];intro i j C r L;rw[aac]at C r;have e1:ys[i]?=some ys[i]:=aa3 C;have e2:ys[j]?=some ys[j]:=aa3 r;have g:=a2 i j (ad8 L) (by rw[psz];exact r);rw[getD_map l D e1,getD_map l D e2]at g;have g:lexLt itemOrd (ys[j].1.map Sum.inl) (ys[i].1.map Sum.inl)=false:=g;rw[uw]at g;rw[ad4,ad4];refine yu g λq=>?_;have:=adL.mp ndY i j (by rw[aac];exact C) (by rw[aac];exact r) L;rw[ad4,ad4]at this;exact this q
  have g1:=abN (Obj.mapSeq λ_=>(#[]:Array Value)) y rfl;have g2:=aaQ (seqObj "list" #[] 0) (aaQ (seqObj "tuple" vs.toArray 0) g1);have g3:=abN (Obj.mapSeq λ_=>(ys.map λx=>Value.ref x.2).toArray) g2 rfl;refine h _ _ d.objs.size _ ys hz B zY g3 λb o' e=>?_;have hb:b<d.objs.size:=aa_ (O b o' e);have M:d.objs.size≠b:=adI hb;unfold sortedHeap;rw[ac5 _ _ M];refine aaQ _ (aaQ _ ?_);rw[ac5 _ _ M];exact T b o' e
def R8{d:Addr}{o:Obj}{b:Array DictEntry}{f:Nat}(g:(d==sysModules)=false)(j:s.heap.get? d=some o)(c:o.data=.dict b f):
  MeetsIn prog w (Builtin.«dict.__len__» ⟨[.ref d],[]⟩) (λ_ R a=>a=s/\R (.ok (.ret (.int b.size s.toks))) {s with toks:=s.toks+1}):=.of_wp λA R a ⟨e,h⟩=>by
  subst e;show wpAny _ _ (dictSize d>>=_) _ _ a;unfold dictSize;refine pP (pP (aeY j c (aaR ?_)));show wpAny _ _ (Builtin.Dict.pendingCount d>>=_) _ _ a;refine pP (wpAny_pendingCount_other g ?_);refine wpAny_ret_mkInt ?_;rw[Nat.add_zero];exact h
def xY{d:Addr}{o:Obj}{a:Array DictEntry}{j:Nat}{Q:Value->Shared->Prop}(k:(d==sysModules)=false)(b:s.heap.get? d=some o)(g:o.ExactDict)(e:o.data=.dict a j)(f:a.size<=sizeLine)
  (h:Q (.int a.size (s.toks+1)) {s with toks:=s.toks+1+1}):wpAny (model prog w) A (call (.builtin "len") [.ref d]) Q E s:=by
 have c:s.TypeIs (.ref d) "dict":=⟨o,b,g.1⟩;rw[aa1]at f;refine aex kind_len plain_len entry_len (args_len1 _) ?_;unfold Builtin.«len»;refine pP (m:=oneArg "len" _) (aaR ?_);refine pP (m:=callSpecial? (.ref d) (Str.ofString "__len__")) (adh (name:=Str.ofString "__len__") c ahd (call_meetsIn ahd c F.entry_dict_len (F.args_dict_len_1 _) (R8 k b e) ⟨rfl,?_⟩));show wpAny _ _ _ _ _ {s with toks:=s.toks+1};refine pP (acp (aaR ?_));refine pP (agq ?_);show wpAny _ _ (if((a.size:Nat):Int)<0 then _ else _) _ _ _;rw[aaz (by grind)];show wpAny _ _ (if((a.size:Nat):Int)>=2^63 then _ else _) _ _ _;rw[aaz (by grind)];exact pP (wpAny_mkInt (aaR ⟨_,rfl,h⟩))
end
end MR
namespace L2
open PySem PySem.Spec PyProof.Rows MR
section
variable{X:Cx}
inductive Wa(P:Program)(w:World)(vs:List V)(H:Hp)(Q:VK):Prop
|mk a kvs (_:vs=[V.ref a]) (_:H a=some (cH P w a kvs)) (_:Q (.int (kvs.length:Nat)) H)
def Vf:iW X (.builtin "len") (Wa X.prog X.w):=by
 intro pins s m H vs us Q I r h;obtain⟨a,b,rfl,c,q⟩:=h;rw[Vals.Hr r];obtain⟨⟨n,hs,o,d,p,xs,e,f,g,j,t,k⟩,_,_⟩:=I.hok a _ c;have l:d.size=b.length:=by rw[ag8 j];exact(abC k).symm
 refine xY hs e f g (by grind) ?_;rw[l];exact⟨.int _,H,I.tok _,⟨_,rfl⟩,q⟩
inductive Fb(P:Program)(w:World)(K:Frag)(vs:List V)(H:Hp)(Q:VK):Prop
|mk a kvs (_:vs=[V.ref a]) (_:H a=some (cH P w a kvs)) (_:bR K H kvs) (_:(kvs.map (·.1)).Nodup) (_:∀x∈kvs,x.1≠[]) (_:kvs.length<2000) (_:∀(q:Addr)(ys:List (List Int×Addr)),H q=none->ys.Perm (kvs.map λx=>(x.1,x.2.1))->(ys.map (·.1)).Pairwise (λa b=>rB a b=true)->Q (.ref q) (upd H q (.lst (ys.map λx=>V.ref x.2))))
def R9{b:DL}{xs:List (List Int×Addr×Value)}(h:rP b xs):xs.map (λx=>Value.ref x.2.1)=(b.map λx=>(x.1,x.2.1)).map λx=>Value.ref x.2:=by
 induction h with
 |nil=>rfl
 |cons a _ c=>
  rw[aaZ,aaZ,aaZ,c,a.2.1]
def Iw(hc:X.calm=true):iW X (.builtin "sorted") (Fb X.prog X.w X.K):=by
 intro pins s E H vs us Q I r h;obtain⟨a,b,rfl,t,u,v,w,J,q⟩:=h;rw[Vals.Hr r];obtain⟨⟨L,hs,o,f,M,xs,z,A,B,g,N,j⟩,_,_⟩:=I.hok a _ t;have O:f.size=b.length:=by rw[ag8 g];exact(abC j).symm
 have C:f.toList.map (·.key)=(b.map λx=>(x.1,x.2.1)).map λx=>Value.ref x.2:=by
  rw[g,abL,<-R9 j];rfl
 refine E_ (zs:=b.map λx=>(x.1,x.2.1)) (by rw[aac];grind) (λ{T} D=>?_) (λx c=>?_) (by rw[abL];exact v) (λx c=>?_) λh' tk d n ys hsz k l m p=>?_
 .refine Bv (by simp[I.ok.hd hc]) hs z A B (by grind) ?_
  rw[C];exact D
 .obtain⟨y,e,rfl⟩:=aa5.mp c
  exact I.isT (u y e)
 .obtain⟨y,e,rfl⟩:=aa5.mp c
  exact w y e
 .refine⟨.ref d,upd H d (.lst (ys.map λx=>V.ref x.2)),I.laid (t':=tk) p hsz ⟨?_,_,n,rM ys,m⟩,rfl,q d ys (I.hok.fresh hsz) k l⟩
  rw[aac,k.length_eq,aac,aa1];grind
end
end L2
namespace CL
open PySem PySem.Spec PyProof.Rows L2 MR Vaneta
section
variable{K:Frag}{H H':Hp}{z:Addr}
def But.Bw(e:But z H H'){a:Heap->Prop}(hz:H z=some (.ext a)){p:Addr}{xs:List V}(h:dG K H p xs):dG K H' p xs:=by
 rcases h with(h|⟨o,h⟩)|h
 .exact .inl (.inl (e _ _ h (gJ h hz (by intro z;cases z))))
 .exact .inl (.inr ⟨o,e _ _ h (gJ h hz (by intro z;cases z))⟩)
 .exact .inr h
def But.fresh{a:Hp}(s:Same a H)(c:a z=none)(e:But z H H'):Same a H':=λb o h=>e b o (s b o h) (aW h c)
def But.flE(e:But z H H'){c:Heap->Prop}(hz:H z=some (.ext c)){p:Addr}{l:List Nd}(h:Fl K H p l):Fl K H' p l:=by
 obtain⟨d,b,f⟩:=h;exact⟨d,e _ _ b (gJ b hz (by intro z;cases z)),Paired.dY f λ_ _ ⟨a,q,g,j,k⟩=>⟨a,q,g,e.Bw hz j,e.Bw hz k⟩⟩
def But.Vg(e:But z H H'){a:Heap->Prop}(hz:H z=some (.ext a)){p:Addr}{xs:List V}(h:aV K H p xs):aV K H' p xs:=by
 rcases h with(h|⟨o,h⟩)|h
 .exact .inl (.inl (e _ _ h (gJ h hz (by intro z;cases z))))
 .exact .inl (.inr ⟨o,e _ _ h (gJ h hz (by intro z;cases z))⟩)
 .exact .inr h
def uq(n:List Int):PyData:=.tuple (n.map PyData.int)
def R_{ks:List (List Int×Addr)}(h:Kc K H ks):jc K H (rf ks) (ks.map λx=>uq x.1):=by
 induction ks with
 |nil=>exact .nil
 |cons x ks a=>exact .cons (gY (h x aa0)) (a λy b=>h y (aaX _ b))
theorem zu:∀ks:List (List Int×Addr),PyData.canLayAll0 (ks.map λx=>uq x.1)=true
|[]=>by simp[PyData.canLayAll0]
|x::ks=>by
 have a:=zu ks;rw[aaZ];simp only[PyData.canLayAll0,aa8];exact⟨by simp[uq,PyData.canLay0,lay_ints],a⟩
theorem zx(n:List Int):∀ks:List (List Int×Addr),((ks.map λx=>uq x.1).any λy=>PyData.eqv y (uq n))=decide (n∈ks.map (·.1))
|[]=>by simp
|x::ks=>by
 rw[aaZ,aeN,zx n ks];have e:PyData.eqv (uq x.1) (uq n)=decide (x.1=n):=by
  simp only[uq,PyData.eqv];exact jV x.1 n
 rw[e];by_cases h:x.1=n
 .simp[h]
 .have h':¬n=x.1:=λq=>h q.symm
  simp[h,h']
def Vh(n:List Int):(uq n).depth<=60:=by
 have:=gZ n;simp only[uq,PyData.depth];grind
def zy{x p:Addr}{n:List Int}{ks:List (List Int×Addr)}{Q:VK}(a:dG K H x (ii n))(b:aV K H p (rf ks))(c:Kc K H ks)(k:Q (.bl (decide (n∈ks.map (·.1)))) H):QV K (.ref x) (.ref p) H Q:=by
 refine⟨p,_,_,uq n,rfl,b,R_ c,zu ks,Vh n,gY a,by simp[uq,PyData.canLay0,lay_ints],?_⟩;rw[zx];exact k
end
def Em.names{A:Formula}(h:Em A):∀x∈flat A,pc x.1=0->x.2≠[]:=zm h.2
def lB(A:Formula):gj (flat A)=(leaves A).map λy=>nm y.2:=by
 unfold gj;rw[gn,abL];rfl
def Fd{A:Formula}{x:Nd}(b:x∈flat A)(h:pc x.1=0):∃y∈leaves A,x.2=nm y.2:=by
 have a:x∈(flat A).filter λx=>decide (pc x.1=0):=aez.mpr ⟨b,aaD h⟩;rw[gn]at a;obtain⟨y,c,rfl⟩:=aa5.mp a;exact⟨y,c,rfl⟩
inductive Ld(P:Program)(w:World)(K:Frag)(vs:List V)(H:Hp)(Q:VK)(e3:XK):Prop
|mk (p q:Addr) (A:Formula) (ks:List (List Int×Addr)) (ns:List Name) (_:vs=[.ref p,.ref q]) (_:Fl K H p (flat A)) (_:Em A) (_:aV K H q (rf ks)) (_:Kc K H ks) (_:ks.map (·.1)=ns.map nm) (_:∀H',Same H H'->Q (nI (one (truth ns A))) H')
def wZ:aJ ["formula","choice","tables","name"] ["formula","choice"] (aA (top 77)):=scm
def Sd(l:Hy P w K mg C base):gF P w K mg base "truth_under" 2 ["formula","choice"] (Ld P w K):=by
 obtain⟨f,fd,F,mF⟩:=l.d59;obtain⟨f1,k_,G1,k1,b1,m1⟩:=mR l;obtain⟨f2,fd2,G2,k2,b2,m2⟩:=EY l;refine⟨f,fd,?_,F.kp,Ba F λ_ _ _ _ _ _ _ _=>rfl,mF⟩;refine eE F wZ λcdv A outer s H vs Q E hr h=>?_;obtain⟨p,q,r,ks,z,rfl,hF,O,hq,hN,hks,k⟩:=h;have Bx:=hr.units;have hu:_+1<cLine:=adf (adN (by decide:1<=64) _) hr.units;have hno:=O.nodes;refine⟨_,ao (pS wZ 2 wC)
  (ao (cW abu rfl (fH (aB G1 hr rfl m1 k1 b1 .nil aH (aj (pv 0) aq))) (pN wZ 3)
   (au (wF hu (pv 2) (pv 3) (dO (aK (rQ Bx) (pv 3) (pv 1) (by rfl)) aD aD) rfl)))
  (au (aF (aB G2 hr rfl m2 k2 b2 .nil aH (aj (pv 0) (aj (pv 2) (aj aD aq))))))),?_⟩
 intro d hd;have s1:=Same.aM (o:=cH P w d []) hd;have hat:=lB r;refine⟨_,rfl,p,flat r,rfl,hF.same s1,cA r,⟨by rw[aC];grind,by rw[hat,aac,dN];exact O.few⟩,O.names,λH2 qn ys s2 hqn hql RT tM hmem=>?_⟩;have hd2:H2 d=some (cH P w d []):=s2 _ _ ak;have s12:=s1.trans s2;have hrl:(rf ys).length=ys.length:=aac _;refine⟨qn,rfl,⟨_,aV.of hql⟩,dR (K:=K) (a:=qn) (xs:=rf ys) (λj σ t=>Ex2 λ(L:Option V)(g:DL)=>Fz (σ=[some (.ref p),some (.ref q),some (.ref d),L]) (But d H2 t) (t d=some (cH P w d g)) (bR K t g) (g.length<=j) (∀y∈ys.take j,dz g y.1=some (nI (if y.1∈ks.map (·.1)then 1 else 0))))
  ⟨none,[],rfl,λb o h _=>h,hd2,λx u=>(by cases u),abe _,λy l=>by simp at l⟩ (λj σ t _ ⟨_,_,_,B,_,_,_,_⟩=>B.Vg hd2 (aV.of hql)) ?_ ?_⟩
 .rintro j v σ t hj ⟨L,g,rfl,B,I,J,hkl,U⟩
  obtain⟨y,l,rfl⟩:=qK hj;have hjl:j<ys.length:=(aaV.mp l).1;have Sg:=B.Bw hd2 (RT y (aa6 l));have M:=But.fresh s12 hd B;refine⟨_,rfl,_,rfl,zy Sg (M.seq hq) (λx u=>M.bB (hN x u)) ⟨_,rfl,?_⟩⟩;have hyl:ys.length<=100000:=by
   have h1:=congrArg List.length (fC tM (λx=>by rw[hmem x,hat]):ys.map (·.1)=(namesOf (leaves r)).map nm);rw[aac,aac]at h1;have h2:=jz (leaves r);rw[dN]at h2;have:=O.few;grind
  have fin:∀b:Nat,b=(if y.1∈ks.map (·.1)then 1 else 0)->Ex2 λ(L:Option V)(Y:DL)=>Fz ([some (V.ref p),some (.ref q),some (.ref d),some (.ref y.2)]=[some (V.ref p),some (.ref q),some (.ref d),L]) (But d H2 (upd t d (cH P w d (fV g y.1 y.2 (nI b))))) (upd t d (cH P w d (fV g y.1 y.2 (nI b))) d=some (cH P w d Y)) (bR K (upd t d (cH P w d (fV g y.1 y.2 (nI b)))) Y) (Y.length<=j+1) (∀y∈ys.take (j+1),dz Y y.1=some (nI (if y.1∈ks.map (·.1)then 1 else 0))):=λb D=>by
   refine⟨some (.ref y.2),_,rfl,B.trans But.upd,ak,λx u=>But.upd.Bw I ((J.put Sg) x u),?_,?_⟩
   .have:=nQ g y.1 y.2 (nI b)
    grind
   .intro N hy'
    rw[mV];rw[take_snoc l]at hy';by_cases e:N.1=y.1
    .rw[aaU e,e,D]
    .rw[aaz e]
     rcases aa4.mp hy' with h|h
     .exact U N h
     .rcases abO.mp h with rfl
      exact absurd rfl e
  by_cases hin:y.1∈ks.map (·.1)
  .rw[aaD hin]
   refine bD ⟨_,rfl,_,rfl,d,y.2,g,y.1,rfl,rfl,I,J,Sg,by rw[aa1];grind,fin 1 (by rw[aaU hin])⟩
  .rw[aat hin]
   refine bF ⟨_,rfl,_,rfl,d,y.2,g,y.1,rfl,rfl,I,J,Sg,by rw[aa1];grind,fin 0 (by rw[aaz hin])⟩
 .rintro σ t ⟨L,g,rfl,B,I,J,hkl,U⟩
  rw[hrl,abp]at U;have M:=But.fresh s12 hd B;refine⟨_,rfl,_,rfl,p,d,r,g,(λn=>if n∈ks.map (·.1)then 1 else 0),1,rfl,hF.same M,by grind,I,J,λx u h0=>?_,λH3 s3=>?_⟩
  .obtain⟨y,l,e⟩:=Fd u h0
   have hm:x.2∈ys.map (·.1):=by
    rw[hmem,hat,e];exact aa5.mpr ⟨y,l,rfl⟩
   obtain⟨N,hy',e'⟩:=aa5.mp hm;rw[<-e'];refine⟨U N hy',?_⟩;show(if N.1∈ks.map (·.1)then 1 else 0)<2^1;split<;>decide
  .have D:=Cy (T:=λn=>if n∈ks.map (·.1)then 1 else 0) (m:=1) (ch:=λ_=>z) r λx u=>by
    have hmem2:nm x.2∈ks.map (·.1)↔x.2∈z:=by
     rw[hks,aa5];constructor
     .rintro⟨a,ha,e⟩;rw[<-cN e];exact ha
     .intro h;exact⟨_,h,rfl⟩
    have hany:(z.any λb=>b==x.2)=decide (x.2∈z):=by
     by_cases h:x.2∈z
     .rw[aaD h];exact agP.mpr ⟨_,h,by simp⟩
     .rw[aat h,afy]
      intro b D e;exact h (by rw[<-eq_of_beq e];exact D)
    refine⟨by show(if nm x.2∈ks.map (·.1)then 1 else 0)<2^1;split<;>decide,λc hc=>?_⟩
    have:c=0:=by grind
    subst this;rw[hany];by_cases h:x.2∈z
    .rw[aaU (hmem2.mpr h),aaD h];rfl
    .rw[aaz (λq=>h (hmem2.mp q)),aat h];rfl
   have e:tab (λn=>if n∈ks.map (·.1)then 1 else 0) 1 r=one (truth z r):=by
    have h1:=D.2 0 (by decide);have h2:=D.1;generalize tab (λn=>if n∈ks.map (·.1)then 1 else 0) 1 r=v at h1 h2;have:v=0\/v=1:=by grind
    unfold one;rw[<-h1];rcases this with rfl|rfl<;>rfl
   rw[e];exact k H3 (M.trans s3)
def zA:aJ ["held","numbers","rows","choice"] ["held","numbers","rows"] (aA (top 103)):=scm
def Nz(d:Hy P w K mg C base):gF P w K mg base "call_truth" 5 ["held","numbers","rows"] (dH 9 K):=by
 obtain⟨f,fd,F,mF⟩:=d.d60;have T:=d.cD;have g2:=d.bx;obtain⟨f1,k_,G1,k1,b1,m1⟩:=fK d;obtain⟨f2,fd2,G2,k2,b2,m2⟩:=Ny d;obtain⟨f3,Ia,G3,k3,b3,m3⟩:=Sd d;refine⟨f,fd,?_,F.kp,xu F λ_ _ _ _ _ _ _ _ _=>rfl,mF⟩;refine eE F zA λcdv A outer s H vs Q E z h=>?_;obtain⟨ph,pn,pr,a,ns,us,xs,B,c,rfl,u,L,M,U,hR,hc,k⟩:=h;obtain⟨i,x,t,rfl,rfl,ht,rfl⟩:=hc;obtain⟨px,rfl,_,Y⟩:=hR.one;have hxl:=hR.2 x aa0;have hxt:=jy ht;subst hxt;rw[bK]at hxl;have hr1:bI 1 _:=z.mono (by decide);have hr2:bI 2 _:=z.mono (by decide);refine⟨_,ao (aZ (cO (cu (aB G1 hr1 rfl m1 k1 b1 .nil aH (aj (pv 1) aq)))) (au (aF (aQ (aj (cX g2) aq)))) aO)
  (ao (pS zA 3 (aB G2 z rfl m2 k2 b2 .nil aH (aj (aP aN (pv 2) aD (λ_ _=>rfl)) aq)))
  (ao (aZ (aK iZ (pv 3) b_ (aR _)) (au (aF (aQ (aj (cX T) aq)))) aO)
  (au (aF (aQ (aj (aB G3 hr2 rfl m3 k3 b3 .nil aH (aj (aP aN (pv 0) (aP aN (pv 1) aD (λ_ _=>rfl)) (λ_ _=>rfl)) (aj (pv 3) aq))) aq)))))),?_⟩
 refine⟨_,rfl,pn,[i],rfl,M,(by show 1<=1000;decide),λH1 e=>⟨_,rfl,?_⟩⟩;show(if(!(isKey i&&true))=true then _ else _);rw[adz];cases hi:isKey i with
 |false=>
  refine bD ⟨(by show 1<=sizeLine;decide),λq g=>?_⟩;have n:step ⟨a⟩ (.truth i t)=(⟨a⟩,.refused 2):=bC (by show after (isKey i) 2 _=_;rw[hi];rfl);rw[n]at k;have m:=e.trans (Same.aM (o:=.lst [.int (-2)]) g);exact k _ q (But.of m) (e.free g) ak (u.same m)
 |true=>
  refine bF ?_;have D:does ⟨a⟩ (.truth i t)=given (Vaneta.namesIn t) 1 λl=>.ok (⟨a⟩,[one (truth l (formulaAt ⟨a⟩ i))]):=by show after (isKey i) 2 _=_;rw[hi];rfl
  refine⟨_,rfl,pr,_,_,_,rfl,rfl,e.seq U,aL (j:=0) rfl,px,t,rfl,by rw[gO];exact e.seq Y,by grind,λhn0 H2 m=>?_,λy hns H2 q ks m g hql hN hks=>?_⟩
  .have b:=e.trans m
   refine⟨_,rfl,rfl,_,rfl,bD ⟨(by show 1<=sizeLine;decide),λq g=>?_⟩⟩;have n:step ⟨a⟩ (.truth i t)=(⟨a⟩,.refused 1):=bC (by rw[D,hn0];rfl);rw[n]at k;have v:=b.trans (Same.aM (o:=.lst [.int (-1)]) g);exact k _ q (But.of v) (b.free g) ak (u.same v)
  .have b:=e.trans m
   have O:=(L.at hi).2.1;obtain⟨vs,p,h1,hat,h3,h4⟩:=(u.same b).at L hi;have n:step ⟨a⟩ (.truth i t)=(⟨a⟩,.told [one (truth y (formulaAt ⟨a⟩ i))]):=cU (by rw[D,hns];rfl);rw[n]at k;refine⟨_,rfl,rfl,_,rfl,bF ?_⟩;refine⟨_,rfl,_,rfl,pn,_,_,_,rfl,rfl,b.seq M,aL (j:=0) rfl,ph,vs,_,_,rfl,rfl,aV.of h1,hat,_,rfl,p,q,_,ks,y,rfl,h3,O,aV.of hql,hN,hks,λH3 v=>⟨(by show 1<=sizeLine;decide),λr I=>?_⟩⟩;have J:=b.trans v;have N:=J.trans (Same.aM (o:=.lst [nI (one (truth y (formulaAt ⟨a⟩ i)))]) I);exact k _ r (But.of N) (J.free I) ak (u.same N)
def n_(n:Nat):(1:Int)*2^((n:Int)).toNat=((2^n:Nat):Int):=by
 rw[adP,Int.one_mul]
 push_cast
 rfl
def Sh(ks:List (List Int×Addr))(T:List Int->Nat)(N:Nat):Prop:=∀x∈ks,T x.1<2^N/\∀c,(T x.1).testBit c=(decide (c<N)&&decide (x.1∈(aG ks c).map (·.1)))
inductive Fe(P:Program)(w:World)(K:Frag)(vs:List V)(H:Hp)(Q:VK)(e3:XK):Prop
|mk (p:Addr) (ks:List (List Int×Addr)) (_:vs=[.ref p]) (_:aV K H p (rf ks)) (_:Kc K H ks) (_:ks.length<=8) (_:∀(H':Hp)(d:Addr)(kvs:DL)(T:List Int->Nat),Same H H'->H d=none->H' d=some (cH P w d kvs)->bR K H' kvs->kvs.length<=8->(∀x∈ks,dz kvs x.1=some (nI (T x.1)))->Sh ks T (2^ks.length)->Q (.ref d) H')
def j5:aJ ["names","tables","name","number"] ["names"] (aA (top 79)):=scm
def NK(m:Hy P w K mg C base):gF P w K mg base "tables_of" 2 ["names"] (Fe P w K):=by
 obtain⟨f,fd,F,mF⟩:=m.d61;have B:=m.B;obtain⟨f1,k_,G1,k1,b1,m1⟩:=zq m;refine⟨f,fd,?_,F.kp,pF F λ_ _ _ _ _ _ _=>rfl,mF⟩;refine eE F j5 λcdv A outer s H vs Q E hr h=>?_;obtain⟨p,ks,rfl,hp,hN,hz,k⟩:=h;have hu:_+1<cLine:=adf (adN (by decide:1<=64) _) hr.units;have hrl:(rf ks).length=ks.length:=aac _;refine⟨_,ao (pS j5 1 wC)
  (ao (cW abu rfl (fH (pv 0)) (pN j5 2)
   (au (wF hu (pv 1) (pv 2) aD rfl)))
  (ao (cW abu rfl (jP rfl B.range (aj (bO vM aD (aY aX (by rfl) B.len ab8 (aj (pv 0) aq))) aq)) (pN j5 3)
   (au (cW abu rfl (fH (aB G1 hr rfl m1 k1 b1 .nil aH (aj (pv 0) (aj (pv 3) aq)))) (pN j5 2)
    (au (QT hu (pv 1) (pv 2) (bO vM aD (pv 3)) ZS (λ_ _ _=>rfl))))))
  (au (aF (pv 1))))),?_⟩
 intro d D;have L:=Same.aM (o:=cH P w d []) D;refine⟨_,rfl,p,rfl,⟨_,L.seq hp⟩,dR (K:=K) (a:=p) (xs:=rf ks) (λj r l=>Ex2 λ(I:Option V)(g:DL)=>Fz (r=[some (.ref p),some (.ref d),I,none]) (But d (upd H d (cH P w d [])) l) (l d=some (cH P w d g)) (bR K l g) (g.length<=j) (∀y∈ks.take j,dz g y.1=some (nI 0)))
  ⟨none,[],rfl,λb o h _=>h,ak,λx t=>(by cases t),abe _,λy m=>by simp at m⟩ (λj r l _ ⟨_,_,_,u,_,_,_,_⟩=>(But.fresh L D u).seq hp) ?_ ?_⟩
 .rintro j v r l hj ⟨I,g,rfl,u,M,O,hkl,hall⟩
  obtain⟨y,m,rfl⟩:=qK hj;have hjl:j<ks.length:=(aaV.mp m).1;have sH:=But.fresh L D u;have U:=sH.bB (hN y (aa6 m));refine⟨_,rfl,_,rfl,d,y.2,g,y.1,rfl,rfl,M,O,U,by rw[aa1];grind,some (.ref y.2),_,rfl,u.trans But.upd,ak,λx t=>But.upd.Bw M ((O.put U) x t),?_,λy' hy'=>?_⟩
  .have:=nQ g y.1 y.2 (.int 0)
   grind
  .rw[mV]
   rw[take_snoc m]at hy';by_cases e:y'.1=y.1
   .rw[aaU e];rfl
   .rw[aaz e]
    rcases aa4.mp hy' with h|h
    .exact hall y' h
    .rcases abO.mp h with rfl
     exact absurd rfl e
 .rintro r H1 ⟨I,Ut,rfl,bt0,acv,acw,acy,Wb⟩
  rw[hrl]at acy;rw[hrl,abp]at Wb;have sH0:=But.fresh L D bt0;have acz:2^ks.length<=256:=aeB (by decide) hz;refine⟨_,rfl,p,_,rfl,.inl (sH0.seq hp),_,_,rfl,rfl,⟨?_,?_,by decide⟩,((2^ks.length:Nat):Int),?_,?_,?_,?_⟩
  .show(0:Int)<=((rf ks).length:Int)
   grind
  .show((rf ks).length:Int)<=1000000
   grind
  .rw[hrl]
   exact congrArg (λz=>[V.int z]) (n_ ks.length)
  .have h0:(0:Int)<=((2^ks.length:Nat):Int):=ad5 _
   grind
  .have h0:((2^ks.length:Nat):Int)<=256:=ah9.mpr acz
   grind
  refine nH (n:=2^ks.length) (λN r l=>Ft λ(I o3:Option V)(g:DL)(T:List Int->Nat)=>Oh (r=[some (.ref p),some (.ref d),I,o3]) (But d H1 l) (l d=some (cH P w d g)) (bR K l g) (g.length<=8) (∀x∈ks,dz g x.1=some (nI (T x.1))) (Sh ks T N))
   ⟨I,none,Ut,λ_=>0,rfl,λb o h _=>h,acv,acw,by grind,Wb,λx _=>⟨by show(0:Nat)<2^0;decide,λc=>by simp⟩⟩ ?_ ?_
  .rintro N r l aaf ⟨o2',o3,g,T,rfl,u,M,O,hkl,hall,zB⟩
   have sH:=But.fresh L D (bt0.trans u);refine⟨_,rfl,_,rfl,p,ks,N,?_,sH.seq hp,by grind,λH2 q s2 hq hql=>?_⟩
   .show[V.ref p,V.int (0+(N:Int))]=_
    rw[ag1]
   have aag:=s2 _ _ M;have hcl:(rf (aG ks N)).length=(aG ks N).length:=aac _;refine⟨q,rfl,⟨_,aV.of hql⟩,dR (K:=K) (a:=q) (xs:=rf (aG ks N)) (λj r l=>Ex2 λ(I:Option V)(g:DL)=>Fz (r=[some (.ref p),some (.ref d),I,some (.int (0+(N:Int)))]) (But d H2 l) (l d=some (cH P w d g)) (bR K l g) (g.length<=8) (∀x∈ks,dz g x.1=some (nI (T x.1|||if x.1∈((aG ks N).take j).map (·.1)then 2^N else 0))))
    ⟨o2',g,rfl,λb o h _=>h,aag,O.same s2,hkl,λx t=>by rw[hall x t];simp⟩ (λj r l _ ⟨_,_,_,b2,_,_,_,_⟩=>b2.Vg aag (aV.of hql)) ?_ ?_⟩
   .rintro j v r H3 hj ⟨aah,J,rfl,b3,Iz,IK,aai,Y⟩
    obtain⟨y,m,rfl⟩:=qK hj;have hyk:y∈ks:=(cG ks N).subset (aa6 m);have sH3:=But.fresh L D (((bt0.trans u).trans (But.of s2)).trans b3);have U:=sH3.bB (hN y hyk);have hT:=Y y hyk;refine⟨_,rfl,_,rfl,d,y.2,J,y.1,_,rfl,rfl,Iz,IK,U,hT,?_⟩;refine⟨_,rfl,_,_,rfl,rfl,⟨?_,?_,by decide⟩,_,_,rfl,rfl,J,Iz,IK,U,by rw[aa1];grind,?_⟩
    .show(0:Int)<=0+(N:Int)
     grind
    .show 0+(N:Int)<=1000000
     grind
    have esh:(1:Int)*2^(0+(N:Int)).toNat=((2^N:Nat):Int):=by
     rw[ag1,adP,Int.one_mul]
     push_cast
     rfl
    have acA:V.int (Builtin.bitOr ((T y.1|||if y.1∈((aG ks N).take j).map (·.1)then 2^N else 0:Nat):Int) (1*2^(0+(N:Int)).toNat))=nI (T y.1|||2^N):=by
     rw[esh,Ju]
     congr 2
     split
     .rw[Nat.or_assoc,Nat.or_self]
     .rw[Nat.or_zero]
    refine⟨some (.ref y.2),fV J y.1 y.2 (nI (T y.1|||2^N)),rfl,b3.trans But.upd,?_,λx t=>But.upd.Bw Iz ((IK.put U) x t),?_,λx t=>?_⟩
    .rw[ak]
     show some (cH P w d (fV J y.1 y.2 (V.int (Builtin.bitOr _ _))))=_;rw[acA]
    .have h0:(dz J y.1).isSome=true:=by rw[hT];rfl
     have:=congrArg List.length (HX h0 y.2 (nI (T y.1|||2^N)));rw[aac,aac]at this;grind
    .rw[mV]
     by_cases e:x.1=y.1
     .rw[aaU e,e]
      congr 2
      rw[aaU (by rw[take_snoc m,aaY];exact aa4.mpr (.inr (by simp)))]
     .rw[aaz e,Y x t]
      congr 2
      have:x.1∈((aG ks N).take (j+1)).map (·.1)↔x.1∈((aG ks N).take j).map (·.1):=by
       rw[take_snoc m,aaY,aa4];constructor
       .rintro(h|h)
        .exact h
        .exact absurd (by simpa using h) e
       .exact .inl
      by_cases h:x.1∈((aG ks N).take j).map (·.1)
      .rw[aaU h,aaU (this.mpr h)]
      .rw[aaz h,aaz (λq=>h (this.mp q))]
   .rintro r H3 ⟨aah,J,rfl,b3,Iz,IK,aai,Y⟩
    rw[hcl,abp]at Y;refine⟨aah,_,J,λn=>T n|||if n∈(aG ks N).map (·.1)then 2^N else 0,rfl,(u.trans (But.of s2)).trans b3,Iz,IK,aai,Y,λx t=>?_⟩;obtain⟨hb1,hb2⟩:=zB x t;have hpow:2^N<2^(N+1):=Nat.pow_lt_pow_right (by decide) (adD _);refine⟨ahZ (afo hb1 hpow) (by show(if x.1∈(aG ks N).map (·.1)then 2^N else 0)<_;split<;>grind),λc=>?_⟩
    show(T x.1|||if x.1∈(aG ks N).map (·.1)then 2^N else 0).testBit c=_;rw[Nat.testBit_or,hb2 c];by_cases hc:c=N
    .subst hc
     by_cases h:x.1∈(aG ks c).map (·.1)
     .rw[aaU h,Nat.testBit_two_pow_self,aaD h];simp
     .rw[aaz h,aat h];simp
    .have h2:((if x.1∈(aG ks N).map (λy:List Int×Addr=>y.1)then 2^N else 0:Nat)).testBit c=false:=by
      split
      .rw[Nat.testBit_two_pow_of_ne (λe=>hc e.symm)]
      .simp
     rw[h2,afb]
     congr 1
     exact adK.mpr (by grind)
  .rintro r l ⟨o2',o3,g,T,rfl,u,M,O,hkl,hall,zB⟩
   exact⟨_,rfl,k l d g T (But.fresh L D (bt0.trans u)) D M O hkl hall zB⟩
def NP(xs:List V):jD xs none (some (-8))=xs.take (xs.length - 8):=by
 unfold jD;rw[HT.vU];have e:HT.xT xs.length xs.length (some (-8))=xs.length - 8:=by
  unfold HT.xT;simp only;rw[aaU (by decide)];grind
 rw[e,afC,agZ]
def IV(xs:List V):jD xs (some (-8)) none=xs.drop (xs.length - 8):=by
 unfold jD;rw[HT.vU];have e:HT.xT xs.length 0 (some (-8))=xs.length - 8:=by
  unfold HT.xT;simp only;rw[aaU (by decide)];omega
 rw[e,ac3 (by rw[ace];exact aaS _)]
inductive aaj(K:Frag)(vs:List V)(H:Hp)(Q:VK)(e3:XK):Prop
|mk (p:Addr) (A:Formula) (_:vs=[.ref p]) (_:Fl K H p (flat A)) (_:Em A) (_:(namesOf (leaves A)).length<=12) (_:(choices (namesOf (leaves A))).find? (λc=> !truth c A)=none->∀H',Same H H'->Q .non H') (_:∀c,(choices (namesOf (leaves A))).find? (λc=> !truth c A)=some c->∀(H':Hp)(q:Addr)(ks:List (List Int×Addr)),Same H H'->H q=none->H' q=some (.lst (rf ks))->Kc K H' ks->ks.map (·.1)=c.map nm->Q (.ref q) H')
def m8:aJ ["formula","names","ahead","behind","tables","full","number","taken","name","falsities","lowest"] ["formula"] (aA (top 80)):=scm
def aak(D:Hy P w K mg C base):gF P w K mg base "first_false" 3 ["formula"] (aaj K):=by
 obtain⟨f,fd,F,mF⟩:=D.d62;have B:=D.B;have g8:=D.pD;obtain⟨f1,k_,G1,k1,b1,m1⟩:=mR D;obtain⟨f2,fd2,G2,k2,b2,m2⟩:=NK D;obtain⟨f3,Ia,G3,k3,b3,m3⟩:=zq D;obtain⟨f4,V6,G4,k4,b4,m4⟩:=EY D;refine⟨f,fd,?_,F.kp,pF F λ_ _ _ _ _ _ _=>rfl,mF⟩;refine eE F m8 λcdv A outer s H vs Q E hr h=>?_;obtain⟨p,I,rfl,hF,hfit,h12,kN,kS⟩:=h;have hr1:bI 1 _:=hr.mono (by decide);have Bx:=hr.units;have hu:_+1<cLine:=adf (adN (by decide:1<=64) _) hr.units;have hno:=hfit.nodes;refine⟨_,ao (pS m8 1 (aB G1 hr1 rfl m1 k1 b1 .nil aH (aj (pv 0) aq)))
  (ao (pS m8 2 (eU gK (pv 1) uz (cT (JH Ae (cX g8)))))
  (ao (pS m8 3 (eU gK (pv 1) (cT (JH Ae (cX g8))) uz))
  (ao (pS m8 4 (aB G2 hr rfl m2 k2 b2 .nil aH (aj (pv 3) aq)))
  (ao (pS m8 5 (bO vL (bO vM aD (bO vM aD (aY aX (by rfl) B.len ab8 (aj (pv 3) aq)))) aD))
  (ao (cW abu rfl (jP rfl B.range (aj (bO vM aD (aY aX (by rfl) B.len ab8 (aj (pv 2) aq))) aq)) (pN m8 6)
   (ao (pS m8 7 (aB G3 hr1 rfl m3 k3 b3 .nil aH (aj (pv 2) (aj (pv 6) aq))))
   (ao (cW abu rfl (fH (pv 2)) (pN m8 8)
    (au (wF hu (pv 4) (pv 8) (dO (aK (rQ Bx) (pv 8) (pv 7) (by rfl)) (pv 5) aD) rfl)))
   (ao (pS m8 9 (bO PK (pv 5) (aB G4 hr1 rfl m4 k4 b4 .nil aH (aj (pv 0) (aj (pv 4) (aj (pv 5) aq))))))
   (au (aZ (aK yG (pv 9) aD (aR _))
    (ao (pS m8 10 (bO vL (fO PySem.F.plainAttrs_int PySem.F.slot_int_bit_length PySem.F.type_int_bit_length Uu (bO G9 (pv 9) (JH Ae (pv 9)))) aD))
    (au (aF (bO f9 (pv 7) (aB G3 hr1 rfl m3 k3 b3 .nil aH (aj (pv 3) (aj (pv 10) aq)))))))
    aO))))))
  (au (aF b_))))))),?_⟩
 have hat:=lB I;refine⟨_,rfl,p,flat I,rfl,hF,cA I,⟨by rw[aC];omega,by rw[hat,aac,dN];exact hfit.few⟩,hfit.names,λH1 qn ys s1 hqn hql RT tM hmem=>?_⟩;have hys:ys.map (·.1)=(namesOf (leaves I)).map nm:=fC tM (λx=>by rw[hmem x,hat]);have hyl:ys.length=(namesOf (leaves I)).length:=by
  have:=congrArg List.length hys;rwa[aac,aac]at this
 have hrl:(rf ys).length=ys.length:=aac _;generalize Wc:namesOf (leaves I)=NN at*;refine⟨_,rfl,_,rfl,_,rfl,qn,_,rfl,aV.of hql,λO hpa=>?_⟩;have ea:jD (rf ys) none (some (-8))=rf (ys.take (ys.length - 8)):=by
  rw[NP,hrl];unfold rf;rw[aeC]
 have eb:jD (rf ys) (some (-8)) none=rf (ys.drop (ys.length - 8)):=by
  rw[IV,hrl];unfold rf;rw[aer]
 rw[show(jD (rf ys) none (some (-(8:Int))))=_ from ea];have hsplit:ys.take (ys.length - 8)++ys.drop (ys.length - 8)=ys:=adu _ _;have hal:(ys.take (ys.length - 8)).length<=4:=by rw[abg];omega
 have hbl:(ys.drop (ys.length - 8)).length<=8:=by rw[ace];omega
 have uO:NN.take (ys.length - 8)++NN.drop (ys.length - 8)=NN:=adu _ _;have Tc:(ys.take (ys.length - 8)).map (·.1)=(NN.take (ys.length - 8)).map nm:=by rw[aeC,hys,aeC]
 have YH:(ys.drop (ys.length - 8)).map (·.1)=(NN.drop (ys.length - 8)).map nm:=by rw[aer,hys,aer]
 generalize ys.take (ys.length - 8)=g at*;generalize ys.drop (ys.length - 8)=u at*;generalize NN.take (ys.length - 8)=Na at*;generalize NN.drop (ys.length - 8)=Nb at*;have s2:=Same.aM (o:=.lst (rf g)) hpa;refine⟨_,rfl,_,rfl,_,rfl,qn,_,rfl,aV.of (s2 _ _ hql),λU hpb=>?_⟩;rw[show(jD (rf ys) (some (-(8:Int))) none)=_ from eb];have s3:=Same.aM (o:=.lst (rf u)) hpb;have Bs:=(s1.trans s2).trans s3;have YK:=s2.trans s3;have aal:∀x∈u,x∈ys:=λx k=>by rw[<-hsplit];exact aa4.mpr (.inr k)
 have Yl:∀x∈g,x∈ys:=λx k=>by rw[<-hsplit];exact aa4.mpr (.inl k)
 have Wd:(ys.map (·.1)).Nodup:=by
  rw[hys];refine agt nm (λa b (h:a≠b) e=>h (cN e)) ?_;rw[<-Wc];exact(kh (leaves I)).imp λ{a b} hab e=>by
   subst e;have hab':before a a=true:=hab;rw[g_]at hab';cases hab'
 have acB:∀x∈g,∀y∈u,x.1≠y.1:=λx k y D e=>by
  rw[<-hsplit,aaY,agp]at Wd;exact Wd.2.2 _ (aa5.mpr ⟨x,k,rfl⟩) _ (aa5.mpr ⟨y,D,rfl⟩) e
 have acC:Na.length=g.length:=by
  have:=congrArg List.length Tc;rw[aac,aac]at this;exact this.symm
 have acD:Nb.length=u.length:=by
  have:=congrArg List.length YH;rw[aac,aac]at this;exact this.symm
 have hrb:(rf u).length=u.length:=aac _;have hra:(rf g).length=g.length:=aac _;have hmb:2^u.length<=256:=aeB (by decide) hbl;have hma:2^g.length<=16:=aeB (by decide) hal;refine⟨_,rfl,U,u,rfl,aV.of ak,λx k=>YK.bB (RT x (aal x k)),hbl,λH4 d Ut T s4 hd hdk hka hkl hT zB=>?_⟩;have YJ:=Bs.trans s4;have acE:H4 U=some (.lst (rf u)):=s4 _ _ ak;have acF:H4 O=some (.lst (rf g)):=(s3.trans s4) _ _ ak;have aam:((1:Int)*2^((1:Int)*2^(((rf u).length:Nat):Int).toNat).toNat) - 1=((2^(2^u.length) - 1:Nat):Int):=by
  rw[hrb,n_,n_];have:=acJ (2^u.length);omega
 refine⟨_,rfl,U,_,rfl,.inl (aV.of acE),_,_,rfl,rfl,⟨?_,?_,by decide⟩,_,_,rfl,rfl,⟨?_,?_,by decide⟩,_,_,rfl,rfl,?_⟩
 .show(0:Int)<=((rf u).length:Int)
  omega
 .show((rf u).length:Int)<=1000000
  omega
 .show(0:Int)<=1*2^(((rf u).length:Nat):Int).toNat
  rw[n_];exact ad5 _
 .show(1:Int)*2^(((rf u).length:Nat):Int).toNat<=1000000
  rw[n_,hrb];have:((2^u.length:Nat):Int)<=256:=ah9.mpr hmb;omega
 refine⟨_,rfl,O,_,rfl,.inl (aV.of acF),_,_,rfl,rfl,⟨?_,?_,by decide⟩,((2^g.length:Nat):Int),?_,?_,?_,?_⟩
 .show(0:Int)<=((rf g).length:Int)
  omega
 .show((rf g).length:Int)<=1000000
  omega
 .rw[hra]
  exact congrArg (λz=>[V.int z]) (n_ g.length)
 .have h0:(0:Int)<=((2^g.length:Nat):Int):=ad5 _
  omega
 .have h0:((2^g.length:Nat):Int)<=16:=ah9.mpr hma
  omega
 generalize hm:2^u.length=m at*;have hmN:2^Nb.length=m:=by rw[acD,hm]
 have hmA:2^Na.length=2^g.length:=by rw[acC]
 refine nH (n:=2^g.length) (λN σ H'=>Oa λ(o6 o7 o8 o9:Option V)(L:DL)=>Oh (σ=[some (.ref p),some (.ref qn),some (.ref O),some (.ref U),some (.ref d),some (nI (2^m - 1)),o6,o7,o8,o9,none]) (But d H4 H') (H' d=some (cH P w d L)) (bR K H' L) (L.length<=8+4*N) (∀x∈u,dz L x.1=some (nI (T x.1))) (∀n'<N,∀c<m,truth (aG Na n'++aG Nb c) I=true))
  ⟨none,none,none,none,Ut,?_,λb o h _=>h,hdk,hka,by omega,hT,λn' h=>absurd h (Nat.not_lt_zero _)⟩ ?_ ?_
 .show[some (V.ref p),some (.ref qn),some (.ref O),some (.ref U),some (.ref d),some (V.int (((1:Int)*2^((1:Int)*2^(((rf u).length:Nat):Int).toNat).toNat) - 1)),none,none,none,none,none]=_
  rw[aam]
 .rintro N σ H5 aaf ⟨o6,o7,o8,o9,L,rfl,bt,aan,aao,acG,hT5,hdone⟩
  have sH5:=But.fresh s4 hd bt;refine⟨_,rfl,_,rfl,O,g,N,?_,aV.of (sH5 _ _ (s3 _ _ ak)),by omega,λH6 qt s6 hqt Vi=>?_⟩
  .show[V.ref O,V.int (0+(N:Int))]=_
   rw[ag1]
  have Vj:=s6 _ _ aan;have aap:H6 O=some (.lst (rf g)):=(sH5.trans s6) _ _ (s3 _ _ ak);refine⟨_,rfl,O,rfl,⟨_,aV.of aap⟩,dR (K:=K) (a:=O) (xs:=rf g) (λj σ H'=>Ex2 λ(o8:Option V)(L:DL)=>Oh (σ=[some (.ref p),some (.ref qn),some (.ref O),some (.ref U),some (.ref d),some (nI (2^m - 1)),some (.int (0+(N:Int))),some (.ref qt),o8,o9,none]) (But d H6 H') (H' d=some (cH P w d L)) (bR K H' L) (L.length<=8+4*N+j) (∀x∈u,dz L x.1=some (nI (T x.1))) (∀x∈g.take j,dz L x.1=some (nI (if x.1∈(aG g N).map (·.1)then 2^m - 1 else 0))))
   ⟨o8,L,rfl,λb o h _=>h,Vj,aao.same s6,by omega,hT5,λx k=>by simp at k⟩ (λj σ H' _ ⟨_,_,_,b2,_,_,_,_,_⟩=>b2.Vg Vj (aV.of aap)) ?_ ?_⟩
  .rintro j v σ H7 hj ⟨o8',Y,rfl,b7,NQ,NT,aaq,hT7,hA7⟩
   obtain⟨y,D,rfl⟩:=qK hj;have hym:=aa6 D;have hjl:j<g.length:=(aaV.mp D).1;have YL:=But.fresh s4 hd ((bt.trans (But.of s6)).trans b7);have Sg:dG K H7 y.2 (ii y.1):=YL.bB (YK.bB (RT y (Yl y hym)));have acH:Kc K H7 (aG g N):=λx k=>YL.bB (YK.bB (RT x (Yl x ((cG g N).subset k))));have acI:aV K H7 qt (rf (aG g N)):=b7.Vg Vj (aV.of Vi);have fin:∀b:Nat,b=(if y.1∈(aG g N).map (·.1)then 2^m - 1 else 0)->Ex2 λ(o8:Option V)(kvs':DL)=>Oh ([some (V.ref p),some (.ref qn),some (.ref O),some (.ref U),some (.ref d),some (nI (2^m - 1)),some (.int (0+(N:Int))),some (.ref qt),some (.ref y.2),o9,none]=[some (V.ref p),some (.ref qn),some (.ref O),some (.ref U),some (.ref d),some (nI (2^m - 1)),some (.int (0+(N:Int))),some (.ref qt),o8,o9,none]) (But d H6 (upd H7 d (cH P w d (fV Y y.1 y.2 (nI b))))) (upd H7 d (cH P w d (fV Y y.1 y.2 (nI b))) d=some (cH P w d kvs')) (bR K (upd H7 d (cH P w d (fV Y y.1 y.2 (nI b)))) kvs') (kvs'.length<=8+4*N+(j+1)) (∀x∈u,dz kvs' x.1=some (nI (T x.1))) (∀x∈g.take (j+1),dz kvs' x.1=some (nI (if x.1∈(aG g N).map (·.1)then 2^m - 1 else 0))):=λb hb=>by
    refine⟨some (.ref y.2),_,rfl,b7.trans But.upd,ak,λx k=>But.upd.Bw NQ ((NT.put Sg) x k),?_,λx k=>?_,λx k=>?_⟩
    .have:=nQ Y y.1 y.2 (nI b)
     omega
    .rw[mV,aaz (λe=>acB y hym x k e.symm)]
     exact hT7 x k
    .rw[mV]
     rw[take_snoc D]at k;by_cases e:x.1=y.1
     .rw[aaU e,e,hb]
     .rw[aaz e]
      rcases aa4.mp k with h|h
      .exact hA7 x h
      .rcases abO.mp h with rfl
       exact absurd rfl e
   refine⟨_,rfl,_,rfl,zy Sg acI acH ⟨_,rfl,?_⟩⟩;by_cases hin:y.1∈(aG g N).map (·.1)
   .rw[aaD hin]
    exact bD ⟨_,rfl,_,rfl,_,rfl,d,y.2,Y,y.1,rfl,rfl,NQ,NT,Sg,by rw[aa1];omega,fin (2^m - 1) (by rw[aaU hin])⟩
   .rw[aat hin]
    exact bF ⟨_,rfl,_,rfl,d,y.2,Y,y.1,rfl,rfl,NQ,NT,Sg,by rw[aa1];omega,fin 0 (by rw[aaz hin])⟩
  .rintro σ H7 ⟨o8',Y,rfl,b7,NQ,NT,aaq,hT7,hA7⟩
   rw[hra]at aaq;rw[hra,abp]at hA7;have YL:=But.fresh s4 hd ((bt.trans (But.of s6)).trans b7);have aar:=Bs.trans YL;have hTT:∀x∈leaves I,(nm x.2∈g.map (·.1)/\x.2∈Na/\x.2∉Nb)\/(nm x.2∉g.map (·.1)/\x.2∈Nb/\x.2∉Na/\nm x.2∈u.map (·.1)):=λx k=>by
    have hxN:x.2∈Na++Nb:=by
     rw[uO,<-Wc,eH];exact aa5.mpr ⟨x,k,rfl⟩
    have hnd:(Na++Nb).Nodup:=by
     rw[uO,<-Wc];exact(kh (leaves I)).imp λ{a b} hab e=>by
      subst e;have hab':before a a=true:=hab;rw[g_]at hab';cases hab'
    rw[agp]at hnd;have mm:∀{l:List (List Int×Addr)}{M:List Name},l.map (·.1)=M.map nm->(nm x.2∈l.map (·.1)↔x.2∈M):=λ{l M} e=>by
     rw[e,aa5];constructor
     .rintro⟨a,ha,q⟩;rw[<-cN q];exact ha
     .intro h;exact⟨_,h,rfl⟩
    rcases aa4.mp hxN with h|h
    .exact .inl ⟨(mm Tc).mpr h,h,λh'=>hnd.2.2 _ h _ h' rfl⟩
    .have hna:x.2∉Na:=λh'=>hnd.2.2 _ h' _ h rfl
     exact .inr ⟨λq=>hna ((mm Tc).mp q),h,hna,(mm YH).mpr h⟩
   have hcm:∀{l:List (List Int×Addr)}{M:List Name}(n:Nat),l.map (·.1)=M.map nm->(aG l n).map (·.1)=(aG M n).map nm:=λ{l M} n e=>by rw[<-oW,e,oW]
   have mch:∀{l:List (List Int×Addr)}{M:List Name}(n:Nat)(a:Name),l.map (·.1)=M.map nm->(nm a∈(aG l n).map (·.1)↔a∈aG M n):=λ{l M} n a e=>by
    rw[hcm n e,aa5];constructor
    .rintro⟨b,hb,q⟩;rw[<-cN q];exact hb
    .intro h;exact⟨_,h,rfl⟩
   have hpos:0<2^m:=acJ m;have Ym:∀x∈leaves I,(if nm x.2∈g.map (·.1)then(if nm x.2∈(aG g N).map (·.1)then 2^m - 1 else 0)else T (nm x.2))<2^m/\dz Y (nm x.2)=some (nI (if nm x.2∈g.map (·.1)then(if nm x.2∈(aG g N).map (·.1)then 2^m - 1 else 0)else T (nm x.2))):=λx k=>by
    rcases hTT x k with⟨J,_,_⟩|⟨J,_,_,h4⟩
    .rw[aaU J]
     obtain⟨y,D,e⟩:=aa5.mp J;refine⟨by split<;>omega,?_⟩
     rw[<-e];exact hA7 y D
    .rw[aaz J]
     obtain⟨y,D,e⟩:=aa5.mp h4;rw[<-e];exact⟨(zB y D).1,hT7 y D⟩
   have hbit:=Cy (T:=λn=>if n∈g.map (·.1)then(if n∈(aG g N).map (·.1)then 2^m - 1 else 0)else T n) (m:=m) (ch:=λc=>aG Na N++aG Nb c) I λx k=>by
    refine⟨(Ym x k).1,λc hc=>?_⟩;have hany:((aG Na N++aG Nb c).any λb=>b==x.2)=(decide (x.2∈aG Na N)||decide (x.2∈aG Nb c)):=by
     rw[List.any_append];have one:∀l:List Name,(l.any λb=>b==x.2)=decide (x.2∈l):=λl=>by
      by_cases h:x.2∈l
      .rw[aaD h];exact agP.mpr ⟨_,h,by simp⟩
      .rw[aat h,afy]
       intro b hb e;exact h (by rw[<-eq_of_beq e];exact hb)
     rw[one,one]
    show(if nm x.2∈g.map (·.1)then(if nm x.2∈(aG g N).map (·.1)then 2^m - 1 else 0)else T (nm x.2)).testBit c=_;rw[hany];rcases hTT x k with⟨J,h2,h3⟩|⟨J,h2,h3,h4⟩
    .have hnb:x.2∉aG Nb c:=λq=>h3 ((cG Nb c).subset q)
     rw[aaU J,aat hnb,afb];by_cases q:x.2∈aG Na N
     .rw[aaU ((mch N x.2 Tc).mpr q),aaD q,Nat.testBit_two_pow_sub_one,aaD hc]
     .rw[aaz (λz=>q ((mch N x.2 Tc).mp z)),aat q];simp
    .have hna:x.2∉aG Na N:=λq=>h3 ((cG Na N).subset q)
     rw[aaz J,aat hna,Bool.false_or];obtain⟨y,D,e⟩:=aa5.mp h4;rw[<-e,(zB y D).2 c,aaD hc,afc,e];exact adK.mpr (mch c x.2 YH)
   refine⟨_,rfl,_,rfl,_,rfl,_,rfl,p,d,I,Y,(λn=>if n∈g.map (·.1)then(if n∈(aG g N).map (·.1)then 2^m - 1 else 0)else T n),m,rfl,hF.same aar,by omega,NQ,NT,λx k h0=>?_,λH8 s8=>?_⟩
   .obtain⟨y,D,e⟩:=Fd k h0
    rw[e];exact⟨(Ym y D).2,(Ym y D).1⟩
   generalize htab:tab (λn=>if n∈g.map (·.1)then(if n∈(aG g N).map (·.1)then 2^m - 1 else 0)else T n) m I=Vk at hbit;obtain⟨htl,htb⟩:=hbit;refine⟨_,_,rfl,rfl,?_⟩;have aas:=aar.trans s8;have acK:Builtin.bitXor ((2^m - 1:Nat):Int) (Vk:Int)=((2^m - 1 - Vk:Nat):Int):=yx htl;refine⟨_,rfl,rfl,_,rfl,?_⟩;show(if(!decide (V.int (Builtin.bitXor ((2^m - 1:Nat):Int) (Vk:Int))=V.int 0))=true then _ else _);rw[acK];by_cases hz0:2^m - 1 - Vk=0
   .rw[hz0,aaD (show V.int ((0:Nat):Int)=V.int 0 from rfl)]
    refine bF ⟨some (.int (0+(N:Int))),some (.ref qt),o8',_,Y,rfl,((bt.trans (But.of s6)).trans b7).trans (But.of s8),s8 _ _ NQ,NT.same s8,by omega,hT7,λn' hn' c hc=>?_⟩;rcases aeM n' N with h|h
    .exact hdone n' h c hc
    .have:n'=N:=by omega
     subst this;rw[<-htb c hc];exact all_true htl hz0 hc
   .rw[aat (λz=>hz0 (by have:=V.int.inj z;omega))]
    obtain⟨low,a,hla⟩:=lowest _ hz0;have hlb:=O7 low a;rw[<-hla]at hlb;have hlm:low<m:=WL (t:=2^m - 1 - Vk) (by omega) hlb.1;have hlow:((Builtin.Int.intBits (Builtin.bitAnd ((2^m - 1 - Vk:Nat):Int) (-((2^m - 1 - Vk:Nat):Int))):Nat):Int) - 1=(low:Int):=by
     rw[hla,Tt,Pg];omega
    have hfalse:truth (aG Na N++aG Nb low) I=false:=by
     have J:=oY htl hlm;rw[hlb.1,htb low hlm]at J;simpa using J.symm
    have hfind:=TJ (Na:=Na) (Nb:=Nb) (A:=I) (n:=N) (low:=low) (by rw[hmA];exact aaf) (by rw[hmN];exact hlm) hfalse (by rw[hmN];exact hdone) λc hc=>by
     have J:=oY htl (afo hc hlm);rw[hlb.2 c hc,htb c (afo hc hlm)]at J;simpa using J.symm
    rw[uO]at hfind;refine bD ⟨_,rfl,_,rfl,_,rfl,_,_,rfl,rfl,rfl,_,rfl,rfl,_,_,rfl,rfl,?_⟩;have acL:H8 qt=some (.lst (rf (aG g N))):=s8 _ _ (b7 _ _ Vi (λe=>by subst e;rw[Vj]at Vi;cases Vi));have acM:aV K H8 U (rf u):=(YL.trans s8).seq (aV.of ak);refine⟨_,rfl,_,rfl,_,rfl,U,u,low,?_,acM,by omega,λH9 qc s9 hqc acN=>?_⟩
    .show[V.ref U,V.int (((Builtin.Int.intBits (Builtin.bitAnd ((2^m - 1 - Vk:Nat):Int) (-((2^m - 1 - Vk:Nat):Int))):Nat):Int) - 1)]=_
     rw[hlow]
    refine⟨qt,qc,_,_,rfl,rfl,s9 _ _ acL,acN,?_,λr hr'=>?_⟩
    .rw[aac,aac,aa1]
     have J:=(cG g N).length_le;have h2:=(cG u low).length_le;omega
    have aau:=aas.trans s9;have s10:=Same.aM (o:=.lst (rf (aG g N)++rf (aG u low))) hr';refine kS _ hfind _ r (aG g N++aG u low) (aau.trans s10) (aau.free hr') ?_ ?_ ?_
    .rw[ak]
     unfold rf;rw[aaY]
    .intro x k
     have hxy:x∈ys:=by
      rcases aa4.mp k with h|h
      .exact Yl x ((cG g N).subset h)
      .exact aal x ((cG u low).subset h)
     exact(((YL.trans s8).trans s9).trans s10).bB (YK.bB (RT x hxy))
    .rw[aaY,hcm N Tc,hcm low YH,aaY]
 .rintro σ H5 ⟨o6,o7,o8,o9,L,rfl,bt,aan,aao,acG,hT5,hdone⟩
  refine kN ?_ H5 (Bs.trans (But.fresh s4 hd bt));rw[<-uO];exact TQ (by rw[hmN,hmA];exact hdone)
def Em.leaf{A:Formula}(h:Em A):(flat A).length<=100000/\(gj (flat A)).length<2000:=by
 have:=h.nodes;exact⟨by rw[aC];grind,by rw[lB,aac,dN];exact h.few⟩
theorem Fg{K:Frag}{H:Hp}:∀{ks:List (List Int×Addr)},Kc K H ks->sI K H (rf ks) (ks.map λx=>ii x.1)
|[],_=>.nil
|x::r,h=>.cons ⟨x.2,rfl,.inr (h x aa0)⟩ (Fg λy a=>h y (aaX _ a))
def Ss(n:Nat)(t:Text):VanetaNeutral.encode (.told (n::toldText t))=(n:Int)::((nm t).length:Int)::nm t:=by
 rw[<-iR];rfl
def IW(c:List Name):dB [V.int 32] ((c.map nm).map ii)=ii (nm (namesText c)):=by
 rw[gH];unfold nm ii;rw[nD,nD,abL,abL];rfl
def pL:aJ ["held","numbers","rows","formula","names"] ["held","numbers","rows"] (aA (top 104)):=scm
def I_(d:Hy P w K mg C base):gF P w K mg base "call_always" 4 ["held","numbers","rows"] (dH 10 K):=by
 obtain⟨f,fd,F,mF⟩:=d.d63;have B:=d.B;have g2:=d.bx;have g7:=d.rO;have g12:=d.pC;have g32:=d.qI;obtain⟨f1,k_,G1,k1,b1,m1⟩:=fK d;obtain⟨f2,fd2,G2,k2,b2,m2⟩:=mR d;obtain⟨f3,Ia,G3,k3,b3,m3⟩:=aak d;obtain⟨f4,V6,G4,k4,b4,m4⟩:=sO d;obtain⟨f5,fd5,G5,k5,b5,m5⟩:=pJ d;refine⟨f,fd,?_,F.kp,xu F λ_ _ _ _ _ _ _ _ _=>rfl,mF⟩;refine eE F pL λcdv A outer s H vs Q E hr h=>?_;obtain⟨ph,pn,pr,g,ns,us,xs,B0,c,rfl,u,hG,hn,hpr,hR,hc,k⟩:=h;obtain⟨i,rfl,rfl,rfl⟩:=hc;have J:bI 1 _:=hr.mono (by decide);refine⟨_,ao (aZ (cO (cu (aB G1 J rfl m1 k1 b1 .nil aH (aj (pv 1) aq)))) (au (aF (aQ (aj (cX g2) aq)))) aO)
  (ao (pS pL 3 (aP aN (pv 0) (aP aN (pv 1) aD (λ_ _=>rfl)) (λ_ _=>rfl)))
  (ao (aZ (aK tH (aY aX (by rfl) B.len ab8 (aj (aB G2 J rfl m2 k2 b2 .nil aH (aj (pv 3) aq)) aq)) (cX g12) (aR _)) (au (aF (aQ (aj (cX g7) aq)))) aO)
  (ao (pS pL 4 (aB G3 hr rfl m3 k3 b3 .nil aH (aj (pv 3) aq)))
  (ao (aZ (aK iZ (pv 4) b_ (aR _)) (au (aF (aQ (aj aD (aj aD aq))))) aO)
  (au (aF (bO f9 (aQ (aj aD aq)) (aB G5 J rfl m5 k5 b5 .nil aH (aj (aB G4 J rfl m4 k4 b4 .nil aH (aj (pv 4) (aj (aQ (aj (cX g32) aq)) aq))) aq))))))))),?_⟩
 refine⟨_,rfl,pn,[i],rfl,hn,(by show 1<=1000;decide),λH1 v=>⟨_,rfl,?_⟩⟩;show(if(!(isKey i&&true))=true then _ else _);rw[adz];cases hi:isKey i with
 |false=>
  refine bD ⟨(by show 1<=sizeLine;decide),λq hq=>?_⟩;have l:step ⟨g⟩ (.always i)=(⟨g⟩,.refused 2):=bC (by show after (isKey i) 2 _=_;rw[hi];rfl);rw[l]at k;have D:=v.trans (Same.aM (o:=.lst [.int (-2)]) hq);exact k _ q (But.of D) (v.free hq) ak (u.same D)
 |true=>
  refine bF ?_;have L:does ⟨g⟩ (.always i)=doAlways ⟨g⟩ i:=by show after (isKey i) 2 _=_;rw[hi];rfl
  unfold doAlways at L;obtain⟨vs,p,h1,hat,h3,h4⟩:=(u.same v).at hG hi;have I:=(hG.at hi).2.1;generalize formulaAt ⟨g⟩ i=e at*;refine⟨_,rfl,_,rfl,pn,_,_,_,rfl,rfl,v.seq hn,aL (j:=0) rfl,ph,vs,_,_,rfl,rfl,aV.of h1,hat,?_⟩;have acO:=lB e;refine⟨_,rfl,p,flat e,rfl,h3,cA e,I.leaf,I.names,λH2 q ys D hq hql hN tM hmem=>?_⟩;have hys:ys.map (·.1)=(namesOf (leaves e)).map nm:=fC tM (λx=>by rw[hmem x,acO]);have hyl:(rf ys).length=(namesOf (leaves e)).length:=by
   have:=congrArg List.length hys;rw[aac,aac]at this;rw[<-this];exact aac _
  have M:=v.trans D;refine⟨q,_,rfl,.inl (aV.of hql),_,_,rfl,rfl,_,rfl,?_⟩;rw[hyl];show(if decide ((12:Int)<((namesOf (leaves e)).length:Int))=true then _ else _);by_cases U:12<(namesOf (leaves e)).length
  .rw[aaD (by grind)]
   refine bD ⟨(by show 1<=sizeLine;decide),λq2 hq2=>?_⟩;have l:step ⟨g⟩ (.always i)=(⟨g⟩,.refused 7):=bC (by rw[L];exact aaU U);rw[l]at k;have t:=M.trans (Same.aM (o:=.lst [.int (-7)]) hq2);exact k _ q2 (But.of t) (M.free hq2) ak (u.same t)
  .rw[aat (by grind)]
   refine bF ⟨_,rfl,p,e,rfl,h3.same D,I,by grind,λhn0 H3 t=>?_,λc Y H3 q3 ks t Yc acP hN3 hks=>?_⟩
   .have N:=M.trans t
    refine⟨_,rfl,rfl,_,rfl,bD ⟨(by show 2<=sizeLine;decide),λq4 K7=>?_⟩⟩;have l:step ⟨g⟩ (.always i)=(⟨g⟩,.told [1,0]):=cU (by rw[L];simp only;rw[aaz U,hn0]);rw[l]at k;have O:=N.trans (Same.aM (o:=.lst [.int 1,.int 0]) K7);exact k _ q4 (But.of O) (N.free K7) ak (u.same O)
   .have N:=M.trans t
    have l:step ⟨g⟩ (.always i)=(⟨g⟩,.told (0::toldText (namesText c))):=cU (by rw[L];simp only;rw[aaz U,Y]);rw[l]at k;have hsub:∀a∈c,a∈namesOf (leaves e):=by
     have hc1:=ae6 Y;obtain⟨j,m⟩:=aeS.mp hc1;have hlt:j<2^(namesOf (leaves e)).length:=by
      have:=(aaV.mp m).1;rwa[iw]at this
     rw[iV _ j hlt]at m;cases m;exact λa ha=>(cG _ _).subset ha
    have hcl:c.length<=12:=by
     have hc1:=ae6 Y;obtain⟨j,m⟩:=aeS.mp hc1;have hlt:j<2^(namesOf (leaves e)).length:=by
      have:=(aaV.mp m).1;rwa[iw]at this
     rw[iV _ j hlt]at m;cases m;have:=(cG (namesOf (leaves e)) j).length_le;grind
    have hkl:ks.length=c.length:=by
     have:=congrArg List.length hks;rwa[aac,aac]at this
    have T:∀x∈c.map nm,x.length<=12:=λx n=>by
     obtain⟨a,ha,rfl⟩:=aa5.mp n;have:=hsub a ha;rw[eH]at this;obtain⟨z,hz,rfl⟩:=aa5.mp this;rw[bK];exact qT (I.2 z hz)
    have hxs:(ks.map λx=>ii x.1)=(c.map nm).map ii:=by rw[<-hks,abL];rfl
    refine⟨_,rfl,rfl,_,rfl,bF ⟨(by show 1<=sizeLine;decide),λz hz=>?_⟩⟩;have O:=Same.aM (o:=.lst [.int 0]) hz;refine⟨_,rfl,(by show 1<=sizeLine;decide),λb hb=>?_⟩;have s5:=Same.aM (o:=.lst [.int 32]) hb;have s45:=O.trans s5;refine⟨q3,b,rf ks,(c.map nm).map ii,[.int 32],rfl,aV.of (s45 _ _ acP),hxs▸(Fg hN3).same s45,ak,λx n=>?_,by decide,?_,λH4 q4 s6 K7 Yd=>?_⟩
    .obtain⟨y,d,rfl⟩:=aa5.mp n
     have:=T y d;show(ii y).length<=_;rw[aac];grind
    .rw[aac,aac];grind
    rw[IW]at Yd;refine⟨q4,nm (namesText c),rfl,.inl (aV.of Yd),?_,λH5 q5 s7 hq5 hl5=>?_⟩
    .rw[bK,gH]
     have:=jO [32] 12 c λx n=>by
      have:=T (nm x) (aa5.mpr ⟨x,n,rfl⟩);rwa[bK]at this
     have h13:c.length*(12+[32].length)<=12*13:=agk hcl (by decide);grind
    have hz5:=((s5.trans s6).trans s7) _ _ (ak (H:=H3) (a:=z) (o:=.lst [.int 0]));refine⟨z,q5,_,_,rfl,rfl,hz5,hl5,?_,λr hr'=>?_⟩
    .have:=jO [32] 12 c λx n=>by
      have:=T (nm x) (aa5.mpr ⟨x,n,rfl⟩);rwa[bK]at this
     have h13:c.length*(12+[32].length)<=12*13:=agk hcl (by decide);show 1+(ii (((nm (namesText c)).length:Int)::nm (namesText c))).length<=sizeLine;rw[aac,aae,bK,gH,aa1];grind
    have sf:=((N.trans s45).trans s6).trans s7;have s8:=sf.trans (Same.aM (o:=.lst ([.int 0]++ii (((nm (namesText c)).length:Int)::nm (namesText c)))) hr');exact k _ r (But.of s8) (sf.free hr') (by rw[Ss];exact ak) (u.same s8)
def Sv{A:Formula}{i:Nat}{p:List Nat}(h:At A i p):p.length<=i:=by
 induction h with
 |here=>exact aaS _
 |fst _ _ _ a=>rw[aae];grind
 |snd _ _ _ a=>rw[aae];grind
def Sw(x y:Nd):PyData.eqv (rR x) (rR y)=decide (x=y):=by
 have:=RQ x y.1 y.2;rw[show V7 y.1 y.2=rR y from rfl]at this;rw[this];obtain⟨a,b⟩:=x;obtain⟨c,d⟩:=y;by_cases e:a=c
 .by_cases f:b=d
  .subst e;subst f;simp
  .simp[e,f]
 .simp[e]
def Yn{A B:Formula}{i:Nat}(c:∀j<i,(flat A)[j]?=(flat B)[j]?)(a:(flat A)[i]?≠(flat B)[i]?):∃p,differ A B=some p/\At A i p:=by
 cases hd:differ A B with
 |none=>rw[(gw A B).1 hd]at a;exact absurd rfl a
 |some p=>
  obtain⟨j,d,k,l,f,g⟩:=(gw A B).2 p hd;refine⟨p,rfl,?_⟩;have b:j=i:=by
   rcases Nat.lt_trichotomy j i with h|h|h
   .exact absurd (c j h) g
   .exact h
   .have e:((flat A).take j)[i]?=((flat B).take j)[i]?:=by rw[f]
    rw[ad7 h,ad7 h]at e;exact absurd e a
  rw[<-b];exact d
abbrev oN(p:List Nat):List Int:=p.map Int.ofNat
inductive Le(K:Frag)(vs:List V)(H:Hp)(Q:VK)(e3:XK):Prop
|mk (p:Addr) (A:Formula) (i:Nat) (pl:List Nat) (_:vs=[.ref p,.int (i:Int)]) (_:Fl K H p (flat A)) (_:At A i pl) (_:i<nodes A) (_:nodes A<=100000) (_:K4 H (oN pl) Q)
def iD:aJ ["formula","wanted","place","start","side","end"] ["formula","wanted"] (aA (top 32)):=scm
def Sx(hy:Hy P w K mg C base):gF P w K mg base "place_of" 2 ["formula","wanted"] (Le K):=by
 obtain⟨f,fd,F,mF⟩:=hy.d64;obtain⟨f1,k_,G1,k1,b1,m1⟩:=HS hy;refine⟨f,fd,?_,F.kp,Ba F λ_ _ _ _ _ _ _ _=>rfl,mF⟩;refine eE F iD λcdv A outer s H vs Q E hr h=>?_;obtain⟨p,J,w0,pl,rfl,hF,hat,hw,hz,k⟩:=h;have agB:=Sv hat;refine⟨_,ao (pS iD 2 (aQ aq))
  (ao (pS iD 3 aD)
  (ao (iz abu (aK yH (pv 3) (pv 1) (aR _))
   (ao (pS iD 4 aD)
   (ao (mq (i:=3) iD.nd rfl (Or.inl rfl) aD mz)
   (ao (pS iD 5 (aB G1 hr rfl m1 k1 b1 .nil aH (aj (pv 0) (aj (pv 3) aq))))
   (ao (aZ (aK jQ (pv 5) (pv 1) (aR _)) (ao (pS iD 4 aD) (au (pS iD 3 (pv 5)))) aO)
   (au (bH (dD aaW abv abw bY (pv 2) (aj (pv 4) aq)))))))))
  (au (aF (pv 2))))),?_⟩
 refine⟨abe _,λl hl=>?_⟩;have s0:=Same.aM (o:=.lst []) hl;refine⟨λm σ L=>Ex8 λ(g j:Option V)(b e:List Nd)(B:Formula)(i:Nat)(done N:List Nat)=>An9 (m=i) (σ=[some (.ref p),some (.int (w0:Int)),some (.ref l),some (.int (b.length:Int)),g,j]) (Same H L) (L l=some (.lst (ii (oN done)))) (flat J=b++flat B++e) (w0=b.length+i) (At B i N) (i<nodes B) (pl=done++N),
  ⟨_,none,none,[],[],J,w0,[],pl,rfl,rfl,s0,ak,by simp,by simp,hat,hw,rfl⟩,?_⟩
 rintro m σ L ⟨g,j,b,e,B,i,done,N,rfl,rfl,v,n,he,hwi,hB,hi,q⟩;refine⟨_,rfl,_,rfl,_,_,rfl,rfl,_,rfl,?_⟩;have hdl:done.length<=100000:=by
  have:=congrArg List.length q;rw[aad]at this;grind
 have hput:∀{c:Hp}(d:Nat),Same H c->c l=some (.lst (ii (oN done)))->sV λa xs y=>Fz (V.ref l=.ref a) ([V.int (d:Int)]=[y]) (c a=some (.lst xs)) (xs.length<sizeLine) (Same H (upd c a (.lst (xs++[y])))) ((upd c a (.lst (xs++[y]))) l=some (.lst (ii (oN (done++[d]))))):=λ{c} d s2 h2=>by
  refine⟨l,_,_,rfl,rfl,h2,by rw[aac,aac,aa1];grind,s2.bW hl,?_⟩;rw[ak];show _=some (HO.lst (((done++[d]).map Int.ofNat).map V.int));rw[aaY,aaY];rfl
 dsimp only;have goOn:(0:Nat)<m->decide (((b.length:Nat):Int)<(w0:Int))=true:=λh=>aaD (by grind);cases hB with
 |here=>
  rw[aaz (by rw[aat (by grind)];exact aaT)];rw[acQ]at q;subst q;exact⟨_,rfl,k L l v hl n⟩
 |@fst _ C z M I O T=>
  rw[aaU (goOn (by grind))];obtain⟨r,hr0⟩:∃r,parts B=C::r:=by
   match hpB:parts B,I with
   |[],I=>cases I
   |x::r,I=>cases I;exact⟨r,rfl⟩
  have t:flat J=(b++[root B])++flat C++(flats r++e):=by
   rw[he,bL,hr0,bA];simp
  refine⟨λu c=>Ex2 λ(g j:Option V)=>dF (u=[some (.ref p),some (.int (w0:Int)),some (.ref l),some (.int ((b++[root B]).length:Int)),g,j]) (Same H c) (c l=some (.lst (ii (oN (done++[0]))))),λu c ⟨U,Y,e1,e2,e3⟩=>?_,?_⟩
  .exact⟨z,by grind,U,Y,b++[root B],flats r++e,C,z,done++[0],M,rfl,e1,e2,e3,t,by rw[aad,abj];grind,O,T,by rw[q];simp⟩
  .refine⟨_,rfl,_,_,rfl,rfl,?_⟩
   refine⟨_,rfl,_,rfl,p,b++[root B],flats r++e,C,?_,?_,?_⟩
   .rw[aad,abj];rfl
   .rw[<-t];exact hF.same v
   refine⟨_,rfl,_,rfl,_,_,rfl,rfl,_,rfl,?_⟩;have hng:¬(((b++[root B]).length+nodes C:Nat):Int)<=(w0:Int):=by
    rw[aad,abj];grind
   rw[aat hng];refine bF ?_;obtain⟨a,xs,y,q1,q2,q3,q4,q5,q6⟩:=hput 0 v n;refine⟨_,rfl,.inl ⟨rfl,_,aV.of n⟩,_,rfl,a,xs,y,q1,q2,q3,q4,some (.int 0),some (.int (((b++[root B]).length+nodes C:Nat):Int)),?_,q5,q6⟩;rw[aad,abj];rfl
 |@snd _ C D z M hp2 O T=>
  rw[aaU (goOn (by grind))];have t:flat J=(b++[root B])++flat C++(flat D++e):=by
   rw[he,bL,hp2];simp[flats]
  have e5:((b++[root B]).length+nodes C)=(b++root B::flat C).length:=by
   simp only[aad,aae,acg,aC];grind
  refine⟨λu c=>Ex2 λ(g j:Option V)=>dF (u=[some (.ref p),some (.int (w0:Int)),some (.ref l),some (.int ((b++root B::flat C).length:Int)),g,j]) (Same H c) (c l=some (.lst (ii (oN (done++[1]))))),λu c ⟨U,Y,e1,e2,e3⟩=>?_,?_⟩
  .exact⟨z,by grind,U,Y,b++root B::flat C,e,D,z,done++[1],M,rfl,e1,e2,e3,by rw[t];simp,by rw[<-e5,aad,abj];grind,O,T,by rw[q];simp⟩
  .refine⟨_,rfl,_,_,rfl,rfl,?_⟩
   refine⟨_,rfl,_,rfl,p,b++[root B],flat D++e,C,?_,?_,?_⟩
   .rw[aad,abj];rfl
   .rw[<-t];exact hF.same v
   refine⟨_,rfl,_,rfl,_,_,rfl,rfl,_,rfl,?_⟩;have hng:(((b++[root B]).length+nodes C:Nat):Int)<=(w0:Int):=by
    rw[aad,abj];grind
   rw[aaD hng];refine bD ⟨_,rfl,?_⟩;obtain⟨a,xs,y,q1,q2,q3,q4,q5,q6⟩:=hput 1 v n;refine⟨_,rfl,.inl ⟨rfl,_,aV.of n⟩,_,rfl,a,xs,y,q1,q2,q3,q4,some (.int 1),some (.int (((b++[root B]).length+nodes C:Nat):Int)),?_,q5,q6⟩;rw[<-e5];rfl
inductive Sy(K:Frag)(vs:List V)(H:Hp)(Q:VK)(e3:XK):Prop
|mk (p q:Addr) (A B:Formula) (_:vs=[.ref p,.ref q]) (_:Fl K H p (flat A)) (_:Fl K H q (flat B)) (_:nodes A<=100000) (_:differ A B=none->∀H',Same H H'->Q .non H') (_:∀pl,differ A B=some pl->K4 H (oN pl) Q)
def Fi:aJ ["one","other","position","pair"] ["one","other"] (aA (top 33)):=scm
def SJ(k:Hy P w K mg C base):gF P w K mg base "first_difference" 3 ["one","other"] (Sy K):=by
 obtain⟨f,fd,F,mF⟩:=k.d65;have B:=k.B;obtain⟨f1,k_,G1,k1,b1,m1⟩:=Sx k;refine⟨f,fd,?_,F.kp,Ba F λ_ _ _ _ _ _ _ _=>rfl,mF⟩;refine eE F Fi λcdv A outer s H vs Q E N h=>?_;obtain⟨p,q,l,t,rfl,O,hq,hz,kN,kS⟩:=h;have Bx:=N.units;refine⟨_,ao (cW abu rfl (HY rfl B.enumerate rfl B.zip (aj (pv 0) (aj (pv 1) aq))) (dM (K:=K) (a:=2) (b:=3) rfl rfl Fi.nd rfl rfl rfl rfl)
   (au (aZ (aK (Hs Bx) (aP bN (pv 3) aD (λ_ _=>rfl)) (aP bN (pv 3) aD (λ_ _=>rfl)) (aR _))
    (au (aF (aB G1 N rfl m1 k1 b1 .nil aH (aj (pv 0) (aj (pv 2) aq))))) aO)))
  (au (aF b_)),?_⟩
 obtain⟨U,L,Y⟩:=id O;obtain⟨us,M,hM⟩:=id hq;have l1:=Y.len;have l2:=hM.len;refine⟨_,rfl,_,rfl,p,q,U,us,rfl,aV.of L,aV.of M,XS (K:=K) (a:=p) (b:=q) (xs:=U) (ys:=us) (λi n d=>Ex2 λ(u v:Option V)=>dF (n=[some (.ref p),some (.ref q),u,v]) (Same H d) (∀j<i,(flat l)[j]?=(flat t)[j]?))
  ⟨none,none,rfl,Same.refl _,λj hj=>absurd hj (Nat.not_lt_zero _)⟩ (λi n d ⟨_,_,_,e,_⟩=>⟨aV.of (e _ _ L),aV.of (e _ _ M)⟩) ?_ ?_⟩
 .rintro i x y n d T T2 hx k ⟨u,v,rfl,z,g⟩ hT hT2 hne
  obtain⟨a,D,hna⟩:=Y.get hx;obtain⟨b,hb,hnb⟩:=hM.get k;have s2:=Same.aM (o:=.tup [x,y]) hT;have I:=Same.aM (H:=upd d T (.tup [x,y])) (p:=T2) (o:=.tup [.int (i:Nat),.ref T]) (by rw[aU (ac6 hne)];exact hT2);have c:=(z.trans s2).trans I;obtain⟨pa,qa,rfl,a1,a2⟩:=hna.same c;obtain⟨pb,qb,rfl,c1,c2⟩:=hnb.same c;refine⟨T2,_,rfl,bG,rfl,_,_,rfl,_,_,rfl,rfl,?_⟩;refine⟨_,rfl,T,_,_,_,rfl,rfl,I.bB bG,aL (j:=0) rfl,_,rfl,T,_,_,_,rfl,rfl,I.bB bG,aL (j:=1) rfl,rR a,rR b,.tup a1 (.cons (.int _) (.cons (gY a2) .nil)),.tup c1 (.cons (.int _) (.cons (gY c2) .nil)),gB a,gB b,_,rfl,?_⟩;rw[Sw];by_cases m:a=b
  .rw[aaD m]
   refine bF ⟨_,_,rfl,c,λj hj=>?_⟩;rcases aeM j i with h|h
   .exact g j h
   .have:j=i:=by grind
    rw[this,D,hb,m]
  .rw[aat m]
   obtain⟨pl,J,hat⟩:=Yn g (by rw[D,hb];exact λe=>m (abk e));have hilt:i<nodes l:=by rw[<-aC];exact(aaV.mp D).1
   refine bD ⟨_,rfl,_,rfl,p,l,i,pl,rfl,O.same c,hat,hilt,hz,λH2 r s4 hr' hl=>?_⟩;exact kS pl J H2 r (c.trans s4) (c.free hr') hl
 .rintro n d ⟨u,v,rfl,z,g⟩
  refine kN ?_ d z;cases J:differ l t with
  |none=>rfl
  |some pl=>
   obtain⟨j,_,h2,h3,_,h5⟩:=(gw l t).2 pl J;rw[l1,l2,aC,aC]at g;exact absurd (g j (by grind)) h5
def Fj:aJ ["held","numbers","rows","place"] ["held","numbers","rows"] (aA (top 105)):=scm
def SM(g:Hy P w K mg C base):gF P w K mg base "call_same" 4 ["held","numbers","rows"] (dH 11 K):=by
 obtain⟨f,fd,F,mF⟩:=g.d66;have g2:=g.bx;obtain⟨f1,k_,G1,k1,b1,m1⟩:=fK g;obtain⟨f2,fd2,G2,k2,b2,m2⟩:=SJ g;obtain⟨f3,Ia,G3,k3,b3,m3⟩:=pJ g;refine⟨f,fd,?_,F.kp,xu F λ_ _ _ _ _ _ _ _ _=>rfl,mF⟩;refine eE F Fj λcdv A outer s H vs Q E N h=>?_;obtain⟨O,pn,pr,b,ns,us,xs,B0,c,rfl,l,x,y,hpr,hR,hc,k⟩:=h;obtain⟨i,j,rfl,rfl,rfl⟩:=hc;have D:bI 1 _:=N.mono (by decide);refine⟨_,ao (aZ (cO (cu (aB G1 D rfl m1 k1 b1 .nil aH (aj (pv 1) aq)))) (au (aF (aQ (aj (cX g2) aq)))) aO)
  (ao (pS Fj 3 (aB G2 N rfl m2 k2 b2 .nil aH (aj (aP aN (pv 0) (aP aN (pv 1) aD (λ_ _=>rfl)) (λ_ _=>rfl)) (aj (aP aN (pv 0) (aP aN (pv 1) aD (λ_ _=>rfl)) (λ_ _=>rfl)) aq))))
  (ao (aZ (aK iZ (pv 3) b_ (aR _)) (au (aF (aQ (aj aD (aj aD aq))))) aO)
  (au (aF (bO f9 (aQ (aj aD aq)) (aB G3 D rfl m3 k3 b3 .nil aH (aj (pv 3) aq))))))),?_⟩
 refine⟨_,rfl,pn,[i,j],rfl,y,(by show 2<=1000;decide),λH1 d=>⟨_,rfl,?_⟩⟩;show(if(!(isKey i&&(isKey j&&true)))=true then _ else _);rw[adz];have t:does ⟨b⟩ (.same i j)=after (isKey i&&isKey j) 2 (match differ (formulaAt ⟨b⟩ i) (formulaAt ⟨b⟩ j)with
  |some p=>.ok (⟨b⟩,0::p.length::p)
  |none=>.ok (⟨b⟩,[1,0])):=rfl
 cases hij:isKey i&&isKey j with
 |false=>
  refine bD ⟨(by show 1<=sizeLine;decide),λq T=>?_⟩;have m:step ⟨b⟩ (.same i j)=(⟨b⟩,.refused 2):=bC (by rw[t,hij];rfl);rw[m]at k;have e:=d.trans (Same.aM (o:=.lst [.int (-2)]) T);exact k _ q (But.of e) (d.free T) ak (l.same e)
 |true=>
  refine bF ?_;rw[hij]at t;rw[aa8]at hij;obtain⟨U,hj⟩:=hij;obtain⟨vs,p,B,hat,h3,h4⟩:=(l.same d).at x U;obtain⟨vs',q,I,hat',h3',h4'⟩:=(l.same d).at x hj;rw[B]at I;cases I;have hfit:=(x.at U).2.1.nodes;generalize formulaAt ⟨b⟩ i=Y at*;generalize formulaAt ⟨b⟩ j=A2 at*;refine⟨_,rfl,_,rfl,pn,_,_,_,rfl,rfl,d.seq y,aL (j:=0) rfl,O,vs,_,_,rfl,rfl,aV.of B,hat,_,rfl,_,rfl,pn,_,_,_,rfl,rfl,d.seq y,aL (j:=1) rfl,O,vs,_,_,rfl,rfl,aV.of B,hat',p,q,Y,A2,rfl,h3,h3',by grind,λv H2 e=>?_,λpl v H2 q2 e hq2 hl2=>?_⟩
  .have u:=d.trans e
   refine⟨_,rfl,rfl,_,rfl,bD ⟨(by show 2<=sizeLine;decide),λq4 J=>?_⟩⟩;have m:step ⟨b⟩ (.same i j)=(⟨b⟩,.told [1,0]):=cU (by rw[t,v];rfl);rw[m]at k;have n:=u.trans (Same.aM (o:=.lst [.int 1,.int 0]) J);exact k _ q4 (But.of n) (u.free J) ak (l.same n)
  .have u:=d.trans e
   have m:step ⟨b⟩ (.same i j)=(⟨b⟩,.told (0::pl.length::pl)):=cU (by rw[t,v];rfl);rw[m]at k;have hpl:pl.length<=200:=by
    obtain⟨i',a1,a2,_⟩:=(gw Y A2).2 pl v;have:=Sv a1;grind
   have L:(oN pl).length=pl.length:=aac _;refine⟨_,rfl,rfl,_,rfl,bF ⟨(by show 1<=sizeLine;decide),λz hz=>?_⟩⟩;have n:=Same.aM (o:=.lst [.int 0]) hz;refine⟨_,rfl,q2,oN pl,rfl,.inl (aV.of (n _ _ hl2)),by grind,λH5 q5 s7 hq5 hl5=>?_⟩;have hz5:=s7 _ _ (ak (H:=H2) (a:=z) (o:=.lst [.int 0]));refine⟨z,q5,_,_,rfl,rfl,hz5,hl5,?_,λr M=>?_⟩
   .show 1+(ii (((oN pl).length:Int)::oN pl)).length<=sizeLine
    rw[aac,aae,L,aa1];grind
   have sf:=(u.trans n).trans s7;have s8:=sf.trans (Same.aM (o:=.lst ([.int 0]++ii (((oN pl).length:Int)::oN pl))) M);refine k _ r (But.of s8) (sf.free M) ?_ (l.same s8);rw[ak,L];rfl
theorem pO:∀l m:List Nd,PyData.eqvAll (l.map rR) (m.map rR)=decide (l=m)
|[],[]=>by simp[PyData.eqvAll]
|[],y::m=>by simp[PyData.eqvAll]
|x::l,[]=>by simp[PyData.eqvAll]
|x::l,y::m=>by
 rw[aaZ,aaZ];simp only[PyData.eqvAll];rw[Sw,pO l m];by_cases a:x=y
 .by_cases b:l=m
  .simp[a,b]
  .simp[a,b]
 .simp[a]
def fD(A:Formula):PyData:=.list ((flat A).map rR)
def BJ(A B:Formula):PyData.eqv (fD A) (fD B)=decide (A=B):=by
 unfold fD;simp only[PyData.eqv];rw[pO];by_cases h:A=B
 .rw[h];simp
 .rw[aat h,aat (λe=>h (Cr e))]
def gD(A:Formula):SeqAt.shaped (fD A)=true:=by
 obtain⟨a,b⟩:=uL (flat A);unfold SeqAt.shaped fD;rw[aa8];refine⟨by simp[PyData.canLay0,a],aaD ?_⟩;simp only[PyData.depth];grind
def tR{K:Frag}{H:Hp}{p:Addr}{A:Formula}(h:Fl K H p (flat A)):Dp K H (.ref p) (fD A):=by
 obtain⟨c,a,b⟩:=h;exact .lst (aV.of a) (rT b)
def fP(K:Frag)(H:Hp)(a:DL)(b:Binding):Prop:=Paired (λx y=>x.1=nm y.1/\∃r,x.2.2=V.ref r/\Fl K H r (flat y.2)) a b
theorem fP.same{K:Frag}{H c:Hp}{a:DL}{b:Binding}(h:fP K H a b)(e:Same H c):fP K c a b:=Paired.dY h λ_ _ ⟨d,r,f,g⟩=>⟨d,r,f,g.same e⟩
def fP.but{K:Frag}{H c:Hp}{z:Addr}{d:Heap->Prop}{a:DL}{b:Binding}(h:fP K H a b)(e:But z H c)(hz:H z=some (.ext d)):fP K c a b:=Paired.dY h λ_ _ ⟨f,r,g,j⟩=>⟨f,r,g,e.flE hz j⟩
theorem fP.none{K:Frag}{H:Hp}{d:DL}{b:Binding}(h:fP K H d b){a:Name}:boundTo b a=none->dz d (nm a)=none:=by
 induction h with
 |nil=>intro _;rfl
 |@cons x y xs ys h _ f=>
  intro c;rw[dX];unfold boundTo at c f;rw[adi]at c;by_cases e:y.1=a
  .rw[e]at c;simp at c
  .have:(y.1==a)=false:=by simpa using e
   rw[this]at c;rw[aaz (by rw[h.1];exact λq=>e (cN q))];exact f c
theorem fP.some{K:Frag}{H:Hp}{d:DL}{b:Binding}(h:fP K H d b){a:Name}{G:Formula}:boundTo b a=some G->∃r,dz d (nm a)=some (V.ref r)/\Fl K H r (flat G):=by
 induction h with
 |nil=>intro e;cases e
 |@cons x y xs ys h _ f=>
  intro c;rw[dX];unfold boundTo at c f;rw[adi]at c;by_cases e:y.1=a
  .have g:(y.1==a)=true:=by simpa using e
   rw[g]at c;have j:y.2=G:=abk c;obtain⟨k,r,l,m⟩:=h;rw[aaU (by rw[k,e]),l];exact⟨r,rfl,j▸m⟩
  .have:(y.1==a)=false:=by simpa using e
   rw[this]at c;rw[aaz (by rw[h.1];exact λq=>e (cN q))];exact f c
def NZ{a:List Formula}(h:flats a=[]):a=[]:=by
 cases a with
 |nil=>rfl
 |cons F a=>rw[bA,bL]at h;cases h
inductive Lf(P:Program)(w:World)(K:Frag)(vs:List V)(H:Hp)(Q:VK)(e3:XK):Prop
|mk (p q:Addr) (A B:Formula) (_:vs=[.ref p,.ref q]) (_:Fl K H p (flat A)) (_:Fl K H q (flat B)) (_:nodes A<=100000) (_:nodes B<=100000) (_:bindIn A B []=none->∀H',Same H H'->Q .non H') (_:∀c,bindIn A B []=some c->∀(H':Hp)(d:Addr)(kvs:DL),Same H H'->H d=none->H' d=some (cH P w d kvs)->bR K H' kvs->fP K H' kvs c.reverse->Q (.ref d) H')
def gQ:aJ ["pattern","formula","fillings","start","kind","name","end","part","filling"] ["pattern","formula"] (aA (top 34)):=scm
def SN(hy:Hy P w K mg C base):gF P w K mg base "fillings_for" 2 ["pattern","formula"] (Lf P w K):=by
 obtain⟨f,fd,F,mF⟩:=hy.d67;have gp:=hy.cJ;have g7:=hy.je;obtain⟨f1,k_,G1,k1,b1,m1⟩:=HS hy;obtain⟨f2,fd2,G2,k2,b2,m2⟩:=qM hy;refine⟨f,fd,?_,F.kp,Ba F λ_ _ _ _ _ _ _ _=>rfl,mF⟩;obtain⟨ap,ep,hp⟩:=gp;refine eE F gQ λcdv A outer s H vs Q E hr h=>?_;obtain⟨p,q,t,y,rfl,hF1,YD,hz1,hz2,kN,kS⟩:=h;have Bx:=hr.units;have hu:_+1<cLine:=adf (adN (by decide:1<=64) _) hr.units;refine⟨_,ao (pS gQ 2 wC)
  (ao (pS gQ 3 aD)
  (ao (cW abu rfl (fH (pv 0)) (dM (K:=K) (a:=4) (b:=5) rfl rfl gQ.nd rfl rfl rfl rfl)
   (au (aZ (aK tH (aP bN (v9 ep) (pv 4) (λ_ _=>rfl)) aD (aR _))
    (ao (aZ (aK yG (aP bN (aP aN (pv 1) (pv 3) (λ_ _=>rfl)) aD (λ_ _=>rfl)) (pv 4) (aR _)) (au (aF b_)) aO)
    (au (mq (i:=3) gQ.nd rfl (Or.inl rfl) aD mz)))
    (ao (pS gQ 6 (aB G1 hr rfl m1 k1 b1 .nil aH (aj (pv 1) (aj (pv 3) aq))))
    (ao (pS gQ 7 (eU gK (pv 1) (cT (pv 3)) (cT (pv 6))))
    (ao (pS gQ 8 (dO (aK dU (pv 4) (cX g7) (aR _)) (aB G2 hr rfl m2 k2 b2 .nil aH (aj (pv 7) aq)) (pv 7)))
    (ao (aZ (aK (Hs Bx) (M8 hu (pv 2) (pv 5) (pv 8) ⟨rfl,rfl,rfl,rfl⟩) (pv 8) (aR _)) (au (aF b_)) aO)
    (au (pS gQ 3 (pv 6))))))))))
  (au (aF (pv 2))))),?_⟩
 intro d hd;have s0:=Same.aM (o:=cH P w d []) hd;obtain⟨ws,tM,hN⟩:=id hF1;obtain⟨us,hqu,hM⟩:=id YD;have l1:=hN.len;have l2:=hM.len;have fl1:=aC t;have fl2:=aC y;refine⟨_,rfl,p,rfl,⟨_,aV.of (s0 _ _ tM)⟩,dR (K:=K) (a:=p) (xs:=ws) (λi σ O=>Td λ(o4 o5 o6 o7 o8:Option V)(g:DL)(D B:List Formula)(k:List Nd)(b:Binding)=>Wm (σ=[some (.ref p),some (.ref q),some (.ref d),some (.int (k.length:Int)),o4,o5,o6,o7,o8]) (Same H O) (O d=some (cH P w d g)) (bR K O g) (g.length<=i) (fP K O g b.reverse) ((Keys b).Nodup) (flats D=(flat t).drop i) (flat y=k++flats B) (D.length=B.length) (bindIn t y []=MR.bindAll D B b))
  ⟨none,none,none,none,none,[],[t],[y],[],[],rfl,s0,ak,λx hx=>(by cases hx),abe _,.nil,ahr,by simp[flats],by simp[flats],rfl,?_⟩ (λj σ O _ ⟨_,_,_,_,_,_,_,_,_,_,_,e,_,_,_,_,_,_,_,_,_⟩=>aV.of (e _ _ tM)) ?_ ?_⟩
 .show _=(bindIn t y []).bind (MR.bindAll [] [])
  have:MR.bindAll [] []=some:=by funext b;rfl
  rw[this,oR]
 .rintro i v σ O hi ⟨o4,o5,o6,o7,o8,g,D,B,k,b,rfl,T,hdk,hka,hkl,Wf,hnd,Wg,hHs,hlen,L⟩
  obtain⟨x,hx,pt,U,rfl,h1,h2⟩:=hN.get hi;have hilt:i<(flat t).length:=(aaV.mp hx).1;have V9:(flat t)[i]=x:=(aaV.mp hx).2;have hdrop:(flat t).drop i=x::(flat t).drop (i+1):=by rw[ab_ hilt,V9]
  rw[hdrop]at Wg;obtain⟨N,u,rfl⟩:∃N u,D=N::u:=by
   cases D with
   |nil=>cases Wg
   |cons a r=>exact⟨a,r,rfl⟩
  obtain⟨c,l,rfl⟩:∃c l,B=c::l:=by
   cases B with
   |nil=>cases hlen
   |cons a r=>exact⟨a,r,rfl⟩
  rw[bA,bL,List.cons_append]at Wg;have hxr:root N=x:=(adR Wg).1;have hrest:flats (parts N)++flats u=(flat t).drop (i+1):=(adR Wg).2;have hkd:=nj N;subst hxr;have hget:(flat y)[k.length]?=some (root c):=by
   rw[hHs,bA,bL,abA (aaS _),adB];rfl
  obtain⟨v2,hv2,pt2,qn2,rfl,g1,g2⟩:=hM.get' hget;have aav:=T _ _ hqu;refine⟨pt,_,rfl,T.bB h1,rfl,_,_,rfl,_,_,rfl,rfl,?_⟩;refine⟨_,rfl,ap,_,_,_,rfl,rfl,hp.sq _,iC hkd,_,_,rfl,rfl,_,rfl,?_⟩;show(if decide ((0:Int)<((pc (root N).1:Nat):Int))=true then _ else _);by_cases hpc:pc (root N).1=0
  .rw[aat (by rw[hpc];decide)]
   refine bF ?_;obtain⟨n,a,rfl⟩:∃n a,N=.atom n a:=by
    cases N with
    |atom n a=>exact⟨n,a,rfl⟩
    |_=>rw[pW]at hpc;cases hpc
   have hnl:(flat y).length=k.length+nodes c+(flats l).length:=by rw[hHs,bA,aad,aad,aC];grind
   have aaw:((flat y).drop k.length).take (nodes c)=flat c:=by
    rw[hHs,bA,List.drop_left,<-aC,List.take_left]
   refine⟨_,rfl,_,rfl,q,k,flats l,c,rfl,?_,?_⟩
   .rw[show k++flat c++flats l=flat y by rw[hHs,bA];simp]
    exact YD.same T
   refine⟨_,rfl,_,rfl,_,rfl,_,rfl,_,rfl,q,us,rfl,aV.of aav,λpp hpp=>?_⟩;rw[qN us (adb _ _) (by grind),adG];have s2:=Same.aM (o:=.lst ((us.drop k.length).take (nodes c))) hpp;have hFp:Fl K (upd O pp (.lst ((us.drop k.length).take (nodes c)))) pp (flat c):=by
    refine⟨_,ak,?_⟩;have:=((hM.drop k.length).take (nodes c)).same (T.trans s2);rw[aaw]at this;exact this
   generalize upd O pp (.lst ((us.drop k.length).take (nodes c)))=H2 at*;have s12:=T.trans s2;have agF:nodes c<=100000:=by grind
   let Go:Hp->Prop:=λm=>Ex2 λ(kvs':DL)(b':Binding)=>Oh (bindIn t y []=MR.bindAll u l b') (Same H m) (m d=some (cH P w d kvs')) (bR K m kvs') (kvs'.length<=i+1) (fP K m kvs' b'.reverse) ((Keys b').Nodup)
   have fin:∀{M:Hp}{r:Addr},Same H2 M->Fl K M r (flat (eN n c))->
     M d=some (cH P w d g)/\bR K M g/\dG K M U (ii (nm a))/\g.length<sizeLine/\
     (∀v,dz g (nm a)=some v->∃G,Dp K M v (fD G)/\((G=eN n c/\Go M)\/(G≠eN n c/\bindIn t y []=none)))/\
     (dz g (nm a)=none->Fl K (upd M d (cH P w d (g++[(nm a,U,V.ref r)]))) r (flat (eN n c))/\Go (upd M d (cH P w d (g++[(nm a,U,V.ref r)])))):=by
    intro M r s3 YF;have Bs:=s12.trans s3;have YM:=(s2.trans s3) _ _ hdk;have hk3:=hka.same (s2.trans s3);have hB3:=Wf.same (s2.trans s3);have Yc:dG K M U (ii (nm a)):=Bs.bB h2;refine⟨YM,hk3,Yc,by rw[aa1];grind,λv I=>?_,λI=>?_⟩
    .cases hb:boundTo b a with
     |none=>
      rw[hB3.none (by rw[nA hnd];exact hb)]at I;cases I
     |some G=>
      obtain⟨r',hr',hG⟩:=hB3.some (a:=a) (G:=G) (by rw[nA hnd];exact hb);rw[hr']at I;cases I;refine⟨G,tR hG,?_⟩;have hstep:MR.bindAll (.atom n a::u) (c::l) b=if G=eN n c then MR.bindAll u l b else none:=by
       show(bindIn (.atom n a) c b).bind (MR.bindAll u l)=_;rw[jo,hb];simp only;by_cases e:G=eN n c
       .rw[aaU e,aaU e];rfl
       .rw[aaz e,aaz e];rfl
      rw[hstep]at L;by_cases e:G=eN n c
      .rw[aaU e]at L
       exact .inl ⟨e,g,b,L,Bs,YM,hk3,by grind,hB3,hnd⟩
      .rw[aaz e]at L
       exact .inr ⟨e,L⟩
    .have hb:boundTo b a=none:=by
      cases hb:boundTo b a with
      |none=>rfl
      |some G=>
       obtain⟨r',hr',_⟩:=hB3.some (a:=a) (G:=G) (by rw[nA hnd];exact hb);rw[hr']at I;cases I
     have bt:But d M (upd M d (cH P w d (g++[(nm a,U,V.ref r)]))):=But.upd;have Rx:=bt.flE YM YF;have hstep:MR.bindAll (.atom n a::u) (c::l) b=MR.bindAll u l ((a,eN n c)::b):=by
      show(bindIn (.atom n a) c b).bind (MR.bindAll u l)=_;rw[jo,hb];rfl
     rw[hstep]at L;refine⟨Rx,_,(a,eN n c)::b,L,Bs.bW hd,ak,?_,?_,?_,?_⟩
     .intro x hx
      rcases aa4.mp hx with h|h
      .exact bt.Bw YM (hk3 x h)
      .rcases abO.mp h with rfl
       exact bt.Bw YM Yc
     .rw[aad,abj];grind
     .rw[aeh]
      exact adW (hB3.but bt YM) ⟨rfl,r,rfl,Rx⟩
     .exact adC.mpr ⟨oU.mp hb,hnd⟩
   have hrest':flats u=(flat t).drop (i+1):=by rw[<-hrest];simp[flats,parts]
   have aax:flat y=(k++flat c)++flats l:=by rw[hHs,bA];simp
   have aay:((k.length+nodes c:Nat):Int)=(((k++flat c).length:Nat):Int):=by rw[aad,aC]
   have hlen':u.length=l.length:=by simpa using hlen
   refine⟨_,rfl,rfl,_,rfl,?_⟩;cases n with
   |true=>
    refine bD ⟨_,rfl,pp,flat c,rfl,hFp,cA c,by rw[aC];grind,λM r s3 hr' hFr=>?_⟩;rw[iM]at hFr;obtain⟨f1,f2,f3,f4,f5,f6⟩:=fin (r:=r) s3 hFr;have go:∀{m:Hp},Go m->Td λ(o4 o5 o6 o7 o8:Option V)(g:DL)(D B:List Formula)(pre':List Nd)(b:Binding)=>Wm ([some (V.ref p),some (V.ref q),some (V.ref d),some (V.int ((k.length+nodes c:Nat):Int)),some (V.int 7),some (V.ref U),some (V.int ((k.length+nodes c:Nat):Int)),some (V.ref pp),some (V.ref r)]=[some (V.ref p),some (V.ref q),some (V.ref d),some (V.int (pre'.length:Int)),o4,o5,o6,o7,o8]) (Same H m) (m d=some (cH P w d g)) (bR K m g) (g.length<=i+1) (fP K m g b.reverse) ((Keys b).Nodup) (flats D=(flat t).drop (i+1)) (flat y=pre'++flats B) (D.length=B.length) (bindIn t y []=MR.bindAll D B b):=λ{m} ⟨kvs',b',a1,a2,a3,a4,a5,a6,a7⟩=>
     ⟨_,_,_,_,_,kvs',u,l,k++flat c,b',by rw[aay],a2,a3,a4,a5,a6,a7,hrest',aax,hlen',a1⟩
    refine⟨_,rfl,d,g,rfl,f1,_,rfl,_,rfl,U,g,nm a,rfl,f1,f2,f3,f4,λv I=>?_,λI=>?_⟩
    .obtain⟨G,Y,J⟩:=f5 v I
     refine⟨_,rfl,fD G,fD (eN true c),Y,tR hFr,gD _,gD _,_,rfl,?_⟩;rw[BJ];rcases J with⟨e,J⟩|⟨e,J⟩
     .have e':G=_:=e
      rw[aaD e'];exact bF ⟨_,rfl,go J⟩
     .rw[aat e]
      exact bD (kN J _ (s12.trans s3))
    .obtain⟨Y,J⟩:=f6 I
     refine⟨_,rfl,fD _,fD _,tR Y,tR Y,gD _,gD _,_,rfl,?_⟩;rw[BJ,aaD rfl];exact bF ⟨_,rfl,go J⟩
   |false=>
    refine bF ⟨_,rfl,?_⟩;obtain⟨f1,f2,f3,f4,f5,f6⟩:=fin (r:=pp) (Same.refl _) hFp;have go:∀{m:Hp},Go m->Td λ(o4 o5 o6 o7 o8:Option V)(g:DL)(D B:List Formula)(pre':List Nd)(b:Binding)=>Wm ([some (V.ref p),some (V.ref q),some (V.ref d),some (V.int ((k.length+nodes c:Nat):Int)),some (V.int 6),some (V.ref U),some (V.int ((k.length+nodes c:Nat):Int)),some (V.ref pp),some (V.ref pp)]=[some (V.ref p),some (V.ref q),some (V.ref d),some (V.int (pre'.length:Int)),o4,o5,o6,o7,o8]) (Same H m) (m d=some (cH P w d g)) (bR K m g) (g.length<=i+1) (fP K m g b.reverse) ((Keys b).Nodup) (flats D=(flat t).drop (i+1)) (flat y=pre'++flats B) (D.length=B.length) (bindIn t y []=MR.bindAll D B b):=λ{m} ⟨kvs',b',a1,a2,a3,a4,a5,a6,a7⟩=>
     ⟨_,_,_,_,_,kvs',u,l,k++flat c,b',by rw[aay],a2,a3,a4,a5,a6,a7,hrest',aax,hlen',a1⟩
    refine⟨_,rfl,d,g,rfl,f1,_,rfl,_,rfl,U,g,nm a,rfl,f1,f2,f3,f4,λv I=>?_,λI=>?_⟩
    .obtain⟨G,Y,J⟩:=f5 v I
     refine⟨_,rfl,fD G,fD (eN false c),Y,tR hFp,gD _,gD _,_,rfl,?_⟩;rw[BJ];rcases J with⟨e,J⟩|⟨e,J⟩
     .have e':G=_:=e
      rw[aaD e'];exact bF ⟨_,rfl,go J⟩
     .rw[aat e]
      exact bD (kN J _ s12)
    .obtain⟨Y,J⟩:=f6 I
     refine⟨_,rfl,fD _,fD _,tR Y,tR Y,gD _,gD _,_,rfl,?_⟩;rw[BJ,aaD rfl];exact bF ⟨_,rfl,go J⟩
  .rw[aaD (by grind)]
   refine bD ?_;refine⟨_,rfl,_,rfl,q,us,_,_,rfl,rfl,aV.of aav,aL hv2,pt2,_,_,_,rfl,rfl,T.bB g1,aL (j:=0) rfl,_,rfl,rfl,_,rfl,?_⟩;rw[zV u l b hpc]at L;show(if(!decide (V.int (root c).1=V.int (root N).1))=true then _ else _);by_cases he:(root c).1=(root N).1
   .rw[aaD (by rw[he])]
    rw[aaU he]at L;refine bF ⟨_,rfl,_,_,rfl,rfl,?_⟩;refine⟨some (.int (root N).1),some (.ref U),o6,o7,o8,g,parts N++u,parts c++l,k++[root c],b,?_,T,hdk,hka,by grind,Wf,hnd,?_,?_,?_,L⟩
    .rw[aad,abj];rfl
    .rw[gG];exact hrest
    .rw[hHs,bA,bL,gG];simp
    .rw[aad,aad,vh he]
     simpa using hlen
   .rw[aat (λz=>he (V.int.inj z))]
    rw[aaz he]at L;exact bD (kN L O T)
 .rintro σ O ⟨o4,o5,o6,o7,o8,g,D,B,k,b,rfl,T,hdk,hka,hkl,Wf,hnd,Wg,hHs,hlen,L⟩
  rw[l1,aev]at Wg;have:=NZ Wg;subst this;have:B=[]:=List.eq_nil_of_length_eq_zero hlen.symm;subst this;exact⟨_,rfl,kS b L O d g T hd hdk hka Wf⟩
def Vl(A:Formula):wt (flat (dual A))=wt (flat A):=by
 rw[<-iM];unfold wt;rw[abL];rfl
def Vm(F:Formula):∀(H:Formula)(b c:Binding),bindIn F H b=some c->∀x∈c,x∈b\/wt (flat x.2)<=wt (flat H):=by
 have two:∀(A B C D T:Formula)(b c:Binding),(∀(H:Formula)(b c:Binding),bindIn A H b=some c->∀x∈c,x∈b\/wt (flat x.2)<=wt (flat H))->(∀(H:Formula)(b c:Binding),bindIn B H b=some c->∀x∈c,x∈b\/wt (flat x.2)<=wt (flat H))->parts T=[C,D]->
   ((bindIn A C b).bind λc=>bindIn B D c)=some c->∀x∈c,x∈b\/wt (flat x.2)<=wt (flat T):=by
  intro A B C D T b c f g k h x j;rw[adx]at h;obtain⟨d,m,o⟩:=h;have hw:wt (flat C)<=wt (flat T)/\wt (flat D)<=wt (flat T):=by
   rw[bL T,k,cF,bA,bA,cZ,cZ];grind
  rcases g D d c o x j with q|q
  .rcases f C b d m x q with q|q
   .exact .inl q
   .exact .inr (by grind)
  .exact .inr (by grind)
 have l:∀(A C T:Formula)(b c:Binding),(∀(H:Formula)(b c:Binding),bindIn A H b=some c->∀x∈c,x∈b\/wt (flat x.2)<=wt (flat H))->parts T=[C]->bindIn A C b=some c->∀x∈c,x∈b\/wt (flat x.2)<=wt (flat T):=by
  intro A C T b c f k h x j;rcases f C b c h x j with q|q
  .exact .inl q
  .refine .inr ?_
   rw[bL T,k,cF,bA,cZ];grind
 induction F with
 |atom n a=>
  intro H b c h x j;rw[jo]at h;cases e:boundTo b a with
  |some F=>
   rw[e]at h;simp only at h;by_cases q:F=eN n H
   .rw[aaU q]at h
    cases h;exact .inl j
   .rw[aaz q]at h;cases h
  |none=>
   rw[e]at h;cases h;rcases aa2.mp j with rfl|j
   .refine .inr ?_
    show wt (flat (eN n H))<=_;unfold eN;split
    .rw[Vl];exact aaS _
    .exact aaS _
   .exact .inl j
 |tensor A B f g=>intro H b c h;cases H with
  |tensor C D=>exact two A B C D _ b c f g rfl h
  |_=>cases h
 |par A B f g=>intro H b c h;cases H with
  |par C D=>exact two A B C D _ b c f g rfl h
  |_=>cases h
 |wth A B f g=>intro H b c h;cases H with
  |wth C D=>exact two A B C D _ b c f g rfl h
  |_=>cases h
 |plus A B f g=>intro H b c h;cases H with
  |plus C D=>exact two A B C D _ b c f g rfl h
  |_=>cases h
 |ofc A f=>intro H b c h;cases H with
  |ofc C=>exact l A C _ b c f rfl h
  |_=>cases h
 |whn A f=>intro H b c h;cases H with
  |whn C=>exact l A C _ b c f rfl h
  |_=>cases h
def Ja(G:Name->Formula)(a:Name):List Int:=(((nm a).length:Int)::nm a)++(((nm (form (G a))).length:Int)::nm (form (G a)))
def SQ(G:Name->Formula)(l:List Name):((l.map λa=>(a,G a)).flatMap λx=>toldText x.1++toldText (form x.2)).map Int.ofNat=l.flatMap (Ja G):=by
 rw[List.flatMap_map,List.map_flatMap];refine congrArg (λf=>List.flatMap f l) (funext λa=>?_);have b:=iR a;have c:=iR (form (G a));unfold VanetaNeutral.encode at b c;simp only at b c;rw[aaY,b,c];rfl
def Paired.keys{K:Frag}{H:Hp}{c:DL}{b:Binding}(h:fP K H c b):c.map (·.1)=b.map λy=>nm y.1:=by
 induction h with
 |nil=>rfl
 |cons a _ d=>rw[aaZ,aaZ,d,a.1]
def qX:aJ ["held","numbers","rows","fillings","answer","name"] ["held","numbers","rows"] (aA (top 106)):=scm
def SX(n:Hy P w K mg C base):gF P w K mg base "call_case" 4 ["held","numbers","rows"] (dH 12 K):=by
 obtain⟨f,fd,F,mF⟩:=n.d68;have B:=n.B;have g2:=n.bx;obtain⟨f1,k_,G1,k1,b1,m1⟩:=fK n;obtain⟨f2,fd2,G2,k2,b2,m2⟩:=SN n;obtain⟨f3,Ia,G3,k3,b3,m3⟩:=pJ n;obtain⟨f4,V6,G4,k4,b4,m4⟩:=uK n;refine⟨f,fd,?_,F.kp,xu F λ_ _ _ _ _ _ _ _ _=>rfl,mF⟩;refine eE F qX λcdv A outer s H vs Q E hr h=>?_;obtain⟨ph,pn,pr,D,ns,us,xs,B0,c,rfl,hH,hG,hn,hpr,hR,hc,k⟩:=h;obtain⟨i,j,rfl,rfl,rfl⟩:=hc;have hr1:bI 1 _:=hr.mono (by decide);have hr2:bI 2 _:=hr.mono (by decide);have hu:_+1<cLine:=adf (adN (by decide:1<=64) _) hr.units;refine⟨_,ao (aZ (cO (cu (aB G1 hr1 rfl m1 k1 b1 .nil aH (aj (pv 1) aq)))) (au (aF (aQ (aj (cX g2) aq)))) aO)
  (ao (pS qX 3 (aB G2 hr2 rfl m2 k2 b2 .nil aH (aj (aP aN (pv 0) (aP aN (pv 1) aD (λ_ _=>rfl)) (λ_ _=>rfl)) (aj (aP aN (pv 0) (aP aN (pv 1) aD (λ_ _=>rfl)) (λ_ _=>rfl)) aq))))
  (ao (aZ (aK iZ (pv 3) b_ (aR _)) (au (aF (aQ (aj aD (aj aD aq))))) aO)
  (ao (pS qX 4 (aQ (aj aD (aj (aY Vf (by rfl) B.len ab8 (aj (pv 3) aq)) aq))))
  (ao (cW abu rfl (fH (aY (Iw rfl) (by rfl) B.sorted boot_sorted (aj (pv 3) aq))) (pN qX 5)
   (ao (bH (dD aaW adp adq gW (pv 4) (aj (aB G3 hr1 rfl m3 k3 b3 .nil aH (aj (pv 5) aq)) aq)))
   (au (bH (dD aaW adp adq gW (pv 4) (aj (aB G3 hr1 rfl m3 k3 b3 .nil aH (aj (aB G4 hr rfl m4 k4 b4 .nil aH (aj (wD hu (pv 3) (pv 5) (λ_ _=>rfl)) aq)) aq)) aq))))))
  (au (aF (pv 4))))))),?_⟩
 refine⟨_,rfl,pn,[i,j],rfl,hn,(by show 2<=1000;decide),λH1 N=>⟨_,rfl,?_⟩⟩;show(if(!(isKey i&&(isKey j&&true)))=true then _ else _);rw[adz];have hdo:does ⟨D⟩ (.case i j)=after (isKey i&&isKey j) 2 (match caseOf (formulaAt ⟨D⟩ i) (formulaAt ⟨D⟩ j)with
  |some b=>.ok (⟨D⟩,1::b.length::b.flatMap λx=>toldText x.1++toldText (Vaneta.form x.2))
  |none=>.ok (⟨D⟩,[0,0])):=rfl
 cases hij:isKey i&&isKey j with
 |false=>
  refine bD ⟨(by show 1<=sizeLine;decide),λq hq=>?_⟩;have he:step ⟨D⟩ (.case i j)=(⟨D⟩,.refused 2):=bC (by rw[hdo,hij];rfl);rw[he]at k;have Y:=N.trans (Same.aM (o:=.lst [.int (-2)]) hq);exact k _ q (But.of Y) (N.free hq) ak (hH.same Y)
 |true=>
  refine bF ?_;rw[hij]at hdo;rw[aa8]at hij;obtain⟨hi,hj⟩:=hij;obtain⟨vs,p,h1,hat,h3,h4⟩:=(hH.same N).at hG hi;obtain⟨vs',q,h1',hat',h3',h4'⟩:=(hH.same N).at hG hj;rw[h1]at h1';cases h1';have Lg:=(hG.at hi).2.1;have Wh:=(hG.at hj).2.1;generalize formulaAt ⟨D⟩ i=M at*;generalize formulaAt ⟨D⟩ j=A2 at*;have agG:=Lg.nodes;have agH:=Wh.nodes;unfold caseOf at hdo;refine⟨_,rfl,_,rfl,pn,_,_,_,rfl,rfl,N.seq hn,aL (j:=0) rfl,ph,vs,_,_,rfl,rfl,aV.of h1,hat,_,rfl,_,rfl,pn,_,_,_,rfl,rfl,N.seq hn,aL (j:=1) rfl,ph,vs,_,_,rfl,rfl,aV.of h1,hat',p,q,M,A2,rfl,h3,h3',by grind,by grind,λhd H2 Y=>?_,λc hd H2 d u Y hdn hdk hka Wf=>?_⟩
  .have s12:=N.trans Y
   refine⟨_,rfl,rfl,_,rfl,bD ⟨(by show 2<=sizeLine;decide),λq4 K7=>?_⟩⟩;have he:step ⟨D⟩ (.case i j)=(⟨D⟩,.told [0,0]):=cU (by rw[hdo,hd];rfl);rw[he]at k;have s4:=s12.trans (Same.aM (o:=.lst [.int 0,.int 0]) K7);exact k _ q4 (But.of s4) (s12.free K7) ak (hH.same s4)
  .have s12:=N.trans Y
   obtain⟨hnd,S5⟩:=Gh hd;have hkeys:=Paired.keys Wf;have hkl:u.length=c.length:=by
    have:=abC Wf;rwa[ae9]at this
   have hgb:∀a∈namesOf (leaves M),boundTo c a=some ((boundTo c a).getD plainA):=λa L=>by
    rw[eH]at L;cases e:boundTo c a with
    |some G=>rfl
    |none=>exact absurd ((S5 a).mpr L) (oU.mp e)
   generalize hGG:(λa=>(boundTo c a).getD plainA)=g at*;have Yo:∀a∈namesOf (leaves M),boundTo c a=some (g a):=λa L=>by rw[<-hGG];exact hgb a L
   have hbb:((namesOf (leaves M)).filterMap λa=>(boundTo c a).map λG=>(a,G))=(namesOf (leaves M)).map λa=>(a,g a):=oF λa L=>by rw[Yo a L];rfl
   have S6:∀x,x∈u.map (·.1)↔x∈(leaves M).map λy=>nm y.2:=λx=>by
    rw[hkeys,agI,List.mem_reverse,aa5,aa5];constructor
    .rintro⟨y,n,e⟩
     obtain⟨z,hz,I⟩:=aa5.mp ((S5 y.1).mp (aa5.mpr ⟨y,n,rfl⟩));exact⟨z,hz,by rw[I];exact e⟩
    .rintro⟨y,n,e⟩
     obtain⟨z,hz,I⟩:=aa5.mp ((S5 y.2).mpr (aa5.mpr ⟨y,n,rfl⟩));exact⟨z,hz,by rw[I];exact e⟩
   have aaA:(u.map (·.1)).Nodup:=by
    rw[hkeys,agI];refine(ahY _).nodup_iff.mpr ?_;have:(c.map λy=>nm y.1)=(Keys c).map nm:=by unfold Keys;rw[abL];rfl
    rw[this];exact agt nm (λa b (h:a≠b) e=>h (cN e)) hnd
   have agJ:(namesOf (leaves M)).length<=200:=by
    have h2:=jz (leaves M);rw[dN]at h2;have h3:=Lg.1;unfold inBounds at h3;simp only[aa8,ab1]at h3;grind
   generalize Wc:namesOf (leaves M)=t at*;refine⟨_,rfl,rfl,_,rfl,bF ⟨_,rfl,d,u,rfl,hdk,(by show 2<=sizeLine;decide),λJ han=>?_⟩⟩;have s3:=Same.aM (o:=.lst [.int 1,.int (u.length:Nat)]) han;have Iz:=s3 _ _ hdk;have IK:=hka.same s3;have acT:∀{ys:List (List Int×Addr)},ys.Perm (u.map λx=>(x.1,x.2.1))->(ys.map (·.1)).Pairwise (λa b=>rB a b=true)->ys.map (·.1)=t.map nm:=λ{ys} py tM=>by
    rw[<-Wc];refine fC tM λx=>?_;rw[<-S6 x,(py.map (·.1)).mem_iff,abL];rfl
   have aaB:t.length=u.length:=by
    have hperm:(t.map nm).Perm (u.map (·.1)):=by
     refine(aga ?_ aaA).mpr λx=>?_
     .refine agt nm (λa b (h:a≠b) e=>h (cN e)) ?_
      rw[<-Wc];exact(kh (leaves M)).imp λ{a b} hab e=>by
       subst e;have hab':before a a=true:=hab;rw[g_]at hab';cases hab'
     .rw[S6,<-Wc,aa5,aa5]
      constructor
      .rintro⟨y,n,e⟩
       rw[eH]at n;obtain⟨z,hz,I⟩:=aa5.mp n;exact⟨z,hz,by rw[I];exact e⟩
      .rintro⟨y,n,e⟩
       exact⟨y.2,by rw[eH];exact aa5.mpr ⟨y,n,rfl⟩,e⟩
    have:=hperm.length_eq;rwa[aac,aac]at this
   refine⟨_,rfl,d,u,rfl,Iz,IK,aaA,λx hx=>?_,by grind,λO ys hqs py tM=>?_⟩
   .have:=(S6 x.1).mp (aa5.mpr ⟨x,hx,rfl⟩)
    obtain⟨y,n,e⟩:=aa5.mp this;intro e0;have h0:y.2=[]:=cN (b:=[]) (e.trans e0);have hnm:=Lg.2 y n;rw[h0]at hnm;exact absurd hnm (by decide)
   have hys:=acT py tM;have hyl:ys.length=t.length:=by
    have:=congrArg List.length hys;rwa[aac,aac]at this
   have s4:=Same.aM (o:=.lst (ys.map λx=>V.ref x.2)) hqs;have hql:=ak (H:=upd H2 J (.lst [.int 1,.int (u.length:Nat)])) (a:=O) (o:=.lst (ys.map λx=>V.ref x.2));have acU:=s4 _ _ (ak (H:=H2) (a:=J) (o:=.lst [.int 1,.int (u.length:Nat)]));have YQ:=s3.trans s4;have Wi:O≠J:=λe=>by subst e;rw[ak]at hqs;cases hqs
   generalize upd (upd H2 J (.lst [.int 1,.int (u.length:Nat)])) O (.lst (ys.map λx=>V.ref x.2))=H4 at*;have hcs:∀a∈t,(Ja g a).length<=3500/\(nm a).length<=12/\wt (flat (g a))<=3400/\(nm (form (g a))).length<=3400:=λa L=>by
    have ha':=L;rw[<-Wc,eH]at ha';obtain⟨z,hz,rfl⟩:=aa5.mp ha';have T:=qT (Lg.2 z hz);have I:wt (flat (g z.2))<=3400:=by
     have hm:=(nu hnd).mp (Yo _ L);rcases Vm M A2 [] c hd _ hm with q|q
     .cases q
     .have:=Wh.wt
      exact abJ q this
    have e3:=cQ (g z.2);have e4:(nm (form (g z.2))).length<=3400:=by rw[bK];grind
    have e5:(nm z.2).length<=12:=by rw[bK];exact T
    refine⟨?_,e5,I,e4⟩;unfold Ja;rw[aad,aae,aae];grind
   have hal:∀m:Nat,((t.take m).flatMap (Ja g)).length<=3500*200:=λm=>by
    have gen:∀l:List Name,(∀a∈l,(Ja g a).length<=3500)->(l.flatMap (Ja g)).length<=3500*l.length:=by
     intro l
     induction l with
     |nil=>intro _;exact aaS _
     |cons y l ih=>
      intro h;have h1:=ih λz hz=>h z (aaX _ hz);have h2:=h y aa0;rw[aeX,aad,aae];grind
    have h1:=gen (t.take m) λy n=>(hcs y (ae0 n)).1;have h2:(t.take m).length<=200:=by rw[abg];grind
    grind
   refine⟨O,rfl,⟨_,aV.of hql⟩,dR (K:=K) (a:=O) (xs:=ys.map λx=>V.ref x.2) (λm σ U=>∃o5:Option V,lM (σ=[some (.ref ph),some (.ref pn),some (.ref pr),some (.ref d),some (.ref J),o5]) (Same H2 U) (U O=some (.lst (ys.map λx=>V.ref x.2))) (U J=some (.lst (ii (1::(u.length:Int)::(t.take m).flatMap (Ja g))))))
    ⟨none,rfl,YQ,hql,acU⟩ (λm σ U _ ⟨_,_,_,s,_⟩=>aV.of s) ?_ ?_⟩
   .rintro m v σ U hm ⟨o5,rfl,s5,aaC,hl⟩
    obtain⟨y,n,rfl⟩:=qK hm;obtain⟨a,L,Tc⟩:∃a,t[m]?=some a/\y.1=nm a:=by
     have e:(ys.map (·.1))[m]?=some y.1:=by rw[abV,n];rfl
     rw[hys,abV,abP]at e;obtain⟨a,T,I⟩:=e;exact⟨a,T,I.symm⟩
    have ham:a∈t:=aa6 L;obtain⟨_,Ye,hwt,hfl⟩:=hcs a ham;have hacc:=hal m;have acV:=py.mem_iff.mp (aa6 n);obtain⟨x,hx,V9⟩:=aa5.mp acV;have Sg:dG K U y.2 (ii (nm a)):=by
     have:=s5.bB (hka x hx);have T:x.1=y.1:=congrArg Prod.fst V9;have I:x.2.1=y.2:=congrArg Prod.snd V9;rw[T,I,Tc]at this;exact this
    obtain⟨r,acW,hFr⟩:=Wf.some (a:=a) (G:=g a) (by rw[nA hnd];exact Yo a ham);refine⟨_,rfl,.inl ⟨rfl,_,aV.of hl⟩,_,rfl,y.2,nm a,rfl,.inr Sg,by grind,λH5 c1 s6 hc1 acX=>⟨J,c1,_,_,rfl,rfl,s6 _ _ hl,acX,?_,?_⟩⟩
    .show(ii _).length+(ii _).length<=sizeLine
     rw[aac,aac,aae,aae,aae,aa1];grind
    have s7:Same H2 (upd H5 J (.lst (ii (1::(u.length:Int)::(t.take m).flatMap (Ja g))++ii (((nm a).length:Int)::nm a)))):=(s5.trans s6).bW han;have hl7:=ak (H:=H5) (a:=J) (o:=.lst (ii (1::(u.length:Int)::(t.take m).flatMap (Ja g))++ii (((nm a).length:Int)::nm a)));have acY:upd H5 J (.lst (ii (1::(u.length:Int)::(t.take m).flatMap (Ja g))++ii (((nm a).length:Int)::nm a))) O=some (.lst (ys.map λx=>V.ref x.2)):=by
     rw[aU Wi];exact s6 _ _ aaC
    have hln:(ii (1::(u.length:Int)::(t.take m).flatMap (Ja g))++ii (((nm a).length:Int)::nm a)).length<=800000:=by
     rw[aad,aac,aac,aae,aae,aae];grind
    have hgoal:ii (1::(u.length:Int)::(t.take (m+1)).flatMap (Ja g))=(ii (1::(u.length:Int)::(t.take m).flatMap (Ja g))++ii (((nm a).length:Int)::nm a))++ii (((nm (form (g a))).length:Int)::nm (form (g a))):=by
     rw[take_snoc L,aeF];unfold ii;simp[Ja]
    rw[hgoal];generalize ii (1::(u.length:Int)::(t.take m).flatMap (Ja g))++ii (((nm a).length:Int)::nm a)=acc at*;generalize upd H5 J (.lst acc)=H6 at*;refine⟨_,rfl,.inl ⟨rfl,_,aV.of hl7⟩,_,rfl,_,rfl,d,y.2,u,nm a,_,rfl,rfl,s7 _ _ hdk,hka.same s7,?_,acW,r,g a,rfl,hFr.same s7,by grind,λH7 q7 s8 hq7 hl8=>?_⟩
    .have:=s7.bB (hka x hx)
     have T:x.1=y.1:=congrArg Prod.fst V9;have I:x.2.1=y.2:=congrArg Prod.snd V9;rw[T,I,Tc]at this;exact this
    refine⟨q7,nm (form (g a)),rfl,.inl (aV.of hl8),by grind,λH8 c2 s9 hc2 acZ=>⟨J,c2,_,_,rfl,rfl,(s8.trans s9) _ _ hl7,acZ,?_,?_⟩⟩
    .show acc.length+(ii _).length<=sizeLine
     rw[aac,aae,aa1];grind
    .refine⟨some (.ref y.2),rfl,((s7.trans s8).trans s9).bW han,?_,ak⟩
     rw[aU Wi];exact(s8.trans s9) _ _ acY
   .rintro σ U ⟨o5,rfl,s5,aaC,hl⟩
    rw[aac,hyl,abp]at hl;have s25:=s12.trans s5;have he:step ⟨D⟩ (.case i j)=(⟨D⟩,.told (1::(t.map λa=>(a,g a)).length::(t.map λa=>(a,g a)).flatMap λx=>toldText x.1++toldText (Vaneta.form x.2))):=cU (by rw[hdo,hd];simp only[Option.map_some];rw[hbb];rfl);rw[he]at k;refine⟨_,rfl,k _ J (But.of s25) (s12.free han) ?_ (hH.same s25)⟩;rw[hl];show _=some (HO.lst (ii (1::((t.map λa=>(a,g a)).length:Int)::((t.map λa=>(a,g a)).flatMap λx=>toldText x.1++toldText (Vaneta.form x.2)).map Int.ofNat)));rw[SQ,aac,aaB]
theorem zE{A:Type}:∀{l:List (Option A)}{r:List A},allOf l=some r->r.length=l.length
|[],r,h=>by cases h;rfl
|o::l,r,h=>by
 unfold allOf at h;rw[adx]at h;obtain⟨x,d,a⟩:=h;rw[abP]at a;obtain⟨m,b,c⟩:=a;subst c;rw[aae,aae,zE b]
def qY{t:Text}{s:List Formula}(h:sequentOf t=some s):s.length<=20/\(∀A∈s,nodes A<=2000)/\∀A∈s,gR A:=by
 unfold sequentOf at h;by_cases d:t.all (λb=>b==32)=true
 .rw[aaU d]at h
  cases h;exact⟨abe _,λA c=>(by cases c),λA c=>(by cases c)⟩
 .rw[aaz d]at h
  by_cases f:20<(cutAt 44 t).length
  .rw[aaU f]at h;cases h
  .rw[aaz f]at h
   have g:=zE h;rw[aac]at g;have j:=oV h;have c:∀A∈s,∃u,formulaOf u=some A:=λA c=>by
    have:some A∈s.map some:=aa5.mpr ⟨A,c,rfl⟩;rw[<-j]at this;obtain⟨u,_,e⟩:=aa5.mp this;exact⟨u,e⟩
   exact⟨by grind,λA a=>let⟨u,e⟩:=c A a;lJ e,λA a=>let⟨u,e⟩:=c A a;lE e⟩
def Vn(s:List Formula):(s.map λA=>((kc (flat A) 6+kc (flat A) 7:Nat):Int)).sum=((seqLeaves s).length:Int):=by
 induction s with
 |nil=>rfl
 |cons A s a=>
  rw[aaZ,agz,a,pX];show _=((leaves A++seqLeaves s).length:Int);rw[aad,dN];grind
def ur(s:List Formula):Int:=if s.all inBounds=true then 0 else -5
def Yp(K:Frag):Sp:=λvs H Q _=>(vs=[.non]/\∀a,Same H a->Q (.int (-1)) a)\/Ex2 λ(p:Addr)(s:List Formula)=>xZ (vs=[.ref p]) (Held K H p s) (s.length<=20) (∀A∈s,nodes A<=2000) (∀a,Same H a->Q (.int (ur s)) a)
def BK:aJ ["sequent","formula"] ["sequent"] (aA (top 107)):=scm
def Lh(c:Hy P w K mg C base):gF P w K mg base "sequent_refusal" 4 ["sequent"] (Yp K):=by
 obtain⟨f,r,F,t⟩:=c.d69;have B:=c.B;have u:=c.jF;have o:=c.cD;have x:=c.iG;obtain⟨f1,k_,y,z,I,J⟩:=HN c;refine⟨f,r,?_,F.kp,pF F λ_ _ _ _ _ _ _=>rfl,t⟩;refine F.ok BK (λvs H Q E h=>?_) (λcdv A outer s H vs Q E L h=>?_)
 .rcases h with⟨rfl,_⟩|⟨p,s,rfl,_⟩<;>rfl
 .refine⟨_,ao (aZ (aK iZ (pv 0) b_ (aR _)) (au (aF (cX o))) aO)
   (ao (aZ (cO (cu (aY (pq rfl) (by rfl) B.all agO (aj (iJ (own:=[("formula",1)]) rfl BK.nd (dZ (pv 0)) (bQ (N:=["sequent","formula"]) (sc:=aA (top 107)) (by decide+kernel)) (λ_ _ _ _ _=>pN BK 1) (λ_ _ _ _ _=>dj)
    (λ_ _ _ _ _=>aB y L rfl J z I .nil aH (aj (pv 1) aq))) aq)))) (au (aF (cX x))) aO)
   (au (aF (cX u)))),?_⟩
  rcases h with⟨rfl,k⟩|⟨p,sq,rfl,M,h20,q,k⟩
  .exact⟨_,rfl,rfl,_,rfl,bD (k H (Same.refl _))⟩
  .refine⟨_,rfl,rfl,_,rfl,bF ?_⟩
   obtain⟨vs,O,T,U⟩:=M.len;dsimp only[yF,uf,W3,tB,Y_,JQ,d_,iB];refine gM (a:=p) (xs:=vs) rfl (.inl (aV.of O)) λD g=>⟨λi b=>Same H b/\b D=some (.lst ((sq.take i).map λA=>V.bl (inBounds A))),⟨Same.aM g,ak⟩,λi b p=>p.1,?_,?_⟩
   .rintro i v b Y ⟨d,e⟩
    obtain⟨j,l,a,rfl,ha,hap⟩:=wJ U Y;have hnb:=q j (aa6 l);refine⟨rfl,_,rfl,a,j,rfl,ha.same d,by rw[aC];omega,λH2 m=>⟨_,m _ _ e,?_,(d.trans m).bW g,?_⟩⟩
    .rw[aac,abg,aa1];omega
    .rw[ak,take_snoc l,aaY];rfl
   .rintro b ⟨d,e⟩
    rw[T,abp]at e;refine⟨D,sq.map inBounds,rfl,aV.of (by rw[e,abL];rfl),_,rfl,?_⟩;have n:(sq.map inBounds).all id=sq.all inBounds:=by rw[aeo];rfl
    rw[n];unfold ur at k;cases hb:sq.all inBounds with
    |true=>
     rw[hb,aaU rfl]at k;exact bF (k b d)
    |false=>
     rw[hb,aaz (by decide)]at k;exact bD (k b d)
def jA:aJ ["held","numbers","rows","sequent","refusal","atoms","balanced","multiplicative","formula"] ["held","numbers","rows"] (aA (top 108)):=scm
def Vo(l:Hy P w K mg C base):gF P w K mg base "call_sequent" 9 ["held","numbers","rows"] (dH 13 K):=by
 obtain⟨f,fd,F,mF⟩:=l.d70;have B:=l.B;have g0:=l.jF;obtain⟨f1,k_,G1,k1,b1,m1⟩:=Et l;obtain⟨f2,fd2,G2,k2,b2,m2⟩:=Lh l;obtain⟨f3,Ia,G3,k3,b3,m3⟩:=Ka l;obtain⟨f4,V6,G4,k4,b4,m4⟩:=Yk l;obtain⟨f5,fd5,G5,k5,b5,m5⟩:=Ve l;obtain⟨f6,fd6,G6,k6,b6,m6⟩:=RZ l;obtain⟨f7,fd7,G7,k7,b7,m7⟩:=pJ l;refine⟨f,fd,?_,F.kp,xu F λ_ _ _ _ _ _ _ _ _=>rfl,mF⟩;refine eE F jA λcdv A outer s H vs Q E hr h=>?_;obtain⟨ph,pn,pr,y,ns,us,xs,B0,c,rfl,hH,hG,hn,hpr,hR,hc,k⟩:=h;obtain⟨x,t,rfl,rfl,ht,rfl⟩:=hc;obtain⟨px,rfl,_,hpx⟩:=hR.one;have hxl:=hR.2 x aa0;have hxt:=jy ht;subst hxt;rw[bK]at hxl;have hr1:bI 1 _:=hr.mono (by decide);have hr2:bI 2 _:=hr.mono (by decide);have YF:bI 3 _:=hr.mono (by decide);have Rx:bI 4 _:=hr.mono (by decide);refine⟨_,ao (pS jA 3 (aB G1 hr rfl m1 k1 b1 .nil aH (aj (aP aN (pv 2) aD (λ_ _=>rfl)) aq)))
  (ao (pS jA 4 (aB G2 Rx rfl m2 k2 b2 .nil aH (aj (pv 3) aq)))
  (ao (aZ (aK yG (pv 4) (cX g0) (aR _)) (au (aF (aQ (aj (pv 4) aq)))) aO)
  (ao (pS jA 5 (aY (Qi rfl) (by rfl) B.sum boot_sum (aj (iJ (own:=[("formula",8)]) rfl jA.nd (dZ (pv 3)) (bQ (N:=["held","numbers","rows","sequent","refusal","atoms","balanced","multiplicative","formula"]) (sc:=aA (top 108)) (by decide+kernel)) (λ_ _ _ _ _=>pN jA 8) (λ_ _ _ _ _=>dj)
   (λ_ _ _ _ _=>aB G3 hr2 rfl m3 k3 b3 .nil aH (aj (pv 8) aq))) aq)))
  (ao (pS jA 6 (dO (cu (aB G4 YF rfl m4 k4 b4 .nil aH (aj (pv 3) aq))) aD aD))
  (ao (pS jA 7 (dO (cu (aB G5 YF rfl m5 k5 b5 .nil aH (aj (pv 3) aq))) aD aD))
  (au (aF (bO f9 (aQ (aj (aY aX (by rfl) B.len ab8 (aj (pv 3) aq)) (aj (pv 5) (aj (pv 6) (aj (pv 7) aq)))))
   (aB G7 hr1 rfl m7 k7 b7 .nil aH (aj (aB G6 Rx rfl m6 k6 b6 .nil aH (aj (pv 3) aq)) aq)))))))))),?_⟩
 have hdo:does ⟨y⟩ (.sequent t)=theSequent t λq=>.ok (⟨y⟩,[q.length,(seqLeaves q).length,one (balanced q),one (q.all multiplicative)]++toldText (sequentForm q)):=rfl;unfold theSequent at hdo;refine⟨_,rfl,pr,_,_,_,rfl,rfl,hpr,aL (j:=0) rfl,px,t,rfl,by rw[gO];exact hpx,by omega,λhn0 H1 s1=>?_,λsq hsq H1 q s1 hq YS=>?_⟩
 .refine⟨_,rfl,.inl ⟨rfl,λH2 s2=>?_⟩⟩
  have U:=s1.trans s2;refine⟨_,rfl,rfl,_,rfl,?_⟩;refine bD ⟨_,rfl,(by show 1<=sizeLine;decide),λq hq=>?_⟩;have he:step ⟨y⟩ (.sequent t)=(⟨y⟩,.refused 1):=bC (by rw[hdo,hn0];rfl);rw[he]at k;have b:=U.trans (Same.aM (o:=.lst [.int (-1)]) hq);exact k _ q (But.of b) (U.free hq) ak (hH.same b)
 .obtain⟨r1,r2,r3⟩:=qY hsq
  rw[hsq]at hdo;refine⟨_,rfl,.inr ⟨q,sq,rfl,YS,r1,r2,λH2 s2=>?_⟩⟩;have U:=s1.trans s2;refine⟨_,rfl,rfl,_,rfl,?_⟩;show(if(!decide (V.int (ur sq)=V.int 0))=true then _ else _);cases hb:sq.all inBounds with
  |false=>
   have Yq:ur sq= -5:=by unfold ur;rw[hb];rfl
   rw[Yq];refine bD ⟨_,rfl,(by show 1<=sizeLine;decide),λq4 K7=>?_⟩;have he:step ⟨y⟩ (.sequent t)=(⟨y⟩,.refused 5):=bC (by rw[hdo];show after (sq.all inBounds) 5 _=_;rw[hb];rfl);rw[he]at k;have b:=U.trans (Same.aM (o:=.lst [.int (-5)]) K7);exact k _ q4 (But.of b) (U.free K7) ak (hH.same b)
  |true=>
   have Yq:ur sq=0:=by unfold ur;rw[hb];rfl
   rw[Yq];refine bF ?_;have u:wR sq:=⟨r1,λA hA=>⟨aeH.mp hb A hA,r3 A hA⟩⟩;have he:step ⟨y⟩ (.sequent t)=(⟨y⟩,.told ([sq.length,(seqLeaves sq).length,one (balanced sq),one (sq.all multiplicative)]++toldText (sequentForm sq))):=cU (by rw[hdo];show after (sq.all inBounds) 5 _=_;rw[hb];rfl);rw[he]at k;have Y:=YS.same s2;obtain⟨vs,h1,h2,h3⟩:=Y.len;dsimp only[yF,uf,qz,JQ,d_,iB];refine gM (a:=q) (xs:=vs) rfl (.inl (aV.of h1)) λD hD=>⟨λi H'=>Same H2 H'/\H' D=some (.lst (ii ((sq.take i).map λA=>((kc (flat A) 6+kc (flat A) 7:Nat):Int)))),⟨Same.aM hD,ak⟩,λi H' p=>p.1,?_,?_⟩
   .rintro i v H' hi ⟨b,hl⟩
    obtain⟨B1,hB,a,rfl,ha,hap⟩:=wJ h3 hi;have hnb:=r2 B1 (aa6 hB);refine⟨rfl,_,rfl,a,_,rfl,ha.same b,by rw[aC];omega,λH4 I=>⟨_,I _ _ hl,?_,(b.trans I).bW hD,?_⟩⟩
    .rw[aac,aac,abg,aa1];omega
    .rw[ak,take_snoc hB,aaY]
     unfold ii;rw[aaY];rfl
   .rintro H3 ⟨b,hl⟩
    rw[h2,abp]at hl;refine⟨D,_,rfl,aV.of hl,?_⟩;rw[Vn];have Bs:=U.trans b;have hfl:(nm (sequentForm sq)).length<=100000:=by
     rw[bK,kI];have h5:=jO [44,32] 3400 (sq.map form) λx hx=>by
      obtain⟨A,hA,rfl⟩:=aa5.mp hx;have h5:=cQ A;have h6:=(u.2 A hA).wt;omega
     have h6:(sq.map form).length*(3400+[44,32].length)<=20*3402:=by
      rw[aac];exact agk r1 (by decide)
     omega
    refine⟨_,rfl,q,sq,rfl,Y.same b,u,λH4 I=>⟨_,rfl,?_⟩⟩;have YJ:=Bs.trans I;have goal:∀(vb vm:Int)(g:Hp),Same H3 g->vb=((one (balanced sq):Nat):Int)->vm=((one (sq.all multiplicative):Nat):Int)->∀(z:Addr),g z=none->∀(J:Hp)(d:Addr),Same (upd g z (.lst [.int (vs.length:Nat),.int ((seqLeaves sq).length:Int),.int vb,.int vm])) J->J d=some (.lst (ii (((nm (sequentForm sq)).length:Int)::nm (sequentForm sq))))->
      Xh (V.ref z) (V.ref d) J Q:=by
     intro vb vm g s5 e1 e2 z hz J d m n;have hz6:=m _ _ (ak (H:=g) (a:=z) (o:=.lst [.int (vs.length:Nat),.int ((seqLeaves sq).length:Int),.int vb,.int vm]));refine⟨z,d,_,_,rfl,rfl,hz6,n,?_,λr hr'=>?_⟩
     .show 4+(ii (((nm (sequentForm sq)).length:Int)::nm (sequentForm sq))).length<=sizeLine
      rw[aac,aae,aa1];omega
     .have sf:=((Bs.trans s5).trans (Same.aM (o:=.lst [.int (vs.length:Nat),.int ((seqLeaves sq).length:Int),.int vb,.int vm]) hz)).trans m
      have s8:=sf.trans (Same.aM (o:=.lst ([V.int (vs.length:Nat),.int ((seqLeaves sq).length:Int),.int vb,.int vm]++ii (((nm (sequentForm sq)).length:Int)::nm (sequentForm sq)))) hr');refine k _ r (But.of s8) (sf.free hr') ?_ (hH.same s8);rw[ak,e1,e2,h2];have:=iR (sequentForm sq);unfold VanetaNeutral.encode at this⊢;simp only at this⊢;rw[aaY,this];unfold ii;rw[aaY];rfl
    cases hbal:balanced sq with
    |true=>
     refine bD ⟨_,rfl,q,sq,rfl,Y.same (b.trans I),u,λg s5=>⟨_,rfl,?_⟩⟩;have e:=I.trans s5;have hH5:=Y.same (b.trans e);cases hmul:sq.all multiplicative with
     |true=>
      refine bD ⟨_,rfl,q,vs,rfl,.inl (aV.of ((b.trans e) _ _ h1)),_,rfl,_,rfl,_,rfl,(by show 4<=sizeLine;decide),λz hz=>⟨_,rfl,q,sq,rfl,hH5.same (Same.aM hz),u,λJ M m Yg L=>⟨M,nm (sequentForm sq),rfl,.inl (aV.of (by rw[L,gO])),by omega,λO d T hc1 n=>?_⟩⟩⟩;exact goal 1 1 g e (by rw[hbal];rfl) (by rw[hmul];rfl) z hz O d (m.trans T) n
     |false=>
      refine bF ⟨_,rfl,q,vs,rfl,.inl (aV.of ((b.trans e) _ _ h1)),_,rfl,_,rfl,_,rfl,(by show 4<=sizeLine;decide),λz hz=>⟨_,rfl,q,sq,rfl,hH5.same (Same.aM hz),u,λJ M m Yg L=>⟨M,nm (sequentForm sq),rfl,.inl (aV.of (by rw[L,gO])),by omega,λO d T hc1 n=>?_⟩⟩⟩;exact goal 1 0 g e (by rw[hbal];rfl) (by rw[hmul];rfl) z hz O d (m.trans T) n
    |false=>
     refine bF ⟨_,rfl,q,sq,rfl,Y.same (b.trans I),u,λg s5=>⟨_,rfl,?_⟩⟩;have e:=I.trans s5;have hH5:=Y.same (b.trans e);cases hmul:sq.all multiplicative with
     |true=>
      refine bD ⟨_,rfl,q,vs,rfl,.inl (aV.of ((b.trans e) _ _ h1)),_,rfl,_,rfl,_,rfl,(by show 4<=sizeLine;decide),λz hz=>⟨_,rfl,q,sq,rfl,hH5.same (Same.aM hz),u,λJ M m Yg L=>⟨M,nm (sequentForm sq),rfl,.inl (aV.of (by rw[L,gO])),by omega,λO d T hc1 n=>?_⟩⟩⟩;exact goal 0 1 g e (by rw[hbal];rfl) (by rw[hmul];rfl) z hz O d (m.trans T) n
     |false=>
      refine bF ⟨_,rfl,q,vs,rfl,.inl (aV.of ((b.trans e) _ _ h1)),_,rfl,_,rfl,_,rfl,(by show 4<=sizeLine;decide),λz hz=>⟨_,rfl,q,sq,rfl,hH5.same (Same.aM hz),u,λJ M m Yg L=>⟨M,nm (sequentForm sq),rfl,.inl (aV.of (by rw[L,gO])),by omega,λO d T hc1 n=>?_⟩⟩⟩;exact goal 0 0 g e (by rw[hbal];rfl) (by rw[hmul];rfl) z hz O d (m.trans T) n
def lD(l:List Nd):PyData:=.list (l.map rR)
theorem zF:∀l m:List (List Nd),PyData.eqvAll (l.map lD) (m.map lD)=decide (l=m)
|[],[]=>by simp[PyData.eqvAll]
|[],y::m=>by simp[PyData.eqvAll]
|x::l,[]=>by simp[PyData.eqvAll]
|x::l,y::m=>by
 have e:PyData.eqv (lD x) (lD y)=decide (x=y):=by
  unfold lD;simp only[PyData.eqv];exact pO x y
 rw[aaZ,aaZ];simp only[PyData.eqvAll];rw[e,zF l m];by_cases a:x=y
 .by_cases b:l=m
  .simp[a,b]
  .simp[a,b]
 .simp[a]
theorem zG:∀l:List (List Nd),PyData.canLayAll0 (l.map lD)=true/\PyData.depthAll (l.map lD)<=4
|[]=>by simp[PyData.canLayAll0,PyData.depthAll]
|x::l=>by
 obtain⟨a,c⟩:=zG l;obtain⟨b,d⟩:=uL x;rw[aaZ];constructor
 .simp[PyData.canLayAll0,PyData.canLay0,lD,b,a]
 .simp only[PyData.depthAll,PyData.depth,lD];grind
def qZ(l:List (List Nd)):SeqAt.shaped (.list (l.map lD))=true:=by
 obtain⟨a,b⟩:=zG l;unfold SeqAt.shaped;rw[aa8];refine⟨by simp[PyData.canLay0,a],aaD ?_⟩;simp only[PyData.depth];grind
theorem BL{K:Frag}{H:Hp}{us:List V}{ks:List (List Nd)}(h:Paired (λv l=>Dp K H v (lD l)) us ks):∀is:List Nat,(∀i∈is,i<ks.length)->jc K H (is.map λi=>us.getD i .non) ((is.map λi=>ks.getD i []).map lD)
|[],_=>.nil
|i::is,b=>by
 have a:=b i aa0;obtain⟨v,c,d⟩:=KR h (aa3 a);have e:us.getD i .non=v:=by rw[acj,c];rfl
 have f:ks.getD i []=ks[i]:=by rw[acj,aa3 a];rfl
 rw[aaZ,aaZ,aaZ,e,f];exact .cons d (BL h is λj g=>b j (aaX _ g))
def Li{n:Nat}{p:Array Nat}(h:Ord n p){i:Nat}(b:i∈p.toList):i<n:=by
 have a:p.toList.Perm (List.range n):=agf.mp h;exact ad9.mp (a.mem_iff.mp b)
noncomputable def BP(l:List Nd):Formula:=by
 classical exact if h:∃A,flat A=l then Classical.choose h else plainA
def Fo(A:Formula):BP (flat A)=A:=by
 unfold BP;have h:∃B,flat B=flat A:=⟨A,rfl⟩;rw[dif_pos h];exact Cr (Classical.choose_spec h)
def N5{s t:List Formula}:(s.map flat).Perm (t.map flat)↔s.Perm t:=by
 constructor
 .intro h
  have:=h.map BP;rw[abL,abL]at this;have e:(BP∘flat)=id:=funext Fo;rw[e,ahF,ahF]at this;exact this
 .exact λh=>h.map flat
def Jb{s t:List Formula}{p r:Array Nat}(j:Ord (s.map flat).length p)(hu:Up (rk CQ (s.map flat) []) p (s.map flat).length)(f:Ord (t.map flat).length r)(g:Up (rk CQ (t.map flat) []) r (t.map flat).length):
  decide ((p.toList.map λi=>(s.map flat).getD i [])=(r.toList.map λi=>(t.map flat).getD i []))=sameBag s t:=by
 obtain⟨c,k⟩:=CT uy j hu;obtain⟨d,l⟩:=CT uy f g;rw[afg,ab1,tu,<-N5];constructor
 .intro e
  rw[e]at c;exact c.symm.trans d
 .intro h
  exact tE (le:=λa b=>CQ b a=false) (λa b m n=>uy.tot n m) k l ((c.trans h).trans d.symm)
def SF(K:Frag)(H:Hp)(D:Addr)(v:V)(o:Option (List Formula)):Prop:=match o with
|none=>v=.non
|some s=>Ex2 λq vs=>lM (v=.ref q) (q≠D) (H q=some (.lst vs)) (Paired (λu A=>∃p,lM (u=.ref p) (Fl K H p (flat A)) (p≠q) (p≠D)) vs s)
theorem SF.same{K:Frag}{H a:Hp}{D:Addr}(b:Same H a){v:V}{o:Option (List Formula)}(h:SF K H D v o):SF K a D v o:=by
 cases o with
 |none=>exact h
 |some s=>
  obtain⟨q,vs,e,c,d,f⟩:=h;exact⟨q,vs,e,c,b _ _ d,Paired.dY f λ_ _ ⟨p,g,j,k,l⟩=>⟨p,g,j.same b,k,l⟩⟩
def SF.but{K:Frag}{H a:Hp}{D:Addr}{zs:List V}(f:H D=some (.lst zs))(b:But D H a){v:V}{o:Option (List Formula)}(h:SF K H D v o):SF K a D v o:=by
 cases o with
 |none=>exact h
 |some s=>
  obtain⟨q,vs,e,c,g,j⟩:=h;exact⟨q,vs,e,c,b _ _ g c,Paired.dY j λ_ _ ⟨p,k,l,m,d⟩=>⟨p,k,b.fl f l d,m,d⟩⟩
def Yr{K:Frag}{H:Hp}{D p:Addr}{vs:List V}{os:List (Option (List Formula))}{A:Formula}(j:H D=some (.lst vs))(h:Paired (SF K H D) vs os)(k:Z0 K H)(l:Fl K H p (flat A)):p≠D:=by
 rintro rfl;obtain⟨s,f,e⟩:=l;rw[j]at f;cases f;have g:=e.len;rw[aC]at g;have q:=ni A;generalize flat A=u at e;cases h with
 |nil=>simp at g;grind
 |@cons v o vs os a t=>
  cases e with
  |cons b _=>
   obtain⟨w,x,rfl,c,y⟩:=b;cases o with
   |none=>exact absurd a (by intro z;cases z)
   |some B=>
    obtain⟨C,us,m,_,d,_⟩:=a;cases m;rcases c with(c|⟨o,c⟩)|⟨o,r,n,c,_⟩
    .rw[d]at c;cases c
    .rw[d]at c;cases c
    .rw[k _ _ c]at d;cases d
def SF.held{K:Frag}{H:Hp}{D:Addr}{v:V}{s:List Formula}(h:SF K H D v (some s)):∃q,v=.ref q/\Held K H q s:=by
 obtain⟨q,vs,e,g,a,b⟩:=h;exact⟨q,e,vs,a,Paired.dY b λ_ _ ⟨p,c,d,f,_⟩=>⟨p,c,d,f⟩⟩
def uP{K:Frag}{H:Hp}{z:Addr}{vs:List V}{s:List Formula}(h:Paired (YG K H z) vs s):Paired (λv l=>Dp K H v (lD l)) vs (s.map flat):=by
 induction h with
 |nil=>exact .nil
 |cons a _ b=>
  obtain⟨p,e,g,_⟩:=a;rw[e];exact .cons (tR g) b
def q_:aJ ["held","numbers","rows","both","sequent","refusal","row"] ["held","numbers","rows"] (aA (top 109)):=scm
def Vp(hy:Hy P w K mg C base):gF P w K mg base "call_bag" 9 ["held","numbers","rows"] (dH 14 K):=by
 obtain⟨f,fd,F,mF⟩:=hy.d71;have B:=hy.B;have g0:=hy.jF;obtain⟨f1,k_,G1,k1,b1,m1⟩:=Et hy;obtain⟨f2,fd2,G2,k2,b2,m2⟩:=Lh hy;refine⟨f,fd,?_,F.kp,xu F λ_ _ _ _ _ _ _ _ _=>rfl,mF⟩;refine eE F q_ λcdv A outer s H vs Q E hr h=>?_;obtain⟨ph,pn,pr,m,ns,us,xs,B0,c,rfl,hH,hG,hn,hpr,hR,hc,k⟩:=h;obtain⟨x,y,t,u,rfl,rfl,ht,hu',rfl⟩:=hc;obtain⟨px,py,rfl,_,hpx,_,hpy⟩:=hR.two;have hxl:=hR.2 x aa0;have hyl:=hR.2 y (aaX _ aa0);have hxt:=jy ht;have hyt:=jy hu';subst hxt;subst hyt;rw[bK]at hxl hyl;have Rx:bI 4 _:=hr.mono (by decide);have Bx:=hr.units;have aaE:_+32<cLine:=adf (adN (by decide:32<=64) _) hr.units;refine⟨_,ao (mK (i:=3) (own:=[("row",6)]) rfl q_.nd rfl rfl (qG rfl rfl rfl (by decide+kernel)) (dZ (pv 2)) (bQ (N:=["held","numbers","rows","both","sequent","refusal","row"]) (sc:=aA (top 109)) (by decide+kernel)) (λ_ _ _ _ _=>pN q_ 6) (λ_ _ _ _ _=>dj)
   (λ_ _ _ _ _=>K8 (K:=K) rfl (aB G1 hr rfl m1 k1 b1 .nil aH (aj (pv 6) aq))))
  (ao (cW abu rfl (fH (pv 3)) (pN q_ 4)
   (ao (pS q_ 5 (aB G2 Rx rfl m2 k2 b2 .nil aH (aj (pv 4) aq)))
   (au (aZ (aK yG (pv 5) (cX g0) (aR _)) (au (aF (aQ (aj (pv 5) aq)))) aO))))
  (au (aF (aQ (aj (dO (aK (pA Bx) (aY (wH aaE) (by rfl) B.sorted boot_sorted (aj (aP aN (pv 3) aD (λ_ _=>rfl)) aq)) (aY (wH aaE) (by rfl) B.sorted boot_sorted (aj (aP aN (pv 3) aD (λ_ _=>rfl)) aq)) (aR _)) aD aD) aq))))),?_⟩
 have hdo:does ⟨m⟩ (.bag t u)=theSequent t λp=>theSequent u λq=>.ok (⟨m⟩,[one (sameBag p q)]):=rfl;unfold theSequent at hdo;dsimp only[yF,uf,qz];refine gM (a:=pr) (xs:=[.ref px,.ref py]) rfl (.inl hpr) λD hD=>⟨λi J=>∃vs,dF (Same H J) (J D=some (.lst vs)) (Paired (SF K J D) vs (([t,u].take i).map sequentOf)),⟨[],Same.aM hD,ak,.nil⟩,λi J ⟨_,e,_,_⟩=>e,?_,?_⟩
 .rintro i v J d ⟨vs,s3,hl3,U⟩
  obtain⟨O,htt,a,rfl,ha,hal⟩:∃O,[t,u][i]?=some O/\∃a,dF (v=.ref a) (aV K J a (tv O)) (O.length<=100000):=by
   match i,d with
   |0,d=>cases d;exact⟨t,rfl,px,rfl,by rw[gO];exact s3.seq hpx,by grind⟩
   |1,d=>cases d;exact⟨u,rfl,py,rfl,by rw[gO];exact s3.seq hpy,by grind⟩
   |n+2,d=>cases d
  have hvl:vs.length<=2:=by
   have:=abC U;rw[aac,abg]at this;show _<=[t,u].length;grind
  have hnext:([t,u].take (i+1)).map sequentOf=([t,u].take i).map sequentOf++[sequentOf O]:=by rw[take_snoc htt,aaY];rfl
  refine⟨rfl,_,rfl,a,O,rfl,ha,hal,λhn0 H4 l hk=>?_,λsq hsq H4 q l hq YS hk=>?_⟩
  .have L:=l _ _ hl3
   refine⟨vs,L,by rw[aa1];grind,vs++[.non],(s3.trans l).bW hD,ak,?_⟩;rw[hnext];refine adW (Paired.dY U λ_ _ z=>(SF.same l z).but L But.upd) ?_;rw[hn0];rfl
  .have L:=l _ _ hl3
   have hO4:=Paired.dY U λ_ _ (z:SF K J D _ _)=>SF.same l z;have hqD:q≠D:=λe=>by subst e;rw[hl3]at hq;cases hq
   refine⟨vs,L,by rw[aa1];grind,vs++[.ref q],(s3.trans l).bW hD,ak,?_⟩;rw[hnext];refine adW (Paired.dY hO4 λ_ _ z=>z.but L But.upd) ?_;rw[hsq];obtain⟨ws,w1,w2⟩:=YS;refine SF.but (o:=some sq) L But.upd ⟨q,ws,rfl,hqD,w1,Paired.dY w2 λ_ _ ⟨p,g1,Y,g3⟩=>⟨p,g1,Y,g3,Yr L hO4 hk Y⟩⟩
 .rintro H3 ⟨vs,s3,hl3,U⟩
  have U:Paired (SF K H3 D) vs [sequentOf t,sequentOf u]:=U;obtain⟨v1,v2,rfl,hv1,hv2⟩:∃v1 v2,vs=[v1,v2]/\SF K H3 D v1 (sequentOf t)/\SF K H3 D v2 (sequentOf u):=by
   cases U with
   |cons a r=>cases r with
    |cons b r=>cases r;exact⟨_,_,rfl,a,b⟩
  have hstep:∀i o,[sequentOf t,sequentOf u][i]?=some o->(1<=i->∃g,sequentOf t=some g/\g.all inBounds=true)->(o=none->step ⟨m⟩ (.bag t u)=(⟨m⟩,.refused 1))/\∀sq,o=some sq->sq.all inBounds=false->step ⟨m⟩ (.bag t u)=(⟨m⟩,.refused 5):=by
   intro i o d hb
   match i,d with
   |0,d=>
    cases d;refine⟨λe=>bC ?_,λsq e e2=>bC ?_⟩
    .rw[hdo,e];rfl
    .rw[hdo,e]
     show after (sq.all inBounds) 5 _=_;rw[e2];rfl
   |1,d=>
    cases d;obtain⟨g,e1,e2⟩:=hb (aaS _);rw[e1]at hdo;have hdo':does ⟨m⟩ (.bag t u)=after (g.all inBounds) 5 (given (sequentOf u) 1 λs=>after (s.all inBounds) 5 (.ok (⟨m⟩,[one (sameBag g s)]))):=hdo;rw[e2]at hdo';refine⟨λe=>bC ?_,λsq e e3=>bC ?_⟩
    .rw[hdo',e];rfl
    .rw[hdo',e]
     show after (sq.all inBounds) 5 _=_;rw[e3];rfl
   |n+2,d=>cases d
  refine⟨_,rfl,D,rfl,⟨_,aV.of hl3⟩,dR (K:=K) (a:=D) (xs:=[v1,v2]) (λi σ J=>sV λ(o4 o5 o6:Option V)=>lM (σ=[some (.ref ph),some (.ref pn),some (.ref pr),some (.ref D),o4,o5,o6]) (Same H3 J) (1<=i->∃g,sequentOf t=some g/\g.all inBounds=true) (2<=i->∃M,sequentOf u=some M/\M.all inBounds=true))
   ⟨_,_,_,rfl,Same.refl _,λh=>absurd h (by decide),λh=>absurd h (by decide)⟩ (λi σ J _ ⟨_,_,_,_,e,_,_⟩=>aV.of (e _ _ hl3)) ?_ ?_⟩
  .rintro i v σ J d ⟨o4,o5,o6,rfl,l,hp1,hp2⟩
   obtain⟨o,I,hvo⟩:=wJ U d;obtain⟨ac0,ac1⟩:=hstep i o I hp1;have hi2:i<2:=(aaV.mp d).1;have YQ:=s3.trans l;have hoo:∀sq,o=some sq->∃O,sequentOf O=some sq:=λsq e=>by
    subst e
    match i,I with
    |0,I=>exact⟨t,abk I⟩
    |1,I=>exact⟨u,abk I⟩
   cases o with
   |none=>
    have hvn:v=.non:=hvo;subst hvn;refine⟨_,rfl,.inl ⟨rfl,λH5 T=>?_⟩⟩;have V8:=YQ.trans T;refine⟨_,rfl,rfl,_,rfl,bD ⟨_,rfl,(by show 1<=sizeLine;decide),λq hq=>?_⟩⟩;rw[ac0 rfl]at k;have s6:=V8.trans (Same.aM (o:=.lst [.int (-1)]) hq);exact k _ q (But.of s6) (V8.free hq) ak (hH.same s6)
   |some sq=>
    obtain⟨O,htt⟩:=hoo sq rfl;obtain⟨r1,r2,r3⟩:=qY htt;obtain⟨q,rfl,YS⟩:=(SF.same l hvo).held;refine⟨_,rfl,.inr ⟨q,sq,rfl,YS,r1,r2,λH5 T=>?_⟩⟩;have V8:=YQ.trans T;refine⟨_,rfl,rfl,_,rfl,?_⟩;show(if(!decide (V.int (ur sq)=V.int 0))=true then _ else _);cases hb:sq.all inBounds with
    |false=>
     have Yq:ur sq= -5:=by unfold ur;rw[hb];rfl
     rw[Yq];refine bD ⟨_,rfl,(by show 1<=sizeLine;decide),λq4 K7=>?_⟩;rw[ac1 sq rfl hb]at k;have s6:=V8.trans (Same.aM (o:=.lst [.int (-5)]) K7);exact k _ q4 (But.of s6) (V8.free K7) ak (hH.same s6)
    |true=>
     have Yq:ur sq=0:=by unfold ur;rw[hb];rfl
     rw[Yq];refine bF ⟨_,_,_,rfl,l.trans T,λh1=>?_,λh2=>?_⟩
     .match i,I,hp1 with
      |0,I,_=>exact⟨sq,abk I,hb⟩
      |1,_,hp1=>exact hp1 (aaS _)
     .match i,I,hi2 with
      |0,_,_=>exact absurd h2 (by decide)
      |1,I,_=>exact⟨sq,abk I,hb⟩
  .rintro σ H4 ⟨o4,o5,o6,rfl,l,hp1,hp2⟩
   obtain⟨g,e1,b1'⟩:=hp1 (by show 1<=2;decide);obtain⟨M,e2,b2'⟩:=hp2 (by show 2<=2;decide);have YQ:=s3.trans l;obtain⟨r1,_,_⟩:=qY e1;obtain⟨r2,_,_⟩:=qY e2;rw[e1]at hv1;rw[e2]at hv2;obtain⟨q1,rfl,hH1⟩:=(SF.same l hv1).held;obtain⟨q2,rfl,hH2⟩:=(SF.same l hv2).held;have L:=l _ _ hl3;obtain⟨us1,u1,ul1,up1⟩:=hH1.len;obtain⟨us2,u2,ul2,up2⟩:=hH2.len;have he:step ⟨m⟩ (.bag t u)=(⟨m⟩,.told [one (sameBag g M)]):=cU (by
    rw[e1]at hdo;have hdo':does ⟨m⟩ (.bag t u)=after (g.all inBounds) 5 (given (sequentOf u) 1 λs=>after (s.all inBounds) 5 (.ok (⟨m⟩,[one (sameBag g s)]))):=hdo;rw[b1',e2]at hdo';rw[hdo'];show after (M.all inBounds) 5 _=_;rw[b2'];rfl)
   rw[he]at k;refine⟨_,rfl,D,_,_,_,rfl,rfl,aV.of L,aL (j:=0) rfl,q1,us1,g.map flat,rfl,aV.of u1,by grind,uP up1,λz1 p1 hz1 ho1 hu1=>?_⟩;have T:=Same.aM (o:=.lst (p1.toList.map λi=>us1.getD i .non)) hz1;have ac2:=ak (H:=H4) (a:=z1) (o:=.lst (p1.toList.map λi=>us1.getD i .non));refine⟨_,rfl,D,_,_,_,rfl,rfl,aV.of (T _ _ L),aL (j:=1) rfl,q2,us2,M.map flat,rfl,aV.of (T _ _ u2),by grind,uP (Paired.dY up2 λ_ _ ⟨p,g1,Y,g3⟩=>⟨p,g1,Y.same T,g3⟩),λz2 p2 hz2 ho2 hu2=>?_⟩;have s6:=Same.aM (o:=.lst (p2.toList.map λi=>us2.getD i .non)) hz2;have s56:=T.trans s6;have d1:=uP (Paired.dY up1 λ_ _ ⟨p,g1,Y,g3⟩=>⟨p,g1,Y.same s56,g3⟩);have d2:=uP (Paired.dY up2 λ_ _ ⟨p,g1,Y,g3⟩=>⟨p,g1,Y.same s56,g3⟩);refine⟨.list ((p1.toList.map λi=>(g.map flat).getD i []).map lD),.list ((p2.toList.map λi=>(M.map flat).getD i []).map lD),.lst (aV.of (s6 _ _ ac2)) (BL d1 _ λi d=>?_),.lst (aV.of ak) (BL d2 _ λi d=>?_),qZ _,qZ _,_,rfl,?_⟩
   .exact Li ho1 d
   .exact Li ho2 d
   have ev:PyData.eqv (.list ((p1.toList.map λi=>(g.map flat).getD i []).map lD)) (.list ((p2.toList.map λi=>(M.map flat).getD i []).map lD))=sameBag g M:=by
    simp only[PyData.eqv];rw[zF];exact Jb ho1 hu1 ho2 hu2
   rw[ev];have sf:=YQ.trans s56;cases hsb:sameBag g M with
   |true=>
    rw[hsb]at k;refine bD ⟨(by show 1<=sizeLine;decide),λr hr'=>?_⟩;have s8:=sf.trans (Same.aM (o:=.lst [.int 1]) hr');exact k _ r (But.of s8) (sf.free hr') ak (hH.same s8)
   |false=>
    rw[hsb]at k;refine bF ⟨(by show 1<=sizeLine;decide),λr hr'=>?_⟩;have s8:=sf.trans (Same.aM (o:=.lst [.int 0]) hr');exact k _ r (But.of s8) (sf.free hr') ak (hH.same s8)
def bZ{A:Type}{b:Bool}{n:Nat}{x:Except Nat A}{y:A}(h:after b n x=.ok y):b=true/\x=.ok y:=by
 unfold after at h;cases b with
 |true=>exact⟨rfl,h⟩
 |false=>cases h
def j6{A B:Type}{o:Option A}{n:Nat}{f:A->Except Nat B}{y:B}(h:given o n f=.ok y):∃a,o=some a/\f a=.ok y:=by
 cases o with
 |none=>cases h
 |some a=>exact⟨a,rfl,h⟩
def j7{a:List Formula}{k:Int}{A:Formula}{n:Nat}{x:State×List Nat}(b:Good a)(c:gR A)(h:kept ⟨a⟩ k A n=.ok x):Good x.1.formulas:=by
 obtain⟨d,e⟩:=bZ h;cases e;refine⟨by rw[ahb];exact b.1,λB f=>?_⟩;rcases List.mem_or_eq_of_mem_set f with q|q
 .exact b.2 B q
 .rw[q];exact⟨d,c⟩
def N6{q:List Formula}(f:Good q)(c:Call):Good (step ⟨q⟩ c).1.formulas:=by
 unfold Vaneta.step;have m:∀{i:Int},isKey i=true->gR (formulaAt ⟨q⟩ i):=λ{i} u=>(f.at u).2.1.2;cases hd:does ⟨q⟩ c with
 |error n=>exact f
 |ok x=>
  show Good x.1.formulas;cases c with
  |read k t=>
   obtain⟨e,d⟩:=bZ hd;obtain⟨A,l,g⟩:=j6 d;exact j7 f (lE l) g
  |form k=>
   obtain⟨e,d⟩:=bZ hd;cases d;exact f
  |dual i k=>
   obtain⟨e,d⟩:=bZ hd;rw[aa8]at e;exact j7 f (m e.1).dual d
  |part k p=>
   obtain⟨e,d⟩:=bZ hd;obtain⟨A,l,g⟩:=j6 d;cases g;exact f
  |size k=>
   obtain⟨e,d⟩:=bZ hd;cases d;exact f
  |atoms k=>
   obtain⟨e,d⟩:=bZ hd;cases d;exact f
  |build o i j k=>
   obtain⟨e,d⟩:=bZ hd;rw[aa8,aa8]at e;obtain⟨l,g⟩:=bZ d;exact j7 f (CG (m e.1) (m e.2.1)) g
  |rename k a b=>
   obtain⟨e,d⟩:=bZ hd;obtain⟨l,g⟩:=bZ d;rw[aa8]at l;refine j7 f (vA (λx v=>?_) (m e)) g;have:x=(false,b):=by simpa[leaves]using v
   rw[this];exact l.2
  |fill i j k a=>
   obtain⟨e,d⟩:=bZ hd;rw[aa8,aa8]at e;obtain⟨l,g⟩:=bZ d;exact j7 f (vA (m e.2.1) (m e.1)) g
  |truth k t=>
   obtain⟨e,d⟩:=bZ hd;obtain⟨A,l,g⟩:=j6 d;cases g;exact f
  |always k=>
   obtain⟨e,d⟩:=bZ hd;unfold doAlways at d;simp only at d;split at d
   .cases d
   .split at d<;>cases d<;>exact f
  |same i j=>
   obtain⟨e,d⟩:=bZ hd;split at d<;>cases d<;>exact f
  |case i j=>
   obtain⟨e,d⟩:=bZ hd;split at d<;>cases d<;>exact f
  |sequent t=>
   obtain⟨A,l,g⟩:=j6 (show given _ _ _=_ from hd);obtain⟨w,r⟩:=bZ g;cases r;exact f
  |bag a b=>
   obtain⟨A,l,g⟩:=j6 (show given _ _ _=_ from hd);obtain⟨w,r⟩:=bZ g;obtain⟨B,z,y⟩:=j6 (show given _ _ _=_ from r);obtain⟨C,s⟩:=bZ y;cases s;exact f
def Jc:Good start.formulas:=by
 refine⟨rfl,λA a=>?_⟩;have:A=plainA:=List.eq_of_mem_replicate a;subst this;refine⟨by decide,λx b=>?_⟩;have:x=(false,[97]):=by simpa[leaves,plainA]using b
 rw[this];decide
abbrev NC:=List (List Int)
abbrev tU:=VanetaNeutral.step
def j8:VanetaNeutral.S->List NC->VanetaNeutral.S
|s,[]=>s
|s,c::r=>j8 (tU s c).1 r
theorem w6(c:NC):∀(l:List NC)(s:VanetaNeutral.S),j8 s (l++[c])=(tU (j8 s l) c).1
|[],s=>rfl
|d::l,s=>w6 c l _
theorem tV(c:NC):∀(l:List NC)(s:VanetaNeutral.S),PyFlat.played tU s (l++[c])=PyFlat.played tU s l++[(tU (j8 s l) c).2]
|[],s=>rfl
|d::l,s=>by
 show(tU s d).2::PyFlat.played tU (tU s d).1 (l++[c])=_;rw[tV c l];rfl
def tW(l m:List (List Int)):PyFlat.told (l++m)=PyFlat.told l++PyFlat.told m:=aeF
def N7(c:NC)(l:List NC)(s:VanetaNeutral.S):PyFlat.told (PyFlat.played tU s (l++[c]))=PyFlat.told (PyFlat.played tU s l)++(((tU (j8 s l) c).2.length:Int)::(tU (j8 s l) c).2):=by
 rw[tV,tW]
 congr 1
 show((_:Int)::_)++[]=_;rw[acQ]
theorem oK(m:List NC):∀(l:List NC)(s:VanetaNeutral.S),PyFlat.played tU s (l++m)=PyFlat.played tU s l++PyFlat.played tU (j8 s l) m
|[],s=>rfl
|d::l,s=>by
 show(tU s d).2::PyFlat.played tU (tU s d).1 (l++m)=_;rw[oK m l];rfl
def N8(a:List NC)(i:Nat)(s:VanetaNeutral.S):(PyFlat.told (PyFlat.played tU s (a.take i))).length<=(PyFlat.told (PyFlat.played tU s a)).length:=by
 have h:PyFlat.told (PyFlat.played tU s a)=PyFlat.told (PyFlat.played tU s (a.take i++a.drop i)):=by rw[adu]
 rw[h,oK,tW,aad];grind
theorem Fp:∀(l:List NC)(s:VanetaNeutral.S),Good s.formulas->Good (j8 s l).formulas
|[],s,h=>h
|c::l,s,h=>by
 refine Fp l _ ?_;show Good (VanetaNeutral.step s c).1.formulas;unfold VanetaNeutral.step;cases VanetaNeutral.callOf c with
 |none=>exact h
 |some k=>exact N6 h k
def S7{t:List Int}(h:t.all (λ(z:Int)=>VanetaNeutral.natural z 8)=true):∃u,VanetaNeutral.text? t=some u:=by
 unfold VanetaNeutral.text?;rw[aaU ?_]
 .exact⟨_,rfl⟩
 .unfold NeutralIO.bytes
  rw[aeH]at h⊢;intro z hz;have:=h z hz;unfold VanetaNeutral.natural at this;rw[aa8,ab1,ab1]at this;rw[aa8,ab1,ab1];have e:(2:Int)^8=256:=by decide
  grind
def l1{A:Type}:∀{l:List A},l.length=1->∃a,l=[a]
|[a],_=>⟨a,rfl⟩
def l2{A:Type}:∀{l:List A},l.length=2->Ex2 λa b=>l=[a,b]
|[a,b],_=>⟨a,b,rfl⟩
def l3{A:Type}:∀{l:List A},l.length=3->sV λa b c=>l=[a,b,c]
|[a,b,c],_=>⟨a,b,c,rfl⟩
def l4{A:Type}:∀{l:List A},l.length=4->Ft λa b c d=>l=[a,b,c,d]
|[a,b,c,d],_=>⟨a,b,c,d,rfl⟩
def xg{a b:Bool}(h:(a&&b)=true):a=true/\b=true:=(aa8 a b).mp h
def uc{t:List Int}(h:(t.all (λ(z:Int)=>VanetaNeutral.natural z 8)&&decide (t.length<=2100))=true):∃u,VanetaNeutral.text? t=some u/\t.length<=2100:=by
 obtain⟨a,b⟩:=xg h;obtain⟨u,hu⟩:=S7 a;exact⟨u,hu,adk b⟩
def Fq{j:Nat}{a:List Int}{xs:List (List Int)}(B:j<15)(hs:PyVaneta.shape (j:Int)=some (a.length,xs.length)):PyVaneta.whole (((j:Int)::a)::xs)=(((j:Int)::a)::xs)/\
  (VanetaNeutral.asked1 (((j:Int)::a)::xs)=true->∃k,dF (VanetaNeutral.callOf (((j:Int)::a)::xs)=some k) (CIs (j:Int) a xs k) (∀x∈xs,x.length<=2100)):=by
 have l:∀{n m:Nat},PyVaneta.shape (j:Int)=some (n,m)->a.length=n/\xs.length=m:=λe=>by
  rw[hs]at e;cases e;exact⟨rfl,rfl⟩
 have g:∀x∈([]:List (List Int)),x.length<=2100:=λx p=>by cases p
 have o:∀{t:List Int},t.length<=2100->∀x∈[t],x.length<=2100:=λh x p=>by
  rw[abO.mp p];exact h
 have tw:∀{t u:List Int},t.length<=2100->u.length<=2100->∀x∈[t,u],x.length<=2100:=λh h' x p=>by
  rcases aa2.mp p with e|e
  .rw[e];exact h
  .exact o h' x e
 rcases(by decide:∀j<15,j=0\/j=1\/j=2\/j=3\/j=4\/j=5\/j=6\/j=7\/j=8\/j=9\/j=10\/j=11\/j=12\/j=13\/j=14) j B with rfl|rfl|rfl|rfl|rfl|rfl|rfl|rfl|rfl|rfl|rfl|rfl|rfl|rfl|rfl
 .have b:=(l rfl).1
  have c:=(l rfl).2;obtain⟨k0,rfl⟩:=l1 b;obtain⟨t0,rfl⟩:=l1 c;refine⟨rfl,λh=>?_⟩;obtain⟨u,hu,f⟩:=uc (xg (show(_&&(List.all t0 (λ(z:Int)=>VanetaNeutral.natural z 8)&&decide (t0.length<=2100)))=true from h)).2;refine⟨.read k0 u,?_,⟨k0,t0,u,rfl,rfl,hu,rfl⟩,o f⟩;show(VanetaNeutral.text? t0).map _=_;rw[hu];rfl
 .have b:=(l rfl).1
  have c:=(l rfl).2;obtain⟨k0,rfl⟩:=l1 b;obtain rfl:=aco.mp c;exact⟨rfl,λ_=>⟨.form k0,rfl,⟨k0,rfl,rfl,rfl⟩,g⟩⟩
 .have b:=(l rfl).1
  have c:=(l rfl).2;obtain⟨k0,d,rfl⟩:=l2 b;obtain rfl:=aco.mp c;exact⟨rfl,λ_=>⟨.dual k0 d,rfl,⟨k0,d,rfl,rfl,rfl⟩,g⟩⟩
 .have b:=(l rfl).1
  have c:=(l rfl).2;obtain⟨k0,rfl⟩:=l1 b;obtain⟨t0,rfl⟩:=l1 c;exact⟨rfl,λh=>⟨.part k0 t0,rfl,⟨k0,t0,rfl,rfl,rfl⟩,o (abJ (adk (xg (xg (show(_&&(_&&decide (t0.length<=100)))=true from h)).2).2) (by decide))⟩⟩
 .have b:=(l rfl).1
  have c:=(l rfl).2;obtain⟨k0,rfl⟩:=l1 b;obtain rfl:=aco.mp c;exact⟨rfl,λ_=>⟨.size k0,rfl,⟨k0,rfl,rfl,rfl⟩,g⟩⟩
 .have b:=(l rfl).1
  have c:=(l rfl).2;obtain⟨k0,rfl⟩:=l1 b;obtain rfl:=aco.mp c;exact⟨rfl,λ_=>⟨.atoms k0,rfl,⟨k0,rfl,rfl,rfl⟩,g⟩⟩
 .have b:=(l rfl).1
  have c:=(l rfl).2;obtain⟨k0,d,q,A,rfl⟩:=l4 b;obtain rfl:=aco.mp c;exact⟨rfl,λ_=>⟨.build k0 d q A,rfl,⟨k0,d,q,A,rfl,rfl,rfl⟩,g⟩⟩
 .have b:=(l rfl).1
  have c:=(l rfl).2;obtain⟨k0,rfl⟩:=l1 b;obtain⟨t0,t1,rfl⟩:=l2 c;refine⟨rfl,λh=>?_⟩;obtain⟨s,w⟩:=xg (xg (show(_&&((List.all t0 (λ(z:Int)=>VanetaNeutral.natural z 8)&&decide (t0.length<=2100))&&(List.all t1 (λ(z:Int)=>VanetaNeutral.natural z 8)&&decide (t1.length<=2100))))=true from h)).2;obtain⟨u,hu,f⟩:=uc s;obtain⟨v,r,y⟩:=uc w;refine⟨.rename k0 u v,?_,⟨k0,t0,t1,u,v,rfl,rfl,hu,r,rfl⟩,tw f y⟩;show(VanetaNeutral.text? t0).bind _=_;rw[hu];show(VanetaNeutral.text? t1).map _=_;rw[r];rfl
 .have b:=(l rfl).1
  have c:=(l rfl).2;obtain⟨k0,d,q,rfl⟩:=l3 b;obtain⟨t0,rfl⟩:=l1 c;refine⟨rfl,λh=>?_⟩;obtain⟨u,hu,f⟩:=uc (xg (xg (xg (show(_&&(_&&(_&&(List.all t0 (λ(z:Int)=>VanetaNeutral.natural z 8)&&decide (t0.length<=2100)))))=true from h)).2).2).2;refine⟨.fill k0 d q u,?_,⟨k0,d,q,t0,u,rfl,rfl,hu,rfl⟩,o f⟩;show(VanetaNeutral.text? t0).map _=_;rw[hu];rfl
 .have b:=(l rfl).1
  have c:=(l rfl).2;obtain⟨k0,rfl⟩:=l1 b;obtain⟨t0,rfl⟩:=l1 c;refine⟨rfl,λh=>?_⟩;obtain⟨u,hu,f⟩:=uc (xg (show(_&&(List.all t0 (λ(z:Int)=>VanetaNeutral.natural z 8)&&decide (t0.length<=2100)))=true from h)).2;refine⟨.truth k0 u,?_,⟨k0,t0,u,rfl,rfl,hu,rfl⟩,o f⟩;show(VanetaNeutral.text? t0).map _=_;rw[hu];rfl
 .have b:=(l rfl).1
  have c:=(l rfl).2;obtain⟨k0,rfl⟩:=l1 b;obtain rfl:=aco.mp c;exact⟨rfl,λ_=>⟨.always k0,rfl,⟨k0,rfl,rfl,rfl⟩,g⟩⟩
 .have b:=(l rfl).1
  have c:=(l rfl).2;obtain⟨k0,d,rfl⟩:=l2 b;obtain rfl:=aco.mp c;exact⟨rfl,λ_=>⟨.same k0 d,rfl,⟨k0,d,rfl,rfl,rfl⟩,g⟩⟩
 .have b:=(l rfl).1
  have c:=(l rfl).2;obtain⟨k0,d,rfl⟩:=l2 b;obtain rfl:=aco.mp c;exact⟨rfl,λ_=>⟨.case k0 d,rfl,⟨k0,d,rfl,rfl,rfl⟩,g⟩⟩
 .have b:=(l rfl).1
  have c:=(l rfl).2;obtain rfl:=aco.mp b;obtain⟨t0,rfl⟩:=l1 c;refine⟨rfl,λh=>?_⟩;obtain⟨u,hu,f⟩:=uc (show(List.all t0 (λ(z:Int)=>VanetaNeutral.natural z 8)&&decide (t0.length<=2100))=true from h);refine⟨.sequent u,?_,⟨t0,u,rfl,rfl,hu,rfl⟩,o f⟩;show(VanetaNeutral.text? t0).map _=_;rw[hu];rfl
 .have b:=(l rfl).1
  have c:=(l rfl).2;obtain rfl:=aco.mp b;obtain⟨t0,t1,rfl⟩:=l2 c;refine⟨rfl,λh=>?_⟩;obtain⟨s,w⟩:=xg (show((List.all t0 (λ(z:Int)=>VanetaNeutral.natural z 8)&&decide (t0.length<=2100))&&(List.all t1 (λ(z:Int)=>VanetaNeutral.natural z 8)&&decide (t1.length<=2100)))=true from h);obtain⟨u,hu,f⟩:=uc s;obtain⟨v,r,y⟩:=uc w;refine⟨.bag u v,?_,⟨t0,t1,u,v,rfl,rfl,hu,r,rfl⟩,tw f y⟩;show(VanetaNeutral.text? t0).bind _=_;rw[hu];show(VanetaNeutral.text? t1).map _=_;rw[r];rfl
def N_{l:List Int}(h:PyVaneta.answers_asked l=true):∃b:List NC,Fz (l=PyFlat.put b) (∀c∈b,PyFlat.okCall PyVaneta.shape c) (b.length<=240) (∀c∈b,VanetaNeutral.asked1 c=true) (PyVaneta.answers l=PyFlat.told (PyFlat.played tU start b)) ((PyVaneta.answers l).length<=10000000):=by
 unfold PyVaneta.answers_asked at h;cases hc:PyFlat.calls PyVaneta.shape l.length l with
 |none=>rw[hc]at h;cases h
 |some d=>
  rw[hc]at h;simp only[aa8]at h;obtain⟨⟨⟨⟨o,g⟩,q⟩,e⟩,k⟩:=h;obtain⟨m,f⟩:=PyFlat.put_calls _ _ _ hc;have hw:d.map PyVaneta.whole=d:=by
   refine(ae8 λc hc=>?_).trans (ahF d);obtain⟨p,a,xs,rfl,hs⟩:=f c hc;obtain⟨j,n,rfl⟩:=wL hs;exact(Fq n hs).1
  rw[hw]at e;unfold VanetaNeutral.asked at e;rw[aa8]at e;refine⟨d,m,f,adk g,aeH.mp e.1,?_,adk k⟩;unfold PyVaneta.answers PyVaneta.calls;rw[hc];simp only;rw[hw];rfl
end CL
namespace CL
open PySem PySem.Spec PyProof.Rows L2 MR Vaneta
open PyFlat (putRow putRows put1 put okCall)
section
variable{K:Frag}{H H':Hp}
def Kp.but{B:Hp}{z:Addr}{vs:List V}(hz:H z=some (.lst vs))(c:B z≠none)(e:But z H H'):Kp B H H':=λb o h a=>by
 have:b≠z:=λq=>by
  subst q;rcases a with a|⟨xs,a|⟨f,a⟩⟩
  .exact c a
  .rw[hz]at h;rw[a]at h;cases h
  .rw[hz]at h;rw[a]at h;cases h
 exact e b o h this
def Held.ints{c d:Addr}{f:List Formula}{b:List Int}{zs:List V}(h:Held K H c f)(g:H d=some (.lst (ii b)))(l:d≠c):Held K (upd H d (.lst zs)) c f:=by
 obtain⟨vs,m,o⟩:=h;refine⟨vs,by rw[aU (ac6 l)];exact m,Paired.dY o λ_ A ⟨p,q,j,r⟩=>⟨p,q,But.upd.fl g j ?_,r⟩⟩;rintro rfl;obtain⟨t,k,e⟩:=j;rw[g]at k;cases k;rw[bL]at e;generalize hz:ii b=ys at e;cases e with
 |cons a _=>
  obtain⟨u,v,s,_⟩:=a;cases b with
  |nil=>cases hz
  |cons n b=>
   have:=(adR hz).1;rw[s]at this;cases this
end
def Vq(P:Program)(w:World)(K:Frag)(mg:Str->Option Value)(base:Heap)(b:List V):Prop:=∀j:Nat,j<15->sV λ(f:Addr)(a:FuncData)(k:Nat)=>xZ (b[j]?=some (.ref f)) (k<=9) (i_ P w K mg base DG k f a ["held","numbers","rows"] (dH (j:Int) K)) (Binds K a ["held","numbers","rows"] []) (keepIn K (.ref f)=true)
def Vr{X:Cx}{K:Frag}{a b c:Nat}{x y z:Str}{l m n j:Pos}{k:Nat}(o:X.K=K)(hc:X.calm=true)(d:X.N.Nodup)(p:X.N[a]?=some x)(q:X.N[b]?=some y)(r:X.N[c]?=some z)(e:X.env.scope.names.lookup x=some .local)(f:X.env.scope.names.lookup y=some .local)(g:X.env.scope.names.lookup z=some .local):
  PG X (.Tuple [.Name x l,.Name y m,.Name z n] k j) (Px K 3 (qy (gA a) (qy (gA b) (qy (gA c) T3)))):=by
 subst o;exact Py hc (mj (nG d p (Or.inl e) (Or.inr e)) (mj (nG d q (Or.inl f) (Or.inr f)) (mj (nG d r (Or.inl g) (Or.inr g)) JF)))
inductive Lj(K:Frag)(vs:List V)(H:Hp)(Q:VK)(e3:XK):Prop
|mk (a:Addr) (ns:List Int) (_:vs=[.ref a]) (_:aV K H a (ii ns)) (_:PyVaneta.answers_asked ns=true) (_:∀(H':Hp)(q:Addr),H' q=some (.lst (ii (PyVaneta.answers ns)))->Q (.ref q) H')
def sU:aJ ["calls","number","held","given","numbers","rows","answer"] ["calls"] (aA (top 111)):=scm
theorem zH{A B:Type}{R:A->B->Prop}:∀{l:List A}{m:List B}{j:Nat}{y:B},Paired R l m->m[j]?=some y->∃x,l[j]?=some x/\R x y
|_,_,0,_,.cons h _,e=>by cases e;exact⟨_,rfl,h⟩
|_,_,j+1,_,.cons _ t,e=>zH (j:=j) t e
def cR{c:List V}{l:List Str}{j k:Nat}{x:Str}{f:Addr}{a:FuncData}(e:Paired (λ(v:V)(x:Str)=>∃f,v=.ref f/\mg x=some (.ref f)) c l)(g:l[j]?=some x)(m:mg x=some (.ref f))
  (G:i_ P w K mg base DG k f a ["held","numbers","rows"] (dH (j:Int) K))(n:k<=9)(b:Binds K a ["held","numbers","rows"] [])(o:keepIn K (.ref f)=true):
  sV λ(f:Addr)(a:FuncData)(k:Nat)=>xZ (c[j]?=some (.ref f)) (k<=9) (i_ P w K mg base DG k f a ["held","numbers","rows"] (dH (j:Int) K)) (Binds K a ["held","numbers","rows"] []) (keepIn K (.ref f)=true):=by
 obtain⟨v,p,q,rfl,d⟩:=zH e g;rw[m]at d;cases d;exact⟨f,a,k,p,n,G,b,o⟩
def Ys{f:Addr}{fd:FuncData}(F:JZ K "answers" "answers" (top 111) f fd)(d:Hy P w K mg C base):i_ P w K mg base DG 10 f fd ["calls"] (Lj K):=by
 have B:=d.B;have g10:=d.lH;have g97:=d.Aw;obtain⟨f1,k_,G1,k1,b1,m1⟩:=DY d;obtain⟨f2,fd2,G2,k2,b2,m2⟩:=Rz d;obtain⟨ac,es,ec,hc,g⟩:=d.hc;have hC:Vq P w K mg base es:=by
  intro j hj;rcases(by decide:∀j<15,j=0\/j=1\/j=2\/j=3\/j=4\/j=5\/j=6\/j=7\/j=8\/j=9\/j=10\/j=11\/j=12\/j=13\/j=14) j hj with rfl|rfl|rfl|rfl|rfl|rfl|rfl|rfl|rfl|rfl|rfl|rfl|rfl|rfl|rfl
  .obtain⟨_,_,G,k,b,m⟩:=Va d
   exact cR g rfl m G (by decide) b k
  .obtain⟨_,_,G,k,b,m⟩:=RG d
   exact cR g rfl m G (by decide) b k
  .obtain⟨_,_,G,k,b,m⟩:=RK d
   exact cR g rfl m G (by decide) b k
  .obtain⟨_,_,G,k,b,m⟩:=RL d
   exact cR g rfl m G (by decide) b k
  .obtain⟨_,_,G,k,b,m⟩:=RM d
   exact cR g rfl m G (by decide) b k
  .obtain⟨_,_,G,k,b,m⟩:=Nr d
   exact cR g rfl m G (by decide) b k
  .obtain⟨_,_,G,k,b,m⟩:=Nm d
   exact cR g rfl m G (by decide) b k
  .obtain⟨_,_,G,k,b,m⟩:=Vb d
   exact cR g rfl m G (by decide) b k
  .obtain⟨_,_,G,k,b,m⟩:=RV d
   exact cR g rfl m G (by decide) b k
  .obtain⟨_,_,G,k,b,m⟩:=Nz d
   exact cR g rfl m G (by decide) b k
  .obtain⟨_,_,G,k,b,m⟩:=I_ d
   exact cR g rfl m G (by decide) b k
  .obtain⟨_,_,G,k,b,m⟩:=SM d
   exact cR g rfl m G (by decide) b k
  .obtain⟨_,_,G,k,b,m⟩:=SX d
   exact cR g rfl m G (by decide) b k
  .obtain⟨_,_,G,k,b,m⟩:=Vo d
   exact cR g rfl m G (by decide) b k
  .obtain⟨_,_,G,k,b,m⟩:=Vp d
   exact cR g rfl m G (by decide) b k
 obtain⟨a97,e97,h97⟩:=g97;refine eE F sU λcdv A outer s H vs Q E hr h=>?_;obtain⟨a,ns,rfl,hS,Yt,k⟩:=h;obtain⟨l,rfl,hok,agT,hcs,aaF,hshort⟩:=N_ Yt;have hr1:bI 1 _:=hr.mono (by decide);have hr2:bI 2 _:=hr.mono (by decide);refine⟨_,ao (mK (i:=2) (own:=[("number",1)]) rfl sU.nd rfl rfl (qG rfl rfl rfl (by decide+kernel)) (jP rfl B.range (aj (cX g10) aq)) (bQ (N:=["calls","number","held","given","numbers","rows","answer"]) (sc:=aA (top 111)) (by decide+kernel)) (λ_ _ _ _ _=>pN sU 1) (λ_ _ _ _ _=>dj)
    (λ_ _ _ _ _=>aB G1 hr1 rfl m1 k1 b1 .nil aH (aj (v9 e97) aq)))
  (ao (pS sU 3 (aQ aq))
  (ao (cW abu rfl (fH (aB G2 hr2 rfl m2 k2 b2 .nil aH (aj (pv 0) aq))) (Vr (K:=K) (a:=1) (b:=4) (c:=5) rfl rfl sU.nd rfl rfl rfl rfl rfl rfl)
   (ao (pS sU 6 (QK (aP bN (v9 ec) (pv 1) (λ_ _=>rfl)) (aj (pv 2) (aj (pv 4) (aj (pv 5) aq)))))
   (ao (bH (dD aaW abv abw bY (pv 3) (aj (aY aX (by rfl) B.len ab8 (aj (pv 6) aq)) aq)))
   (au (bH (dD aaW adp adq gW (pv 3) (aj (pv 6) aq)))))))
  (au (aF (pv 3))))),?_⟩
 refine⟨10,rfl,by decide,by decide,λu hph=>?_⟩;refine Dy (lo:=0) (n:=10) (λn y=>∃vs,dF (Same H y) (y u=some (.lst vs)) (Paired (YG K y u) vs (List.replicate n plainA))) ⟨[],Same.aM hph,ak,.nil⟩ ?_ ?_
 .rintro n y hn ⟨vs,O,D,hP⟩
  have hvl:vs.length=n:=by rw[abC hP,ahm]
  refine⟨rfl,a97,[97],rfl,h97.sq _,λH3 p I g hF=>⟨vs,I _ _ D,by rw[aa1];omega,vs++[.ref p],(O.trans I).bW hph,ak,?_⟩⟩;have hpp:p≠u:=λe=>by subst e;rw[D]at g;cases g
  rw[List.replicate_succ'];exact adW (Paired.dY hP λ_ _ ⟨q,e1,e2,e3⟩=>⟨q,e1,But.upd.fl (I _ _ D) (e2.same I) e3,e3⟩) ⟨p,rfl,But.upd.fl (I _ _ D) hF hpp,hpp⟩
 .rintro H1 ⟨vs,s1,D,hP⟩
  have hH1:Held K H1 u start.formulas:=⟨vs,D,hP⟩;refine⟨abe _,λt V1=>?_⟩;have O:=Same.aM (o:=.lst []) V1;have Z9:=ak (H:=H1) (a:=t) (o:=.lst []);have hne:t≠u:=λe=>by subst e;rw[D]at V1;cases V1
  have hH2:=hH1.same O;have hl2:=O _ _ D;have hS2:=(s1.trans O).seq hS;generalize upd H1 t (.lst [])=y at*;have ac4:y u≠none:=by rw[hl2];exact λz=>by cases z
  have aaG:y t≠none:=by rw[Z9];exact λz=>by cases z
  refine⟨_,rfl,a,l,rfl,hS2,hok,by omega,λH3 q us I hq hql hCl=>?_⟩;have KZ:us.length=l.length:=abC hCl;refine⟨q,rfl,⟨_,aV.of hql⟩,dR (K:=K) (a:=q) (xs:=us) (λi σ J=>Ft λ(o1 o4 o5 o6:Option V)=>lM (σ=[some (.ref a),o1,some (.ref u),some (.ref t),o4,o5,o6]) (Kp y H3 J) (Held K J u (j8 start (l.take i)).formulas) (J t=some (.lst (ii (PyFlat.told (PyFlat.played tU start (l.take i)))))))
   ⟨_,_,_,_,rfl,λb o h _=>h,hH2.same I,I _ _ Z9⟩ (λi σ J _ ⟨_,_,_,_,_,e,_,_⟩=>e.seq (aV.of hql) hq) ?_ ?_⟩
  .rintro i v σ J hi ⟨o1,o4,o5,o6,rfl,hKp,hHd,M⟩
   obtain⟨c,hci,hcl⟩:=wJ hCl hi;have hcm:c∈l:=aa6 hci;obtain⟨p,pn,pr,n,ar,xs,us',rfl,rfl,t1,t2,t3,t4,t5,t6⟩:=hcl.kp hKp;obtain⟨p',a',xs',e',hsh⟩:=hok _ hcm;obtain⟨e'',rfl⟩:=adR e';obtain⟨rfl,rfl⟩:=adR e'';obtain⟨j,hj,rfl⟩:=wL hsh;obtain⟨kc,hkc,hCI,hrl⟩:=(Fq hj hsh).2 (hcs _ hcm);obtain⟨fj,fdj,kj,hje,hkj,hFj,hbj,ac7⟩:=hC j hj;have hgood:=Fp (l.take i) start Jc;have Wj:=take_snoc hci;have aaH:tU (j8 start (l.take i)) (((j:Int)::ar)::xs)=((step (j8 start (l.take i)) kc).1,VanetaNeutral.encode (step (j8 start (l.take i)) kc).2):=by
    show VanetaNeutral.step _ _=_;unfold VanetaNeutral.step;rw[hkc]
   have Wk:=N7 (((j:Int)::ar)::xs) (l.take i) start;have T:=N8 l (i+1) start;have hSt:=w6 (((j:Int)::ar)::xs) (l.take i) start;rw[Wj]at T;rw[<-aaF]at T;rw[Wj];rw[hSt,Wk,aaH];rw[Wk,aaH,aad,aae]at T;generalize j8 start (l.take i)=st at*;obtain⟨fs⟩:=st;generalize PyFlat.told (PyFlat.played tU start (l.take i))=L at*;refine⟨p,_,rfl,t1,rfl,_,_,rfl,_,_,rfl,_,_,rfl,rfl,?_⟩;refine⟨_,rfl,ac,_,_,_,rfl,rfl,hc.sq _,aL hje,fj,dH (j:Int) K,rfl,⟨fdj,_,kj,hFj,hr.mono (by omega),hbj,ac7⟩,_,rfl,_,rfl,_,rfl,?_⟩;refine⟨u,pn,pr,fs,ar,us',xs,y,kc,rfl,hHd,hgood,t3,t5,⟨t6,λx hx=>abJ (hrl x hx) (by decide)⟩,hCI,λH5 r bt hr5 aaI ac8=>?_⟩;obtain⟨vs5,hv5,_⟩:=id hHd;have U:=bt _ _ M hne;have hrg:r≠t:=λe=>by subst e;rw[M]at hr5;cases hr5
   simp only at T;generalize VanetaNeutral.encode (step ⟨fs⟩ kc).2=en at*;have ac9:=hKp.trans (Kp.but hv5 ac4 bt);refine⟨_,rfl,.inl ⟨rfl,_,aV.of U⟩,_,rfl,r,_,rfl,.inl (aV.of aaI),t,_,_,rfl,rfl,U,?_,?_⟩
   .rw[aac,aa1];omega
   have eii:ii L++[V.int (((ii en).length:Nat):Int)]=ii (L++[(en.length:Int)]):=by
    unfold ii;rw[aaY,aac];rfl
   rw[eii];have ac_:=ac9.trans (Kp.upd (us:=ii (L++[(en.length:Int)])) U aaG);have ada:=ac8.ints (zs:=ii (L++[(en.length:Int)])) U hne;have Y:=ak (H:=H5) (a:=t) (o:=.lst (ii (L++[(en.length:Int)])));have hr6:upd H5 t (.lst (ii (L++[(en.length:Int)]))) r=some (.lst (ii en)):=by rw[aU hrg];exact aaI
   generalize upd H5 t (.lst (ii (L++[(en.length:Int)])))=H6 at*;refine⟨_,rfl,.inl ⟨rfl,_,aV.of Y⟩,_,rfl,t,r,_,_,rfl,rfl,Y,hr6,?_,?_⟩
   .rw[aac,aac,aad,abj,aa1];omega
   refine⟨_,_,_,_,rfl,ac_.trans (Kp.upd Y aaG),ada.ints Y hne,?_⟩;rw[ak];unfold ii;rw[aaY,aaY];simp
  .rintro σ J ⟨o1,o4,o5,o6,rfl,hKp,hHd,M⟩
   rw[KZ,abp]at M;exact⟨_,rfl,k J t (by rw[aaF];exact M)⟩
end CL
namespace CL
open PySem PySem.Spec PyProof.Rows L2 MR Vaneta
def aaJ{h:Heap}{x:Str}{st:Stmt}{f:Addr}{g:Value}{j m:Option Addr}{d:Array (Option Value)}{kV e n b ct:Value}(X:K.In h)(G:h.Ns mainGlobals mg)(a:nsIn K mainGlobals x=some (some (.ref f)))
  (l:K.lookup f=some ⟨g,j,.func (fnOf x x (ig st) (fY st) (aA st) .none kV e n m b ct),d⟩)(c:codeIn K b x=true)(k:keepIn K (.ref f)=true):Df K mg x st:=⟨f,_,Hv l c k,aeE X G a⟩
def aaK{x q:Str}{st:Stmt}{C f:Addr}{g:Value}{j m:Option Addr}{d:Array (Option Value)}{kV e n b ct:Value}(a:findIn K (.ref C) x=some (some (.ref f)))(i:isFn K (.ref f)=true)
  (l:K.lookup f=some ⟨g,j,.func (fnOf x q (ig st) (fY st) (aA st) .none kV e n m b ct),d⟩)(c:codeIn K b q=true)(k:keepIn K (.ref f)=true):Mf K C x q st:=⟨f,_,Hv l c k,a,i,k⟩
def aaL{C f:Addr}{g:Value}{j n:Option Addr}{d:Array (Option Value)}{kV e o b ct:Value}(m:makesIn K C=true)(a:findIn K (.ref C) "__init__"=some (some (.ref f)))(i:isFn K (.ref f)=true)(kc:keepIn K (.ref C)=true)
  (l:K.lookup f=some ⟨g,j,.func (fnOf "__init__" "Reading.__init__" (ig (rd 0)) (fY (rd 0)) (aA (rd 0)) .none kV e o n b ct),d⟩)(c:codeIn K b "Reading.__init__"=true)(k:keepIn K (.ref f)=true):Nf K C:=⟨f,_,Hv l c k,m,a,i,kc⟩
def aaM{h:Heap}{x:Str}{k:Int}{t:Tok}(X:K.In h)(G:h.Ns mainGlobals mg)(a:nsIn K mainGlobals x=some (some (.int k t))):GI mg x k:=⟨t,aeE X G a⟩
def Lk{a:Addr}{xs:List V}{c:Option Addr}{b:List Value}{n:Nat}{d:Array (Option Value)}(l:K.lookup a=some ⟨.type "tuple",c,.seq b.toArray n,d⟩)(z:b.length<=sizeLine)(v:Vals xs b):KT K a xs:=⟨_,b.toArray,n,l,rfl,rfl,z,by simpa using v⟩
def aaN{h:Heap}{x:Str}{xs:List V}{a:Addr}{c:Option Addr}{b:List Value}{n:Nat}{d:Array (Option Value)}(X:K.In h)(G:h.Ns mainGlobals mg)(e:nsIn K mainGlobals x=some (some (.ref a)))
  (l:K.lookup a=some ⟨.type "tuple",c,.seq b.toArray n,d⟩)(z:b.length<=sizeLine)(v:Vals xs b):GT mg K x xs:=⟨a,aeE X G e,Lk l z v⟩
def Yu{h:Heap}{sh:List (Nat×Nat)}{a:Addr}{j:Option Addr}{b:List Value}{n:Nat}{k:Array (Option Value)}(X:K.In h)(G:h.Ns mainGlobals mg)(e:nsIn K mainGlobals "SHAPES"=some (some (.ref a)))
  (l:K.lookup a=some ⟨.type "tuple",j,.seq b.toArray n,k⟩)(z:b.length<=sizeLine)(p:Paired (λ(u:Value)(s:Nat×Nat)=>∃e,u=.ref e/\KT K e [.int (s.1:Int),.int (s.2:Int)]) b sh):GSh mg K sh:=by
 have g:∀{b:List Value}{sh:List (Nat×Nat)},Paired (λ(u:Value)(s:Nat×Nat)=>∃e,u=.ref e/\KT K e [.int (s.1:Int),.int (s.2:Int)]) b sh->
   ∃c:List V,Vals c b/\Paired (λ(v:V)(s:Nat×Nat)=>∃e,v=.ref e/\KT K e [.int (s.1:Int),.int (s.2:Int)]) c sh:=by
  intro b sh p
  induction p with
  |nil=>exact⟨[],.nil,.nil⟩
  |cons h _ m=>
   obtain⟨e,rfl,o⟩:=h;obtain⟨c,d,f⟩:=m;exact⟨.ref e::c,.cons rfl d,.cons ⟨e,rfl,o⟩ f⟩
 obtain⟨c,d,f⟩:=g p;exact⟨a,c,aeE X G e,Lk l z d,f⟩
def aaO{h:Heap}{xs:List Str}{a:Addr}{k:Option Addr}{b:List Value}{n:Nat}{m:Array (Option Value)}(X:K.In h)(G:h.Ns mainGlobals mg)(e:nsIn K mainGlobals "CALLS"=some (some (.ref a)))
  (l:K.lookup a=some ⟨.type "tuple",k,.seq b.toArray n,m⟩)(z:b.length<=sizeLine)(p:Paired (λ(u:Value)(x:Str)=>∃f,u=.ref f/\nsIn K mainGlobals x=some (some (.ref f))) b xs):GC mg K xs:=by
 have j:∀{b:List Value}{xs:List Str},Paired (λ(u:Value)(x:Str)=>∃f,u=.ref f/\nsIn K mainGlobals x=some (some (.ref f))) b xs->
   ∃c:List V,Vals c b/\Paired (λ(v:V)(x:Str)=>∃f,v=.ref f/\mg x=some (.ref f)) c xs:=by
  intro b xs p
  induction p with
  |nil=>exact⟨[],.nil,.nil⟩
  |cons h _ o=>
   obtain⟨e,rfl,q⟩:=h;obtain⟨c,d,g⟩:=o;exact⟨.ref e::c,.cons rfl d,.cons ⟨e,rfl,aeE X G q⟩ g⟩
 obtain⟨c,d,g⟩:=j p;exact⟨a,c,aeE X G e,Lk l z d,g⟩
theorem zJ{A B:Type}{f:A->B}(a:∀x y,f x=f y->x=y):∀{l:List A},l.Nodup->(l.map f).Nodup
|[],_=>.nil
|x::l,h=>by
 have h:=adC.mp h;refine adC.mpr ⟨λm=>?_,zJ a h.2⟩;obtain⟨y,b,c⟩:=aa5.mp m;exact h.1 (a _ _ c▸b)
def aaP{h:Heap}{x:Str}{b:List (Int×Int)}{a:Addr}{c:List DictEntry}{n:Nat}(X:K.In h)(G:h.Ns mainGlobals mg)(e:nsIn K mainGlobals x=some (some (.ref a)))
  (l:K.lookup a=some ⟨.type "dict",none,.dict c.toArray n,#[]⟩)(s:(a==sysModules)=false)(p:Paired (λ(x:Int×Int)(e:DictEntry)=>Ex2 λt u=>e=⟨hashInt x.1,.int x.1 t,.int x.2 u⟩) b c)(r:(b.map (·.1)).Nodup):GD P w mg K x b:=by
 refine⟨a,aeE X G e,λh' v=>⟨s,?_⟩⟩;have q:∀{b:List (Int×Int)}{c:List DictEntry},Paired (λ(x:Int×Int)(e:DictEntry)=>Ex2 λt u=>e=⟨hashInt x.1,.int x.1 t,.int x.2 u⟩) b c->
   ∃vs,lM (KV (kvI b) vs) (Pairs (h_ P w) c vs) (vs.map (·.1)=b.map (λx=>(Sum.inl x.1:Key))) (∀e∈c,∃k,(h_ P w).is k e.key=true/\e.hash=(h_ P w).hash k):=by
  intro b c p
  induction p with
  |nil=>exact⟨[],.nil,.nil,rfl,λ_ h=>by cases h⟩
  |@cons x e _ _ h _ y=>
   obtain⟨t,u,rfl⟩:=h;obtain⟨vs,f,g,j,m⟩:=y;have o:(h_ P w).is (Sum.inl x.1) (.int x.1 t)=true:=Qn (k:=Sum.inl x.1) ⟨t,rfl⟩;refine⟨(Sum.inl x.1,.int x.2 u)::vs,.cons ⟨rfl,u,rfl⟩ f,.cons o rfl g,by rw[aaZ,j];rfl,λe d=>?_⟩;rcases aa2.mp d with rfl|d
   .exact⟨_,o,rfl⟩
   .exact m e d
 obtain⟨vs,f,g,j,m⟩:=q p;refine⟨vs,f,_,c.toArray,n,v _ _ l,⟨rfl,rfl,rfl⟩,rfl,λe d=>m e (by simpa using d),by simpa using g,?_⟩;rw[j,show b.map (λx=>(Sum.inl x.1:Key))=(b.map (·.1)).map Sum.inl by rw[abL];rfl];exact zJ (λ_ _ e=>ahw e) r
def Yv{h:Heap}{C:Addr}(X:K.In h)(G:h.Ns mainGlobals mg)(a:nsIn K mainGlobals "Reading"=some (some (.ref C)))(b:plainGet K C Str.empty=true)(c:hasDictIn K C=true)(d:plainOver K C=true)(e:findIn K (.ref C) "__setattr__"=some (some (.builtin "object.__setattr__")))(f:findIn K (.ref C) "waiting"=some none)(g:findIn K (.ref C) "ended"=some none):Txt K mg C:=⟨⟨b,c,d,e⟩,f,g,aeE X G a⟩
def fin{h:Heap}{b C:Addr}(X:K.In h)(G:h.Ns mainGlobals mg)(d:mg "answers"=some (.ref b))(l:nsIn K mainGlobals "Reading"=some (some (.ref C)))(c:∀base,Hy P w K mg C base):
  ∃a:FuncData,(∀(s:Shared)(us:List Value),us.length=(["calls"]:List Str).length->BindsTo s a ⟨us,[]⟩ ((["calls"]:List Str).zip us))/\∀base:Heap,K.In base->base.Ns mainGlobals mg->i_ P w K mg base DG 10 b a ["calls"] (Lj K):=by
 obtain⟨f,a,F,m⟩:=(c h).d72;rw[d]at m;cases m;refine⟨a,?_,λbase _ _=>Ys F (c base)⟩;obtain⟨n,o,kV,e,p,q,g,ct,j,rfl,r,k⟩:=F.ex;exact λs us hu=>match us,hu with|[_],_=>.of_eq rfl
end CL
open PySem PySem.W PyProof.Rows
namespace PySem.W.Fast
def tw15050723884574181673:=0
def tw6256892785452036620:=0
def tw14592041609380569824:=0
def tw297001492767636448:=0
def tw11334002487226992686:=0
def tw9294296308609680554:=0
def tw1491156028645287119:=0
def tw12956411484707688973:=0
def tw4535093938482575384:=0
def tw4567840088124385131:=0
def tw3178826372822491107:=0
def tw16506458846826999578:=0
def tw14611709048943759616:=0
def tw14753451350087442256:=0
def tw11514343346780634216:=0
def tw8383231053705595881:=0
def tw5026018040196626717:=0
def tw17274727668146673750:=0
def tw2397894714246652647:=0
def tw1425655297162437962:=0
def tw8208985989278713076:=0
def tw7618648327654802762:=0
def tw6070704221566563284:=0
def tw4330117012028853613:=0
def tw15135626111858468233:=0
def tw15033587151158535305:=0
def tw2066882988485120139:=0
def tw7894726080977310132:=0
def tw11575110052084963:=0
def tw11634178520836466389:=0
def tw16186249989852389292:=0
def tw12333888791839083380:=0
def tw14006167536222976535:=0
def tw1021722655709202232:=0
def tw4275623408173393260:=0
def tw4816891182872217223:=0
def tw1971267153123484972:=0
def tw16562300932538389743:=0
def tw10984230423032058154:=0
def tw2031764104106375386:=0
def tw10344335706603854188:=0
def tw1233974671746909895:=0
def tw2293827562751673136:=0
def tw6583388116818293019:=0
def tw17912621266879078953:=0
def tw2121223436267836022:=0
def tw6263831686372028755:=0
def tw18207292999376840513:=0
def tw16043694828239750632:=0
def tw15634571667016601073:=0
def tw1411861108150905768:=0
def tw4667344829353316579:=0
def tw14769277063499571357:=0
def tw7417970752820863405:=0
def tw17216399860863683658:=0
def tw1912824826530466767:=0
def tw7450032663737763188:=0
def tw5881123934704769205:=0
def tw11660030807359416476:=0
def tw7523832177512225678:=0
def tw6245354710318163290:=0
def tw5686157056177925829:=0
def tw17574118546899212482:=0
def tw16811818793307355379:=0
def tw5055510750343065310:=0
def tw11579340708136079648:=0
def tw2868922277658871533:=0
def tw11545253572063457958:=0
def tw13294363213872731027:=0
def tw7896795570255944558:=0
def tw9532076493305520098:=0
def tw4406810555144963985:=0
def tw4451889833067446628:=0
def tw8266505266507914688:=0
def tw7364972391295529136:=0
def tw14557594677324189384:=0
def tw4078504785685116962:=0
def tw3149157109488887012:=0
def tw9888879290944729465:=0
def tw9125774168859554962:=0
def tw6446901780282486847:=0
def tw1462095170464280203:=0
def tw13120174597861292929:=0
def tw2179266854855891445:=0
def tw7342984551319345051:=0
def tw528386288068159832:=0
def tw15355514307301623004:=0
def tw1193555515039241722:=0
def tw18389339588101353585:=0
def tw3009459315839804227:=0
def tw8473604530108770413:=0
def tw14884809906772667124:=0
def tw16549234756728013163:=0
def tw5332828543274528179:=0
def tw12805602664781951623:=0
def tw9139291234727432837:=0
def tw12468581514454402752:=0
def tw5709978890553658062:=0
def tw10432442430569197946:=0
def tw13144893125737480692:=0
def tw16970047617481341939:=0
def tw17758989080912389413:=0
def tw12327373241750946370:=0
def tw6017348393597480339:=0
def tw7528389646744910478:=0
def tw15634169506916516987:=0
def tw7499083154960280598:=0
def tw11753650180990248357:=0
def tw4069012104952470551:=0
def tw315507610926123481:=0
def tw4627770462337382720:=0
def tw5675933060386232459:=0
def tw1113899493269406769:=0
def tw8556960490327141023:=0
def tw15382494284961882149:=0
def tw9292729567067713767:=0
def tw5658921534108695118:=0
def tw9101673561419006067:=0
def tw3625626699722303645:=0
def tw3376249158985375857:=0
def tw15906255287100944702:=0
def tw1919184702243497870:=0
def tw14202248084442266201:=0
def tw15315603420680782496:=0
def tw3328277949463902469:=0
def tw16211553377112329161:=0
def tw4630398000766034814:=0
def tw11329870301385292733:=0
def tw1263060746900901095:=0
def tw16505669418726233154:=0
def tw18316563520742762900:=0
def tw4805241870170864322:=0
def tw13354808298318364398:=0
def tw18344308352155734837:=0
def tw16617980690376058950:=0
def tw4938470444722176477:=0
def tw6220820288594305240:=0
def tw822641073246066296:=0
def tw14355627505686552364:=0
def tw1655903176947335504:=0
def tw8269171287881464330:=0
def tw14849130848891634847:=0
def tw16242348035848523855:=0
def tw6759339834015385337:=0
def tw5897583433046975920:=0
def tw6181431231925655324:=0
def tw3314787367617406224:=0
def tw4479508735613684068:=0
def tw3640353190031357179:=0
def tw6846882766899014059:=0
def tw1033521212165100958:=0
def tw1068663971384996679:=0
def tw184216114362322138:=0
def tw11374192288312405815:=0
def tw13310187664419805135:=0
def tw15730755362285127593:=0
def tw12387172277284107952:=0
def tw13536273934382804581:=0
def tw17360098672624811289:=0
def tw1456924949883134131:=0
def tw17794191773898975378:=0
def tw9229793602224516545:=0
def tw6912209159115175656:=0
def tw6534501493725963410:=0
def tw5296395245270182350:=0
def tw13611210728532915475:=0
def tw14416070555907024753:=0
def tw10004712598252013583:=0
def tw6357481076690067696:=0
def tw2261907890348277304:=0
def tw6253146296230591746:=0
def tw1069424882238292436:=0
def tw15221033630140552895:=0
def tw5748925496309462222:=0
def tw7488708804445227969:=0
def tw10687439852879533269:=0
def tw9481254408641197808:=0
def tw8353734474803368897:=0
def tw14118766975722595763:=0
def tw9090130225679919993:=0
def tw15009770828780278443:=0
def tw416194533497648709:=0
def tw11173010638010465190:=0
def tw16379561488127901794:=0
def tw9463342707550985096:=0
def tw18260163493161324884:=0
def tw4148070413950977702:=0
def tw11310989925285439412:=0
def tw7714604194502942048:=0
def tw18338058669213993694:=0
def tw9392751067500795987:=0
def tw2999428780839824229:=0
def tw10083602994323663648:=0
def tw9678583429038261909:=0
def tw5776898522283719993:=0
def tw15463146001067310484:=0
def tw7601696183928296389:=0
def tw16165707917818056957:=0
def tw7054775078411932475:=0
def tw9542770273996600161:=0
def tw17052597578155724247:=0
def tw15044507572528997140:=0
def tw12353796292591650662:=0
def tw929049766297216320:=0
def tw12142994506112421686:=0
def tw11636401589973319862:=0
def tw1731562131764757309:=0
def tw10483933531118230321:=0
def tw11964263519138923155:=0
def tw10599037155994269792:=0
def tw14565822087098808583:=0
def tw943360935188075596:=0
def tw17494002835748880691:=0
def tw1241954078391340235:=0
def tw16644419639106893231:=0
def tw17634136821933970441:=0
def tw9447563657407360985:=0
def tw995427046522205158:=0
def tw5344236239660113913:=0
def tw7148049185008069146:=0
def tw6332252561610104418:=0
def tw16596247398456932952:=0
def tw9014382080926728901:=0
def tw8451949020548032397:=0
def tw16751965510284186503:=0
def tw6313611734282528597:=0
def tw2744079583898377731:=0
def tw6037808473576791639:=0
def tw8354989698866166503:=0
def tw8413489118061269524:=0
end PySem.W.Fast
set_option maxRecDepth 100000 in
set_option maxHeartbeats 0 in
theorem PySem.Challenge.cw_countedlogic_s01_answers_holds : PySem.Challenge.rw_countedlogic_s01_answers.Holds := by
  w_on; k_headS; (case hw => exact ⟨[.list [.int 1, .int 0]], by decide +kernel, by decide +kernel⟩)
  k_fillS
  refine L2.Hw (r := PySem.Challenge.rw_countedlogic_s01_answers) (k := 10) (CX := L2.DG) (ps := ["calls"]) (sp := CL.Lj) (by decide +kernel) rfl rfl ⟨rfl, by decide, by decide⟩ (fun w h Y => PySem.W.kIn_of Y) ?F ?S (fun _ _ _ _ z => z)
  case F =>
    intro w mg fa h Y KX G hmg
    refine CL.fin KX G hmg (by k_is) fun base => ?_
    constructor
    all_goals first
      | exact CL.aaM KX G (by k_is)
      | exact CL.aaJ KX G (by k_is) (by k_is) (by k_is) (by k_is)
      | exact CL.aaK (by k_is) (by k_is) (by k_is) (by k_is) (by k_is)
      | exact CL.aaL (by k_is) (by k_is) (by k_is) (by k_is) (by k_is) (by k_is) (by k_is)
      | exact CL.Yv KX G (by k_is) (by k_is) (by k_is) (by k_is) (by k_is) (by k_is) (by k_is)
      | exact ⟨⟨⟨mg_none_of KX G (by k_is), mg_none_of KX G (by k_is)⟩, mg_none_of KX G (by k_is), mg_none_of KX G (by k_is), mg_none_of KX G (by k_is), mg_none_of KX G (by k_is), mg_none_of KX G (by k_is), mg_none_of KX G (by k_is), mg_none_of KX G (by k_is), mg_none_of KX G (by k_is)⟩, mg_none_of KX G (by k_is), mg_none_of KX G (by k_is)⟩
      | exact CL.aaN KX G (by k_is) (by k_is) (by decide) (by repeat (first | exact .nil | refine .cons ⟨_, rfl⟩ ?_))
      | exact CL.aaP KX G (by k_is) (by k_is) rfl (by repeat (first | exact .nil | refine .cons ⟨_, _, rfl⟩ ?_)) (by decide)
      | exact CL.Yu KX G (by k_is) (by k_is) (by decide) (by repeat (first | exact .nil | refine .cons ⟨_, rfl, CL.Lk (by k_is) (by decide) (.cons ⟨_, rfl⟩ (.cons ⟨_, rfl⟩ .nil))⟩ ?_))
      | exact CL.aaO KX G (by k_is) (by k_is) (by decide) (by repeat (first | exact .nil | refine .cons ⟨_, rfl, by k_is⟩ ?_))
  case S =>
    intro K H xs a hO hwi Yt hx
    cases hx with
    | cons h1 h2 =>
      cases h2
      cases h1 with
      | lst hs ha =>
        have e := L2.J1 a.1 _ ha
        subst e
        exact ⟨_, a.1, rfl, hs, Yt, fun H' p hp => .lst (L2.aV.of hp) (L2.J0 _)⟩
