import PyProof.Rows.All
import Wide.All
import OpenK.AllK
import Wide.FinOn
import Lean
import PyProof.EqAt
import PyProof.EqKinds
import PyProof.TupleCall
import KE.KTryMore
import OpenK.KOwn
import PyProof.ExcArgsOwn
import PyProof.RulesAs
import KE.KEqSeq
import PyProof.ConsumeWalk
import PyProof.WalksMore
import PyProof.DictCompW
import PyProof.WalksEnum
import PyProof.AttrMissHeap
import PyProof.MeetsIn
import PyProof.DictUpdate
import KE.KEqDict
import PyProof.WalkInts
import PyProof.ExcInit
import PyProof.InstStoreFacts
import KE.KLam
import PyProof.DelItemList
import PyProof.RulesDelMore
import PyProof.DictItems
import KE.KPairComp
import PyProof.ListMulRoad
import PyProof.DictIter
import PyProof.DictWalks
import KE.KDictList
import PySem.Challenge.RW_passpapers_k05_trees_read
local macro_rules|`(tactic|show $e)=>`(tactic|refine $e)
set_option Elab.async false
set_option linter.all false
set_option maxRecDepth 100000
set_option maxHeartbeats 0
abbrev Av:=PySem.W.Frag
abbrev Cb:=PySem.Str->Option PySem.Value
abbrev Bo:=PySem.Value->PySem.Shared->Prop
abbrev Uo:=Unit->PySem.Shared->Prop
abbrev Ej:=List (PySem.Addr×PySem.Obj)
noncomputable section
abbrev JQ:=@PySem.wpAny_bind
abbrev JR:=@List.length_map
abbrev JS:=@List.mem_cons_of_mem
abbrev JT:=@List.mem_cons
abbrev JU:=@PySem.Heap.get?_push_of_some
abbrev JV:=@Nat.le_refl
abbrev JW:=@PySem.wpAny_pure
abbrev JX:=@List.length_append
abbrev JY:=@List.mem_cons_self
abbrev JZ:=@PySem.Heap.lt_size
abbrev KA:=@decide_eq_true
abbrev KC:=@List.length_cons
abbrev KD:=@List.mem_singleton
abbrev KE:=@List.map_cons
abbrev KH:=@if_neg
abbrev KI:=@List.mem_map
abbrev KJ:=@if_pos
abbrev KN:=@Nat.le_trans
abbrev KP:=@of_decide_eq_true
abbrev KQ:=@List.mem_append
abbrev KR:=@List.mem_of_getElem?
abbrev KS:=@List.size_toArray
abbrev KU:=@List.not_mem_nil
abbrev KW:=@PySem.Heap.get?_push_size
abbrev KY:=@PySem.F.plainAttrs_list
abbrev KZ:=@List.map_append
abbrev LA:=@Bool.false_ne_true
abbrev LB:=@List.mem_append_right
abbrev LC:=@List.getElem?_eq_getElem
abbrev LD:=@Nat.lt_of_lt_of_le
abbrev LF:=@Nat.ne_of_lt
abbrev LG:=@List.getElem?_map
abbrev LH:=@PySem.wpAny_field
abbrev LI:=@List.length_singleton
abbrev LJ:=@PySem.sizeLine_eq
abbrev LK:=@PySem.W.mg_of
abbrev LL:=@List.length_take
abbrev LM:=@congrArg
abbrev LN:=@Nat.zero_le
abbrev LO:=@PyProof.Rows.slot_tuple_getitem
abbrev LP:=@List.take_of_length_le
abbrev LQ:=@PySem.F.slot_list_append
abbrev LR:=@PySem.F.type_list_append
abbrev LS:=@Nat.lt_of_le_of_lt
abbrev LU:=@decide_eq_false
abbrev LV:=@Option.some.inj
abbrev LW:=@PySem.wpAny_callSpecial?_slot
abbrev LX:=@List.nodup_append
abbrev LY:=@List.take_length
abbrev LZ:=@PySem.W.mg_none_of
abbrev MA:=@Bool.and_eq_true
abbrev MB:=@or_false
abbrev MD:=@List.mem_append_left
abbrev ME:=@PySem.wpAny_newObj_type
abbrev MF:=@PySem.wpAny_setField_rec
abbrev MG:=@PySem.AutoSeq1.wpAny_loadPart'
abbrev MH:=@List.getElem?_append_right
abbrev MI:=@PySem.F.excBase_ValueError
abbrev MJ:=@decide_eq_true_eq
abbrev MK:=@Nat.ne_of_gt
abbrev ML:=@List.drop_of_length_le
abbrev MM:=@PySem.W.kia_one
abbrev MN:=@List.append_nil
abbrev MO:=@PySem.PassesOwn.never
abbrev MP:=@PySem.wpAny_call_entry
abbrev MQ:=@List.all_eq_true
abbrev MR:=@PySem.wpAny_pyIter_tuple
abbrev MS:=@beq_eq_false_iff_ne
abbrev MT:=@List.length_replicate
abbrev MU:=@PySem.wpAny_truthy_bool
abbrev MV:=@PyProof.Rows.callWith_type1
abbrev MW:=@decide_eq_false_iff_not
abbrev MX:=@Sum.inr.inj
abbrev MY:=@PySem.Heap.size_push
abbrev MZ:=@List.mem_of_mem_drop
abbrev NA:=@PyProof.Rows.boot_tuple
abbrev NB:=@List.length_drop
abbrev ND:=@List.lookup_cons
abbrev NE:=@PySem.F.plainAttrs_str
abbrev NF:=@PySem.mem_of_lookup
abbrev NG:=@PySem.wpAny_pyIter_list
abbrev NH:=@PySem.Str.length_append
abbrev NI:=@PySem.F.slot_list_pop
abbrev NJ:=@PySem.F.type_list_pop
abbrev NK:=@Nat.lt_irrefl
abbrev NL:=@PySem.wpAny_seqItems
abbrev NN:=@List.filter_cons_of_neg
abbrev NO:=@PySem.wpAny_holding
abbrev NP:=@Bool.not_eq_true'
abbrev NQ:=@PySem.F.slot_tuple_iterator_next
abbrev NR:=@List.nodup_cons
abbrev NT:=@Nat.min_eq_left
abbrev NU:=@Nat.not_lt_zero
abbrev NV:=@List.getElem?_append_left
abbrev NW:=@List.mem_of_find?_eq_some
abbrev NY:=@PySem.wpAny_mono
abbrev NZ:=@PySem.wpAny_Call_Name_kw
abbrev No:=@List.map_nil
abbrev OA:=@List.append_cancel_right
abbrev OB:=@List.mem_of_mem_take
abbrev OC:=@List.take_append_of_le_length
abbrev OD:=@List.take_sublist
abbrev OE:=@List.length_nil
abbrev OF:=@PySem.F.slot_zip_next
abbrev OG:=@List.filterMap_cons
abbrev OH:=@List.take_succ_cons
abbrev OI:=@PySem.codeAny_mono
abbrev OJ:=@PySem.Heap.get?_update_other
abbrev OK:=@Bool.false_eq_true
abbrev OL:=@PySem.boot_len
abbrev OM:=@List.filter_append
abbrev ON:=@Bool.eq_iff_iff
abbrev OO:=@Ne.symm
abbrev OP:=@List.any_cons
abbrev OQ:=@PySem.call_meets
abbrev OR:=@PySem.wpAny_comprehension_free
abbrev OS:=@Array.length_toList
abbrev OT:=@List.length_reverse
abbrev OU:=@PySem.wpAny_getItem_str_slice
abbrev OV:=@PySem.wpAny_isInstance
abbrev OW:=@PySem.Str.cps_append
abbrev OX:=@List.getElem?_cons_succ
abbrev OY:=@Nat.min_eq_right
abbrev OZ:=@PySem.F.slot_zip_getattribute
abbrev Of:=@Nat.le_of_eq
abbrev PB:=@PySem.W.callWith_K
abbrev PD:=@if_true
abbrev PF:=@PySem.tupleKind_room_in1
abbrev PH:=@List.find?_cons
abbrev PJ:=@List.cons.inj
abbrev PK:=@PySem.F.slot_enumerate_next
abbrev PL:=@List.length_filter_le
abbrev PM:=@PySem.wpAny_loadPart_at
abbrev PN:=@PySem.PassesOwn.leaving
abbrev PP:=@PySem.typeIs_str
abbrev PR:=@PySem.codeAny_call_builtin
abbrev PU:=@Nat.mul_le_mul_right
abbrev PV:=@Bool.or_eq_false_iff
abbrev PX:=@PyProof.Rows.boot_str
abbrev PY:=@PySem.wpAny_typeOf
abbrev PZ:=@List.cons_append
abbrev QB:=@List.drop_eq_getElem_cons
abbrev QC:=@List.replicate_succ
abbrev QD:=@Array.toList_append
abbrev QF:=@PySem.F.args_tuple_add_2
abbrev QH:=@PySem.wpAny_attempt
abbrev QJ:=@Prod.mk.injEq
abbrev QK:=@PySem.wpAny_passesOwn
abbrev QL:=@List.of_mem_zip
abbrev QM:=@List.nil_append
abbrev QN:=@List.filter_nil
abbrev QP:=@List.find?_some
abbrev QQ:=@PySem.Calls.spliced_cons
abbrev QR:=@not_or
abbrev QU:=@PySem.F.entry_tuple_add
abbrev QV:=@List.filter_cons_of_pos
abbrev QX:=@Int.toNat_natCast
abbrev QY:=@if_false
abbrev QZ:=@PySem.isSubtype_stop
abbrev RA:=@List.take_add_one
abbrev RB:=@beq_iff_eq
abbrev RC:=@dite_true
abbrev RD:=@List.getElem_mem
abbrev RE:=@List.any_eq_true
abbrev RF:=@Array.all_toList
abbrev RG:=@Nat.le_succ
namespace L2
open PySem PySem.Spec PyProof.Rows
def zl (n:Nat)(h:n<=1000:=by decide):n<=sizeLine:=KN h (by decide)
def Az {A B R:Prop}(h0:A)(h1:B)(r:R):A/\B/\R:=⟨h0,h1,r⟩
def C7 {A B C R:Prop}(h0:A)(h1:B)(h2:C)(r:R):A/\B/\C/\R:=⟨h0,h1,h2,r⟩
def Fb {A B C D R:Prop}(h0:A)(h1:B)(h2:C)(h3:D)(r:R):A/\B/\C/\D/\R:=⟨h0,h1,h2,h3,r⟩
def D8 {A B C D E R:Prop}(h0:A)(h1:B)(h2:C)(h3:D)(h4:E)(r:R):A/\B/\C/\D/\E/\R:=⟨h0,h1,h2,h3,h4,r⟩
def Aq {α:Type}{A R:α->Prop}(a:α)(h0:A a)(r:R a):∃a,A a/\R a:=⟨a,h0,r⟩
def Bx {α:Type}{A B R:α->Prop}(a:α)(h0:A a)(h1:B a)(r:R a):∃a,A a/\B a/\R a:=⟨a,h0,h1,r⟩
def Dh {α:Type}{A B C R:α->Prop}(a:α)(h0:A a)(h1:B a)(h2:C a)(r:R a):∃a,A a/\B a/\C a/\R a:=⟨a,h0,h1,h2,r⟩
def Rg {α:Type}{A B C D R:α->Prop}(a:α)(h0:A a)(h1:B a)(h2:C a)(h3:D a)(r:R a):∃a,A a/\B a/\C a/\D a/\R a:=⟨a,h0,h1,h2,h3,r⟩
def Ko {α:Type}{A B C D E R:α->Prop}(a:α)(h0:A a)(h1:B a)(h2:C a)(h3:D a)(h4:E a)(r:R a):∃a,A a/\B a/\C a/\D a/\E a/\R a:=⟨a,h0,h1,h2,h3,h4,r⟩
def Uj {α β:Type}{R:α->β->Prop}(a:α)(b:β)(r:R a b):∃a b,R a b:=⟨a,b,r⟩
def C6 {α β:Type}{A R:α->β->Prop}(a:α)(b:β)(h0:A a b)(r:R a b):∃a b,A a b/\R a b:=⟨a,b,h0,r⟩
def Al {α β:Type}{A B R:α->β->Prop}(a:α)(b:β)(h0:A a b)(h1:B a b)(r:R a b):∃a b,A a b/\B a b/\R a b:=⟨a,b,h0,h1,r⟩
def Co {α β:Type}{A B C R:α->β->Prop}(a:α)(b:β)(h0:A a b)(h1:B a b)(h2:C a b)(r:R a b):∃a b,A a b/\B a b/\C a b/\R a b:=⟨a,b,h0,h1,h2,r⟩
def Jr {α β:Type}{A B C D R:α->β->Prop}(a:α)(b:β)(h0:A a b)(h1:B a b)(h2:C a b)(h3:D a b)(r:R a b):∃a b,A a b/\B a b/\C a b/\D a b/\R a b:=⟨a,b,h0,h1,h2,h3,r⟩
def Km {α β:Type}{A B C D E R:α->β->Prop}(a:α)(b:β)(h0:A a b)(h1:B a b)(h2:C a b)(h3:D a b)(h4:E a b)(r:R a b):∃a b,A a b/\B a b/\C a b/\D a b/\E a b/\R a b:=⟨a,b,h0,h1,h2,h3,h4,r⟩
def Tl {α β γ:Type}{R:α->β->γ->Prop}(a:α)(b:β)(c:γ)(r:R a b c):∃a b c,R a b c:=⟨a,b,c,r⟩
def Nm {α β γ:Type}{A R:α->β->γ->Prop}(a:α)(b:β)(c:γ)(h0:A a b c)(r:R a b c):∃a b c,A a b c/\R a b c:=⟨a,b,c,h0,r⟩
def Kl {α β γ:Type}{A B R:α->β->γ->Prop}(a:α)(b:β)(c:γ)(h0:A a b c)(h1:B a b c)(r:R a b c):∃a b c,A a b c/\B a b c/\R a b c:=⟨a,b,c,h0,h1,r⟩
def Ei {α β γ:Type}{A B C R:α->β->γ->Prop}(a:α)(b:β)(c:γ)(h0:A a b c)(h1:B a b c)(h2:C a b c)(r:R a b c):∃a b c,A a b c/\B a b c/\C a b c/\R a b c:=⟨a,b,c,h0,h1,h2,r⟩
def Ep {α β γ:Type}{A B C D R:α->β->γ->Prop}(a:α)(b:β)(c:γ)(h0:A a b c)(h1:B a b c)(h2:C a b c)(h3:D a b c)(r:R a b c):∃a b c,A a b c/\B a b c/\C a b c/\D a b c/\R a b c:=⟨a,b,c,h0,h1,h2,h3,r⟩
def Lb {α β γ:Type}{A B C D E R:α->β->γ->Prop}(a:α)(b:β)(c:γ)(h0:A a b c)(h1:B a b c)(h2:C a b c)(h3:D a b c)(h4:E a b c)(r:R a b c):∃a b c,A a b c/\B a b c/\C a b c/\D a b c/\E a b c/\R a b c:=⟨a,b,c,h0,h1,h2,h3,h4,r⟩
def ii40 {α β γ δ:Type}{R:α->β->γ->δ->Prop}(a:α)(b:β)(c:γ)(d:δ)(r:R a b c d):∃a b c d,R a b c d:=⟨a,b,c,d,r⟩
def ii41 {α β γ δ:Type}{A R:α->β->γ->δ->Prop}(a:α)(b:β)(c:γ)(d:δ)(h0:A a b c d)(r:R a b c d):∃a b c d,A a b c d/\R a b c d:=⟨a,b,c,d,h0,r⟩
def ii42 {α β γ δ:Type}{A B R:α->β->γ->δ->Prop}(a:α)(b:β)(c:γ)(d:δ)(h0:A a b c d)(h1:B a b c d)(r:R a b c d):∃a b c d,A a b c d/\B a b c d/\R a b c d:=⟨a,b,c,d,h0,h1,r⟩
def ii43 {α β γ δ:Type}{A B C R:α->β->γ->δ->Prop}(a:α)(b:β)(c:γ)(d:δ)(h0:A a b c d)(h1:B a b c d)(h2:C a b c d)(r:R a b c d):∃a b c d,A a b c d/\B a b c d/\C a b c d/\R a b c d:=⟨a,b,c,d,h0,h1,h2,r⟩
def B0 {α β γ δ:Type}{A B C D R:α->β->γ->δ->Prop}(a:α)(b:β)(c:γ)(d:δ)(h0:A a b c d)(h1:B a b c d)(h2:C a b c d)(h3:D a b c d)(r:R a b c d):∃a b c d,A a b c d/\B a b c d/\C a b c d/\D a b c d/\R a b c d:=⟨a,b,c,d,h0,h1,h2,h3,r⟩
def Cm {α β γ δ:Type}{A B C D E R:α->β->γ->δ->Prop}(a:α)(b:β)(c:γ)(d:δ)(h0:A a b c d)(h1:B a b c d)(h2:C a b c d)(h3:D a b c d)(h4:E a b c d)(r:R a b c d):∃a b c d,A a b c d/\B a b c d/\C a b c d/\D a b c d/\E a b c d/\R a b c d:=⟨a,b,c,d,h0,h1,h2,h3,h4,r⟩
def ii53 {α β γ δ ε:Type}{A B C R:α->β->γ->δ->ε->Prop}(a:α)(b:β)(c:γ)(d:δ)(e:ε)(h0:A a b c d e)(h1:B a b c d e)(h2:C a b c d e)(r:R a b c d e):∃a b c d e,A a b c d e/\B a b c d e/\C a b c d e/\R a b c d e:=⟨a,b,c,d,e,h0,h1,h2,r⟩
def F5 {α β γ δ ε:Type}{A B C D E R:α->β->γ->δ->ε->Prop}(a:α)(b:β)(c:γ)(d:δ)(e:ε)(h0:A a b c d e)(h1:B a b c d e)(h2:C a b c d e)(h3:D a b c d e)(h4:E a b c d e)(r:R a b c d e):∃a b c d e,A a b c d e/\B a b c d e/\C a b c d e/\D a b c d e/\E a b c d e/\R a b c d e:=⟨a,b,c,d,e,h0,h1,h2,h3,h4,r⟩
def Cw {α β γ δ ε ζ:Type}{R:α->β->γ->δ->ε->ζ->Prop}(a:α)(b:β)(c:γ)(d:δ)(e:ε)(f:ζ)(r:R a b c d e f):∃a b c d e f,R a b c d e f:=⟨a,b,c,d,e,f,r⟩
def Ad4 {α β γ δ ε ζ:Type}{A B C D R:α->β->γ->δ->ε->ζ->Prop}(a:α)(b:β)(c:γ)(d:δ)(e:ε)(f:ζ)(h0:A a b c d e f)(h1:B a b c d e f)(h2:C a b c d e f)(h3:D a b c d e f)(r:R a b c d e f):∃a b c d e f,A a b c d e f/\B a b c d e f/\C a b c d e f/\D a b c d e f/\R a b c d e f:=⟨a,b,c,d,e,f,h0,h1,h2,h3,r⟩
def Kk {α β γ δ ε ζ:Type}{A B C D E R:α->β->γ->δ->ε->ζ->Prop}(a:α)(b:β)(c:γ)(d:δ)(e:ε)(f:ζ)(h0:A a b c d e f)(h1:B a b c d e f)(h2:C a b c d e f)(h3:D a b c d e f)(h4:E a b c d e f)(r:R a b c d e f):∃a b c d e f,A a b c d e f/\B a b c d e f/\C a b c d e f/\D a b c d e f/\E a b c d e f/\R a b c d e f:=⟨a,b,c,d,e,f,h0,h1,h2,h3,h4,r⟩
def Ad {α:Type}{A R:α->Prop}{a:α}(h0:A a)(r:R a):∃a,A a/\R a:=⟨a,h0,r⟩
def Bh {α:Type}{A B R:α->Prop}{a:α}(h0:A a)(h1:B a)(r:R a):∃a,A a/\B a/\R a:=⟨a,h0,h1,r⟩
def jj13 {α:Type}{A B C R:α->Prop}{a:α}(h0:A a)(h1:B a)(h2:C a)(r:R a):∃a,A a/\B a/\C a/\R a:=⟨a,h0,h1,h2,r⟩
def Ad3 {α:Type}{A B C D E R:α->Prop}{a:α}(h0:A a)(h1:B a)(h2:C a)(h3:D a)(h4:E a)(r:R a):∃a,A a/\B a/\C a/\D a/\E a/\R a:=⟨a,h0,h1,h2,h3,h4,r⟩
def Jn {α β:Type}{R:α->β->Prop}{a:α}{b:β}(r:R a b):∃a b,R a b:=⟨a,b,r⟩
def Xk {α β:Type}{A R:α->β->Prop}{a:α}{b:β}(h0:A a b)(r:R a b):∃a b,A a b/\R a b:=⟨a,b,h0,r⟩
def Aw {α β:Type}{A B R:α->β->Prop}{a:α}{b:β}(h0:A a b)(h1:B a b)(r:R a b):∃a b,A a b/\B a b/\R a b:=⟨a,b,h0,h1,r⟩
def Cd {α β:Type}{A B C R:α->β->Prop}{a:α}{b:β}(h0:A a b)(h1:B a b)(h2:C a b)(r:R a b):∃a b,A a b/\B a b/\C a b/\R a b:=⟨a,b,h0,h1,h2,r⟩
def Nl {α β:Type}{A B C D R:α->β->Prop}{a:α}{b:β}(h0:A a b)(h1:B a b)(h2:C a b)(h3:D a b)(r:R a b):∃a b,A a b/\B a b/\C a b/\D a b/\R a b:=⟨a,b,h0,h1,h2,h3,r⟩
def jj25 {α β:Type}{A B C D E R:α->β->Prop}{a:α}{b:β}(h0:A a b)(h1:B a b)(h2:C a b)(h3:D a b)(h4:E a b)(r:R a b):∃a b,A a b/\B a b/\C a b/\D a b/\E a b/\R a b:=⟨a,b,h0,h1,h2,h3,h4,r⟩
def jj30 {α β γ:Type}{R:α->β->γ->Prop}{a:α}{b:β}{c:γ}(r:R a b c):∃a b c,R a b c:=⟨a,b,c,r⟩
def jj42 {α β γ δ:Type}{A B R:α->β->γ->δ->Prop}{a:α}{b:β}{c:γ}{d:δ}(h0:A a b c d)(h1:B a b c d)(r:R a b c d):∃a b c d,A a b c d/\B a b c d/\R a b c d:=⟨a,b,c,d,h0,h1,r⟩
def Eo {α β γ δ:Type}{A B C R:α->β->γ->δ->Prop}{a:α}{b:β}{c:γ}{d:δ}(h0:A a b c d)(h1:B a b c d)(h2:C a b c d)(r:R a b c d):∃a b c d,A a b c d/\B a b c d/\C a b c d/\R a b c d:=⟨a,b,c,d,h0,h1,h2,r⟩
def Xj {α β γ δ:Type}{A B C D R:α->β->γ->δ->Prop}{a:α}{b:β}{c:γ}{d:δ}(h0:A a b c d)(h1:B a b c d)(h2:C a b c d)(h3:D a b c d)(r:R a b c d):∃a b c d,A a b c d/\B a b c d/\C a b c d/\D a b c d/\R a b c d:=⟨a,b,c,d,h0,h1,h2,h3,r⟩
def jj60 {α β γ δ ε ζ:Type}{R:α->β->γ->δ->ε->ζ->Prop}{a:α}{b:β}{c:γ}{d:δ}{e:ε}{f:ζ}(r:R a b c d e f):∃a b c d e f,R a b c d e f:=⟨a,b,c,d,e,f,r⟩
def Fc {A R:Prop}{G:Prop}(h:A/\R)(k:A->R->G):G:=let ⟨h0,r⟩:=h;k h0 r
def Ch {A B R:Prop}{G:Prop}(h:A/\B/\R)(k:A->B->R->G):G:=let ⟨h0,h1,r⟩:=h;k h0 h1 r
def Qi {A B C R:Prop}{G:Prop}(h:A/\B/\C/\R)(k:A->B->C->R->G):G:=let ⟨h0,h1,h2,r⟩:=h;k h0 h1 h2 r
def Ma {A B C D R:Prop}{G:Prop}(h:A/\B/\C/\D/\R)(k:A->B->C->D->R->G):G:=let ⟨h0,h1,h2,h3,r⟩:=h;k h0 h1 h2 h3 r
def Ib {A B C D E R:Prop}{G:Prop}(h:A/\B/\C/\D/\E/\R)(k:A->B->C->D->E->R->G):G:=let ⟨h0,h1,h2,h3,h4,r⟩:=h;k h0 h1 h2 h3 h4 r
def Am {α:Type}{A R:α->Prop}{G:Prop}(h:∃a,A a/\R a)(k:∀a,A a->R a->G):G:=let ⟨a,h0,r⟩:=h;k a h0 r
def Bg {α:Type}{A B R:α->Prop}{G:Prop}(h:∃a,A a/\B a/\R a)(k:∀a,A a->B a->R a->G):G:=let ⟨a,h0,h1,r⟩:=h;k a h0 h1 r
def Oz {α:Type}{A B C R:α->Prop}{G:Prop}(h:∃a,A a/\B a/\C a/\R a)(k:∀a,A a->B a->C a->R a->G):G:=let ⟨a,h0,h1,h2,r⟩:=h;k a h0 h1 h2 r
def Tv {α:Type}{A B C D R:α->Prop}{G:Prop}(h:∃a,A a/\B a/\C a/\D a/\R a)(k:∀a,A a->B a->C a->D a->R a->G):G:=let ⟨a,h0,h1,h2,h3,r⟩:=h;k a h0 h1 h2 h3 r
def Oy {α:Type}{A B C D E R:α->Prop}{G:Prop}(h:∃a,A a/\B a/\C a/\D a/\E a/\R a)(k:∀a,A a->B a->C a->D a->E a->R a->G):G:=let ⟨a,h0,h1,h2,h3,h4,r⟩:=h;k a h0 h1 h2 h3 h4 r
def Zt {α β:Type}{R:α->β->Prop}{G:Prop}(h:∃a b,R a b)(k:∀a b,R a b->G):G:=let ⟨a,b,r⟩:=h;k a b r
def C8 {α β:Type}{A R:α->β->Prop}{G:Prop}(h:∃a b,A a b/\R a b)(k:∀a b,A a b->R a b->G):G:=let ⟨a,b,h0,r⟩:=h;k a b h0 r
def A0 {α β:Type}{A B R:α->β->Prop}{G:Prop}(h:∃a b,A a b/\B a b/\R a b)(k:∀a b,A a b->B a b->R a b->G):G:=let ⟨a,b,h0,h1,r⟩:=h;k a b h0 h1 r
def Ia {α β:Type}{A B C R:α->β->Prop}{G:Prop}(h:∃a b,A a b/\B a b/\C a b/\R a b)(k:∀a b,A a b->B a b->C a b->R a b->G):G:=let ⟨a,b,h0,h1,h2,r⟩:=h;k a b h0 h1 h2 r
def Ao2 {α β:Type}{A B C D R:α->β->Prop}{G:Prop}(h:∃a b,A a b/\B a b/\C a b/\D a b/\R a b)(k:∀a b,A a b->B a b->C a b->D a b->R a b->G):G:=let ⟨a,b,h0,h1,h2,h3,r⟩:=h;k a b h0 h1 h2 h3 r
def Kq {α β:Type}{A B C D E R:α->β->Prop}{G:Prop}(h:∃a b,A a b/\B a b/\C a b/\D a b/\E a b/\R a b)(k:∀a b,A a b->B a b->C a b->D a b->E a b->R a b->G):G:=let ⟨a,b,h0,h1,h2,h3,h4,r⟩:=h;k a b h0 h1 h2 h3 h4 r
def Jt {α β γ:Type}{R:α->β->γ->Prop}{G:Prop}(h:∃a b c,R a b c)(k:∀a b c,R a b c->G):G:=let ⟨a,b,c,r⟩:=h;k a b c r
def Gh {α β γ:Type}{A R:α->β->γ->Prop}{G:Prop}(h:∃a b c,A a b c/\R a b c)(k:∀a b c,A a b c->R a b c->G):G:=let ⟨a,b,c,h0,r⟩:=h;k a b c h0 r
def He {α β γ:Type}{A B R:α->β->γ->Prop}{G:Prop}(h:∃a b c,A a b c/\B a b c/\R a b c)(k:∀a b c,A a b c->B a b c->R a b c->G):G:=let ⟨a,b,c,h0,h1,r⟩:=h;k a b c h0 h1 r
def Ig {α β γ:Type}{A B C R:α->β->γ->Prop}{G:Prop}(h:∃a b c,A a b c/\B a b c/\C a b c/\R a b c)(k:∀a b c,A a b c->B a b c->C a b c->R a b c->G):G:=let ⟨a,b,c,h0,h1,h2,r⟩:=h;k a b c h0 h1 h2 r
def L9 {α β γ:Type}{A B C D R:α->β->γ->Prop}{G:Prop}(h:∃a b c,A a b c/\B a b c/\C a b c/\D a b c/\R a b c)(k:∀a b c,A a b c->B a b c->C a b c->D a b c->R a b c->G):G:=let ⟨a,b,c,h0,h1,h2,h3,r⟩:=h;k a b c h0 h1 h2 h3 r
def Ri {α β γ:Type}{A B C D E R:α->β->γ->Prop}{G:Prop}(h:∃a b c,A a b c/\B a b c/\C a b c/\D a b c/\E a b c/\R a b c)(k:∀a b c,A a b c->B a b c->C a b c->D a b c->E a b c->R a b c->G):G:=let ⟨a,b,c,h0,h1,h2,h3,h4,r⟩:=h;k a b c h0 h1 h2 h3 h4 r
def dd40 {α β γ δ:Type}{R:α->β->γ->δ->Prop}{G:Prop}(h:∃a b c d,R a b c d)(k:∀a b c d,R a b c d->G):G:=let ⟨a,b,c,d,r⟩:=h;k a b c d r
def dd41 {α β γ δ:Type}{A R:α->β->γ->δ->Prop}{G:Prop}(h:∃a b c d,A a b c d/\R a b c d)(k:∀a b c d,A a b c d->R a b c d->G):G:=let ⟨a,b,c,d,h0,r⟩:=h;k a b c d h0 r
def Zs {α β γ δ:Type}{A B R:α->β->γ->δ->Prop}{G:Prop}(h:∃a b c d,A a b c d/\B a b c d/\R a b c d)(k:∀a b c d,A a b c d->B a b c d->R a b c d->G):G:=let ⟨a,b,c,d,h0,h1,r⟩:=h;k a b c d h0 h1 r
def Zr {α β γ δ:Type}{A B C R:α->β->γ->δ->Prop}{G:Prop}(h:∃a b c d,A a b c d/\B a b c d/\C a b c d/\R a b c d)(k:∀a b c d,A a b c d->B a b c d->C a b c d->R a b c d->G):G:=let ⟨a,b,c,d,h0,h1,h2,r⟩:=h;k a b c d h0 h1 h2 r
def Zq {α β γ δ:Type}{A B C D R:α->β->γ->δ->Prop}{G:Prop}(h:∃a b c d,A a b c d/\B a b c d/\C a b c d/\D a b c d/\R a b c d)(k:∀a b c d,A a b c d->B a b c d->C a b c d->D a b c d->R a b c d->G):G:=let ⟨a,b,c,d,h0,h1,h2,h3,r⟩:=h;k a b c d h0 h1 h2 h3 r
def Ox {α β γ δ:Type}{A B C D E R:α->β->γ->δ->Prop}{G:Prop}(h:∃a b c d,A a b c d/\B a b c d/\C a b c d/\D a b c d/\E a b c d/\R a b c d)(k:∀a b c d,A a b c d->B a b c d->C a b c d->D a b c d->E a b c d->R a b c d->G):G:=let ⟨a,b,c,d,h0,h1,h2,h3,h4,r⟩:=h;k a b c d h0 h1 h2 h3 h4 r
def dd51 {α β γ δ ε:Type}{A R:α->β->γ->δ->ε->Prop}{G:Prop}(h:∃a b c d e,A a b c d e/\R a b c d e)(k:∀a b c d e,A a b c d e->R a b c d e->G):G:=let ⟨a,b,c,d,e,h0,r⟩:=h;k a b c d e h0 r
def dd53 {α β γ δ ε:Type}{A B C R:α->β->γ->δ->ε->Prop}{G:Prop}(h:∃a b c d e,A a b c d e/\B a b c d e/\C a b c d e/\R a b c d e)(k:∀a b c d e,A a b c d e->B a b c d e->C a b c d e->R a b c d e->G):G:=let ⟨a,b,c,d,e,h0,h1,h2,r⟩:=h;k a b c d e h0 h1 h2 r
def Tu {α β γ δ ε:Type}{A B C D E R:α->β->γ->δ->ε->Prop}{G:Prop}(h:∃a b c d e,A a b c d e/\B a b c d e/\C a b c d e/\D a b c d e/\E a b c d e/\R a b c d e)(k:∀a b c d e,A a b c d e->B a b c d e->C a b c d e->D a b c d e->E a b c d e->R a b c d e->G):G:=let ⟨a,b,c,d,e,h0,h1,h2,h3,h4,r⟩:=h;k a b c d e h0 h1 h2 h3 h4 r
def Dc {α β γ δ ε ζ:Type}{R:α->β->γ->δ->ε->ζ->Prop}{G:Prop}(h:∃a b c d e f,R a b c d e f)(k:∀a b c d e f,R a b c d e f->G):G:=let ⟨a,b,c,d,e,f,r⟩:=h;k a b c d e f r
def dd61 {α β γ δ ε ζ:Type}{A R:α->β->γ->δ->ε->ζ->Prop}{G:Prop}(h:∃a b c d e f,A a b c d e f/\R a b c d e f)(k:∀a b c d e f,A a b c d e f->R a b c d e f->G):G:=let ⟨a,b,c,d,e,f,h0,r⟩:=h;k a b c d e f h0 r
def Uk {α β γ δ ε ζ:Type}{A B C D R:α->β->γ->δ->ε->ζ->Prop}{G:Prop}(h:∃a b c d e f,A a b c d e f/\B a b c d e f/\C a b c d e f/\D a b c d e f/\R a b c d e f)(k:∀a b c d e f,A a b c d e f->B a b c d e f->C a b c d e f->D a b c d e f->R a b c d e f->G):G:=let ⟨a,b,c,d,e,f,h0,h1,h2,h3,r⟩:=h;k a b c d e f h0 h1 h2 h3 r
def Ao1 {α β γ δ ε ζ:Type}{A B C D E R:α->β->γ->δ->ε->ζ->Prop}{G:Prop}(h:∃a b c d e f,A a b c d e f/\B a b c d e f/\C a b c d e f/\D a b c d e f/\E a b c d e f/\R a b c d e f)(k:∀a b c d e f,A a b c d e f->B a b c d e f->C a b c d e f->D a b c d e f->E a b c d e f->R a b c d e f->G):G:=let ⟨a,b,c,d,e,f,h0,h1,h2,h3,h4,r⟩:=h;k a b c d e f h0 h1 h2 h3 h4 r
abbrev Key:=Sum Int Str
noncomputable def Qz:Key->Value->Bool
 | .inl k,v=>Value.isInt k v
 | .inr x,v=>Value.isStrOf x v
noncomputable def keyH (w:World):Key->Int
 | .inl k=>hashInt k
 | .inr x=>hashStr w x
theorem Dl:∀{k:Key} {v:Value},Qz k v=true->(∃i t,k=Sum.inl i/\v=Value.int i t)\/(∃x t,k=Sum.inr x/\v=Value.str x t)
 | .inl i,v,h=>by
  obtain⟨t,e⟩:=Value.isInt_shape (k:=i) (v:=v) h;show .inl (C6 i t rfl e)
 | .inr x,v,h=>by
  obtain⟨t,e⟩:=Value.isStrOf_shape (x:=x) (v:=v) h;show .inr (C6 x t rfl e)
def An1 (i:Int)(t:Tok):Qz (.inl i) (.int i t)=true:=by simp[Qz,Value.isInt]
def An0 (x:Str)(t:Tok):Qz (.inr x) (.str x t)=true:=by simp[Qz,Value.isStrOf]
def key_ll (a b:Int):decide ((Sum.inl a:Key)=Sum.inl b)=(a==b):=by
 by_cases e:a=b
 .subst e;simp
 .have h:¬(Sum.inl a:Key)=Sum.inl b:=λq=>e (Sum.inl.inj q);rw[LU h];show(MS.mpr e).symm
def key_rr (a b:Str):decide ((Sum.inr a:Key)=Sum.inr b)=decide (a=b):=by
 by_cases e:a=b
 .subst e;simp
 .have h:¬(Sum.inr a:Key)=Sum.inr b:=λq=>e (MX q);rw[LU h,LU e]
def key_lr (a:Int)(b:Str):decide ((Sum.inl a:Key)=Sum.inr b)=false:=LU (λq=>nomatch q)
def key_rl (a:Str)(b:Int):decide ((Sum.inr a:Key)=Sum.inl b)=false:=LU (λq=>nomatch q)
noncomputable def Cu (prog:Program)(w:World):PySem.KeyKind prog w Key where
 is:=Qz
 hash:=keyH w
 inj:=λv a b ha hb=>by
  rcases Dl ha with⟨i,t,rfl,rfl⟩|⟨x,t,rfl,rfl⟩
  .rcases Dl hb with⟨j,u,rfl,e⟩|⟨y,u,rfl,e⟩
   .injection e with e1 _;rw[e1]
   .show nomatch e
  .rcases Dl hb with⟨j,u,rfl,e⟩|⟨y,u,rfl,e⟩
   .show nomatch e
   .injection e with e1 _;rw[e1]
 byValue:=λk v h=>by
  rcases Dl h with⟨i,t,rfl,rfl⟩|⟨x,t,rfl,rfl⟩<;>rfl
 pyHash:=λI h=>by
  rcases Dl I with⟨i,t,rfl,rfl⟩|⟨x,t,rfl,rfl⟩
  .show wpAny_pyHash_int h
  .show wpAny_pyHash_str h
 eqBool:=λO I h=>by
  rcases Dl O with⟨i,t,rfl,rfl⟩|⟨x,t,rfl,rfl⟩
  .rcases Dl I with⟨j,u,rfl,rfl⟩|⟨y,u,rfl,rfl⟩
   .rw [key_ll]at h;show wpAny_eqBool_int h
   .rw [key_lr]at h;show SeqAt.EqAt.int_str i t y u _ _ _ _ h
  .rcases Dl I with⟨j,u,rfl,rfl⟩|⟨y,u,rfl,rfl⟩
   .rw [key_rl]at h;show SeqAt.EqAt.str_int x t j u _ _ _ _ h
   .rw [key_rr]at h;show wpAny_eqBool_str h
 «strs»:=λk x t v h=>by
  rcases Dl h with⟨i,u,rfl,e⟩|⟨y,u,rfl,e⟩
  .show nomatch e
  .injection e with e1 _
   subst e1;cases v<;>rfl
def Yy (prog:Program)(w:World)(i:Int)(t:Tok):(Cu prog w).is (.inl i) (.int i t)=true:=An1 i t
def Yx (prog:Program)(w:World)(x:Str)(t:Tok):(Cu prog w).is (.inr x) (.str x t)=true:=An0 x t
inductive V where
 | BI|bl (b:Bool)|int (i:Int)|str (x:Str)|JP (b:Array UInt8)|flt (b:UInt64)|ref (a:Addr)|ty (n:String)
 deriving DecidableEq
def RelV:V->Value->Prop
 | .BI,u=>u=Value.none
 | .bl b,u=>u=Value.bool b
 | .int i,u=>∃t,u=Value.int i t
 | .str x,u=>∃t,u=Value.str x t
 | .JP b,u=>∃t,u=Value.bytes b t
 | .flt b,u=>∃t,u=Value.float b t
 | .ref a,u=>u=Value.ref a
 | .ty n,u=>u=Value.type n
abbrev AK:List V->List Value->Prop:=Paired RelV
def AK.length (r:AK xs us):xs.length=us.length:=Paired.length r
theorem AK.get:∀{xs:List V} {us:List Value} {i:Nat} {x:V},AK xs us->xs[i]?=some x->∃u,us[i]?=some u/\RelV x u
 | _,_,_,_,.nil,e=>by simp at e
 | _,_,0,_,.cons r _,e=>by simp at e;subst e;show Ad rfl r
 | _,_,i+1,x,.cons _ t,e=>by
  show Am (AK.get (i:=i) (x:=x) t (by simpa using e)) λu h1 h2=>Aq u (by simpa using h1) h2
theorem AK.append:∀{xs ys:List V} {us ws:List Value},AK xs us->AK ys ws->AK (xs++ys) (us++ws)
 | _,_,_,_,.nil,s=>s
 | _,_,_,_,.cons r t,s=>.cons r (AK.append t s)
theorem AK.take:∀{xs:List V} {us:List Value} (n:Nat),AK xs us->AK (xs.take n) (us.take n)
 | _,_,0,_=>.nil
 | _,_,_+1,.nil=>.nil
 | _,_,n+1,.cons r t=>.cons r (AK.take n t)
theorem AK.drop:∀{xs:List V} {us:List Value} (n:Nat),AK xs us->AK (xs.drop n) (us.drop n)
 | _,_,0,r=>r
 | _,_,_+1,.nil=>.nil
 | _,_,n+1,.cons _ t=>AK.drop n t
def AK.none_of:∀{xs:List V} {us:List Value} {i:Nat},AK xs us->xs[i]?=none->us[i]?=none:=fun {xs us i} r e=>by
 have h1:=r.length;have h2:xs.length<=i:=List.getElem?_eq_none_iff.mp e;show List.getElem?_eq_none_iff.mpr (by omega)
def ET:Option V->Option Value->Prop
 | some v,some u=>RelV v u
 | none,none=>True
 | _,_=>False
def KV {κ:Type}:List (κ×V)->List (κ×Value)->Prop:=Paired λ(p:κ×V) (q:κ×Value)=>p.1=q.1/\RelV p.2 q.2
noncomputable def kV:Key->V
 | .inl i=>.int i
 | .inr x=>.str x
inductive HO where
  | lst (xs:List V)
  | tup (xs:List V)
  | dK (kvs:List (Key×V))|dT (kvs:List (List Key×V))
  | set (S:Int->Bool) (n:Nat)
  | ins (C dx:Addr) (fs:List (Str×V))
  | own (x:Addr)
  | xd (fs:List (Str×V))
  | met (f x:Addr)
  | rng (lo hi:Int)
  | EB (o:Obj) (u:HO)
  | tbl (ps:Array Value)
  | ext (φ:Heap->Prop)
abbrev Hp:=Addr->Option HO
noncomputable def upd (H:Hp)(a:Addr)(o:HO):Hp:=λb=>if b=a then some o else H b
def Ah:upd H a o a=some o:=by unfold upd;rw[KJ rfl]
def Aj (h:b≠a):upd H a o b=H b:=by unfold upd;rw[KH h]
def Nq:upd (upd H a o) a u=upd H a u:=by
 funext b;unfold upd;split<;>rfl
def Bd {H:Hp}{a b:Addr}(h:H a=some o)(h':H b=some u)(d:o≠u):a≠b:=by
 intro e;subst e;rw[h]at h';show d (LV h')
def Af {H:Hp}{a b:Addr}(h:H a=some o)(h':H b=none):a≠b:=by
 intro e;subst e;rw[h]at h';cases h'
section
variable (P:Program)(w:World)
def AV (H:Hp)(h:Heap)(a:Addr):HO->Prop
 | .lst xs=>xs.length<=sizeLine/\∃(its:List Value) (n:Nat),AK xs its/\h.get? a=some {cls:=.type "list",data:=.seq its.toArray n}
 | .tup xs=>xs.length<=sizeLine/\∃its:List Value,AK xs its/\IsTup h a its.toArray
 | .dK kvs=>kvs.length<=sizeLine/\(a==sysModules)=false/\∃vs,KV kvs vs/\h.DictOf (Cu P w) a vs
 | .dT kvs=>kvs.length<=sizeLine/\(a==sysModules)=false/\∃xs:List (List Key×Addr×Value),
   Paired (λ(p:List Key×V) (q:List Key×Addr×Value)=>p.1=q.1/\H q.2.1=some (.tup (p.1.map kV))/\RelV p.2 q.2.2) kvs xs /\
   ∃o es ep,h.get? a=some o/\o.ExactDict/\o.data=.dict es ep/\es.toList=xs.map (entryOfKey (tupleKind (Cu P w)))/\(xs.map (·.1)).Nodup
 | .set S n=>h.SetOf (intKind P w) a S n
 | .ins C dx fs=>H dx=some (.own a)/\fs.length<=1000/\dx≠a/\h.get? a=some (PySem.W.instObj C dx) /\
   ∃mA,h.Ns1 dx mA/\(∀f,ET (fs.lookup f) (mA f))/\PySem.Within mA (fs.map (·.1))
 | .own _=>∃o,h.get? a=some o
 | .xd fs=>∃mA,h.Ns1 a mA/\∀f,ET (fs.lookup f) (mA f)
 | .rng lo hi=>∃t u v,h.get? a=some {cls:=.type "range",data:=.fields #[.int lo t,.int hi u,.int 1 v]}
 | .EB o u=>h.get? a=some o/\AV H h a u
 | .tbl ps=>h.get? a=some {cls:=.none,data:=.fields ps}
 | .met f x=>h.get? a=some (PySem.W.methodObj (.ref f) (.ref x))
 | .ext φ=>φ h/\(∃o,h.get? a=some o)/\∀h1 h2:Heap,φ h1->(∀o,h1.get? a=some o->h2.get? a=some o)->φ h2
def CV (H:Hp)(h:Heap):Prop:=∀a o,H a=some o->AV P w H h a o
end
section
def AV.lt (x:AV P w H h a o):a<h.objs.size:=by
 cases o with
 | lst xs=>show Fc x λ_ z1=>?_;show C8 z1 λ_ _ _ e=>?_;show JZ e
 | tup xs=>show Fc x λ_ z1=>?_;show Am z1 λ_ _ p=>?_;show p.lt
 | dK kvs=>show Ch x λ_ _ z1=>?_;show Am z1 λ_ _ z2=>?_;show Gh z2 λo _ _ e _=>?_;show JZ e
 | dT kvs=>show Ch x λ_ _ z1=>?_;show Am z1 λ_ _ z2=>?_;show Gh z2 λo _ _ e _=>?_;show JZ e
 | set S n=>show dd41 x λo _ _ _ e _=>?_;show JZ e
 | ins C dx fs=>show Ma x λ_ _ _ e _=>?_;show JZ e
 | own y=>obtain⟨_,e⟩:=x;show JZ e
 | xd fs=>show Am x λ_ z1 _=>?_;obtain⟨_,_,_,e,_⟩:=z1;show JZ e
 | rng lo hi=>show Jt x λ_ _ _ e=>?_;show JZ e
 | EB ob u=>obtain⟨e,_⟩:=x;show JZ e
 | tbl ps=>show JZ (show h.get? a=some _ from x)
 | met f y=>show JZ (show h.get? a=some _ from x)
 | ext φ=>show Ch x λ_ z1 _=>?_;obtain⟨_,e⟩:=z1;show JZ e
theorem Paired.mapP {α β:Type}{F G:α->β->Prop}:∀{I:List α} {O:List β},Paired F I O->(∀a b,F a b->G a b)->Paired G I O
 | _,_,.nil,_=>.nil
 | _,_,.cons r t,f=>.cons (f _ _ r) (Paired.mapP t f)
def AV.FD (x:AV P w H h a o)(k:∀b u,(b=a\/H b=some (.own a))->h.get? b=some u->h'.get? b=some u)
  (I:∀b,H b=some (.own a)->H' b=some (.own a))(ht:∀b xs,H b=some (.tup xs)->H' b=some (.tup xs)):AV P w H' h' a o:=by
 induction o with
 | lst xs=>show Fc x λz z1=>?_;show C8 z1 λits n r e=>?_;show⟨z,(C6 its n r (k _ _ (.inl rfl) e))⟩
 | tup xs=>show Fc x λz z1=>?_;show Am z1 λits r z2=>?_;show Am z2 λob e c=>?_;show⟨z,(Aq its r (Aq ob (k _ _ (.inl rfl) e) c))⟩
 | dK kvs=>show Ch x λz y z1=>?_;show Am z1 λvs r z2=>?_;show Gh z2 λob es ep e c=>?_;show Az z y (Aq vs r (Nm ob es ep (k _ _ (.inl rfl) e) c))
 | dT kvs=>
  show Ch x λz y z1=>Am z1 λxs r z2=>Gh z2 λob es ep e c=>Az z y (Aq xs (Paired.mapP r λp q z=>(Az z.1 (ht _ _ z.2.1) z.2.2)) (Nm ob es ep (k _ _ (.inl rfl) e) c))
 | set S n=>show dd41 x λob es ep t e c=>?_;show ii41 ob es ep t (k _ _ (.inl rfl) e) c
 | ins C dx fs=>
  show Ma x λd z ne e z1=>Am z1 λmA z2 r=>?_;obtain⟨od,es,ep,e2,c⟩:=z2;show Fb (I _ d) z ne (k _ _ (.inl rfl) e) (Aq mA (Nm od es ep (k _ _ (.inr d) e2) c) r)
 | own y=>obtain⟨ob,e⟩:=x;show⟨ob,k _ _ (.inl rfl) e⟩
 | xd fs=>show Am x λmA z1 r=>?_;obtain⟨od,es,ep,e,c⟩:=z1;show Aq mA (Nm od es ep (k _ _ (.inl rfl) e) c) r
 | rng lo hi=>show Jt x λt u v e=>?_;show Tl t u v (k _ _ (.inl rfl) e)
 | EB ob u O=>obtain⟨e,q⟩:=x;show⟨k _ _ (.inl rfl) e,O q⟩
 | tbl ps=>
  have e:h.get? a=some {cls:=.none,data:=.fields ps}:=x
  show h'.get? a=some {cls:=.none,data:=.fields ps}
  show k a _ (.inl rfl) e
 | met f y=>
  have e:h.get? a=some (PySem.W.methodObj (.ref f) (.ref y)):=x
  show h'.get? a=some (PySem.W.methodObj (.ref f) (.ref y))
  show k a _ (.inl rfl) e
 | ext φ=>show Ch x λp z1 st=>?_;obtain⟨o,e⟩:=z1;show Az (st _ _ p λo q=>k _ _ (.inl rfl) q) ⟨o,k _ _ (.inl rfl) e⟩ st
def CV.lt (x:CV P w H h)(e:H a=some o):a<h.objs.size:=(x a o e).lt
def CV.fresh (x:CV P w H h)(e:h.objs.size<=a):H a=none:=by
 cases q:H a with
 | none=>rfl
 | some u=>show absurd (LD (x.lt q) e) (NK _)
def CV.kept (x:CV P w H h)(k:∀b u,h.get? b=some u->h'.get? b=some u):CV P w H h':=λa o e=>
 (x a o e).FD (λb u _ q=>k b u q) (λ_ q=>q) λ_ _ q=>q
def CV.laid (x:CV P w H h)(k:∀b u,h.get? b=some u->h'.get? b=some u)(I:h.objs.size<=a)(new:AV P w (upd H a o) h' a o):CV P w (upd H a o) h':=λb u e=>by
 have hn:=x.fresh I;by_cases hb:b=a
 .subst hb;rw[Ah]at e;cases e;show new
 .rw [Aj hb]at e;show(x b u e).FD (λc v _ q=>k c v q) (λc q=>by rw[Aj (Af q hn)];show q) λc xs q=>by rw[Aj (Af q hn)];show q
end
def Rd (H:Hp)(a:Addr)(u:HO):Prop:=H a=some u\/∃o,H a=some (.EB o u)
def Rd.of (h:H a=some u):Rd H a u:=.inl h
def Rd.ok (r:Rd H a u)(x:CV P w H h):AV P w H h a u:=by
 rcases r with r|⟨o,r⟩
 .show x a u r
 .obtain⟨_,q⟩:=x a _ r;show q
def Mut:Option HO->Prop
 | some (.lst _)=>True
 | some (.dK _)=>True
 | some (.dT _)=>True
 | some (.set _ _)=>True
 | some (.ins _ _ _)=>True
 | some (.ext _)=>True
 | _=>False
section
def CV.write (ok:CV P w H h)(O:Mut (H x))(he:e=x\/H e=some (.own x))(k:∀b u,b≠e->h.get? b=some u->h'.get? b=some u)(a1:∃u,h'.get? e=some u)
  (new:AV P w (upd H x o') h' x o'):CV P w (upd H x o') h':=λb u q=>by
 have a0:∀c y,H c=some (.own y)->c≠x:=λc y r z=>by subst z;rw[r]at O;show O
 have a2:∀c xs,H c=some (.tup xs)->c≠x:=λc xs r z=>by subst z;rw[r]at O;show O
 by_cases hb:b=x
 .subst hb;rw[Ah]at q;cases q;show new
 .rw [Aj hb]at q;by_cases Y:b=e
  .have q':H b=some (.own x):=by
    rcases he with z|z
    .show absurd (Y.trans z) hb
    .rw [Y];show z
   rw[q]at q';cases q';obtain⟨v,hv⟩:=a1;show⟨v,by rw[Y];show hv⟩
  .show (ok b u q).FD (λc v I r=>k c v ?_ r) (λc r=>by rw[Aj (a0 c b r)];show r) λc xs r=>by rw[Aj (a2 c xs r)];show r
   rcases I with rfl|I
   .show Y
   .rintro rfl
    rcases he with z|z
    .show a0 c b I z
    .rw [I]at z;cases z;show hb rfl
end
structure Un (fs ex:List Addr)(H H':Hp)(h h':Heap):Prop where
 keep:∀b o,h.get? b=some o->H b=none->b∉fs->b∉ex->h'.get? b=some o
 slot:∀b o,h.get? b=some o->H b=none->b∈fs->b∉ex->∃sl,h'.get? b=some {o with slots:=sl}
 free:∀b o,h.get? b=some o->H b=none->b∉ex->H' b=none
 there:∀b o,h.get? b=some o->b∉ex->∃o',h'.get? b=some o'
 AF:∀b xs,H b=some (.tup xs)->H' b=some (.tup xs)
 DX:∀b o u,H b=some (.EB o u)->H' b=some (.EB o u)
 FN:∀b ps,H b=some (.tbl ps)->∃more,H' b=some (.tbl (ps++more))
section
def Un.any (u:Un fs ex H H1 h h1)(q:h.get? b=some ob)(n:H b=none)(hx:b∉ex):∃sl,h1.get? b=some {ob with slots:=sl}:=by
 by_cases hb:b∈fs
 .show u.slot b ob q n hb hx
 .show⟨ob.slots,u.keep b ob q n hb hx⟩
def Un.kept (k:∀b u,h.get? b=some u->h'.get? b=some u):Un fs ex H H h h':=
 ⟨λb ob q _ _ _=>k b ob q,λb ob q _ _ _=>⟨ob.slots,k b ob q⟩,λ_ _ _ n _=>n,λb ob q _=>⟨ob,k b ob q⟩,λ_ _ q=>q,λ_ _ _ q=>q,λ_ ps q=>⟨#[],by rw[q];simp⟩⟩
def Un.refl:Un fs ex H H h h:=Un.kept λ_ _ q=>q
theorem Un.laid (k:∀b u,h.get? b=some u->h'.get? b=some u)(I:h.objs.size<=a)(hn:H a=none):Un fs ex H (upd H a o) h h' where
 keep:=λb u q _ _ _=>k b u q
 slot:=λb u q _ _ _=>⟨u.slots,k b u q⟩
 free:=λb u q n _=>by rw[Aj (LF (LD (JZ q) I))];show n
 there:=λb u q _=>⟨u,k b u q⟩
 AF:=λb xs q=>by rw[Aj (Af q hn)];show q
 DX:=λb u xs q=>by rw[Aj (Af q hn)];show q
 FN:=λb ps q=>⟨#[],by rw[Aj (Af q hn),q];simp⟩
def Un.write (I:Mut (H x))(he:e=x\/H e=some (.own x))(k:∀b u,b≠e->h.get? b=some u->h'.get? b=some u)(Y:∃u,h'.get? e=some u):Un fs ex H (upd H x o) h h':=by
 have hx:∀b,H b=none->b≠x:=λb n z=>by subst z;rw[n]at I;show I
 have hb:∀b,H b=none->b≠e:=λb n z=>by
  subst z
  rcases he with r|r
  .show hx b n r
  .rw [n]at r;cases r
 have hm:∀b u,H b=some u->¬Mut (some u)->b≠x:=λb u q nm z=>by subst z;rw[q]at I;show nm I
 show⟨λb u q n _ _=>k b u (hb b n) q,λb u q n _ _=>⟨u.slots,k b u (hb b n) q⟩,λb u q n _=>by rw[Aj (hx b n)];show n,λb u q _=>?_,
  λb xs q=>by rw[Aj (hm b _ q λz=>z)];show q,λb u xs q=>by rw[Aj (hm b _ q λz=>z)];show q,λb ps q=>⟨#[],by rw[Aj (hm b _ q λz=>z),q];simp⟩⟩
 by_cases O:b=e
 .subst O;show Y
 .show⟨u,k b u O q⟩
end
noncomputable def trk (h:Heap)(H:Hp):List Addr:=(List.range h.objs.size).filter λa=>(H a).isSome
noncomputable def Xn (h:Heap)(H:Hp):Heap:=PySem.W.hideAll h (trk h H)
def An4 (h:Heap)(H:Hp):(Xn h H).objs.size=h.objs.size:=PySem.W.hideAll_size _ _
def hidT_get (e:h.get? b=some o)(n:H b=none):(Xn h H).get? b=some o:=
 PySem.W.hideAll_get _ e λhm=>by
  have q:(H b).isSome=true:=(List.mem_filter.mp hm).2;rw[n]at q;simp at q
def of_hidT (e:(Xn h H).get? b=some o):h.get? b=some o/\H b=none:=by
 have I:h.get? b=some o:=PySem.W.of_hideAll (trk h H) e;show⟨I,?_⟩
 cases q:H b with
 | none=>rfl
 | some x=>
  have hm:b∈trk h H:=List.mem_filter.mpr ⟨List.mem_range.mpr (JZ I),by simp[q]⟩;have z:(Xn h H).get? b=none:=PySem.W.hideAll_none (trk h H) hm;rw[z]at e;cases e
structure Mod (K:Av)(mg:Cb)(base:Heap):Prop where
 kin:K.In base
 glob:base.Ns mainGlobals mg
 blt:∃mb,base.Ns builtinsNs mb/\∀x:Str,x≠"__name__"->mb x=bootBuiltins x
 nolimit:base.NoLimit
structure Cx where
 prog:Program
 w:World
 K:PySem.W.Frag
 mg:Str->Option Value
 base:Heap
 A:Around
 N:List Str
 s₀:Shared
 H₀:Hp
 env:Env
 outer:List Env
 stack:List Env
 ex:List Addr
 fn:Str->Bool
 calm:Bool
 pn:List (Addr×Obj)
 xe:Value->Shared->Prop
noncomputable def EU (l:List Env):List Addr:=l.filterMap (·.frame)
abbrev Cx.fs (X:Cx):List Addr:=EU X.outer
def Vis (sc:Scope)(x:Str):Prop:=sc.names.lookup x=some .local\/sc.names.lookup x=some .cell\/sc.names.lookup x=some .free
def Loc (sc:Scope)(x:Str):Prop:=sc.names.lookup x=some .local\/sc.names.lookup x=some .cell
def Look (env:Env)(h:Heap)(m:Cb)(x:Str)(u:Value):Prop:=
 (env.kindOf x=some .local/\m x=some u)\/((env.kindOf x=some .cell\/env.kindOf x=some .free)/\∃c,env.cells.lookup x=some c/\h.IsCell c (some u))
structure Cx.Ok (X:Cx):Prop where
 mod:Mod X.K X.mg X.base
 kind:X.env.scope.kind=.function
 glob:X.env.globals=mainGlobals
 blt:X.env.builtins=builtinsNs
 above:X.s₀.heap.objs.size<=X.env.locals
 inj:∀x y c,X.env.cells.lookup x=some c->X.env.cells.lookup y=some c->x=y
 has:∀x,(X.env.kindOf x=some .cell\/X.env.kindOf x=some .free)->∃c,X.env.cells.lookup x=some c
 cab:∀x c,X.fn x=true->X.env.cells.lookup x=some c->X.s₀.heap.objs.size<=c
 hd:X.calm=true->X.A.handled=none
 frames:X.A.frames=some X.stack
 stk:X.stack=X.outer\/(X.stack=X.env::X.outer/\X.env.frame=some X.env.locals)
 exf:∀b∈X.ex,b≠X.env.locals/\∀x c,X.env.cells.lookup x=some c->c≠b
 bs:∀b o,X.base.get? b=some o->X.s₀.heap.get? b=some o/\X.H₀ b=none
 JE:X.base.objs.size<=X.s₀.heap.objs.size
 ID:∀b o,X.base.get? b=some o->b∉X.ex
 HM:∀b∈X.ex,b∉X.fs
 AC:X.s₀.heap.FunFrames X.base X.outer
 frf:∀b∈X.fs,X.H₀ b=none
structure Inv (X:Cx)(pins:Ej)(σ:List (Option V))(H:Hp)(s:Shared):Prop where
 ok:X.Ok
 os:s.os=X.s₀.os
 bare:AllBare s.gens
 base:Un X.fs X.ex X.H₀ H X.s₀.heap s.heap
 loc:∃m,s.heap.Ns X.env.locals m/\∀(i:Nat) (x:Str) (v:V),X.N[i]?=some x->σ[i]?=some (some v)->Vis X.env.scope x->∃u,RelV v u/\Look X.env s.heap m x u
 cell:∀x c,X.env.cells.lookup x=some c->∃v,s.heap.IsCell c v
 free:H X.env.locals=none
 CC:∀x c,X.env.cells.lookup x=some c->H c=none
 pin:∀p∈X.pn++pins,s.heap.get? p.1=some p.2/\H p.1=none/\p.1≠X.env.locals/\p.1∉X.fs/\∀v,p.2.data≠.cell v
 AU:CV X.prog X.w H s.heap
 len:σ.length=X.N.length
section
variable {X:Cx}{pins:Ej}{σ:List (Option V)}{H H':Hp}{s:Shared}{h':Heap}
def Cx.Ok.nofr (ok:X.Ok)(e:X.base.get? b=some o):b∉X.fs:=λhb=>by
 have:=(ok.AC.mem hb).1;rw[e]at this;cases this
def Inv.bs (I:Inv X pins σ H s):∀b o,X.base.get? b=some o->s.heap.get? b=some o/\H b=none:=λb o e=>
 ⟨I.base.keep b o (I.ok.bs b o e).1 (I.ok.bs b o e).2 (I.ok.nofr e) (I.ok.ID b o e),I.base.free b o (I.ok.bs b o e).1 (I.ok.bs b o e).2 (I.ok.ID b o e)⟩
def Inv.bk (I:Inv X pins σ H s):∀b o,X.base.get? b=some o->s.heap.get? b=some o:=λb o e=>(I.bs b o e).1
def Inv.mod (I:Inv X pins σ H s):Mod X.K X.mg X.base:=I.ok.mod
def Inv.EE (I:Inv X pins σ H s):X.K.In s.heap:=I.ok.mod.kin.keeps I.bk
def Inv.lt (I:Inv X pins σ H s):X.env.locals<s.heap.objs.size:=let ⟨_,hn,_⟩:=I.loc;hn.lt
def Inv.sz (I:Inv X pins σ H s):X.s₀.heap.objs.size<=s.heap.objs.size:=KN I.ok.above (Nat.le_of_lt I.lt)
def Inv.nofs (I:Inv X pins σ H s)(h:s.heap.objs.size<=a):a∉X.fs:=λhb=>by
 show Fc (I.ok.AC.mem hb) λ_ z1=>Am z1 λo O _=>absurd (LD (JZ O) (KN I.sz h)) (NK _)
def Inv.cne (I:Inv X pins σ H s):∀x c,X.env.cells.lookup x=some c->c≠X.env.locals:=λx c e z=>by
 show C8 (I.cell x c e) λv o O hd=>?_;show Am I.loc λm z1 _=>?_;obtain⟨o',es,ep,a0,Y,_⟩:=z1;rw[z,a0]at O;cases O;rw[Y]at hd;cases hd
def Inv.AC (I:Inv X pins σ H s):s.heap.FunFrames X.base X.outer:=by
 have all:∀(l:List Env),(∀b∈EU l,b∈X.fs)->X.s₀.heap.FunFrames X.base l->s.heap.FunFrames X.base l:=by
  intro l
  induction l with
  | nil=>intro _ _;trivial
  | cons env r ih=>
   intro hs hl;show Ch hl λhk z1 hr=>?_;obtain⟨L,o,hf,hn,Y,hd⟩:=z1;have O:L∈X.fs:=hs L (by unfold EU;rw[OG,hf];show JY);obtain⟨sl,e⟩:=I.base.slot L o Y (I.ok.frf L O) O λz=>I.ok.HM L z O;show Az hk (Co L _ hf hn e hd) (ih (λb hb=>hs b (by unfold EU;rw[OG,hf];show JS _ hb)) hr)
 show all X.outer (λ_ hb=>hb) I.ok.AC
def Inv.stack (I:Inv X pins σ H s):s.heap.FunFrames X.base X.stack:=by
 rcases I.ok.stk with e|⟨e,hf⟩
 .rw [e];show I.AC
 .rw [e];show Am I.loc λm hn _=>?_;show .cons (by rw[I.ok.kind];decide) hf hn (Heap.get?_none_of_le (KN I.ok.JE I.ok.above)) I.AC
def Inv.HS (I:Inv X pins σ H s):∀b∈EU X.stack,b∈X.env.locals::X.fs:=λb hb=>by
 rcases I.ok.stk with e|⟨e,hf⟩
 .rw [e]at hb;show JS _ hb
 .rw [e]at hb;unfold EU at hb;rw[OG,hf]at hb;show hb
def Inv.GK (I:Inv X pins σ H s):∀b∈EU X.stack,H b=none:=λb hb=>by
 rcases JT.mp (I.HS b hb)with e|hb
 .rw [e];show I.free
 .show Fc (I.ok.AC.mem hb) λ_ z1=>Am z1 λo O _=>I.base.free b o O (I.ok.frf b hb) λz=>I.ok.HM b z hb
def Inv.step {g':Array GenState}{t':Nat}{d':Drawn}{ch:List Addr}(I:Inv X pins σ H s)
  (Y:∀b∈ch,(b∈X.ex\/X.s₀.heap.objs.size<=b)/\b≠X.env.locals/\(∀x c,X.env.cells.lookup x=some c->c≠b)/\∀p∈X.pn++pins,p.1≠b)
  (keep:∀b o,b≠X.env.locals->b∉X.fs->b∉ch->s.heap.get? b=some o->H b=none->h'.get? b=some o)
  (slot:∀b o,b≠X.env.locals->b∈X.fs->b∉ch->s.heap.get? b=some o->H b=none->∃sl,h'.get? b=some {o with slots:=sl})(free:∀b o,b∉ch->s.heap.get? b=some o->H b=none->H' b=none)
  (there:∀b o,b∉ch->s.heap.get? b=some o->∃o',h'.get? b=some o')
  (AF:∀b xs,H b=some (.tup xs)->H' b=some (.tup xs))(DX:∀b o u,H b=some (.EB o u)->H' b=some (.EB o u))(FN:∀b ps,H b=some (.tbl ps)->∃more,H' b=some (.tbl (ps++more)))
  (ns:∀m,s.heap.Ns X.env.locals m->h'.Ns X.env.locals m)(AU:CV X.prog X.w H' h')(hg:AllBare g') :
  Inv X pins σ H' {s with heap:=h',gens:=g',drawn:=d',toks:=t'}:=by
 have a2:∀b o,X.s₀.heap.get? b=some o->b≠X.env.locals:=λb o e=>LF (LD (JZ e) I.ok.above);have a1:∀b o,X.s₀.heap.get? b=some o->b∉X.ex->b∉ch:=λb o e hx hb=>by
  rcases(Y b hb).1 with z|z
  .show hx z
  .show absurd (LD (JZ e) z) (NK _)
 have a3:∀x c,X.env.cells.lookup x=some c->∀v,s.heap.IsCell c v->h'.IsCell c v:=λx c e v ⟨o,O,hd⟩=>by
  have a0:c∉ch:=λz=>(Y c z).2.2.1 x c e rfl;by_cases hc:c∈X.fs
  .obtain⟨sl,q⟩:=slot c o (I.cne x c e) hc a0 O (I.CC x c e);show Ad q hd
  .show Aq o (keep c o (I.cne x c e) hc a0 O (I.CC x c e)) hd
 show⟨I.ok,I.os,hg,⟨λb o e n hb hx=>?_,λb o e n hb hx=>?_,λb o e n hx=>?_,λb o e hx=>?_,λb xs e=>AF b xs (I.base.AF b xs e),λb o xs e=>DX b o xs (I.base.DX b o xs e),λb ps e=>?_⟩,?_,λx c e=>?_,?_,λx c e=>?_,λp hp=>?_,AU,I.len⟩
 .show keep b o (a2 b o e) hb (a1 b o e hx) (I.base.keep b o e n hb hx) (I.base.free b o e n hx)
 .obtain⟨sl,e1⟩:=I.base.slot b o e n hb hx;obtain⟨a4,e2⟩:=slot b _ (a2 b o e) hb (a1 b o e hx) e1 (I.base.free b o e n hx);show⟨a4,e2⟩
 .obtain⟨o',e1⟩:=I.base.there b o e hx;show free b o' (a1 b o e hx) e1 (I.base.free b o e n hx)
 .obtain⟨o',e1⟩:=I.base.there b o e hx;show there b o' (a1 b o e hx) e1
 .obtain⟨m1,e1⟩:=I.base.FN b ps e;obtain⟨m2,e2⟩:=FN b _ e1;show⟨m1++m2,by rw[e2,Array.append_assoc]⟩
 .show Am I.loc λm hn hl=>Aq m (ns m hn) λi x v e1 e2 e3=>Am (hl i x v e1 e2 e3) λu r l=>Aq u r ?_
  rcases l with l|⟨k,c,e,z⟩
  .show .inl l
  .show .inr ⟨k,(Aq c e (a3 x c e _ z))⟩
 .obtain⟨v,z⟩:=I.cell x c e;show⟨v,a3 x c e v z⟩
 .show Am I.loc λm z1 _=>?_;obtain⟨o,_,_,O,_⟩:=z1;show free _ o (λz=>(Y _ z).2.1 rfl) O I.free
 .show C8 (I.cell x c e) λv o O hd=>free c o (λz=>(Y c z).2.2.1 x c e rfl) O (I.CC x c e)
 .show Ma (I.pin p hp) λe n ne nf d=>?_;have a0:p.1∉ch:=λz=>(Y p.1 z).2.2.2 p hp rfl;show Fb (keep p.1 p.2 ne nf a0 e n) (free p.1 p.2 a0 e n) ne nf d
def Inv.un (I:Inv X pins σ H s)(u:Un X.fs [] H H' s.heap h')(AU:CV X.prog X.w H' h'):Inv X pins σ H' {s with heap:=h',toks:=t'}:=by
 show Am (id I.loc) λm z1 _=>?_;obtain⟨o,es,ep,O,r⟩:=z1;obtain⟨sl,hL⟩:=u.any O I.free (by simp)
 show I.step (g':=s.gens) (d':=s.drawn) (ch:=[]) (λ_ z=>nomatch z) (λb o _ hb _ e n=>u.keep b o e n hb (by simp)) (λb o _ hb _ e n=>u.slot b o e n hb (by simp)) (λb o _ e n=>u.free b o e n (by simp)) (λb o _ e=>u.there b o e (by simp)) u.AF u.DX u.FN (λm' hm=>by
  show Gh hm λo' a1 a0 Y r'=>?_;rw[O]at Y;cases Y
  show(Nm _ a1 a0 hL r')) AU I.bare
def Inv.call (I:Inv X pins σ H s)(u:Un (EU X.stack) ch H H' s.heap h')(AU:CV X.prog X.w H' h')(hg:AllBare g')
  (a0:∀b∈ch,(b∈X.ex\/X.s₀.heap.objs.size<=b)/\b≠X.env.locals/\(∀x c,X.env.cells.lookup x=some c->c≠b)/\∀p∈X.pn++pins,p.1≠b) :
  Inv X pins σ H' {s with heap:=h',gens:=g',drawn:=d',toks:=t'}:=by
 show Am (id I.loc) λm z1 _=>?_;obtain⟨o,es,ep,ho,r⟩:=z1;obtain⟨sl,Y⟩:=u.any ho I.free λz=>(a0 _ z).2.1 rfl
 show I.step (ch:=ch) a0 (λb o Y hb O e n=>u.keep b o e n (λz=>(JT.mp (I.HS b z)).elim Y hb) O) (λb o _ _ O e n=>u.any e n O) (λb o O e n=>u.free b o e n O) (λb o O e=>u.there b o e O) u.AF u.DX u.FN (λm' hm=>by
  show Gh hm λo' a3 a2 a1 r'=>?_;rw[ho]at a1;cases a1
  show(Nm _ a3 a2 Y r')) AU hg
def Inv.turned (I:Inv X pins σ H s)(k:∀b o,b≠it->s.heap.get? b=some o->h'.get? b=some o)(hn:H it=none)(Y:it≠X.env.locals)
  (h1:it∈X.ex\/X.s₀.heap.objs.size<=it)(h2:∀x c,X.env.cells.lookup x=some c->c≠it)(h3:∀p∈X.pn++pins,p.1≠it):Inv X pins σ H {s with heap:=h',toks:=t'}:=by
 have a0:∀b u,H b=some u->b≠it:=λb u e z=>by rw[z,hn]at e;cases e
 show I.step (g':=s.gens) (d':=s.drawn) (ch:=[it]) (λb hb=>?_) (λb o _ _ O e _=>k b o (λz=>O (by simp[z])) e) (λb o _ _ O e _=>⟨o.slots,k b o (λz=>O (by simp[z])) e⟩) (λ_ _ _ _ n=>n)
  (λb o O e=>⟨o,k b o (λz=>O (by simp[z])) e⟩) (λ_ _ e=>e) (λ_ _ _ e=>e) (λb ps e=>⟨#[],by rw[e];simp⟩) (λm hm=>?_) (λb u e=>?_) I.bare
 .have e:b=it:=by simpa using hb
  subst e;show C7 h1 Y h2 h3
 .show Gh hm λo es ep ho r=>Nm o es ep (k _ o (OO Y) ho) r
 .show (I.AU b u e).FD (λc v O q=>k c v ?_ q) (λ_ q=>q) λ_ _ q=>q
  rcases O with z|z
  .rw [z];show a0 b u e
  .show a0 c _ z
def Inv.tok (I:Inv X pins σ H s)(t:Nat):Inv X pins σ H {s with toks:=t}:=I.un (h':=s.heap) (t':=t) Un.refl I.AU
def Inv.kept (I:Inv X pins σ H s)(k:∀b u,s.heap.get? b=some u->h'.get? b=some u):Inv X pins σ H {s with heap:=h',toks:=t'}:=I.un (Un.kept k) (I.AU.kept k)
def Inv.laid (I:Inv X pins σ H s)(k:∀b u,s.heap.get? b=some u->h'.get? b=some u)(O:s.heap.objs.size<=a)(new:AV X.prog X.w (upd H a o) h' a o) :
  Inv X pins σ (upd H a o) {s with heap:=h',toks:=t'}:=I.un (Un.laid k O (I.AU.fresh O)) (I.AU.laid k O new)
def Inv.write (I:Inv X pins σ H s)(O:Mut (H x))(he:e=x\/H e=some (.own x))(k:∀b u,b≠e->s.heap.get? b=some u->h'.get? b=some u)(Y:∃u,h'.get? e=some u)
  (new:AV X.prog X.w (upd H x o) h' x o):Inv X pins σ (upd H x o) {s with heap:=h',toks:=t'}:=I.un (Un.write O he k Y) (I.AU.write O he k Y new)
def Inv.IV (I:Inv X pins σ H s)(h:∀p∈Y,s.heap.get? p.1=some p.2/\H p.1=none/\p.1≠X.env.locals/\p.1∉X.fs/\∀v,p.2.data≠.cell v):Inv X Y σ H s:=
 ⟨I.ok,I.os,I.bare,I.base,I.loc,I.cell,I.free,I.CC,λp O=>(KQ.mp O).elim (λz=>I.pin p (MD _ z)) (h p),I.AU,I.len⟩
def Tc {N:List Str}(I:N.Nodup){i j:Nat}{x:Str}(a:N[i]?=some x)(b:N[j]?=some x):i=j:=by
 obtain⟨h1,e1⟩:=List.getElem?_eq_some_iff.mp a;obtain⟨h2,e2⟩:=List.getElem?_eq_some_iff.mp b;show(List.getElem_inj I).mp (e1.trans e2.symm)
abbrev Xv (X:Cx)(x:Str):Prop:=X.fn x=true\/X.env.scope.names.lookup x=some .local
def Pe {E:Bo}{Q:Uo}(I:Inv X pins σ H s)(hN:X.N.Nodup)(hi:X.N[i]?=some x)(hx:Loc X.env.scope x)(r:RelV v u)
  (h:∀s',Inv X pins (σ.set i (some v)) H s'->(∃a,Heap.SameBut a s.heap s'.heap/\(a=X.env.locals\/X.env.cells.lookup x=some a))->Q () s')(hf:Xv X x:=by first|show .inl rfl|show .inr rfl|assumption):wpAny M A (storeName X.env x u) Q E s:=by
 show Am (id I.loc) λm hn hl=>?_;have a9:(X.env.scope.kind==.class||(X.env.scope.kind==.module&&X.env.locals !=X.env.globals))=false:=by rw[I.ok.kind];rfl
 have a3:i<σ.length:=by rw[I.len];show(List.getElem?_eq_some_iff.mp hi).1
 have cne:=I.cne;have a6:∀{a:Addr} {h':Heap},(∃o,s.heap.get? a=some o/\H a=none)->Heap.SameBut a s.heap h'->CV X.prog X.w H h':=fun {a h'} ha hs b ob e=>by
  show Am ha λ_ _ a5=>(I.AU b ob e).FD (λc w' O q=>(hs.2 c ?_).trans q) (λ_ q=>q) λ_ _ q=>q;rintro rfl
  rcases O with rfl|O
  .rw [a5]at e;cases e
  .rw [a5]at O;cases O
 rcases hx with hk|hk
 .show wpAny_storeName_local hk hn (λh' a7 hs=>(Gh (id hn) λoL _ _ a8 _=>(h _ ⟨I.ok,I.os,I.bare,⟨λb o e n hb hx=>?_,λb o e n hb hx=>?_,I.base.free,λb o e hx=>?_,I.base.AF,I.base.DX,I.base.FN⟩,(Ad a7 λj y v' e1 e2 e3=>?_),λy c e=>?_,I.free,I.CC,λp hp=>?_,a6 (Aq oL a8 I.free) hs,by simpa using I.len⟩ (Ad hs (.inl rfl))))) a9
  .show (hs.2 b (LF (LD (JZ e) I.ok.above))).trans (I.base.keep b o e n hb hx)
  .obtain⟨sl,e1⟩:=I.base.slot b o e n hb hx;show⟨sl,(hs.2 b (LF (LD (JZ e) I.ok.above))).trans e1⟩
  .obtain⟨o',e1⟩:=I.base.there b o e hx;show⟨o',(hs.2 b (LF (LD (JZ e) I.ok.above))).trans e1⟩
  .by_cases Y:j=i
   .subst Y;rw[hi]at e1;cases e1;rw[List.getElem?_set_self a3]at e2;cases e2;show Aq u r (.inl ⟨hk,by simp⟩)
   .rw [List.getElem?_set_ne (OO Y)]at e2;show Am (hl j y v' e1 e2 e3) λu' r' q=>Aq u' r' ?_;rcases q with⟨k,e⟩|⟨k,c,e,z⟩
    .show .inl ⟨k,?_⟩;have:y≠x:=λe=>Y (Tc hN e1 (e▸hi));simp[this,e]
    .show .inr ⟨k,(Aq c e (z.sameBut hs (cne y c e)))⟩
  .obtain⟨w',z⟩:=I.cell y c e;show⟨w',z.sameBut hs (cne y c e)⟩
  .show Ma (I.pin p hp) λe n ne nf d=>Fb ((hs.2 p.1 ne).trans e) n ne nf d
 .have a0:X.fn x=true:=by
   rcases hf with z|z
   .show z
   .rw [z]at hk;cases hk
  obtain⟨c,O⟩:=I.ok.has x (.inl hk);obtain⟨w',z⟩:=I.cell x c O;show wpAny_storeName_cell I.ok.kind hk O z (λh' a1 hs=>Am (id z) λoc a4 aA=>h {s with heap:=h'} ⟨I.ok,I.os,I.bare,⟨λb o e n hb hx=>?_,λb o e n hb hx=>?_,I.base.free,λb o e hx=>?_,I.base.AF,I.base.DX,I.base.FN⟩,(Aq m (hn.sameBut hs (OO (cne x c O))) λj y v' e1 e2 e3=>?_),λy c' e=>?_,I.free,I.CC,λp hp=>?_,a6 (Aq oc a4 (I.CC x c O)) hs,by simpa using I.len⟩ (Aq c hs (.inr O)))
  .show (hs.2 b (LF (LD (JZ e) (I.ok.cab x c a0 O)))).trans (I.base.keep b o e n hb hx)
  .obtain⟨sl,e1⟩:=I.base.slot b o e n hb hx;show⟨sl,(hs.2 b (LF (LD (JZ e) (I.ok.cab x c a0 O)))).trans e1⟩
  .obtain⟨o',e1⟩:=I.base.there b o e hx;show⟨o',(hs.2 b (LF (LD (JZ e) (I.ok.cab x c a0 O)))).trans e1⟩
  .by_cases Y:j=i
   .subst Y;rw[hi]at e1;cases e1;rw[List.getElem?_set_self a3]at e2;cases e2;show Aq u r (.inr ⟨.inl hk,(Aq c O a1)⟩)
   .rw [List.getElem?_set_ne (OO Y)]at e2;show Am (hl j y v' e1 e2 e3) λu' r' q=>Aq u' r' ?_
    rcases q with q|⟨k,c',e,z'⟩
    .show .inl q
    .show .inr ⟨k,(Aq c' e (z'.sameBut hs ?_))⟩;rintro rfl;show Y (Tc hN e1 (I.ok.inj _ _ _ e O▸hi))
  .by_cases a2:c'=c
   .subst a2;show⟨_,a1⟩
   .obtain⟨w2,z2⟩:=I.cell y c' e;show⟨w2,z2.sameBut hs a2⟩
  .show Ma (I.pin p hp) λe n ne nf d=>Fb ((hs.2 p.1 ?_).trans e) n ne nf d;intro q;rw[q,a4]at e;have q':oc=p.2:=LV e;show d w' (by rw[← q'];show aA)
def R0 {E:Bo}{Q:Uo}(I:Inv X pins σ H s)(Y:X.N.Nodup)(hi:X.N[i]?=some x)(hx:Loc X.env.scope x)(r:RelV v u)
  (h:∀s',Inv X pins (σ.set i (some v)) H s'->Q () s')(hf:Xv X x:=by first|show .inl rfl|show .inr rfl|assumption):wpAny M A (storeName X.env x u) Q E s:=
 Pe I Y hi hx r (λs' O _=>h s' O) hf
def Inv.IA (I:Inv X pins σ H s)(O:s'.os=s.os)(u:Un (EU X.stack) ch H H' s.heap s'.heap)(AU:CV X.prog X.w H' s'.heap)(hg:AllBare s'.gens)
  (Y:∀b∈ch,(b∈X.ex\/X.s₀.heap.objs.size<=b)/\b≠X.env.locals/\(∀x c,X.env.cells.lookup x=some c->c≠b)/\∀p∈X.pn++pins,p.1≠b):Inv X pins σ H' s':=by
 obtain⟨h',g',d',t',o'⟩:=s';have e:o'=s.os:=O;subst e;show I.call (g':=g') (t':=t') (d':=d') u AU hg Y
end
abbrev XK:=Value->Option Addr->Hp->Prop
abbrev St:=List (Option V)
abbrev VK:=V->Hp->Prop
abbrev TE:=St->Hp->VK->Prop
abbrev TT:=St->Hp->(Bool->Hp->Prop)->Prop
abbrev TA:=St->Hp->(List V->Hp->Prop)->Prop
structure Ends where
 nx:St->Hp->Prop
 rt:VK
 bk:St->Hp->Prop:=λ_ _=>False
 ct:St->Hp->Prop:=λ_ _=>False
abbrev TS:=Ends->St->Hp->Prop
def EP (X:Cx)(pins:Ej)(σ:St)(Q:VK)(u:Value)(s':Shared):Prop:=∃v H',Inv X pins σ H' s'/\RelV v u/\Q v H'
def TP (X:Cx)(pins:Ej)(σ:St)(Q:Bool->Hp->Prop)(b:Bool)(s':Shared):Prop:=∃H',Inv X pins σ H' s'/\Q b H'
def AP (X:Cx)(pins:Ej)(σ:St)(Q:List V->Hp->Prop)(us:List Value)(s':Shared):Prop:=∃vs H',Inv X pins σ H' s'/\AK vs us/\Q vs H'
def SP (X:Cx)(pins:Ej)(D:Ends)(f:Flow)(s':Shared):Prop:=
 match f with
 | .next=>∃σ' H',Inv X pins σ' H' s'/\D.nx σ' H'
 | .brk=>∃σ' H',Inv X pins σ' H' s'/\D.bk σ' H'
 | .cont=>∃σ' H',Inv X pins σ' H' s'/\D.ct σ' H'
 | .ret u=>∃v σ' H',Inv X pins σ' H' s'/\RelV v u/\D.rt v H'
def PE (X:Cx)(e:Expr)(t:TE):Prop:=
 ∀(pins:Ej) (s:Shared) (σ:St) (H:Hp) (Q:VK),Inv X pins σ H s->t σ H Q->wpAny (model X.prog X.w) X.A (eval e X.env) (EP X pins σ Q) X.xe s
def PT (X:Cx)(e:Expr)(t:TT):Prop:=
 ∀(pins:Ej) (s:Shared) (σ:St) (H:Hp) (Q:Bool->Hp->Prop),Inv X pins σ H s->t σ H Q->wpAny (model X.prog X.w) X.A (isTrue e X.env (eval e X.env)) (TP X pins σ Q) X.xe s
def PW (X:Cx)(e:Expr)(t:TT):Prop:=
 ∀(whole:Sem Value) (pins:Ej) (s:Shared) (σ:St) (H:Hp) (Q:Bool->Hp->Prop),Inv X pins σ H s->t σ H Q->wpAny (model X.prog X.w) X.A (isTrue e X.env whole) (TP X pins σ Q) X.xe s
def PW.pt (h:PW X e t):PT X e t:=h _
def PA (X:Cx)(es:List Expr)(t:TA):Prop:=
 ∀(pos:Pos) (pins:Ej) (s:Shared) (σ:St) (H:Hp) (Q:List V->Hp->Prop),Inv X pins σ H s->t σ H Q->wpAny (model X.prog X.w) X.A (spliced (backTo pos (starEach es X.env))) (AP X pins σ Q) X.xe s
def PS (X:Cx)(st:Stmt)(t:TS):Prop:=
 ∀(pins:Ej) (s:Shared) (σ:St) (H:Hp) (D:Ends),Inv X pins σ H s->t D σ H->wpAny (model X.prog X.w) X.A (exec st X.env) (SP X pins D) X.xe s
def IU (X:Cx)(st:List Stmt)(t:TS):Prop:=
 ∀(pins:Ej) (s:Shared) (σ:St) (H:Hp) (D:Ends),Inv X pins σ H s->t D σ H->wpAny (model X.prog X.w) X.A (execs st X.env) (SP X pins D) X.xe s
def AT {α:Type}{t:Sem α}{Q I:α->Shared->Prop}{M:Model}{A:Around}{E:Bo}(h:wpAny M A t Q E s)(O:∀a s,Q a s->I a s):wpAny M A t I E s:=NY h O λ_ _ x=>x
section
variable {X:Cx}
def tVar (i:Nat):TE:=λσ H Q=>∃v,σ[i]?=some (some v)/\Q v H
def tC (v:V):TE:=λ_ H Q=>Q v H
abbrev Eg (x:Str):Prop:=(x==("__debug__":Str))=false
def pe_var (hN:X.N[i]?=some x)(hv:Vis X.env.scope x)(hd:Eg x:=by decide)(a0:(x==("__classdict__":Str))=false:=by decide):PE X (.Name x pos) (tVar i):=by
 intro pins s σ H Q I h;obtain⟨v,e,h⟩:=h;obtain⟨m,hn,hl⟩:=I.loc;obtain⟨u,r,l⟩:=hl i x v hN e hv;have fin:EP X pins σ Q u s:=⟨v,H,I,r,h⟩;rcases l with⟨hk,hm⟩|⟨hk,c,O,Y⟩
 .show wpAny_Name (wpAny_loadName_local I.ok.kind hk hn hm fin) hd
 .rcases hk with hk|hk
  .show wpAny_Name (wpAny_loadName_cell I.ok.kind hk O Y fin) hd
  .show wpAny_Name (wpAny_loadName_free I.ok.kind hk O Y fin a0) hd
def pe_int {i j pos}:PE X (.Constant (.int i) j pos) (tC (.int i)):=λ_ _ _ H _ I h=>wpAny_Constant_int (Al (.int i) H (I.tok _) ⟨_,rfl⟩ h)
def pe_bl {b j pos}:PE X (.Constant (.bool b) j pos) (tC (.bl b)):=λ_ _ _ H _ I h=>Constant_bool (Al (.bl b) H I rfl h)
def pe_non {j pos}:PE X (.Constant .none j pos) (tC .BI):=λ_ _ _ H _ I h=>Constant_none (Al .BI H I rfl h)
def pe_str {x j pos}:PE X (.Constant (.str x) j pos) (tC (.str x)):=λ_ _ _ H _ I h=>Calls.Constant_str (Al (.str x) H (I.tok _) ⟨_,rfl⟩ h)
def Gl (X:Cx)(x:Str):Prop:=X.env.kindOf x=some .globalImplicit
def G0 {E:Bo}{Q:Bo}(I:Inv X pins σ H s)(hg:Gl X x)(hm:X.mg x=some u)(h:Q u s)
  (hd:Eg x:=by decide):wpAny (model X.prog X.w) X.A (eval (.Name x pos) X.env) Q E s:=
 Calls.Name_function_global I.ok.kind hg (Calls.loadGlobal_global (by rw[I.ok.glob];show I.mod.glob.keeps I.bk) hm h) hd
def Ly {E:Bo}{Q:Bo}(I:Inv X pins σ H s)(hg:Gl X x)(hm:X.mg x=none)(O:bootBuiltins x=some u)(h:Q u s)
  (hn:x≠"__name__":=by decide)(hd:Eg x:=by decide):wpAny (model X.prog X.w) X.A (eval (.Name x pos) X.env) Q E s:=by
 show Am I.mod.blt λmb h1 h2=>?_;show Calls.Name_function_global I.ok.kind hg (Calls.loadGlobal_builtin (by rw[I.ok.glob];show I.mod.glob.keeps I.bk) hm (by rw[I.ok.blt];show h1.keeps I.bk) ((h2 x hn).trans O) h) hd
def Ah3 (hg:Gl X x)(hm:X.mg x=some u)(r:RelV v u)(hd:Eg x:=by decide):PE X (.Name x pos) (tC v):=
 λ_ _ _ H _ I h=>G0 I hg hm (Al v H I r h) hd
def pe_bltn (hg:Gl X x)(hm:X.mg x=none)(O:bootBuiltins x=some u)(r:RelV v u)(hn:x≠"__name__":=by decide)(hd:Eg x:=by decide):PE X (.Name x pos) (tC v):=
 λ_ _ _ H _ I h=>Ly I hg hm O (Al v H I r h) hn hd
variable {a b:Expr}{ta tb:TE}{pos:Pos}
def PC (X:Cx)(op:CmpOp)(a b:Expr)(t:TE):Prop:=
 ∀(pins:Ej) (s:Shared) (σ:St) (H:Hp) (Q:VK),Inv X pins σ H s->t σ H Q ->
  wpAny (model X.prog X.w) X.A (eval a X.env) (λv I=>wpAny (model X.prog X.w) X.A (eval b X.env) (λu O=>wpAny (model X.prog X.w) X.A (compareOp op v u) (EP X pins σ Q) X.xe O) X.xe I) X.xe s
def tB (t:TE):TT:=λσ H Q=>t σ H λx H1=>∃c,x=.bl c/\Q c H1
def Ab7 (h:PC X op a b t)(h1:behindInMarks op b=false:=by first|show O _ (by decide) (by decide)|rfl):PE X (.Compare a [op] [b] pos) t:=λpins s σ H Q I hw=>wpAny_Compare1 (h pins s σ H Q I hw) h1
def pt_cmp (h:PC X op a b t)(h1:behindInMarks op b=false:=by first|show a0 _ (by decide) (by decide)|rfl):PT X (.Compare a [op] [b] pos) (tB t):=by
 intro pins s σ H Q I hw;show wpAny_isTrue_Compare1 (AT (h pins s σ H _ I hw) λv s1 h1=>AT h1 λu s2 h2=>AT h2 λc s3 ⟨x,H1,O,r1,Y⟩=>?_) h1;show Am Y λd z1 q=>?_;subst z1;cases r1;show MU (Aq H1 O q)
def pt_val (h:PE X e t)(he:∀whole,isTrue e X.env whole=(do let v ← whole;standAt e.pos;holding [v] (truthy v)):=by intro _;rfl):PT X e (tB t):=by
 intro pins s σ H Q I hw;show isTrue_plain (AT (h pins s σ H _ I hw) λv s1 ⟨x,H1,O,r1,Y⟩=>?_) (he _);show Am Y λd z1 q=>?_;subst z1;cases r1;show MU (Aq H1 O q)
variable {tA tB':TT}{rest:List Expr}
def tAnd (t u:TT):TT:=λσ H Q=>t σ H λc H1=>if c=true then u σ H1 Q else Q false H1
def tOr (t u:TT):TT:=λσ H Q=>t σ H λc H1=>if c=true then Q true H1 else u σ H1 Q
def tNot (t:TT):TT:=λσ H Q=>t σ H λc H1=>Q (!c) H1
def pw_and1 (ha:PT X a tA):PW X (.BoolOp .And [a] pos) tA:=by
 intro O pins s σ H Q I h;show isTrue_and (AT (ha pins s σ H Q I h) λc s1 e=>?_)
 cases c with
 | true=>show isTrue_and_nil e
 | false=>show e
def pw_or1 (ha:PT X a tA):PW X (.BoolOp .Or [a] pos) tA:=by
 intro O pins s σ H Q I h;show isTrue_or (AT (ha pins s σ H Q I h) λc s1 e=>?_)
 cases c with
 | false=>show isTrue_or_nil e
 | true=>show e
def pw_and (ha:PT X a tA)(hb:PW X (.BoolOp .And (b::rest) pos) tB'):PW X (.BoolOp .And (a::b::rest) pos) (tAnd tA tB'):=by
 intro wh pins s σ H Q I h;show isTrue_and (AT (ha pins s σ H _ I h) λc s1 ⟨H1,O,Y⟩=>?_)
 cases c with
 | true=>show hb wh pins s1 σ H1 Q O Y
 | false=>show Aq H1 O Y
def pw_or (ha:PT X a tA)(hb:PW X (.BoolOp .Or (b::rest) pos) tB'):PW X (.BoolOp .Or (a::b::rest) pos) (tOr tA tB'):=by
 intro wh pins s σ H Q I h;show isTrue_or (AT (ha pins s σ H _ I h) λc s1 ⟨H1,O,Y⟩=>?_)
 cases c with
 | true=>show Aq H1 O Y
 | false=>show hb wh pins s1 σ H1 Q O Y
def pt_not (ha:PT X a tA):PT X (.UnaryOp .Not a pos) (tNot tA):=by
 intro pins s σ H Q I h;show isTrue_not (ha pins s σ H (λc H1=>Q (!c) H1) I h)
def tAndV (ta tb:TE):TE:=λσ H Q=>ta σ H λx H1=>∃c,x=.bl c/\if c=true then tb σ H1 Q else Q (.bl false) H1
def tOrV (ta tb:TE):TE:=λσ H Q=>ta σ H λx H1=>∃c,x=.bl c/\if c=true then Q (.bl true) H1 else tb σ H1 Q
def tNotV (ta:TE):TE:=λσ H Q=>ta σ H λx H1=>∃c,x=.bl c/\Q (.bl (!c)) H1
def pe_one {op}(h:PE X a t):PE X (.BoolOp op [a] pos) t:=λpins s σ H Q I hw=>BoolOp_one (h pins s σ H Q I hw)
def pe_and (ha:PE X a ta)(hb:PE X (.BoolOp .And (b::rest) pos) tb):PE X (.BoolOp .And (a::b::rest) pos) (tAndV ta tb):=by
 intro pins s σ H Q I h;show BoolOp_and (AT (ha pins s σ H _ I h) λv s1 ⟨x,H1,Y,r1,O⟩=>?_);obtain⟨c,rfl,O⟩:=O;cases r1;show MU ?_
 cases c with
 | true=>show hb pins s1 σ H1 Q Y O
 | false=>show Al (.bl false) H1 Y rfl O
def pe_or (ha:PE X a ta)(hb:PE X (.BoolOp .Or (b::rest) pos) tb):PE X (.BoolOp .Or (a::b::rest) pos) (tOrV ta tb):=by
 intro pins s σ H Q I h;show BoolOp_or (AT (ha pins s σ H _ I h) λv s1 ⟨x,H1,Y,r1,O⟩=>?_);obtain⟨c,rfl,O⟩:=O;cases r1;show MU ?_
 cases c with
 | false=>show hb pins s1 σ H1 Q Y O
 | true=>show Al (.bl true) H1 Y rfl O
def pe_not (ha:PE X a ta):PE X (.UnaryOp .Not a pos) (tNotV ta):=by
 intro pins s σ H Q I h;show UnaryOp_ (AT (ha pins s σ H _ I h) λv s1 ⟨x,H1,Y,r1,O⟩=>?_);obtain⟨c,rfl,O⟩:=O;cases r1;show not_of (MU ⟨.bl (!c),H1,Y,rfl,O⟩)
def tIf (t:TT)(ta tb:TE):TE:=λσ H Q=>t σ H λc H1=>if c=true then ta σ H1 Q else tb σ H1 Q
def pe_ifExp (hc:PT X c tA)(ha:PE X a ta)(hb:PE X b tb):PE X (.IfExp c a b pos) (tIf tA ta tb):=by
 intro pins s σ H Q I h;show wpAny_IfExp (AT (hc pins s σ H _ I h) λd s1 ⟨H1,O,Y⟩=>?_)
 cases d with
 | true=>show ha pins s1 σ H1 Q O Y
 | false=>show hb pins s1 σ H1 Q O Y
end
def AO (K:Av)(H:Hp)(a:Addr)(xs:List V):Prop:=
 Rd H a (.lst xs) \/
  ∃(o:Obj) (its:Array Value) (n:Nat),K.lookup a=some o/\o.cls=.type "list"/\o.dict=none/\o.data=.seq its n/\its.size<=sizeLine/\AK xs its.toList
def BJ (K:Av)(H:Hp)(a:Addr)(xs:List V):Prop:=
 Rd H a (.tup xs) \/
  ∃(o:Obj) (its:Array Value) (n:Nat),K.lookup a=some o/\o.cls=.type "tuple"/\o.data=.seq its n/\its.size<=sizeLine/\AK xs its.toList
noncomputable def absV:Value->Option V
 | .none=>some .BI
 | .bool b=>some (.bl b)
 | .int i _=>some (.int i)
 | .str x _=>some (.str x)
 | .bytes b _=>some (.JP b)
 | .float b _=>some (.flt b)
 | .ref a=>some (.ref a)
 | .type n=>some (.ty n)
 | _=>none
def RelV.abs (r:RelV x u):absV u=some x:=by
 cases x with
 | BI=>cases r;rfl
 | bl _=>cases r;rfl
 | int _=>obtain⟨t,rfl⟩:=r;rfl
 | str _=>obtain⟨t,rfl⟩:=r;rfl
 | JP _=>obtain⟨t,rfl⟩:=r;rfl
 | flt _=>obtain⟨t,rfl⟩:=r;rfl
 | ref _=>cases r;rfl
 | ty _=>cases r;rfl
def RelV.inj (r:RelV x u)(q:RelV y u):x=y:=LV (r.abs.symm.trans q.abs)
theorem AK.inj:∀{xs ys:List V} {us:List Value},AK xs us->AK ys us->xs=ys
 | _,_,_,.nil,.nil=>rfl
 | _,_,_,.cons r t,.cons I t'=>by rw[r.inj I,AK.inj t t']
section
def AO.of {K:Av}(h:H a=some (.lst xs)):AO K H a xs:=.inl (.inl h)
def BJ.of {K:Av}(h:H a=some (.tup xs)):BJ K H a xs:=.inl (.inl h)
def Inv.list (I:Inv X pins σ H s)(h:AO X.K H a xs):∃its:List Value,AK xs its/\PlainL s.heap a its.toArray/\xs.length<=sizeLine:=by
 rcases h with h|⟨o,its,n,hk,O,hd,hs,Y,r⟩
 .show Fc (h.ok I.AU) λz z1=>C8 z1 λits n r e=>Bx its r (Co _ n e rfl rfl rfl) z
 .show Bx its.toList r (Co o n (I.EE a o hk) O hd (by simpa using hs)) ?_;have e:=r.length;simp only[OS]at e;omega
def Inv.tuple (I:Inv X pins σ H s)(h:BJ X.K H a xs):∃its:List Value,AK xs its/\IsTup s.heap a its.toArray/\xs.length<=sizeLine:=by
 rcases h with h|⟨o,its,n,hk,O,hs,Y,r⟩
 .show Fc (h.ok I.AU) λz z1=>Am z1 λits r p=>Bx its r p z
 .show Bx its.toList r (Bx o (I.EE a o hk) O ⟨n,by simpa using hs⟩) ?_;have e:=r.length;simp only[OS]at e;omega
def Inv.IC (I:Inv X pins σ H s)(h:AO X.K H a xs)(h':AO X.K H a ys):xs=ys:=by
 show Bg (I.list h) λits r z1 _=>?_;obtain⟨o,n,e,_,_,d⟩:=z1;show Bg (I.list h') λits' r' z1 _=>?_;obtain⟨o',n',O,_,_,d'⟩:=z1;rw[e]at O;cases O;rw[d]at d'
 injection d' with Y _
 have:its=its':=by simpa using LM Array.toList Y
 subst this;show r.inj r'
def Inv.HG (I:Inv X pins σ H s)(h:BJ X.K H a xs)(h':BJ X.K H a ys):xs=ys:=by
 show Bg (I.tuple h) λits r z1 _=>?_;obtain⟨o,e,_,n,d⟩:=z1;show Bg (I.tuple h') λits' r' z1 _=>?_;obtain⟨o',O,_,n',d'⟩:=z1;rw[e]at O;cases O;rw[d]at d'
 injection d' with Y _
 have:its=its':=by simpa using LM Array.toList Y
 subst this;show r.inj r'
end
abbrev Cx.GQ (X:Cx)(E:Bo):Cx:={X with xe:=E}
abbrev Cx.nox (X:Cx):Cx:=X.GQ λ_ _=>False
def Cx.Ok.GQ {X:Cx}(ok:X.Ok)(E:Bo):(X.GQ E).Ok:=
 ⟨ok.mod,ok.kind,ok.glob,ok.blt,ok.above,ok.inj,ok.has,ok.cab,ok.hd,ok.frames,ok.stk,ok.exf,ok.bs,ok.JE,ok.ID,ok.HM,ok.AC,ok.frf⟩
def Cx.Ok.DP {X:Cx}{E:Bo}(ok:(X.GQ E).Ok):X.Ok:=
 ⟨ok.mod,ok.kind,ok.glob,ok.blt,ok.above,ok.inj,ok.has,ok.cab,ok.hd,ok.frames,ok.stk,ok.exf,ok.bs,ok.JE,ok.ID,ok.HM,ok.AC,ok.frf⟩
section
variable {E:Bo}
def Inv.GQ (I:Inv X pins σ H s)(E:Bo):Inv (X.GQ E) pins σ H s:=⟨I.ok.GQ E,I.os,I.bare,I.base,I.loc,I.cell,I.free,I.CC,I.pin,I.AU,I.len⟩
def Inv.DP (I:Inv (X.GQ E) pins σ H s):Inv X pins σ H s:=⟨I.ok.DP,I.os,I.bare,I.base,I.loc,I.cell,I.free,I.CC,I.pin,I.AU,I.len⟩
def SP.DP (h:SP (X.GQ E) pins D f s'):SP X pins D f s':=by
 cases f with
 | next=>show C8 h λσ' H' I q=>?_;show C6 σ' H' I.DP q
 | brk=>show C8 h λσ' H' I q=>?_;show C6 σ' H' I.DP q
 | cont=>show C8 h λσ' H' I q=>?_;show C6 σ' H' I.DP q
 | ret u=>show He h λv σ' H' I r q=>?_;show Kl v σ' H' I.DP r q
def IU.nox {st:List Stmt}{t:TS}(h:IU X.nox st t):IU X st t:=λpins s σ H D I hw=>
 NY (h pins s σ H D (I.GQ _) hw) (λ_ _ q=>q.DP) λ_ _ z=>False.elim z
end
section
variable {X:Cx}{st:Stmt}{rest:List Stmt}{t u:TS}{e:Expr}{te:TE}{pos:Pos}
def Lf:TS:=λD σ H=>D.nx σ H
def Aa1 (t u:TS):TS:=λD σ H=>t {D with nx:=u D} σ H
def pss_nil:IU X [] Lf:=λ_ _ σ H _ I h=>wpAny_execs_nil (C6 σ H I h)
def Au0 (h1:PS X st t)(h2:IU X rest u):IU X (st::rest) (Aa1 t u):=by
 intro pins s σ H D I h;show wpAny_execs_cons (AT (h1 pins s σ H {D with nx:=u D} I h) λf s1 q=>?_)
 cases f with
 | next=>
  obtain⟨σ',H',O,q⟩:=q;show h2 pins s1 σ' H' D O q
 | ret v=>show q
 | brk=>show q
 | cont=>show q
def Rm (h1:PS X st t):IU X [st] t:=by
 intro pins s σ H D I h;show wpAny_execs_cons (AT (h1 pins s σ H D I h) λf s1 q=>?_)
 cases f with
 | next=>show wpAny_execs_nil q
 | ret v=>show q
 | brk=>show q
 | cont=>show q
def Inv.quiet (I:Inv X pins σ H s):interactive X.env=false:=by simp[interactive,I.ok.kind]
def tDrop (te:TE):TS:=λD σ H=>te σ H λ_ H1=>D.nx σ H1
def Wl (he:PE X e te)(hs:swapsWith e none pos.line X.env=pure false:=by rfl):PS X (.Expr e pos) (tDrop te):=by
 intro pins s σ H D I h;show wpAny_Expr_any (AT (he pins s σ H _ I h) λv s1 ⟨x,H1,O,r1,Y⟩=>(C6 σ H1 O Y)) I.quiet hs
def tRet (te:TE):TS:=λD σ H=>te σ H D.rt
def ps_ret (he:PE X e te):PS X (.Return (some e) pos) (tRet te):=by
 intro pins s σ H D I h;show wpAny_Return_some (AT (he pins s σ H _ I h) λv s1 ⟨x,H1,O,r1,Y⟩=>(Kl x σ H1 O r1 Y))
def tIfS (c:TT)(t u:TS):TS:=λD σ H=>c σ H λb H1=>if b=true then t D σ H1 else u D σ H1
def ps_if (hc:PT X c tc)(ha:IU X a t)(hb:IU X b u):PS X (.If c a b pos) (tIfS tc t u):=by
 intro pins s σ H D I h;show wpAny_If (AT (hc pins s σ H _ I h) λd s1 ⟨H1,O,Y⟩=>?_)
 cases d with
 | true=>show ha pins s1 σ H1 D O Y
 | false=>show hb pins s1 σ H1 D O Y
def Aq5:TS:=λ_ _ _=>False
def Au2:PS X st Aq5:=λ_ _ _ _ _ _ h=>h.elim
end
abbrev TG:=V->St->Hp->(St->Hp->Prop)->Prop
abbrev TGs:=List V->St->Hp->(St->Hp->Prop)->Prop
def PG (X:Cx)(I:Expr)(t:TG):Prop:=
 ∀(pins:Ej) (s:Shared) (σ:St) (H:Hp) (v:V) (u:Value) (Q:St->Hp->Prop),Inv X pins σ H s->RelV v u->t v σ H Q ->
  wpAny (model X.prog X.w) X.A (assign I X.env u) (λ_ s'=>∃σ' H',Inv X pins σ' H' s'/\Q σ' H') X.xe s
def PGs (X:Cx)(ts:List Expr)(t:TGs):Prop:=
 ∀(pins:Ej) (s:Shared) (σ:St) (H:Hp) (vs:List V) (us:List Value) (Q:St->Hp->Prop),Inv X pins σ H s->AK vs us->t vs σ H Q ->
  wpAny (model X.prog X.w) X.A (assignInOrder ((assignEach ts X.env).map (·.2)) us) (λ_ s'=>∃σ' H',Inv X pins σ' H' s'/\Q σ' H') X.xe s
section
def BH (i:Nat):TG:=λv σ H Q=>Q (σ.set i (some v)) H
def pg_name (Y:X.N.Nodup)(hi:X.N[i]?=some x)(hx:Loc X.env.scope x)(hf:Xv X x:=by first|show .inl rfl|show .inr rfl|assumption):PG X (.Name x pos) (BH i):=by
 intro pins s σ H v u Q I r h;show wpAny_assign_Name (R0 I Y hi hx r (λs' O=>(C6 _ H O h)) hf)
def gNil:TGs:=λvs σ H Q=>vs=[]/\Q σ H
def gCons (t:TG)(u:TGs):TGs:=λvs σ H Q=>∃v r,vs=v::r/\t v σ H λσ' H'=>u r σ' H' Q
def pgs_nil:PGs X [] gNil:=by
 intro pins s σ H vs us Q I r h;obtain⟨e,h⟩:=h;subst e;cases r;show assignInOrder_nil (C6 σ H I h)
def pgs_cons (h1:PG X e t)(h2:PGs X es u)
  (hs:(assignEach (e::es) X.env).map (·.2)=assign e X.env::(assignEach es X.env).map (·.2):=by rfl):PGs X (e::es) (gCons t u):=by
 intro pins s σ H vs us Q I r h;obtain⟨v,vr,e1,h⟩:=h;subst e1
 cases r with
 | cons r rr=>
  rw[hs];show assignInOrder_cons (AT (h1 pins s σ H _ _ _ I r h) λ_ s1 ⟨σ1,H1,O,Y⟩=>h2 pins s1 σ1 H1 _ _ Q O rr Y)
def gTup (K:Av)(n:Nat)(t:TGs):TG:=λv σ H Q=>∃a xs,v=.ref a/\BJ K H a xs/\xs.length=n/\t xs σ H Q
def pg_tup (hc:X.calm=true)(h:PGs X es t)
  (hn:(assignEach es X.env).length=n:=by rfl)(a0:(assignEach es X.env).findIdx? (·.1)=none:=by rfl):PG X (.Tuple es k pos) (gTup X.K n t):=by
 intro pins s σ H v u Q I r hw;obtain⟨a,xs,e1,hq,hl,hw⟩:=hw;subst e1;cases r;obtain⟨its,O,ht,hz⟩:=I.tuple hq;show assign_Tuple_tuple (I.ok.hd hc) ht (by simp[hn,← hl,O.length]) a0 λh' hx=>?_;have Y:Inv X pins σ H {s with heap:=h'}:=I.kept (t':=s.toks) λb o e=>hx b o (LF (JZ e)) e;show h pins _ σ H xs _ Q Y (by simpa using O) hw
def Ye (te:TE)(g:TG):TS:=λD σ H=>te σ H λx H1=>g x σ H1 D.nx
def ps_set (hN:X.N.Nodup)(hi:X.N[i]?=some x)(hx:Loc X.env.scope x)(he:PE X e te)(hs:swapsWith e (some (.Name x a0)) pos.line X.env=pure false:=by rfl)(hf:Xv X x:=by first|show .inl rfl|show .inr rfl|assumption) :
  PS X (.Assign [.Name x a0] e pos) (Ye te (BH i)):=by
 intro pins s σ H D I h;show wpAny_Assign_Name (AT (he pins s σ H _ I h) λv s1 ⟨y,H1,O,r1,q1⟩=>(R0 O hN hi hx r1 (λs2 Y=>(C6 _ H1 Y q1)) hf)) hs
end
section
end
structure It where
 go:Nat->Hp->Prop
 GF:Nat->Hp->V->Hp->Prop
 stop:Nat->Hp->Prop
def Le (X:Cx)(pins:Ej)(H:Hp)(b:Addr):Prop:=
 H b=none/\b≠X.env.locals/\b∉X.fs/\(b∈X.ex\/X.s₀.heap.objs.size<=b)/\(∀x c,X.env.cells.lookup x=some c->c≠b)/\∀p∈X.pn++pins,p.1≠b
def Inv.IM (I:Inv X pins σ H s)(hb:s.heap.objs.size<=b)(hn:H' b=none):Le X pins H' b:=by
 show D8 hn (MK (LD I.lt hb)) (I.nofs hb) (.inr (KN I.sz hb)) (λx c e z=>?_) λp O z=>?_
 .obtain⟨v,q⟩:=I.cell x c e;show absurd (LD q.lt (by rw[z];show hb)) (NK _)
 .show absurd (LD (JZ (I.pin p O).1) (by rw[z];show hb)) (NK _)
structure Turn (P:Program)(w:World)(K:Av)(tg:Expr)(J:It)(fp:List Addr)(it:Addr)(tn:Nat->Heap->Prop):Prop where
 mem:it∈fp
 obj:∀i h,tn i h->∀b∈fp,∃o,h.get? b=some o/\∀v,o.data≠.cell v
 keep:∀i h h',tn i h->(∀b∈fp,∀o,h.get? b=some o->h'.get? b=some o)->tn i h'
 item:∀(X:Cx),X.prog=P->X.w=w->X.K=K->X.calm=true->∀(i:Nat) (pins:Ej) (s:Shared) (σ:St) (H:Hp) (E:Bo),Inv X pins σ H s->(∀b∈fp,Le X pins H b)->tn i s.heap->J.go i H ->
  wpAny (model P w) X.A (pyNext (.ref it)) (λr s1=>∃u,r=some u /\
   wpAny (model P w) X.A (letOwnedTupleGo tg (.ref it) u) (λ_ s2=>∃x H',Inv X pins σ H' s2/\RelV x u/\J.GF i H x H'/\tn (i+1) s2.heap/\∀b∈fp,H' b=none) E s1) E s
 done:∀(X:Cx),X.prog=P->X.w=w->X.K=K->X.calm=true->∀(i:Nat) (pins:Ej) (s:Shared) (σ:St) (H:Hp) (E:Bo),Inv X pins σ H s->(∀b∈fp,Le X pins H b)->tn i s.heap->J.stop i H ->
  wpAny (model P w) X.A (pyNext (.ref it)) (λr s1=>r=none/\Inv X pins σ H s1) E s
 self:∀(A:Around) (i:Nat) (s:Shared) (Q:Bo) (E:Bo),tn i s.heap->Q (.ref it) s->wpAny (model P w) A (pyIter (.ref it)) Q E s
abbrev TI:=St->Hp->(It->Hp->Prop)->Prop
def PIE (X:Cx)(pins:Ej)(σ:St)(tg:Expr)(R:It->Hp->Prop)(I:Value)(s2:Shared):Prop:=
 ∃(it:Addr) (fp:List Addr) (tn:Nat->Heap->Prop) (J:It) (H':Hp),I=.ref it/\Inv X pins σ H' s2/\Turn X.prog X.w X.K tg J fp it tn/\tn 0 s2.heap/\(∀b∈fp,Le X pins H' b)/\R J H'
def PI (X:Cx)(tg iter:Expr)(I:TI):Prop:=
 ∀(pins:Ej) (s:Shared) (σ:St) (H:Hp) (R:It->Hp->Prop),Inv X pins σ H s->I σ H R ->
  wpAny (model X.prog X.w) X.A (eval iter X.env) (λv s1=>wpAny (model X.prog X.w) X.A (pyIter v) (PIE X pins σ tg R) X.xe s1) X.xe s
def Ai6 {E:Bo}{Q:Uo}(Y:s.heap.get? it=some o)(O:o.cls=.type n)(hd:o.data=.fields vs)
   (hn:["enumerate","zip","dict_itemiterator","dict_reverseitemiterator","odict_iterator","itertools.zip_longest","itertools.pairwise"].contains n=false)(I:Q () s):wpAny M A (letOwnedTupleGo tg (.ref it) u) Q E s:=by
 unfold letOwnedTupleGo;cases tg<;>first
   | show JW I
   | (cases u<;>first
       | show JW I
       | (show JQ (wpAny_load Y ?_)
          rw[O,hd]
          show wpAny M A (if(["enumerate","zip","dict_itemiterator","dict_reverseitemiterator","odict_iterator","itertools.zip_longest","itertools.pairwise"].contains n&&vs[0]?==some (rawInt _))=true then _ else _) Q E s
          rw[KH (by intro h;rw[hn,Bool.false_and]at h;cases h)]
          show JW I))
noncomputable def Itl (K:Av)(a:Addr):It:=
 ⟨λi H=>∃xs x,AO K H a xs/\xs[i]?=some x,λi H x H'=>H'=H/\∀xs,AO K H a xs->xs[i]?=some x,λi H=>∃xs,AO K H a xs/\xs.length<=i⟩
noncomputable def IW (K:Av)(a:Addr):It:=
 ⟨λi H=>∃xs x,BJ K H a xs/\xs[i]?=some x,λi H x H'=>H'=H/\∀xs,BJ K H a xs->xs[i]?=some x,λi H=>∃xs,BJ K H a xs/\xs.length<=i⟩
noncomputable def Itr (lo:Int)(n:Nat):It:=⟨λi _=>i<n,λi H x H'=>H'=H/\x=.int (lo+i),λi _=>n<=i⟩
theorem Ak6 {P:Program}{w:World}{K:Av}{tg:Expr}(a it:Addr):Turn P w K tg (Itl K a) [it] it (λi h=>h.IsListIter it a i) where
 mem:=by simp
 obj:=λi h st b hb=>by
  have e:b=it:=by simpa using hb
  subst e;show Bg st λo e c d=>?_;show Aq o e λv z=>by rw[d]at z;cases z
 keep:=λi h h' st k=>st.at λo e=>k it (by simp) o e
 item:=by
  intro X hP hw hK hc i pins s σ H E I hf st hg;subst hP hw hK;show C8 hg λxs x O hx=>Bg (I.list O) λits rv p hz=>Am (rv.get hx) λu hu ru=>Ib (hf it (by simp)) λf0 Y f2 f3 f4 f5=>wpAny_pyNext_list_item st p.isList (x:=u) (by simpa using hu) λh' a0 sb=>?_;have I1:Inv X pins σ H {s with heap:=h'}:=I.turned (t':=s.toks) (λb o hb e=>(sb.2 b hb).trans e) f0 Y f3 f4 f5;show Bg (id a0) λo e c d=>?_;show Aq u rfl (Ai6 (s:={s with heap:=h'}) e c d (by decide) (Jr x H I1 ru ⟨rfl,λys hy=>by rw[I.IC hy O];show hx⟩ a0 λb hb=>(hf b hb).1))
 done:=by
  intro X hP hw hK hc i pins s σ H E I hf st hg;subst hP hw hK;show Am hg λxs O hx=>Bg (I.list O) λits rv p hz=>Ib (hf it (by simp)) λf0 Y f2 f3 f4 f5=>?_;have hl:=rv.length;show wpAny_pyNext_list_end (I.ok.hd hc) st p.isList (by simp;omega) λh' eb=>⟨rfl,I.turned (t':=s.toks) (λb o hb e=>eb b o hb e) f0 Y f3 f4 f5⟩
 self:=λ_ _ _ _ _ st h=>wpAny_pyIter_listiter st h
theorem Z8 {P:Program}{w:World}{K:Av}{tg:Expr}(a it:Addr):Turn P w K tg (IW K a) [it] it (λi h=>h.IsTupleIter it a i) where
 mem:=by simp
 obj:=λi h st b hb=>by
  have e:b=it:=by simpa using hb
  subst e;show Bg st λo e c d=>?_;show Aq o e λv z=>by rw[d]at z;cases z
 keep:=λi h h' st k=>st.at λo e=>k it (by simp) o e
 item:=by
  intro X hP hw hK hc i pins s σ H E I hf st hg;subst hP hw hK;show C8 hg λxs x O hx=>Bg (I.tuple O) λits rv p hz=>Am (rv.get hx) λu hu ru=>Ib (hf it (by simp)) λf0 Y f2 f3 f4 f5=>wpAny_pyNext_tuple_item st (show s.heap.IsTuple a its.toArray from p) (x:=u) (by simpa using hu) λh' a0 sb=>?_;have I1:Inv X pins σ H {s with heap:=h'}:=I.turned (t':=s.toks) (λb o hb e=>(sb.2 b hb).trans e) f0 Y f3 f4 f5;show Bg (id a0) λo e c d=>?_;show Aq u rfl (Ai6 (s:={s with heap:=h'}) e c d (by decide) (Jr x H I1 ru ⟨rfl,λys hy=>by rw[I.HG hy O];show hx⟩ a0 λb hb=>(hf b hb).1))
 done:=by
  intro X hP hw hK hc i pins s σ H E I hf st hg;subst hP hw hK;show Am hg λxs O hx=>Bg (I.tuple O) λits rv p hz=>Ib (hf it (by simp)) λf0 Y f2 f3 f4 f5=>?_;have hl:=rv.length;show wpAny_pyNext_tuple_end (I.ok.hd hc) st (show s.heap.IsTuple a its.toArray from p) (by simp;omega) λh' eb=>⟨rfl,I.turned (t':=s.toks) (λb o hb e=>eb b o hb e) f0 Y f3 f4 f5⟩
 self:=λ_ _ _ _ _ st h=>wpAny_pyIter_tupleiter st h
theorem Z9 {P:Program}{w:World}{K:Av}(it:Addr)(lo:Int)(n:Nat):Turn P w K tg (Itr lo n) [it] it (λi h=>IsRangeIter h it (lo+(i:Nat)*1) ((n:Int)-(i:Nat)) 1) where
 mem:=by simp
 obj:=λi h st b hb=>by
  have e:b=it:=by simpa using hb
  subst e;show Ad st λv z=>by
   have z':Data.fields _=Data.cell v:=z;cases z'
 keep:=λi h h' st k=>k it (by simp) _ st
 item:=by
  intro X hP hw hK hc i pins s σ H E I hf st hg;subst hP hw hK;show Ib (hf it (by simp)) λf0 O f2 Y f4 f5=>?_;have W:=Walks.range (prog:=X.prog) (w:=X.w) (I.ok.hd hc) it lo 1 n;show W.item i s _ _ hg st λv h' tk hv a0 kk=>?_;obtain⟨t,rfl⟩:=hv;have I1:Inv X pins σ H {s with heap:=h',toks:=tk}:=I.turned (λb o hb e=>kk b o (by simpa using hb) e) f0 O Y f4 f5;show Ad rfl (Ai6 (s:={s with heap:=h',toks:=tk}) (n:="range_iterator") a0 rfl rfl (by decide) (Jr (.int (lo+i)) H I1 ⟨t,?_⟩ ⟨rfl,rfl⟩ a0 λb hb=>(hf b hb).1));rw[Int.mul_one]
 done:=by
  intro X hP hw hK hc i pins s σ H E I hf st hg;subst hP hw hK;show Ib (hf it (by simp)) λf0 O f2 Y f4 f5=>?_;show wpAny_pyNext_range_end (I.ok.hd hc) st (by have:n<=i:=hg;omega) λh' eb=>⟨rfl,I.turned (t':=s.toks) (λb o hb e=>eb b o hb e) f0 O Y f4 f5⟩
 self:=λ_ _ _ _ _ st h=>wpAny_pyIter_rangeiter st h
section
def iList (K:Av)(tl:TE):TI:=λσ H R=>tl σ H λx H1=>∃a,x=.ref a/\(∃xs,AO K H1 a xs)/\R (Itl K a) H1
def iTup (K:Av)(tl:TE):TI:=λσ H R=>tl σ H λx H1=>∃a,x=.ref a/\(∃xs,BJ K H1 a xs)/\R (IW K a) H1
def pi_list (hl:PE X l tl):PI X tg l (iList X.K tl):=by
 intro pins s σ H R I h;show AT (hl pins s σ H _ I h) λv s1 ⟨x,H1,O,r1,q1⟩=>?_;show Bg q1 λa e z1 q=>?_;obtain⟨xs,Y⟩:=z1;subst e;cases r1;show Bg (O.list Y) λits rv p hz=>NG p.isList (F5 s1.heap.objs.size [s1.heap.objs.size] _ _ H1 rfl (O.kept (t':=s1.toks) λb o e=>JU _ e) (Ak6 a _) (Bh (KW _ rfl) rfl rfl) (λb hb=>?_) q);have e:b=s1.heap.objs.size:=by simpa using hb
 subst e;show O.IM (JV _) (O.AU.fresh (JV _))
def pi_tup (hl:PE X l tl):PI X tg l (iTup X.K tl):=by
 intro pins s σ H R I h;show AT (hl pins s σ H _ I h) λv s1 ⟨x,H1,O,r1,q1⟩=>?_;show Bg q1 λa e z1 q=>?_;obtain⟨xs,Y⟩:=z1;subst e;cases r1;show Bg (O.tuple Y) λits rv p hz=>wpAny_pyIter_tuple (show s1.heap.IsTuple a its.toArray from p) (F5 s1.heap.objs.size [s1.heap.objs.size] _ _ H1 rfl (O.kept (t':=s1.toks) λb o e=>JU _ e) (Z8 a _) (Bh (KW _ rfl) rfl rfl) (λb hb=>?_) q);have e:b=s1.heap.objs.size:=by simpa using hb
 subst e;show O.IM (JV _) (O.AU.fresh (JV _))
def Yi {pins:Ej}{σ:St}{H:Hp}{s:Shared}{R:It->Hp->Prop}{E:Bo}{lo hi:Int}{t u v:Tok}{tk:Nat}(I:Inv X pins σ H s)(h1:-(2 ^ 62)<=lo)(h2:lo<2 ^ 62)(h3:-(2 ^ 62)<=hi)(h4:hi<2 ^ 62)
  (q:R (Itr lo (hi-lo).toNat) H):wpAny (model X.prog X.w) X.A (pyIter (.ref s.heap.objs.size)) (PIE X pins σ tg R) E {s with heap:=s.heap.push {cls:=.type "range",data:=.fields #[.int lo t,.int hi u,.int 1 v]},toks:=tk}:=by
 show wpAny_pyIter_range (IsRange.new ..) (small_one h1 h2 h3 h4) ?_;have O:Inv X pins σ H {s with heap:=s.heap.push {cls:=.type "range",data:=.fields #[.int lo t,.int hi u,.int 1 v]},toks:=tk}:=I.kept λb o e=>JU _ e;show F5 ((s.heap.push {cls:=.type "range",data:=.fields #[.int lo t,.int hi u,.int 1 v]}).objs.size) [(s.heap.push {cls:=.type "range",data:=.fields #[.int lo t,.int hi u,.int 1 v]}).objs.size] _ _ H rfl
  (O.kept (t':=tk) λb o e=>JU _ e) (Z9 _ lo (hi-lo).toNat) ?_ (λb hb=>?_) q
 .have e1:lo+((0:Nat):Int)*1=lo:=by simp
  have e2:(((hi-lo).toNat:Nat):Int)-((0:Nat):Int)=Builtin.Range.rangeSize lo hi 1:=by rw[rangeSize_one];split<;>omega
  show IsRangeIter _ _ (lo+((0:Nat):Int)*1) ((((hi-lo).toNat:Nat):Int)-((0:Nat):Int)) 1
  rw[e1,e2];show KW _ rfl
 .have e:b=(s.heap.push {cls:=.type "range",data:=.fields #[.int lo t,.int hi u,.int 1 v]}).objs.size:=by simpa using hb
  subst e;show O.IM (JV _) (O.AU.fresh (JV _))
def iRng1 (ta:TA):TI:=λσ H R=>ta σ H λvs H1=>∃j:Int,vs=[.int j]/\-(2 ^ 62)<=j/\j<2 ^ 62/\R (Itr 0 j.toNat) H1
def iRng2 (ta:TA):TI:=λσ H R=>ta σ H λvs H1=>∃i j:Int,vs=[.int i,.int j]/\(-(2 ^ 62)<=i/\i<2 ^ 62/\-(2 ^ 62)<=j/\j<2 ^ 62)/\R (Itr i (j-i).toNat) H1
def Am2 (hg:Gl X "range")(hm:X.mg "range"=none)(ha:PA X [a] ta)(hs:starEach [a] X.env=[(false,eval a X.env)]:=by rfl):PI X tg (.Call (.Name "range" p) [a] [] pos) (iRng1 ta):=by
 intro pins s σ H R I h;show Call_ (Ly I hg hm boot_range (MV (AT (ha pos pins s σ H _ I h) λus s1 ⟨vs,H1,Y,r1,O⟩=>?_) hs rfl));obtain⟨j,e,O,q2,q⟩:=O;subst e
 cases r1 with
 | cons r rr=>
  cases rr;obtain⟨t,rfl⟩:=r;show call_range_1 (Yi Y (by omega) (by omega) O q2 (by simpa using q))
def Am1 (hg:Gl X "range")(hm:X.mg "range"=none)(ha:PA X [a,b] ta)(hs:starEach [a,b] X.env=[(false,eval a X.env),(false,eval b X.env)]:=by rfl)(a0:starEach [b] X.env=[(false,eval b X.env)]:=by rfl) :
  PI X tg (.Call (.Name "range" p) [a,b] [] pos) (iRng2 ta):=by
 intro pins s σ H R I h;show Call_ (Ly I hg hm boot_range (MV (AT (ha pos pins s σ H _ I h) λus s1 ⟨vs,H1,I1,r1,O⟩=>?_) (by rw[hs,a0]) (by rw[a0];rfl)));show A0 O λi j e z1 q=>?_;clear O;obtain⟨O,q2,q3,q4⟩:=z1;subst e
 cases r1 with
 | cons r Y=>
  cases Y with
  | cons r' Y=>
   cases Y;obtain⟨t,rfl⟩:=r;obtain⟨t',rfl⟩:=r';show call_range_2 (Yi I1 O q2 q3 q4 q)
def tFor (O:TI)(g:TG)(tb:TS):TS:=λD σ H=>O σ H λJ H1=>∃W:Nat->Nat->St->Hp->Prop,(∃m,W 0 m σ H1)/\∀i m σ H,W i m σ H ->
 (J.stop i H/\D.nx σ H)\/(J.go i H/\∃N:St->Hp->Prop,(∀σ' H',N σ' H'->∃I,I<m/\W (i+1) I σ' H')/\∀x H',J.GF i H x H'->g x σ H' λσ2 H2=>tb {D with nx:=N,ct:=N,bk:=D.nx} σ2 H2)
noncomputable def P4 (fp:List Addr)(h:Heap):List (Addr×Obj):=fp.filterMap λb=>(h.get? b).map λo=>(b,o)
def F4 (hb:b∈fp)(e:h.get? b=some o):(b,o)∈P4 fp h:=List.mem_filterMap.mpr (Aq b hb (by rw[e];rfl))
def Am7 (O:p∈P4 fp h):p.1∈fp/\h.get? p.1=some p.2:=by
 show Am (List.mem_filterMap.mp O) λb hb e=>?_
 cases q:h.get? b with
 | none=>rw[q]at e;cases e
 | some o=>
  rw[q]at e;have I:(b,o)=p:=LV e;subst I;show⟨hb,q⟩
def Inv.pinned (I:Inv X pins σ H s)(hf:∀b∈fp,Le X pins H b)(ho:∀b∈fp,∃o,s.heap.get? b=some o/\∀v,o.data≠.cell v):Inv X (pins++P4 fp s.heap) σ H s:=
 I.IV λp hp=>(KQ.mp hp).elim (λz=>I.pin p (LB _ z)) λz=>by
  obtain⟨hb,e⟩:=Am7 z;show Qi (hf p.1 hb) λf0 Y f2 _=>Am (ho p.1 hb) λo O d=>?_;rw[e]at O;cases O;show Fb e f0 Y f2 d
def Inv.DO (I:Inv X (pins++Y) σ H s):Inv X pins σ H s:=I.IV λp O=>I.pin p (LB _ (MD _ O))
abbrev Up (X:Cx)(i:Expr):Prop:=∀x,foldedSetIterable i X.env x=pure x
def ps_for (hp:PassesOwn (model X.prog X.w) X.A X.env X.xe)(hc:X.calm=true)(hi:PI X tg iter wi)(hg:PG X tg g)(hb:IU X a8 tb)
  (hs:Up X iter:=by intro _;rfl):PS X (.For tg iter a8 [] pos) (tFor wi g tb):=by
 intro pins s σ H D a4 h;show wpAny_For (AT (hi pins s σ H _ a4 h) λv s1 h1=>AT h1 λaA s2 h2=>?_) hs;show Tu h2 λit fp tn J H2 e I2 T a7 f2 z1=>Am z1 λW z2 a9=>?_;obtain⟨m0,w0⟩:=z2;subst e;have a1:∀{H':Hp},(∀b∈fp,H' b=none)->∀b∈fp,Le X pins H' b:=λhn b hb=>⟨hn b hb,(f2 b hb).2⟩;show codeAny_forLoop_any (λn s'=>∃i σ' H',Inv X pins σ' H' s'/\tn i s'.heap/\(∀b∈fp,H' b=none)/\W i n σ' H') ?_ m0 (Ei 0 σ H2 I2 a7 (λb hb=>(f2 b hb).1) w0);rintro n s3 ⟨i,σ3,H3,I3,a3,a2,w3⟩;rcases a9 i n σ3 H3 w3 with⟨stop,qn⟩|⟨go,N,hN,step⟩
 .show QK hp (AT (T.done X rfl rfl rfl hc i pins s3 σ3 H3 X.xe I3 (a1 a2) a3 stop) λr s4 ⟨hr,I4⟩=>?_);subst hr;show wpAny_execs_nil (C6 σ3 H3 I4 qn)
 .show QK hp (AT (T.item X rfl rfl rfl hc i pins s3 σ3 H3 X.xe I3 (a1 a2) a3 go) λr s4 ⟨u,hr,h4⟩=>?_);subst hr;show QK hp (AT h4 λ_ s5 ⟨x,H5,I5,r5,y5,a0,a6⟩=>?_);have a5:=I5.pinned (a1 a6) (T.obj _ _ a0);show QK hp (AT (hg _ s5 σ3 H5 x u _ a5 r5 (step x H5 y5)) λ_ s6 ⟨σ6,H6,I6,q6⟩=>QK hp (AT (hb _ s6 σ6 H6 _ I6 q6) λf s7 Y=>?_));have again:∀{σ7:St} {I:Hp},Inv X (pins++P4 fp s5.heap) σ7 I s7->N σ7 I->∃m,m<n/\∃i σ' H',Inv X pins σ' H' s7/\tn i s7.heap/\(∀b∈fp,H' b=none)/\W i m σ' H':=fun {σ7 I} O n7=>by
   show Am (hN σ7 I n7) λm' hm w7=>Aq m' hm (Ei (i+1) σ7 I O.DO (T.keep _ _ _ a0 λb hb o e=>(O.pin (b,o) (LB _ (LB _ (F4 hb e)))).1) (λb hb=>(Am (T.obj _ _ a0 b hb) λo e d=>((O.pin (b,o) (LB _ (LB _ (F4 hb e)))).2.1))) w7)
  cases f with
  | next=>show C8 Y λσ7 I O n7=>?_;show again O n7
  | cont=>show C8 Y λσ7 I O n7=>?_;show again O n7
  | brk=>obtain⟨σ7,I,O,Y⟩:=Y;show⟨σ7,I,O.DO,Y⟩
  | ret v=>obtain⟨x7,σ7,I,O,r7,Y⟩:=Y;show⟨x7,σ7,I,O.DO,r7,Y⟩
end
def L7 {K:Av}{a:Addr}{xs:List V}{g:TG}{tb:TS}{D:Ends}{σ:St}{H:Hp}(Pv:Nat->St->Hp->Prop)(h0:Pv 0 σ H)(hl:∀i σ H,i<=xs.length->Pv i σ H->AO K H a xs)
  (hs:∀i x σ H,xs[i]?=some x->Pv i σ H->g x σ H λσ2 H2=>tb {D with nx:=Pv (i+1),ct:=Pv (i+1),bk:=D.nx} σ2 H2)(hd:∀σ H,Pv xs.length σ H->D.nx σ H) :
  ∃W:Nat->Nat->St->Hp->Prop,(∃m,W 0 m σ H)/\∀i m σ H,W i m σ H ->
   ((Itl K a).stop i H/\D.nx σ H)\/((Itl K a).go i H/\∃N:St->Hp->Prop,(∀σ' H',N σ' H'->∃I,I<m/\W (i+1) I σ' H')/\∀x H',(Itl K a).GF i H x H'->g x σ H' λσ2 H2=>tb {D with nx:=N,ct:=N,bk:=D.nx} σ2 H2):=by
 show Aq (λi m σ H=>m=xs.length-i/\i<=xs.length/\Pv i σ H) (Bx xs.length (by simp) (LN _) h0) ?_;rintro i m σ H ⟨rfl,hi,p⟩;have q:=hl i σ H hi p;by_cases O:i<xs.length
 .show .inr ⟨(C6 xs (xs[i]) q (by simp[O])),(Aq (Pv (i+1)) (λσ' H' Y=>(Dh (xs.length-(i+1)) (by omega) rfl O Y)) λx H' y=>?_)⟩;obtain⟨e,y⟩:=y;subst e;show hs i x σ _ (y xs q) p
 .have e:i=xs.length:=by omega
  subst e;show .inl ⟨(Aq xs q (JV _)),hd σ H p⟩
def Ai8 {K:Av}{a:Addr}{xs:List V}{g:TG}{tb:TS}{D:Ends}{σ:St}{H:Hp}(Pv:Nat->St->Hp->Prop)(h0:Pv 0 σ H)(hl:∀i σ H,i<=xs.length->Pv i σ H->BJ K H a xs)
  (hs:∀i x σ H,xs[i]?=some x->Pv i σ H->g x σ H λσ2 H2=>tb {D with nx:=Pv (i+1),ct:=Pv (i+1),bk:=D.nx} σ2 H2)(hd:∀σ H,Pv xs.length σ H->D.nx σ H) :
  ∃W:Nat->Nat->St->Hp->Prop,(∃m,W 0 m σ H)/\∀i m σ H,W i m σ H ->
   ((IW K a).stop i H/\D.nx σ H)\/((IW K a).go i H/\∃N:St->Hp->Prop,(∀σ' H',N σ' H'->∃I,I<m/\W (i+1) I σ' H')/\∀x H',(IW K a).GF i H x H'->g x σ H' λσ2 H2=>tb {D with nx:=N,ct:=N,bk:=D.nx} σ2 H2):=by
 show Aq (λi m σ H=>m=xs.length-i/\i<=xs.length/\Pv i σ H) (Bx xs.length (by simp) (LN _) h0) ?_;rintro i m σ H ⟨rfl,hi,p⟩;have q:=hl i σ H hi p;by_cases O:i<xs.length
 .show .inr ⟨(C6 xs (xs[i]) q (by simp[O])),(Aq (Pv (i+1)) (λσ' H' Y=>(Dh (xs.length-(i+1)) (by omega) rfl O Y)) λx H' y=>?_)⟩;obtain⟨e,y⟩:=y;subst e;show hs i x σ _ (y xs q) p
 .have e:i=xs.length:=by omega
  subst e;show .inl ⟨(Aq xs q (JV _)),hd σ H p⟩
def Js {lo:Int}{n:Nat}{g:TG}{tb:TS}{D:Ends}{σ:St}{H:Hp}(Pv:Nat->St->Hp->Prop)(h0:Pv 0 σ H)
  (hs:∀i σ H,i<n->Pv i σ H->g (.int (lo+i)) σ H λσ2 H2=>tb {D with nx:=Pv (i+1),ct:=Pv (i+1),bk:=D.nx} σ2 H2)(hd:∀σ H,Pv n σ H->D.nx σ H) :
  ∃W:Nat->Nat->St->Hp->Prop,(∃m,W 0 m σ H)/\∀i m σ H,W i m σ H ->
   ((Itr lo n).stop i H/\D.nx σ H)\/((Itr lo n).go i H/\∃N:St->Hp->Prop,(∀σ' H',N σ' H'->∃O,O<m/\W (i+1) O σ' H')/\∀x H',(Itr lo n).GF i H x H'->g x σ H' λσ2 H2=>tb {D with nx:=N,ct:=N,bk:=D.nx} σ2 H2):=by
 show Aq (λi m σ H=>m=n-i/\i<=n/\Pv i σ H) (Bx n (by simp) (LN _) h0) ?_;rintro i m σ H ⟨rfl,hi,p⟩;by_cases I:i<n
 .show .inr ⟨I,(Aq (Pv (i+1)) (λσ' H' Y=>(Dh (n-(i+1)) (by omega) rfl I Y)) λx H' y=>?_)⟩;obtain⟨e,y⟩:=y;subst e y;show hs i σ _ I p
 .have e:i=n:=by omega
  subst e;show .inl ⟨JV _,hd σ H p⟩
abbrev R2:=V->V->Hp->VK->Prop
def CO (X:Cx)(f:Value->Value->Sem Value)(r:R2):Prop:=
 ∀(pins:Ej) (s:Shared) (σ:St) (H:Hp) (x y:V) (v u:Value) (Q:VK),Inv X pins σ H s->RelV x v->RelV y u->r x y H Q ->
  wpAny (model X.prog X.w) X.A (f v u) (EP X pins σ Q) X.xe s
def UnR (X:Cx)(f:Value->Sem Value)(r:V->Hp->VK->Prop):Prop:=
 ∀(pins:Ej) (s:Shared) (σ:St) (H:Hp) (x:V) (v:Value) (Q:VK),Inv X pins σ H s->RelV x v->r x H Q ->
  wpAny (model X.prog X.w) X.A (f v) (EP X pins σ Q) X.xe s
def BD (X:Cx)(f:Value)(r:List V->Hp->VK->Prop):Prop:=
 ∀(pins:Ej) (s:Shared) (σ:St) (H:Hp) (xs:List V) (us:List Value) (Q:VK),Inv X pins σ H s->AK xs us->r xs H Q ->
  wpAny (model X.prog X.w) X.A (call f us) (EP X pins σ Q) X.xe s
def JM (r:R2)(ta tb:TE):TE:=λσ H Q=>ta σ H λx H1=>tb σ H1 λy H2=>r x y H2 Q
def tUn (r:V->Hp->VK->Prop)(ta:TE):TE:=λσ H Q=>ta σ H λx H1=>r x H1 Q
def rI (C:Int->Int->Prop)(g:Int->Int->V):R2:=λx y H Q=>∃i j,x=.int i/\y=.int j/\C i j/\Q (g i j) H
def rI0 (g:Int->Int->V):R2:=λx y H Q=>∃i j,x=.int i/\y=.int j/\Q (g i j) H
def rU (g:Int->V):V->Hp->VK->Prop:=λx H Q=>∃i,x=.int i/\Q (g i) H
section
def binT (ha:PE X a ta)(hb:PE X b tb){pins:Ej}{s:Shared}{σ:St}{H:Hp}{R:V->V->Hp->Prop}(I:Inv X pins σ H s)
  (h:ta σ H λx H1=>tb σ H1 λy H2=>R x y H2){Q:Bo}{f:Value->Value->Sem Value}
  (hf:∀v u s2 x y H2,Inv X pins σ H2 s2->RelV x v->RelV y u->R x y H2->wpAny (model X.prog X.w) X.A (f v u) Q X.xe s2) :
  wpAny (model X.prog X.w) X.A (eval a X.env) (λv s₁=>wpAny (model X.prog X.w) X.A (eval b X.env) (λu s₂=>wpAny (model X.prog X.w) X.A (f v u) Q X.xe s₂) X.xe s₁) X.xe s:=by
 show AT (ha pins s σ H _ I h) λv s1 ⟨x,H1,O,r1,q1⟩=>AT (hb pins s1 σ H1 _ O q1) λu s2 ⟨y,H2,Y,r2,q2⟩=>hf v u s2 x y H2 Y r1 r2 q2
def pe_op (Y:CO X (binaryOp op) r)(ha:PE X a ta)(hb:PE X b tb):PE X (.BinOp a op b pos) (JM r ta tb):=by
 intro pins s σ H Q I h;show wpAny_BinOp (binT ha hb I h λv u s2 x y H2 O rx ry q=>Y pins s2 σ H2 x y v u Q O rx ry q)
def pe_un {r:V->Hp->VK->Prop}(Y:UnR X (unaryOp op) r)(ha:PE X a ta):PE X (.UnaryOp op a pos) (tUn r ta):=by
 intro pins s σ H Q I h;show UnaryOp_ (AT (ha pins s σ H _ I h) λv s1 ⟨x,H1,O,r1,q1⟩=>Y pins s1 σ H1 x v Q O r1 q1)
def opI {f:Value->Value->Sem Value}{C:Int->Int->Prop}{g:Int->Int->Int}
  (rule:∀(i j:Int) (t u:Tok) (s:Shared) (Q:Bo) (E:Bo),C i j->Q (.int (g i j) s.toks) {s with toks:=s.toks+1}->wpAny (model X.prog X.w) X.A (f (.int i t) (.int j u)) Q E s) :
  CO X f (rI C λi j=>.int (g i j)):=by
 intro pins s σ H x y v u Q I Y ry h;show Ia h λi j z1 z2 O q=>?_;subst z1 z2;obtain⟨t,rfl⟩:=Y;obtain⟨t',rfl⟩:=ry;show rule i j t t' s _ _ O (Al (.int (g i j)) H (I.tok _) ⟨_,rfl⟩ q)
def opI0 {f:Value->Value->Sem Value}{g:Int->Int->Int}
  (rule:∀(i j:Int) (t u:Tok) (s:Shared) (Q:Bo) (E:Bo),Q (.int (g i j) s.toks) {s with toks:=s.toks+1}->wpAny (model X.prog X.w) X.A (f (.int i t) (.int j u)) Q E s) :
  CO X f (rI0 λi j=>.int (g i j)):=by
 intro pins s σ H x y v u Q I O Y h;show A0 h λi j z1 z2 q=>?_;subst z1 z2;obtain⟨t,rfl⟩:=O;obtain⟨t',rfl⟩:=Y;show rule i j t t' s _ _ (Al (.int (g i j)) H (I.tok _) ⟨_,rfl⟩ q)
def opB0 {f:Value->Value->Sem Value}{g:Int->Int->Bool}
  (rule:∀(i j:Int) (t u:Tok) (s:Shared) (Q:Bo) (E:Bo),Q (.bool (g i j)) s->wpAny (model X.prog X.w) X.A (f (.int i t) (.int j u)) Q E s) :
  CO X f (rI0 λi j=>.bl (g i j)):=by
 intro pins s σ H x y v u Q I O Y h;show A0 h λi j z1 z2 q=>?_;subst z1 z2;obtain⟨t,rfl⟩:=O;obtain⟨t',rfl⟩:=Y;show rule i j t t' s _ _ (Al (.bl (g i j)) H I rfl q)
def CDiv (i j:Int):Prop:=0<j/\j<1073741824
def CMul (i j:Int):Prop:=(-(2 ^ 64)<i/\i<2 ^ 64)\/(-(2 ^ 64)<j/\j<2 ^ 64)
def CMul.ok (h:CMul i j):IntMulOk i j:=by
 rcases h with⟨h1,h2⟩|⟨h1,h2⟩
 .show .of_left (intBits_le_64 h1 h2)
 .show .of_right (intBits_le_64 h1 h2)
def Fg:CO X (binaryOp .Add) (rI0 λi j=>.int (i+j)):=opI0 λ_ _ _ _ _ _ _ q=>add_int q
def Gj:CO X (binaryOp .Sub) (rI0 λi j=>.int (i-j)):=opI0 λ_ _ _ _ _ _ _ q=>sub_int q
def Gk:CO X (binaryOp .Mult) (rI CMul λi j=>.int (i*j)):=opI λ_ _ _ _ _ _ _ I q=>mul_int q I.ok
def Cr:CO X (binaryOp .FloorDiv) (rI CDiv λi j=>.int (i/j)):=opI λi j _ _ _ _ _ I q=>by
 have h1:(0:Int)<j:=I.1;have h2:j<1073741824:=I.2;show floordiv_int (by omega) (by rw[Int.fdiv_eq_ediv_of_nonneg i (by omega)];show q) (.inl (PyProof.noPylong_small (by omega)))
def Bl:CO X (binaryOp .Mod) (rI (λ_ j=>0<j) λi j=>.int (i%j)):=opI λi j _ _ _ _ _ I q=>by
 have h1:(0:Int)<j:=I;show mod_int' (by omega) (by rw[Int.fmod_eq_emod_of_nonneg i (by omega)];show q)
def unI {f:Value->Sem Value}{g:Int->Int}
  (rule:∀(i:Int) (t:Tok) (s:Shared) (Q:Bo) (E:Bo),Q (.int (g i) s.toks) {s with toks:=s.toks+1}->wpAny (model X.prog X.w) X.A (f (.int i t)) Q E s) :
  UnR X f (rU λi=>.int (g i)):=by
 intro pins s σ H x v Q I O h;show Am h λi z1 q=>?_;subst z1;obtain⟨t,rfl⟩:=O;show rule i t s _ _ (Al (.int (g i)) H (I.tok _) ⟨_,rfl⟩ q)
def Vp:UnR X (unaryOp .USub) (rU λi=>.int (-i)):=unI λ_ _ _ _ _ q=>neg_int q
end
noncomputable def scal:V->V->Bool
 | .BI,.BI=>true|.BI,.int _=>true|.int _,.BI=>true|.BI,.bl _=>true|.bl _,.BI=>true|.BI,.str _=>true|.str _,.BI=>true
 | .int _,.int _=>true|.bl _,.bl _=>true|.str _,.str _=>true|.JP _,.JP _=>true
 | .int _,.str _=>true|.str _,.int _=>true|.bl _,.str _=>true|.str _,.bl _=>true
 | _,_=>false
def rEq:R2:=λx y H Q=>scal x y=true/\Q (.bl (decide (x=y))) H
def rNe:R2:=λx y H Q=>scal x y=true/\Q (.bl (!decide (x=y))) H
def Aj0:decide (V.int i=V.int j)=(i==j):=by
 rw[ON];simp
def dec_bl:decide (V.bl i=V.bl j)=(i==j):=by
 rw[ON];simp
def Iy:decide (V.str i=V.str j)=(i==j):=by
 rw[ON];simp
def Aj1:decide (V.JP i=V.JP j)=(i.toList==j.toList):=by
 rw[ON];cases i;cases j;simp
section
def Cp (I:Inv X pins σ H s)(q:Q (.bl k) H)(e:k=k'):EP X pins σ Q (.bool k') s:=by
 subst e;show Al (.bl k) H I rfl q
def Cf:CO X (compareOp .Eq) rEq:=by
 intro pins s σ H x y v u Q I Y O h;obtain⟨hs,q⟩:=h
 cases x with
 | BI=>
  cases Y
  cases y with
  | BI=>cases O;show PySem.EqNone.eq_none_none (Cp I q (by simp))
  | bl j=>cases O;show PySem.EqNone.eq_none_bool (Cp I q (by simp))
  | int j=>obtain⟨t',rfl⟩:=O;show PySem.EqNone.eq_none_int (Cp I q (by simp))
  | str j=>obtain⟨t',rfl⟩:=O;show PySem.EqNone.eq_none_str (Cp I q (by simp))
  | _=>show absurd (show false=true from hs) LA
 | bl i=>
  cases Y
  cases y with
  | BI=>cases O;show PySem.EqNone.eq_bool_none (Cp I q (by simp))
  | bl j=>cases O;show eq_bool (Cp I q dec_bl)
  | str j=>obtain⟨t',rfl⟩:=O;show PySem.EqMixed.eq_bool_str (Cp I q (by simp))
  | _=>show absurd (show false=true from hs) LA
 | int i=>
  obtain⟨t,rfl⟩:=Y
  cases y with
  | BI=>cases O;show PySem.EqNone.eq_int_none (Cp I q (by simp))
  | int j=>obtain⟨t',rfl⟩:=O;show eq_int (Cp I q Aj0)
  | str j=>obtain⟨t',rfl⟩:=O;show PySem.EqMixed.eq_int_str (Cp I q (by simp))
  | _=>show absurd (show false=true from hs) LA
 | str i=>
  obtain⟨t,rfl⟩:=Y
  cases y with
  | BI=>cases O;show PySem.EqNone.eq_str_none (Cp I q (by simp))
  | bl j=>cases O;show PySem.EqMixed.eq_str_bool (Cp I q (by simp))
  | int j=>obtain⟨t',rfl⟩:=O;show PySem.EqMixed.eq_str_int (Cp I q (by simp))
  | str j=>obtain⟨t',rfl⟩:=O;show eq_str (Cp I q Iy)
  | _=>show absurd (show false=true from hs) LA
 | JP i=>
  obtain⟨t,rfl⟩:=Y
  cases y with
  | JP j=>obtain⟨t',rfl⟩:=O;show PySem.W.eq_bytes (Cp I q Aj1)
  | _=>show absurd (show false=true from hs) LA
 | _=>cases y<;>show absurd (show false=true from hs) LA
def Su:CO X (compareOp .NotEq) rNe:=by
 intro pins s σ H x y v u Q I Y O h;obtain⟨hs,q⟩:=h
 cases x with
 | BI=>
  cases Y
  cases y with
  | BI=>cases O;show PySem.EqNone.ne_none_none (Cp I q (by simp))
  | bl j=>cases O;show PySem.EqNone.ne_none_bool (Cp I q (by simp))
  | int j=>obtain⟨t',rfl⟩:=O;show PySem.EqNone.ne_none_int (Cp I q (by simp))
  | str j=>obtain⟨t',rfl⟩:=O;show PySem.EqNone.ne_none_str (Cp I q (by simp))
  | _=>show absurd (show false=true from hs) LA
 | bl i=>
  cases Y
  cases y with
  | BI=>cases O;show PySem.EqNone.ne_bool_none (Cp I q (by simp))
  | bl j=>cases O;show ne_bool (Cp I q (LM not dec_bl))
  | str j=>obtain⟨t',rfl⟩:=O;show PySem.EqMixed.ne_bool_str (Cp I q (by simp))
  | _=>show absurd (show false=true from hs) LA
 | int i=>
  obtain⟨t,rfl⟩:=Y
  cases y with
  | BI=>cases O;show PySem.EqNone.ne_int_none (Cp I q (by simp))
  | int j=>obtain⟨t',rfl⟩:=O;show ne_int (Cp I q (LM not Aj0))
  | str j=>obtain⟨t',rfl⟩:=O;show PySem.EqMixed.ne_int_str (Cp I q (by simp))
  | _=>show absurd (show false=true from hs) LA
 | str i=>
  obtain⟨t,rfl⟩:=Y
  cases y with
  | BI=>cases O;show PySem.EqNone.ne_str_none (Cp I q (by simp))
  | bl j=>cases O;show PySem.EqMixed.ne_str_bool (Cp I q (by simp))
  | int j=>obtain⟨t',rfl⟩:=O;show PySem.EqMixed.ne_str_int (Cp I q (by simp))
  | str j=>obtain⟨t',rfl⟩:=O;show ne_str (Cp I q (LM not Iy))
  | _=>show absurd (show false=true from hs) LA
 | JP i=>
  obtain⟨t,rfl⟩:=Y
  cases y with
  | JP j=>obtain⟨t',rfl⟩:=O;show PySem.W.ne_bytes (Cp I q (LM not Aj1))
  | _=>show absurd (show false=true from hs) LA
 | _=>cases y<;>show absurd (show false=true from hs) LA
def Yq:CO X (compareOp .Lt) (rI0 λi j=>.bl (decide (i<j))):=opB0 λ_ _ _ _ _ _ _ q=>lt_int q
def Oh:CO X (compareOp .LtE) (rI0 λi j=>.bl (decide (i<=j))):=opB0 λ_ _ _ _ _ _ _ q=>le_int q
def E8:CO X (compareOp .Gt) (rI0 λi j=>.bl (decide (j<i))):=opB0 λ_ _ _ _ _ _ _ q=>gt_int q
def op_ge:CO X (compareOp .GtE) (rI0 λi j=>.bl (decide (j<=i))):=opB0 λ_ _ _ _ _ _ _ q=>ge_int q
def Wp:CO X (compareOp .Is) (λx y H Q=>y=.BI/\Q (.bl (decide (x=.BI))) H):=by
 intro pins s σ H x y v u Q I O Y h;obtain⟨rfl,q⟩:=h;cases Y;show is_none_gen (Cp I q ?_);cases x<;>first
  | (cases O;rfl)
  | (obtain⟨t,rfl⟩:=O;rfl)
def op_notN:CO X (compareOp .IsNot) (λx y H Q=>y=.BI/\Q (.bl (!decide (x=.BI))) H):=by
 intro pins s σ H x y v u Q I O Y h;obtain⟨rfl,q⟩:=h;cases Y;show isnot_none_gen (Cp I q ?_);cases x<;>first
  | (cases O;rfl)
  | (obtain⟨t,rfl⟩:=O;rfl)
def nomark (b:Expr)(h:op≠.In:=by decide)(h2:op≠.NotIn:=by decide):behindInMarks op b=false:=by
 have e1:(op==CmpOp.In)=false:=by cases op<;>first|rfl|show absurd rfl h
 have e2:(op==CmpOp.NotIn)=false:=by cases op<;>first|rfl|show absurd rfl h2
 cases b<;>simp[behindInMarks,e1,e2]
def pe_cmpR (Y:CO X (compareOp op) r)(ha:PE X a ta)(hb:PE X b tb)(hm:behindInMarks op b=false):PE X (.Compare a [op] [b] pos) (JM r ta tb):=by
 intro pins s σ H Q I h;show wpAny_Compare1 (binT ha hb I h λv u s2 x y H2 O rx ry q=>Y pins s2 σ H2 x y v u Q O rx ry q) hm
def Yc (t:TE):TT:=λσ H Q=>t σ H λx H'=>∃k,x=.bl k/\Q k H'
def pt_cmpR (ho:CO X (compareOp op) r)(ha:PE X a ta)(hb:PE X b tb)(hm:behindInMarks op b=false):PT X (.Compare a [op] [b] pos) (Yc (JM r ta tb)):=by
 intro pins s σ H Q I h
 show wpAny_isTrue_Compare1 (AT (ha pins s σ H _ I h) λv s1 ⟨x,H1,O,r1,q1⟩=>AT (hb pins s1 σ H1 _ O q1) λu s2 ⟨y,H2,Y,r2,q2⟩=>
  AT (ho pins s2 σ H2 x y v u _ Y r1 r2 q2) λc s3 ⟨z,H3,I3,r3,k,e,q3⟩=>?_) hm
 subst e;cases r3;show MU (Aq H3 I3 q3)
def Vw (r O:R2)(ta tb Y:TE):TE:=λσ H Q=>ta σ H λx H1=>tb σ H1 λy H2=>r x y H2 λz H3=>∃k,z=.bl k /\
 (if k=true then Y σ H3 λw' I=>O y w' I Q else Q (.bl false) H3)
def pe_chain (ho:CO X (compareOp op) r)(a2:CO X (compareOp a0) r')(ha:PE X a ta)(hb:PE X b tb)(hc:PE X c tc)
  (hm:lastMarks [op,a0] [b,c]=false:=by with_unfolding_all rfl):PE X (.Compare a [op,a0] [b,c] pos) (Vw r r' ta tb tc):=by
 intro pins s σ H Q a1 h
 show Compare_chain (AT (ha pins s σ H _ a1 h) λv s1 ⟨x,H1,I1,r1,q1⟩=>chain_link (AT (hb pins s1 σ H1 _ I1 q1) λu s2 ⟨y,H2,I2,Y,q2⟩=>
  AT (ho pins s2 σ H2 x y v u _ I2 r1 Y q2) λd s3 ⟨z,H3,I,r3,k,e,O⟩=>?_)) hm
 subst e;cases r3;show MU ?_
 cases k with
 | false=>show ite_ff (Al (.bl false) H3 I rfl O)
 | true=>show ite_tt (chain_last (AT (hc pins s3 σ H3 _ I O) λw' s4 ⟨z',H4,I4,r4,q4⟩=>a2 pins s4 σ H4 y z' u w' Q I4 Y r4 q4))
def At9 (ho:CO X (compareOp op) r)(a2:CO X (compareOp a0) r')(ha:PE X a ta)(hb:PE X b tb)(hc:PE X c tc)
  (hm:lastMarks [op,a0] [b,c]=false:=by with_unfolding_all rfl):PT X (.Compare a [op,a0] [b,c] pos) (Yc (Vw r r' ta tb tc)):=by
 intro pins s σ H Q a1 h
 show isTrue_chain (AT (ha pins s σ H _ a1 h) λv s1 ⟨x,H1,I1,r1,q1⟩=>test_link (AT (hb pins s1 σ H1 _ I1 q1) λu s2 ⟨y,H2,I2,Y,q2⟩=>
  AT (ho pins s2 σ H2 x y v u _ I2 r1 Y q2) λd s3 ⟨z,H3,I,r3,k,e,O⟩=>?_)) hm
 subst e;cases r3;show MU ?_
 cases k with
 | false=>
  show Am O λk' e' q'=>?_;cases e';show ite_ff (Aq H3 I q')
 | true=>
  show ite_tt (test_last (AT (hc pins s3 σ H3 _ I O) λw' s4 ⟨z',H4,I4,r4,q4⟩=>AT (a2 pins s4 σ H4 y z' u w' _ I4 Y r4 q4) λd' s5 ⟨z2,H5,I5,r5,k2,e2,q5⟩=>?_));subst e2;cases r5;show MU (Aq H5 I5 q5)
def Tg:(sizeLine:Nat)<2 ^ 63:=by rw[LJ];decide
def Ff:CO X (binaryOp .Add) (λx y H Q=>∃i j,x=.str i/\y=.str j/\i.length+j.length<=sizeLine/\Q (.str (i++j)) H):=by
 intro pins s σ H x y v u Q I Y ry h;show Ia h λi j z1 z2 O q=>?_;subst z1 z2;obtain⟨t,rfl⟩:=Y;obtain⟨t',rfl⟩:=ry;show add_str (λt' tk=>(Al (.str (i++j)) H (I.tok _) ⟨_,rfl⟩ q)) O
def Jj (r:AK [x] us):∃u,us=[u]/\RelV x u:=by
 cases r with
 | cons I O=>cases O;show Ad rfl I
def Ae2 (r:AK [x,y] us):∃u I,us=[u,I]/\RelV x u/\RelV y I:=by
 cases r with
 | cons O Y=>
  cases Y with
  | cons r3 r4=>cases r4;show Aw rfl O r3
def Vg (Y:X.calm=true):BD X (.builtin "max") (λxs H Q=>∃i j,xs=[.int i,.int j]/\Q (.int (if j>i then j else i)) H):=by
 intro pins s σ H xs us Q I r h;show C8 h λi j z1 q=>?_;subst z1;show A0 (Ae2 r) λu w' z1 z2 z3=>?_;subst z1;obtain⟨t,rfl⟩:=z2;obtain⟨t',rfl⟩:=z3;show max_two_ints (I.ok.hd Y) λh' tk k=>(Al _ H (I.kept k) ?_ q);by_cases O:j>i
 .rw [KJ O,KJ O];show⟨_,rfl⟩
 .rw [KH O,KH O];show⟨_,rfl⟩
def Qn:BD X (.type "int") (λxs H Q=>(∃i,xs=[.int i]/\Q (.int i) H)\/∃k,xs=[.bl k]/\Q (.int (if k then 1 else 0)) H):=by
 intro pins s σ H xs us Q I r h;rcases h with⟨i,rfl,q⟩|⟨k,rfl,q⟩
 .show Am (Jj r) λu z1 z2=>?_;subst z1;obtain⟨t,rfl⟩:=z2;show call_int_int (Al (.int i) H I ⟨_,rfl⟩ q)
 .show Am (Jj r) λu z1 O=>?_;subst z1;cases O;show call_int_bool (Al (.int (if k then 1 else 0)) H (I.tok _) ⟨_,rfl⟩ q)
def FE:BD X (.type "str") (λxs H Q=>∃i,xs=[.int i]/\i.natAbs.log2<1920/\Q (.str (toString i)) H):=by
 intro pins s σ H xs us Q I r h;show Bg h λi z1 O q=>?_;subst z1;show Am (Jj r) λu z1 z2=>?_;subst z1;obtain⟨t,rfl⟩:=z2;show PySem.P.str_of_int O (Al (.str _) H (I.tok _) ⟨_,rfl⟩ q)
end
structure JG (h:Heap)(x dx C:Addr)(mA:Cb):Prop where
 obj:h.get? x=some (PySem.W.instObj C dx)
 ns:h.Ns1 dx mA
 ne:dx≠x
def Am8 {h:Heap}{dx:Addr}{mA:Cb}(n:h.Ns1 dx mA):∃od,h.get? dx=some od/\∀name,PySem.W.lookIn name od=some (mA name):=by
 show L9 n λo es ep O hd hk _ hm=>Aq o O λname=>?_;have e:=hm name;unfold nsFind findBy at e;rw[← Array.find?_toList]at e;unfold PySem.W.lookIn;rw[hd];dsimp only;split
 .rename_i y q;rw[q]at e;show LM some e
 .rename_i q;rw[q]at e;have a:es.toList.any (·.refKey)=false:=by
   rw[List.any_eq_false];intro y Y;show Zt (hk y (Array.mem_toList_iff.mp Y)) λz t a0=>?_;simp[DictEntry.refKey,a0]
  have I:¬es.toList.any (·.refKey)=true:=by rw[a];show LA
  rw[KH I];show LM some e
def JG.look (I:JG h x dx C mA):∃od,PySem.W.InstAt h x (PySem.W.instObj C dx) C (some od)/\∀name,PySem.W.lookIn name od=some (mA name):=
 let ⟨od,O,hl⟩:=Am8 I.ns
 (Aq od ⟨I.obj,rfl,rfl,O⟩ hl)
section
variable {prog:Program}{w:World}{A:Around}{E:Bo}{s:Shared}{K:Av}{x dx C f:Addr}{mA:Cb}{name:Str}{v:Value}
def get_map {Q:Bo}(X:K.In s.heap)(I:JG s.heap x dx C mA)(hg:PySem.W.plainGet K C name=true)(O:PySem.W.hasDictIn K C=true)
  (ha:PySem.W.findIn K (.ref C) name=some none)(Y:mA name=some v)(a0:PySem.W.handedIn v=true)(h:Q v {s with toks:=s.toks+1}) :
  wpAny (model prog w) A (getAttr (.ref x) name a1) Q E s:=by
 show Am I.look λod J hl=>PySem.W.get_value X J (PySem.W.plainGet_of hg).1 (PySem.W.findObj_own O ha rfl (by rw[hl,Y])) a0 h
def set_map {Q:Uo}(X:K.In s.heap)(I:JG s.heap x dx C mA)
  (hs:PySem.W.findIn K (.ref C) "__setattr__"=some (some (.builtin "object.__setattr__")))(hp:PySem.W.plainOver K C=true)(ht:PySem.W.takerIn K C name=some none)(hh:PySem.W.hasDictIn K C=true)
  (hw:PySem.Within mA ns)(hsz:ns.length<=sizeLine)
  (h:∀h',JG h' x dx C (λy=>if y=name then some v else mA y)->Heap.SameBut dx s.heap h'->Q () {s with heap:=h',toks:=s.toks+2}) :
  wpAny (model prog w) A (setAttr (.ref x) name v) Q E s:=by
 show Am I.look λod J hl=>PySem.W.set_plain X J hs (PySem.W.osa_open (s:={s with toks:=s.toks+1}) (r:=none) X J hp ht λb=>Am (PySem.W.any_some hh) λcd hc a1=>?_);have hx:s.heap.get? x=some ⟨.ref C,some dx,.plain,#[]⟩:=I.obj;show JQ (JW (JQ (JQ (wpAny_loadPart hx (JQ (PySem.W.Looks.here (s:={s with toks:=s.toks+1}) (PySem.W.looks_clsIn X hc) ?_))))));rw[a1];show JW (a:=some dx) (JQ (JW (JQ (wpAny_nsSet1 (s:={s with toks:=s.toks+1}) I.ns λh' O Y=>He (O.count (PySem.Within.cons name v hw)) λoD a5 a4 a3 a2 a0=>?_))));show JQ (wpAny_lookBehind a3 (by rw[a2];show pastItsLine_dict (KN a0 (by rw[KC];omega))) (JW (h _ ⟨(Y.2 _ (OO I.ne)).trans I.obj,O,I.ne⟩ Y)))
def make_map {R:Result->Shared->Prop}(X:K.In s.heap)(hm:PySem.W.makesIn K C=true)
   (hi:PySem.W.findIn K (.ref C) "__init__"=some (some (.ref f)))(hf:PySem.W.typeIn K (.ref f)=some (.type "function"))
   (h:codeAny (model prog w) (A.under (.builtin "type.__call__" ⟨.ref C::vs,kw⟩)) (.call (.ref f) ⟨.ref (s.heap.objs.size+1)::vs,kw⟩) (PySem.W.InitBack (s.heap.objs.size+1) R)
     {s with heap:=(s.heap.push PySem.W.emptyDict).push (PySem.W.instObj C s.heap.objs.size)}) :
   codeAny (model prog w) A (.call (.ref C) ⟨vs,kw⟩) R s:=by
 obtain⟨I,g,d,t,os⟩:=s;show PySem.W.make_core (PySem.W.makes_of X hm) (PySem.W.looks_findIn X hi) (λself=>PySem.W.bind_fn X self hf) (.inl rfl) h
end
noncomputable def Ie (f:Str)(v:V):List (Str×V)->List (Str×V)
 | []=>[(f,v)]
 | (g,x)::r=>if g=f then(g,v)::r else(g,x)::Ie f v r
theorem Cz (f g:Str)(v:V):∀fs:List (Str×V),(Ie f v fs).lookup g=if g=f then some v else fs.lookup g
 | []=>by
  show List.lookup g [(f,v)]=_
  by_cases h:g=f
  .have hb:(g==f)=true:=RB.mpr h;simp only[List.lookup,hb,KJ h]
  .have hb:(g==f)=false:=MS.mpr h;simp only[List.lookup,hb,KH h]
 | (k,x)::r=>by
  have I:=Cz f g v r;rw[show Ie f v ((k,x)::r)=(if k=f then(k,v)::r else(k,x)::Ie f v r)from rfl];by_cases hk:k=f
  .rw [KJ hk];by_cases h:g=k
   .have hb:(g==k)=true:=RB.mpr h;simp only[List.lookup,hb,KJ (h.trans hk)]
   .have hb:(g==k)=false:=MS.mpr h;simp only[List.lookup,hb,KH (λe:g=f=>h (e.trans hk.symm))]
  .rw [KH hk];by_cases h:g=k
   .have hb:(g==k)=true:=RB.mpr h;simp only[List.lookup,hb,KH (λe:g=f=>hk (h.symm.trans e))]
   .have hb:(g==k)=false:=MS.mpr h;simp only[List.lookup,hb];show I
theorem Qc (f:Str)(v:V):∀fs:List (Str×V),f∈(Ie f v fs).map (·.1)/\∀g,g∈fs.map (·.1)->g∈(Ie f v fs).map (·.1)
 | []=>⟨by simp[Ie],λg h=>by simp at h⟩
 | (k,x)::r=>by
  obtain⟨i1,i2⟩:=Qc f v r;rw[show Ie f v ((k,x)::r)=(if k=f then(k,v)::r else(k,x)::Ie f v r)from rfl];by_cases hk:k=f
  .rw [KJ hk];subst hk;show⟨by simp,λg h=>by simpa using h⟩
  .rw [KH hk];show⟨?_,λg h=>?_⟩
   .rw [KE];show JS _ i1
   .rw [KE]at h ⊢
    rcases JT.mp h with e|e
    .show JT.mpr (.inl e)
    .show JS _ (i2 g e)
theorem Qv (f:Str)(v:V):∀fs:List (Str×V),(Ie f v fs).length<=fs.length+1
 | []=>by simp[Ie]
 | (k,x)::r=>by
  have I:=Qv f v r;rw[show Ie f v ((k,x)::r)=(if k=f then(k,v)::r else(k,x)::Ie f v r)from rfl];by_cases hk:k=f
  .rw [KJ hk,KC,KC];omega
  .rw [KH hk,KC,KC];omega
def ET.some_of (r:ET (some v) o):∃u,o=some u/\RelV v u:=by
 cases o with
 | none=>show(show False from r).elim
 | some u=>show Aq u rfl r
def An6 (r:RelV v u):PySem.W.handedIn u=true:=by
 cases v with
 | BI=>cases(show u=Value.none from r);rfl
 | bl b=>cases(show u=Value.bool b from r);rfl
 | int i=>obtain⟨t,e⟩:=(show ∃t,u=Value.int i t from r);cases e;rfl
 | str x=>obtain⟨t,e⟩:=(show ∃t,u=Value.str x t from r);cases e;rfl
 | JP b=>obtain⟨t,e⟩:=(show ∃t,u=Value.bytes b t from r);cases e;rfl
 | flt b=>obtain⟨t,e⟩:=(show ∃t,u=Value.float b t from r);cases e;rfl
 | ref a=>cases(show u=Value.ref a from r);rfl
 | ty n=>cases(show u=Value.type n from r);rfl
section
def Xm (AU:CV P w H h)(e:H a=some (.ins C dx fs)):∃mA,JG h a dx C mA/\(∀f,ET (fs.lookup f) (mA f))/\PySem.Within mA (fs.map (·.1))/\fs.length<=1000/\H dx=some (.own a):=by
 show Ma ((show AV P w H h a (.ins C dx fs)from AU a _ e)) λd z ne ob z1=>Bg z1 λmA n r q=>Rg mA ⟨ob,n,ne⟩ r q z d
end
structure Cls (K:Av)(C:Addr):Prop where
 pg:PySem.W.plainGet K C Str.empty=true
 hd:PySem.W.hasDictIn K C=true
 po:PySem.W.plainOver K C=true
 sa:PySem.W.findIn K (.ref C) "__setattr__"=some (some (.builtin "object.__setattr__"))
def Cls.get {K:Av}{C:Addr}(c:Cls K C)(f:Str):PySem.W.plainGet K C f=true:=c.pg
def BP (K:Av)(C:Addr)(f:Str):Prop:=PySem.W.findIn K (.ref C) f=some none
def BP.taker {K:Av}{C:Addr}{f:Str}(n:BP K C f):PySem.W.takerIn K C f=some none:=by
 unfold PySem.W.takerIn;rw[show PySem.W.findIn K (.ref C) f=some none from n];rfl
section
variable {E:Bo}
def Ad5 {Q:Bo}(I:Inv X pins σ H s)(e:H a=some (.ins C dx fs))(c:Cls X.K C)(n:BP X.K C f)(l:fs.lookup f=some v)
  (h:∀u s',Inv X pins σ H s'->RelV v u->Q u s'):wpAny (model X.prog X.w) A (getAttr (.ref a) f b) Q E s:=by
 show Tv (Xm I.AU e) λmA O r _ _ _=>?_;show Am (ET.some_of (v:=v) (o:=mA f) (by rw[← l];show r f)) λu hu Y=>get_map I.EE O (c.get f) c.hd n hu (An6 Y) (h u _ (I.tok _) Y)
def Aa8 {Q:Uo}(I:Inv X pins σ H s)(e:H a=some (.ins C dx fs))(c:Cls X.K C)(n:BP X.K C f)(hl:fs.length<1000)(ry:RelV y u)
  (h:∀s',Inv X pins σ (upd H a (.ins C dx (Ie f y fs))) s'->Q () s'):wpAny (model X.prog X.w) A (setAttr (.ref a) f u) Q E s:=by
 show Tv (Xm I.AU e) λmA O r wi _ ho=>?_;have hz:(fs.map (·.1)).length<=sizeLine:=by rw[JR,LJ];omega
 show set_map I.EE O c.sa c.po n.taker c.hd wi hz λh' Y sb=>h _ ?_;have hd:∃o,h'.get? dx=some o:=let ⟨o,_,_,e',_⟩:=Y.ns;⟨o,e'⟩
 show I.write (x:=a) (e:=dx) (by rw[e];show True.intro) (.inr ho) (λb q hb z=>(sb.2 b hb).trans z) hd ?_;show Fb (by rw[Aj O.ne];show ho) ?_ O.ne Y.obj (Bh Y.ns (λg=>?_) λg hg=>?_)
 .have:=Qv f y fs;omega
 .show ET ((Ie f y fs).lookup g) (if g=f then some u else mA g)
  rw[Cz];by_cases q:g=f
  .rw [KJ q,KJ q];show ry
  .rw [KH q,KH q];show r g
 .by_cases q:g=f
  .rw [q];show(Qc f y fs).1
  .show (Qc f y fs).2 g (wi g λz=>hg ?_)
   show(if g=f then some u else mA g)=none
   rw[KH q];show z
def Inv.made (I:Inv X pins σ H s):Inv X pins σ (upd (upd H s.heap.objs.size (.own (s.heap.objs.size+1))) (s.heap.objs.size+1) (.ins C s.heap.objs.size []))
  {s with heap:=(s.heap.push PySem.W.emptyDict).push (PySem.W.instObj C s.heap.objs.size)}:=by
 have e1:(s.heap.push PySem.W.emptyDict).get? s.heap.objs.size=some PySem.W.emptyDict:=KW s.heap rfl;have e2:((s.heap.push PySem.W.emptyDict).push (PySem.W.instObj C s.heap.objs.size)).get? (s.heap.objs.size+1)=some (PySem.W.instObj C s.heap.objs.size):=by
  have:=KW (s.heap.push PySem.W.emptyDict) (o:=PySem.W.instObj C s.heap.objs.size) rfl
  rwa [MY]at this
 have Y:(s.heap.push PySem.W.emptyDict).Ns s.heap.objs.size (λ_=>none):=(Ei PySem.W.emptyDict (#[]) _ e1 rfl (λe he=>absurd he (by simp)) λ_=>rfl);have O:=I.laid (a:=s.heap.objs.size) (o:=.own (s.heap.objs.size+1)) (h':=s.heap.push PySem.W.emptyDict) (t':=s.toks) (λb u q=>JU _ q) (JV _) ⟨_,e1⟩;show O.laid (a:=s.heap.objs.size+1) (o:=.ins C s.heap.objs.size []) (t':=s.toks) (λb u q=>JU _ q) (Of (MY _ _)) ?_;have ne:s.heap.objs.size≠s.heap.objs.size+1:=LF (Nat.lt_succ_self _);show Fb (by rw[Aj ne,Ah]) (LN _) ne e2 (Bx (λ_=>none) ((Heap.Ns1.of_empty Y).at λo q=>JU _ q) (λ_=>True.intro) λy hy=>absurd rfl hy)
def attr_of {Q:Bo}(hb:attributeBase e f env (eval e env)=eval e env)
  (h:wpAny (model prog w) A (eval e env) (λo I=>wpAny (model prog w) A (getAttr o f true) Q E I) E s):wpAny (model prog w) A (eval (.Attribute e f pos) env) Q E s:=
 Attribute_any_ h (by rw[arm_eval_Attribute,hb])
end
def tFld (K:Av)(ta:TE)(f:Str):TE:=λσ H Q=>ta σ H λx H1=>∃a C dx fs v,x=.ref a/\H1 a=some (.ins C dx fs)/\Cls K C/\BP K C f/\fs.lookup f=some v/\Q v H1
def sFld (K:Av)(ta I:TE)(f:Str):TS:=λD σ H=>I σ H λy H1=>ta σ H1 λx H2=>∃a C dx fs,x=.ref a/\H2 a=some (.ins C dx fs)/\Cls K C/\BP K C f/\fs.length<1000 /\
 D.nx σ (upd H2 a (.ins C dx (Ie f y fs)))
section
def pe_fld (he:PE X e ta)(hb:attributeBase e f X.env (eval e X.env)=eval e X.env):PE X (.Attribute e f pos) (tFld X.K ta f):=by
 intro pins s σ H Q I h;show attr_of hb (AT (he pins s σ H _ I h) λu s1 hq=>?_);show A0 hq λx H1 O rx z1=>Tu z1 λa C dx fs v ex ea c n l q=>?_;subst ex;obtain rfl:u=Value.ref a:=rx;show Ad5 O ea c n l λu' s2 Y ru=>(Al v H1 Y ru q)
def ps_fld (ha:PE X o ta)(hv:PE X O tv)(hs:swapsWith O (some (.Attribute o f a0)) pos.line X.env=pure false):PS X (.Assign [.Attribute o f a0] O pos) (sFld X.K ta tv f):=by
 intro pins s σ H D I h;show plainObj_wpAny_Assign_Attribute (AT (hv pins s σ H _ I h) λu s1 ⟨y,H1,Y,ry,q⟩=>AT (ha pins s1 σ H1 _ Y q) λov s2 hq=>?_) hs;show A0 hq λx H2 I2 rx z1=>Ox z1 λa C dx fs ex ea c n l q2=>?_;subst ex;obtain rfl:ov=Value.ref a:=rx;show Aa8 I2 ea c n l ry λs3 I3=>(C6 σ _ I3 q2)
end
section
variable {E:Bo}{Q:Bo}
inductive FV (K:Av)(H:Hp):V->Value->Prop where
 | BI:FV K H .BI (.type "NoneType")
 | bl (x:Bool):FV K H (.bl x) (.type "bool")
 | int (i:Int):FV K H (.int i) (.type "int")
 | str (x:Str):FV K H (.str x) (.type "str")
 | flt (x:UInt64):FV K H (.flt x) (.type "float")
 | lst {a:Addr} {xs:List V} (e:H a=some (.lst xs)):FV K H (.ref a) (.type "list")
 | EB {a:Addr} {o:Obj} {xs:List V} (e:H a=some (.EB o (.lst xs))):FV K H (.ref a) (.type "list")
 | tup {a:Addr} {xs:List V} (e:H a=some (.tup xs)):FV K H (.ref a) (.type "tuple")
 | dK {a:Addr} {kvs:List (Key×V)} (e:H a=some (.dK kvs)):FV K H (.ref a) (.type "dict")
 | dT {a:Addr} {kvs:List (List Key×V)} (e:H a=some (.dT kvs)):FV K H (.ref a) (.type "dict")
 | ins {a C dx:Addr} {fs:List (Str×V)} (e:H a=some (.ins C dx fs)) (cl:Cls K C) (ha:PySem.W.findIn K (.ref C) "__class__"=some (some (.builtin "object.__class__")))
   (hn:PySem.W.specialIn K (.builtin "object.__class__") "__get__"=some (some (.builtin "getset_descriptor.__get__")))(htk:PySem.W.takesIn K (.builtin "object.__class__")=some true)
   (hm:PySem.W.mroIn K C (.type "object")=some true):FV K H (.ref a) (.ref C)
def An3 (I:Inv X pins σ H s)(Y:RelV x u)(ty:FV X.K H x t)(e:PySem.W.kitOne X.K t c=some b)(h:∀tk,Q (.bool b) {s with toks:=tk}) :
  wpAny (model X.prog X.w) A (call (.builtin "isinstance") [u,c]) Q E s:=by
 cases ty with
 | BI=>cases(show u=Value.none from Y);show MM PySem.W.kitx_none I.EE True.intro e (λz=>nomatch z) h
 | bl y=>cases(show u=Value.bool y from Y);show MM PySem.W.kitx_bool I.EE True.intro e (λz=>nomatch z) h
 | int i=>obtain⟨t,q⟩:=(show ∃t,u=Value.int i t from Y);cases q;show MM PySem.W.kitx_int I.EE True.intro e (λz=>nomatch z) h
 | str y=>obtain⟨t,q⟩:=(show ∃t,u=Value.str y t from Y);cases q;show MM PySem.W.kitx_str I.EE True.intro e (λz=>nomatch z) h
 | flt y=>obtain⟨t,q⟩:=(show ∃t,u=Value.float y t from Y);cases q;show MM PySem.W.kitx_float I.EE True.intro e (λz=>nomatch z) h
 | @lst a xs ea=>
  cases(show u=Value.ref a from Y);show Fc ((show AV X.prog X.w H s.heap a (.lst xs)from I.AU a _ ea)) λ_ z1=>C8 z1 λ_ n _ h1=>MM PySem.W.kitx_list I.EE (Ad h1 rfl) e (λz=>nomatch z) h
 | @EB a ob xs ea=>
  cases(show u=Value.ref a from Y);show Ch ((show AV X.prog X.w H s.heap a (.EB ob (.lst xs))from I.AU a _ ea)) λ_ _ z1=>C8 z1 λ_ n _ h1=>MM PySem.W.kitx_list I.EE (Ad h1 rfl) e (λz=>nomatch z) h
 | @tup a xs ea=>
  cases(show u=Value.ref a from Y);show Fc ((show AV X.prog X.w H s.heap a (.tup xs)from I.AU a _ ea)) λ_ z1=>Am z1 λ_ _ p=>Bg p λo h1 h2 _=>MM PySem.W.kitx_tuple I.EE (Aq o h1 h2) e (λz=>nomatch z) h
 | @dK a kvs ea=>
  cases(show u=Value.ref a from Y);show Ch ((show AV X.prog X.w H s.heap a (.dK kvs)from I.AU a _ ea)) λ_ _ z1=>Am z1 λvs _ p=>He p λo es ep h1 h2 _=>MM PySem.W.kitx_dict I.EE (Aq o h1 h2.1) e (λz=>nomatch z) h
 | @dT a kvs ea=>
  cases(show u=Value.ref a from Y);show Ch ((show AV X.prog X.w H s.heap a (.dT kvs)from I.AU a _ ea)) λ_ _ z1=>Am z1 λxs _ z2=>He z2 λo es ep h1 h2 _=>MM PySem.W.kitx_dict I.EE (Aq o h1 h2.1) e (λz=>nomatch z) h
 | @ins a C dx fs ea cl ha hn htk hm=>
  cases(show u=Value.ref a from Y);show Am (Xm I.AU ea) λmA O _=>Am O.look λod J _=>MM (PySem.W.kitx_own (cl.get _) cl.hd ha hn htk hm) I.EE J e (λz=>nomatch z) h
end
structure BC (k:Nat)(A:Around):Prop where
 hd:A.handled=none
 dp:A.depth+3*k+5<recursionLimit
 un:A.units+16*k+200<cLine
def BC.mono (r:BC k A)(h:j<=k):BC j A:=⟨r.hd,by have:=r.dp;omega,by have:=r.un;omega⟩
def BC.deeper (r:BC (k+1) A)(env:Env):BC k (A.deeper env):=
 ⟨r.hd,by have:=r.dp;show A.depth+1+3*k+5<_;omega,by have:=r.un;show A.units+3+16*k+200<_;omega⟩
def Ad0 {A:Around}{C:Addr}{us:List Value}{kw:List (Str×Value)}:(A.under (.builtin "type.__call__" ⟨.ref C::us,kw⟩)).depth=A.depth+1:=by
 first|rfl|simp[Around.under,Code.weight,Code.isCreation,Code.isGuard,Code.isCaller,Code.frames,Code.isFrame,guardIds]
def Ac9 {A:Around}{C:Addr}{us:List Value}{kw:List (Str×Value)}:(A.under (.builtin "type.__call__" ⟨.ref C::us,kw⟩)).units=A.units+1:=by
 first|rfl|simp[Around.under,Code.cUnits,Code.frames,Code.isFrame]
def BC.make (r:BC (k+1) A)(C:Addr)(us:List Value)(kw:List (Str×Value)):BC k (A.under (.builtin "type.__call__" ⟨.ref C::us,kw⟩)):=
 ⟨r.hd,by have:=r.dp;rw[Ad0];omega,by have:=r.un;rw[Ac9];omega⟩
def BC.depth (r:BC k A):A.depth<recursionLimit:=by have:=r.dp;omega
def BC.units (r:BC k A):A.units+64<cLine:=by have:=r.un;omega
def Yd:TA:=λ_ H Q=>Q [] H
def Go (ta:TE)(tr:TA):TA:=λσ H Q=>ta σ H λx H1=>tr σ H1 λxs H2=>Q (x::xs) H2
section
def pa_nil:PA X [] Yd:=λ_ _ _ _ H Q I h=>Calls.spliced_nil (Al [] H I .nil h)
abbrev Gi (X:Cx)(e:Expr)(es:List Expr):Prop:=starEach (e::es) X.env=(false,eval e X.env)::starEach es X.env
def pa_cons (ha:PE X e te)(hr:PA X es t)(hs:Gi X e es:=by rfl):PA X (e::es) (Go te t):=by
 intro pos pins s σ H Q I h;rw[hs]
 show wpAny _ _ (spliced ((false,eval e X.env)::backTo pos (starEach es X.env))) _ _ s
 show QQ (AT (ha pins s σ H _ I h) λu s1 ⟨x,H1,O,r1,q1⟩=>AT (hr pos pins s1 σ H1 _ O q1) λus s2 ⟨xs,H2,Y,r2,q2⟩=>(Al (x::xs) H2 Y (.cons r1 r2) q2))
def tTup (t:TA):TE:=λσ H Q=>t σ H λxs H1=>xs.length<=sizeLine/\∀p,H1 p=none->Q (.ref p) (upd H1 p (.tup xs))
def tLst (t:TA):TE:=λσ H Q=>t σ H λxs H1=>xs.length<=sizeLine/\∀p,H1 p=none->Q (.ref p) (upd H1 p (.lst xs))
def pe_tup {x1}(h:PA X es t):PE X (.Tuple es x1 pos) (tTup t):=by
 intro pins s σ H Q I Y;show wpAny_Tuple_spliced (AT (h pos pins s σ H _ I Y) λus s1 ⟨xs,H1,O,r,z,q⟩=>⟨by rw[← r.length];show z,?_⟩);have hf:H1 s1.heap.objs.size=none:=O.AU.fresh (JV _);show Al (.ref s1.heap.objs.size) (upd H1 s1.heap.objs.size (.tup xs)) (O.laid (t':=s1.toks) (λb u e=>JU _ e) (JV _) ?_) rfl (q _ hf);show⟨z,(Aq us r (Bh (KW _ rfl) rfl ⟨_,rfl⟩))⟩
def pe_lst (h:PA X es t):PE X (.List es pos) (tLst t):=by
 intro pins s σ H Q I Y;show wpAny_List_spliced (AT (h pos pins s σ H _ I Y) λus s1 ⟨xs,H1,O,r,z,q⟩=>⟨by rw[← r.length];show z,?_⟩);have hf:H1 s1.heap.objs.size=none:=O.AU.fresh (JV _);show Al (.ref s1.heap.objs.size) (upd H1 s1.heap.objs.size (.lst xs)) (O.laid (t':=s1.toks) (λb u e=>JU _ e) (JV _) ?_) rfl (q _ hf);show⟨z,(C6 us 0 r (KW _ rfl))⟩
end
abbrev Sp:=List V->Hp->VK->XK->Prop
abbrev IY:=List Env->Hp->Shared->XK->Value->Shared->Prop
structure HQ (P:Program)(w:World)(K:Av)(mg:Cb)(base:Heap)(A:Around)(outer:List Env)(s:Shared)(H:Hp):Prop where
 frames:A.frames=some outer
 mod:Mod K mg base
 bs:∀b o,base.get? b=some o->s.heap.get? b=some o/\H b=none
 JE:base.objs.size<=s.heap.objs.size
 AC:s.heap.FunFrames base outer
 frf:∀b∈EU outer,H b=none
 AU:CV P w H s.heap
 bare:AllBare s.gens
def CE (outer:List Env)(P:Program)(w:World)(H:Hp)(s:Shared)(Q:VK)(u:Value)(s':Shared):Prop:=
 ∃v H',s'.os=s.os/\AllBare s'.gens/\Un (EU outer) [] H H' s.heap s'.heap/\CV P w H' s'.heap/\RelV v u/\Q v H'
def CR (CX:IY)(outer:List Env)(P:Program)(w:World)(H:Hp)(s:Shared)(Q:VK)(E:XK)(r:Result)(s':Shared):Prop:=
 match r with
 | .ok (.ret u)=>CE outer P w H s Q u s'
 | .ok _=>False
 | .error e=>CX outer H s E e s'
structure AH (P:Program)(w:World)(K:Av)(mg:Cb)(base:Heap)(CX:IY)(k:Nat)(f:Addr)(fd:FuncData)(ps:List Str)(sp:Sp):Prop where
 len:∀vs H Q E,sp vs H Q E->vs.length=ps.length
 run:∀(A:Around) (outer:List Env) (s:Shared) (H:Hp) (args:Args) (us:List Value) (vs:List V) (Q:VK) (E:XK),BC k A->HQ P w K mg base A outer s H->BindsTo s fd args (ps.zip us)->AK vs us->sp vs H Q E ->
  codeAny (model P w) A (.call (.ref f) args) (CR CX outer P w H s Q E) s
def AH.mono {P:Program}{w:World}{K:Av}{mg:Cb}{base:Heap}{CX:IY}{j k:Nat}{f:Addr}{fd:FuncData}{ps:List Str}{sp:Sp}(F:AH P w K mg base CX j f fd ps sp)(h:j<=k) :
  AH P w K mg base CX k f fd ps sp:=⟨F.len,λA outer s H args us vs Q E hr=>F.run A outer s H args us vs Q E (hr.mono h)⟩
def AH.imp {P:Program}{w:World}{K:Av}{mg:Cb}{base:Heap}{CX:IY}{k:Nat}{f:Addr}{fd:FuncData}{ps:List Str}{sp I:Sp}(F:AH P w K mg base CX k f fd ps sp)
  (h:∀vs H Q E,I vs H Q E->sp vs H Q E):AH P w K mg base CX k f fd ps I:=
 ⟨λvs H Q E q=>F.len vs H Q E (h _ _ _ _ q),λA outer s H args us vs Q E hr he hb O hs=>F.run A outer s H args us vs Q E hr he hb O (h _ _ _ _ hs)⟩
def HQ.make {P:Program}{w:World}{K:Av}{mg:Cb}{base:Heap}{A:Around}{outer:List Env}{s:Shared}{H:Hp}(e:HQ P w K mg base A outer s H)(C:Addr)(us:List Value)(kw:List (Str×Value)) :
  HQ P w K mg base (A.under (.builtin "type.__call__" ⟨.ref C::us,kw⟩)) outer s H:=⟨by first|show e.frames|(simpa [Around.under,Code.envs,Code.isFrame,pushEnvs]using e.frames),e.mod,e.bs,e.JE,e.AC,e.frf,e.AU,e.bare⟩
section
def Inv.env0 (I:Inv X pins σ H s):HQ X.prog X.w X.K X.mg X.base X.A X.stack s H:=
 ⟨I.ok.frames,I.ok.mod,I.bs,KN I.ok.JE I.sz,I.stack,I.GK,I.AU,I.bare⟩
def Inv.after (I:Inv X pins σ H s)(h:CE X.stack X.prog X.w H s Q u s'):EP X pins σ Q u s':=by
 show Kq h λv H' os bare un AU r q=>?_;obtain⟨O,g,d,t,Y⟩:=s';obtain rfl:Y=s.os:=os;show Al v H' (I.call (h':=O) (g':=g) (d':=d) (t':=t) (ch:=[]) un AU bare (λb z=>absurd z (by simp))) r q
end
def Nu (sp:Sp)(dvs:List V)(E:XK)(t:TA):TE:=λσ H Q=>t σ H λvs H1=>sp (vs++dvs) H1 Q E
def tMake (C:Addr)(sp:Sp)(dvs:List V)(E:XK)(t:TA):TE:=λσ H Q=>t σ H λvs H1=>∀x dx,H1 x=none->H1 dx=none->dx≠x ->
 sp (.ref x::(vs++dvs)) (upd (upd H1 dx (.own x)) x (.ins C dx [])) (λv H2=>v=.BI/\Q (.ref x) H2) E
def Binds (K:Av)(fd:FuncData)(ps:List Str)(ds:List Value):Prop:=
 ∀(s:Shared) (us:List Value),K.In s.heap->(us++ds).length=ps.length->BindsTo s fd ⟨us,[]⟩ (ps.zip (us++ds))
def Binds.all {K:Av}(h:∀us:List Value,us.length=ps.length->bindArgs fd ⟨us,[]⟩=pure (ps.zip us)):Binds K fd ps []:=λs us _ hl=>by
 rw[MN]at hl ⊢;show .of_eq (h us hl)
def Gm (CX:IY)(X:Cx)(E:XK):Prop:=∀(pins:Ej) (σ:St) (H:Hp) (s:Shared) (e:Value) (s':Shared),Inv X pins σ H s->CX X.stack H s E e s'->X.xe e s'
section
def As8 (F:AH X.prog X.w X.K X.mg X.base CX k f fd ps sp)(hr:BC k X.A)(hb:Binds X.K fd ps ds)(hd:AK dvs ds)(hx:Gm CX X E)
  (I:Inv X pins σ H s)(r:AK vs us)(h:sp (vs++dvs) H Q E):wpAny (model X.prog X.w) X.A (call (.ref f) us) (EP X pins σ Q) X.xe s:=by
 have Y:AK (vs++dvs) (us++ds):=r.append hd;have hl:(us++ds).length=ps.length:=by rw[← Y.length];show F.len _ _ _ _ h
 show wpAny_call (OI (F.run X.A X.stack s H ⟨us,[]⟩ (us++ds) (vs++dvs) Q E hr I.env0 (hb s us I.EE hl) Y h) λr s' O=>?_)
 cases r with
 | error e=>show hx pins σ H s e s' I O
 | ok fl=>
  cases fl with
  | ret u=>show I.after O
  | next=>show False.elim O
  | brk=>show False.elim O
  | cont=>show False.elim O
abbrev Hf (X:Cx)(p:Pos)(es:List Expr):Prop:=(backTo p (starEach es X.env)).any (·.1)=false
def Ah4 (F:AH X.prog X.w X.K X.mg X.base CX k f fd ps sp)(hr:BC k X.A)(hg:Gl X x)(hm:X.mg x=some (.ref f))(hk:PySem.W.keepIn X.K (.ref f)=true)(hb:Binds X.K fd ps ds)(hd:AK dvs ds)(hx:Gm CX X E)
  (ha:PA X (e::es) t)(Y:Eg x:=by decide)(he:Gi X e es:=by rfl)(a0:Hf X pos es:=by rfl) :
  PE X (.Call (.Name x p) (e::es) [] pos) (Nu sp dvs E t):=by
 intro pins s σ H Q I h;show NZ (G0 I hg hm (PB (h₀:=X.base) I.ok.mod.kin hk (AT (ha pos pins s σ H _ I h) λus s1 ⟨vs,H1,O,r,q⟩=>⟨O.EE,As8 F hr hb hd hx O r q⟩) he a0) Y)
structure Mk (K:Av)(C f:Addr):Prop where
 makes:PySem.W.makesIn K C=true
 init:PySem.W.findIn K (.ref C) "__init__"=some (some (.ref f))
 fn:PySem.W.isFn K (.ref f)=true
 kp:PySem.W.keepIn K (.ref C)=true
def As7 (M:Mk X.K C f)(F:AH X.prog X.w X.K X.mg X.base CX k f fd ps sp)(hr:BC (k+1) X.A)(hb:Binds X.K fd ps ds)(hd:AK dvs ds)
  (hx:Gm CX X E)(I:Inv X pins σ H s)(r:AK vs us)
  (h:∀x dx,H x=none->H dx=none->dx≠x->sp (.ref x::(vs++dvs)) (upd (upd H dx (.own x)) x (.ins C dx [])) (λv H2=>v=.BI/\Q (.ref x) H2) E) :
  wpAny (model X.prog X.w) X.A (call (.ref C) us) (EP X pins σ Q) X.xe s:=by
 have hq:=h (s.heap.objs.size+1) s.heap.objs.size (I.AU.fresh (RG _)) (I.AU.fresh (JV _)) (LF (Nat.lt_succ_self _));have Y:=Inv.made (C:=C) I;have r2:AK (V.ref (s.heap.objs.size+1)::(vs++dvs)) (Value.ref (s.heap.objs.size+1)::(us++ds)):=.cons rfl (r.append hd);have hl:(Value.ref (s.heap.objs.size+1)::us++ds).length=ps.length:=by
  have e:=r2.length;rw[F.len _ _ _ _ hq]at e;show e.symm
 show wpAny_call (make_map (f:=f) I.EE M.makes M.init (RB.mp M.fn) (OI (F.run _ X.stack _ _ ⟨Value.ref (s.heap.objs.size+1)::us,[]⟩ (Value.ref (s.heap.objs.size+1)::(us++ds)) _ _ E (hr.make C us [])
  (Y.env0.make C us []) (hb _ (Value.ref (s.heap.objs.size+1)::us) Y.EE hl) r2 hq) λr s' O=>?_))
 cases r with
 | error e=>show hx pins σ _ _ e s' Y O
 | ok fl=>
  cases fl with
  | ret u=>
   show Ia (Y.after O) λv H' I3 rv ev q3=>?_;subst ev;show⟨rv,(Al (V.ref (s.heap.objs.size+1)) H' I3 rfl q3)⟩
  | next=>show False.elim O
  | brk=>show False.elim O
  | cont=>show False.elim O
def pe_make (M:Mk X.K C f)(F:AH X.prog X.w X.K X.mg X.base CX k f fd ps sp)(hr:BC (k+1) X.A)(hg:Gl X x)(hm:X.mg x=some (.ref C))(hb:Binds X.K fd ps ds)(hd:AK dvs ds)(hx:Gm CX X E)
  (ha:PA X (e::es) t)(Y:Eg x:=by decide)(he:Gi X e es:=by rfl)(a0:Hf X pos es:=by rfl) :
  PE X (.Call (.Name x p) (e::es) [] pos) (tMake C sp dvs E t):=by
 intro pins s σ H Q I h;show NZ (G0 I hg hm (PB (h₀:=X.base) I.ok.mod.kin M.kp (AT (ha pos pins s σ H _ I h) λus s1 ⟨vs,H1,O,r,q⟩=>⟨O.EE,As7 M F hr hb hd hx O r q⟩) he a0) Y)
end
section
end
structure AD (N P:List Str)(sc:Scope):Prop where
 kind:sc.kind=.function
 co:sc.isCoroutine=false
 gen:sc.isGenerator=false
 nd:N.Nodup
 pre:N.take P.length=P
 par:∀x∈P,sc.names.lookup x=some .local\/sc.names.lookup x=some .cell
 IF:∀y∈sc.names,y.2≠.free
theorem Vi {kindOf:Str->Option NameKind}:∀{binds:List (Str×Value)} {m:Cb},(∀v,(x,v)∉binds)->bindL kindOf binds m x=m x
 | [],_,_=>rfl
 | (n,v)::r,m,h=>by
  unfold bindL;rw[Vi λw hw=>h w (JS _ hw)];split
  .have:x≠n:=by rintro rfl;show h v JY
   simp[this]
  .rfl
theorem Vk {kindOf:Str->Option NameKind}:∀{binds:List (Str×Value)} {m:Cb},(∀v,(x,v)∉binds)->bindC kindOf binds m x=m x
 | [],_,_=>rfl
 | (n,v)::r,m,h=>by
  unfold bindC;rw[Vk λw hw=>h w (JS _ hw)];split
  .rfl
  .have:x≠n:=by rintro rfl;show h v JY
   simp[this]
theorem Vj {kindOf:Str->Option NameKind}{x:Str}{v:Value}:∀{P:List Str} {vs:List Value} {i:Nat} {m:Cb},P.Nodup->P[i]?=some x->vs[i]?=some v->kindOf x=some .local ->
  bindL kindOf (P.zip vs) m x=some v
 | [],_,_,_,_,h,_,_=>by simp at h
 | _::_,[],_,_,_,_,h,_=>by simp at h
 | p::P,w::vs,0,m,nd,h1,h2,hk=>by
  simp at h1 h2;subst h1 h2
  show bindL kindOf ((p,w)::P.zip vs) m p=_
  unfold bindL;rw[Vi λv I=>(NR.mp nd).1 (QL I).1,KJ hk];simp
 | p::P,w::vs,i+1,m,nd,h1,h2,hk=>by
  show bindL kindOf ((p,w)::P.zip vs) m x=_
  unfold bindL;show Vj (i:=i) (NR.mp nd).2 (by simpa using h1) (by simpa using h2) hk
theorem Vl {kindOf:Str->Option NameKind}{x:Str}{v:Value}:∀{P:List Str} {vs:List Value} {i:Nat} {m:Cb},P.Nodup->P[i]?=some x->vs[i]?=some v->kindOf x≠some .local ->
  bindC kindOf (P.zip vs) m x=some v
 | [],_,_,_,_,h,_,_=>by simp at h
 | _::_,[],_,_,_,_,h,_=>by simp at h
 | p::P,w::vs,0,m,nd,h1,h2,hk=>by
  simp at h1 h2;subst h1 h2
  show bindC kindOf ((p,w)::P.zip vs) m p=_
  unfold bindC;rw[Vk λv I=>(NR.mp nd).1 (QL I).1,KH hk];simp
 | p::P,w::vs,i+1,m,nd,h1,h2,hk=>by
  show bindC kindOf ((p,w)::P.zip vs) m x=_
  unfold bindC;show Vl (i:=i) (NR.mp nd).2 (by simpa using h1) (by simpa using h2) hk
noncomputable def start (N:List Str)(vs:List V):St:=vs.map some++List.replicate (N.length-vs.length) none
noncomputable def FK (CX:IY)(P:Program)(w:World)(K:Av)(mg:Cb)(base:Heap)(N:List Str)(qual:Str)(scope:Scope)(f:Addr)(cd:Value)(A:Around)(outer:List Env)(s:Shared)(H:Hp)(E:XK):Cx where
 prog:=P
 w:=w
 K:=K
 mg:=mg
 base:=base
 A:=A.deeper (envOfC qual scope s.heap.objs.size f cd)
 N:=N
 s₀:=s
 H₀:=H
 env:=envOfC qual scope s.heap.objs.size f cd
 outer:=outer
 stack:=envOfC qual scope s.heap.objs.size f cd::outer
 ex:=[]
 calm:=true
 fn:=λ_=>true
 pn:=[]
 xe:=λe s'=>wpAny (model P w) (A.deeper (envOfC qual scope s.heap.objs.size f cd)) (leaving (envOfC qual scope s.heap.objs.size f cd) e) (λ_ I=>CX outer H s E e I) (λO I=>CX outer H s E O I) s'
def Zx {sc:Scope}{n:Nat}{x:Str}(h:sc.names.lookup x=some .cell):∃c,(cellsFrom n sc.names []).lookup x=some c:=by
 have q:=PySem.W.cellsFrom_some sc.names n [] (.inl h);show Option.isSome_iff_exists.mp q
def U6 {CX:IY}{P:Program}{w:World}{K:Av}
  (S:AD N ps scope)(hd:A.handled=none)(I:HQ P w K mg base A outer s H)(hl:vs.length=ps.length)(r:AK vs us)
  (x:InCallC s s.heap.objs.size (bindL (envOfC qual scope s.heap.objs.size f cd).kindOf (ps.zip us) λ_=>none) (cellsFrom (s.heap.objs.size+1) scope.names []) (bindC (envOfC qual scope s.heap.objs.size f cd).kindOf (ps.zip us) λ_=>none) s1) :
  Inv (FK CX P w K mg base N qual scope f cd A outer s H E) [] (start N vs) H s1:=by
 have a2:ps.length<=N.length:=by have:=LM List.length S.pre;rw[LL]at this;omega
 show C8 x.done λh1 tk z1 hk=>?_;subst z1;have a0:∀b:Addr,b∉(FK CX P w K mg base N qual scope f cd A outer s H E).ex:=λb z=>absurd (show b∈([]:List Addr)from z) (by simp)
 show⟨⟨I.mod,S.kind,rfl,rfl,JV _,λy z c h1 h2=>?_,λy O=>?_,λy c _ h=>?_,λ_=>hd,Around.frames_deeper I.frames,.inr ⟨rfl,rfl⟩,λb z=>absurd z (a0 b),I.bs,I.JE,λb _ _=>a0 b,λb z=>absurd z (a0 b),I.AC,I.frf⟩,
  rfl,I.bare,Un.kept hk,(Ad x.toInCall.ns λi y v h1 h2 h3=>?_),λy c h=>⟨_,x.cell y c h⟩,I.AU.fresh (JV _),λy c h=>?_,λp Y=>absurd (show p∈([]:List (Addr×Obj))from Y) (by simp),I.AU.kept hk,?_⟩
 .show name_of_addr x.apart (NF h1) (NF h2)
 .have O:scope.names.lookup y=some .cell\/scope.names.lookup y=some .free:=O
  rcases O with O|O
  .show Zx O
  .show absurd rfl (S.IF _ (NF O))
 .show Nat.le_of_lt (x.above y c (NF h))
 .have hi:i<vs.length:=by
   unfold start at h2;by_cases hi:i<vs.length
   .show hi
   .rw [MH (by simpa using hi)]at h2;rw[List.getElem?_replicate]at h2;split at h2<;>cases h2
  have ha:vs[i]?=some v:=by
   unfold start at h2;rw[NV (by simpa using hi),LG]at h2
   cases e:vs[i]? with
   | none=>rw[e]at h2;cases h2
   | some a=>rw[e]at h2;cases h2;rfl
  show Am (r.get ha) λu hu rv=>?_;have Y:ps[i]?=some y:=by
   rw[← S.pre,List.getElem?_take_of_lt (by omega)];show h1
  have a1:ps.Nodup:=by rw[← S.pre];show S.nd.sublist (OD _ _)
  show Aq u rv ?_
  rcases S.par y (KR Y)with k|k
  .show .inl ⟨k,Vj a1 Y hu k⟩
  .obtain⟨c,e⟩:=Zx (n:=s.heap.objs.size+1) k;show .inr ⟨.inl k,(Aq c e ?_)⟩;have q:=x.cell y c e;rw[Vl a1 Y hu (by show scope.names.lookup y≠_;rw[k];decide)]at q;show q
 .show I.AU.fresh (Nat.le_of_lt (x.above y c (NF h)))
 .unfold start
  show _=N.length
  rw[JX,JR,MT];omega
def fn_of {CX:IY}{P:Program}{w:World}{K:Av}{mg:Cb}{base:Heap}{k:Nat}{f:Addr}{name qual:Str}{params:Arguments}{Y:List Stmt}{scope:Scope}{dV kV doc pm cdv ct oc:Value}{an od:Option Addr}
   {osl:Array (Option Value)}{N ps:List Str}{sp:Sp}(lk:K.lookup f=some ⟨oc,od,.func (PySem.W.fnOf name qual params Y scope dV kV doc pm an cdv ct),osl⟩)(a2:PySem.W.codeIn K cdv qual=true)(S:AD N ps scope)
   (len:∀vs H Q E,sp vs H Q E->vs.length=ps.length)
   (a4:∀(A:Around) (outer:List Env) (s:Shared) (H:Hp) (vs:List V) (Q:VK) (E:XK),BC k (A.deeper (envOfC qual scope s.heap.objs.size f cdv))->sp vs H Q E ->
     ∃t,IU (FK CX P w K mg base N qual scope f cdv A outer s H E) Y t/\t {nx:=λ_ H'=>Q .BI H',rt:=Q} (start N vs) H) :
   AH P w K mg base CX (k+1) f (PySem.W.fnOf name qual params Y scope dV kV doc pm an cdv ct) ps sp:=by
 show⟨len,λA outer s H args us vs Q E hr I hb r a0=>?_⟩;have hl:=len _ _ _ _ a0;have KX:K.In s.heap:=I.mod.kin.keeps λb o e=>(I.bs b o e).1;have a3:s.heap.NoLimit:=I.mod.nolimit.keeps λb o e=>(I.bs b o e).1;have a5:∀y∈ps.zip us,scope.names.lookup y.1=some .local\/(scope.names.lookup y.1=some .cell/\((cellsFrom (s.heap.objs.size+1) scope.names []).lookup y.1).isSome=true):=λ⟨n,v⟩ hy=>by
   rcases S.par n (QL hy).1 with q|q
   . show .inl q
   . show .inr ⟨q,PySem.W.cellsFrom_some _ _ _ (.inl q)⟩
 show codeAny_call_function hr.depth (KX _ _ lk) rfl S.co S.gen rfl (PySem.W.codeRec_of KX a2) (hb _ _ _ _ (wpAny_newFunctionEnv_cells S.kind a5 λenv he s1 x=>?_));subst he;show⟨a3.keeps x.toInCall.keep,codeAny_func ?_⟩;show Am (a4 A outer s H vs Q E (hr.deeper _) a0) λt ht hq=>?_;have a1:Inv (FK CX P w K mg base N qual scope f cdv A outer s H E) [] (start N vs) H s1:=U6 S hr.hd I hl r x;show NY (ht [] s1 (start N vs) H _ a1 hq) (λfl s' hs=>?_) λe s' hs=>hs;have fin:∀{σ':St} {H':Hp} {v:V} {u:Value},Inv (FK CX P w K mg base N qual scope f cdv A outer s H E) [] σ' H' s'->RelV v u->Q v H'->CE outer P w H s Q u s':=
   fun {σ' H' v u} J O q=>(Km v H' J.os J.bare J.base J.AU O q)
 cases fl with
 | ret u=>
   show He hs λv σ' H' J O q=>fin J O q
 | next=>
   show C8 hs λσ' H' J q=>fin (v:=V.BI) (u:=Value.none) J rfl q
 | brk=>
   show C8 hs λ_ _ _ q=>False.elim q
 | cont=>
   show C8 hs λ_ _ _ q=>False.elim q
section
variable {X:Cx}{x:Str}{p pos:Pos}{e:Expr}{es:List Expr}{t:TA}{id T:String}{r:List V->Hp->VK->Prop}
def tCB (r:List V->Hp->VK->Prop)(t:TA):TE:=λσ H Q=>t σ H λvs H1=>r vs H1 Q
def pe_callB (Y:BD X (.builtin id) r)(hg:Gl X x)(hm:X.mg x=none)(hv:bootBuiltins x=some (.builtin id))(ha:PA X (e::es) t)(hn:x≠"__name__":=by decide)(a0:Eg x:=by decide)
  (he:Gi X e es:=by rfl)(a1:Hf X pos es:=by rfl):PE X (.Call (.Name x p) (e::es) [] pos) (tCB r t):=by
 intro pins s σ H Q I h;show NZ (Ly I hg hm hv (PyProof.Rows.callWith_builtin1 (AT (ha pos pins s σ H _ I h) λus s1 ⟨vs,H1,O,r1,q1⟩=>Y pins s1 σ H1 vs us Q O r1 q1) he a1) hn a0)
def Am4 (Y:BD X (.type T) r)(hg:Gl X x)(hm:X.mg x=none)(hv:bootBuiltins x=some (.type T))(ha:PA X (e::es) t)(hn:x≠"__name__":=by decide)(a0:Eg x:=by decide)
  (he:Gi X e es:=by rfl)(a1:Hf X pos es:=by rfl):PE X (.Call (.Name x p) (e::es) [] pos) (tCB r t):=by
 intro pins s σ H Q I h;show NZ (Ly I hg hm hv (MV (AT (ha pos pins s σ H _ I h) λus s1 ⟨vs,H1,O,r1,q1⟩=>Y pins s1 σ H1 vs us Q O r1 q1) he a1) hn a0)
end
end L2
namespace HT
open PySem PyProof.Rows
section
open PySem.SeqAt
open PySem.AutoSeq1 (wpAny_loadPart')
open PySem.MeetsSeq PySem.MeetsSeq2 PySem.MeetsSeq3
end
section
variable {E:Bo}
def cat_tup {Q:Bo}(ht:IsTup s.heap t vs.toArray)(hb:IsTup s.heap b ws.toArray)(hv:vs≠[])
  (h1:ws=[]->Q (.ref t) s)(h2:ws≠[]->Q (.ref s.heap.objs.size) {s with heap:=s.heap.push {cls:=.type "tuple",data:=.seq (vs++ws).toArray}})
  (hsz:vs.length+ws.length<=sizeLine):wpAny (model prog w) A (binaryOp .Add (.ref t) (.ref b)) Q E s:=by
 obtain⟨⟨cls,dd,data,sl⟩,I,Y,n,hd⟩:=id ht;obtain⟨⟨a4,a0,data2,a3⟩,O,a1,n2,a2⟩:=id hb;simp only at Y hd a1 a2;subst Y hd a1 a2;have e:vs.toArray++ws.toArray=(vs++ws).toArray:=by simp
 by_cases hw:ws=[]
 .show concat_meets ⟨_,I,rfl⟩ ⟨_,O,rfl⟩ noFill_tuple_add seq_tuple_add PySem.F.slot_tuple_add QU (QF _ _)
   (tuple_addW1 t b vs.toArray ws.toArray n n2 dd a0 sl a3 (by simpa using hv) (by simp[hw])) ⟨I,O,h1 hw⟩
 .show concat_meets ⟨_,I,rfl⟩ ⟨_,O,rfl⟩ noFill_tuple_add seq_tuple_add PySem.F.slot_tuple_add QU (QF _ _)
   (tuple_addW2 t b vs.toArray ws.toArray n n2 dd a0 sl a3 (by simpa using hv) (by simpa using hw) (by rw[KS,KS];show hsz)) ⟨I,O,?_⟩
  rw[e];show h2 hw
noncomputable def BA (n d:Nat):Option Int->Nat
 | none=>d
 | some v=>if v<0 then(v+(n:Int)).toNat else min v.toNat n
def FL (n d:Nat):BA n d none=d:=rfl
def CB (n d k:Nat):BA n d (some (k:Int))=min k n:=by
 show(if(k:Int)<0 then((k:Int)+(n:Int)).toNat else min (k:Int).toNat n)=min k n
 rw[KH (by omega),QX]
def sIx_le (n d:Nat)(hd:d<=n)(o:Option Int):BA n d o<=n:=by
 cases o with
 | none=>show hd
 | some v=>
  show(if v<0 then(v+(n:Int)).toNat else min v.toNat n)<=n
  by_cases I:v<0
  .rw [KJ I];omega
  .rw [KH I];show Nat.min_le_right _ _
def HU (v:Int)(n d:Nat):(if v<0 then max (v+(n:Int)) 0 else min v (n:Int))=((BA n d (some v):Nat):Int):=by
 show(if v<0 then max (v+(n:Int)) 0 else min v (n:Int))=(((if v<0 then(v+(n:Int)).toNat else min v.toNat n):Nat):Int)
 by_cases I:v<0
 .simp only[KJ I];omega
 .simp only[KH I];omega
def Ad9 (lo hi:Option Int)(n:Nat):Builtin.Slice.sliceAdjust lo hi 1 (n:Int)=(((BA n 0 lo:Nat):Int),((BA n n hi:Nat):Int)):=by
 have h1:¬((1:Int)<0):=by omega
 unfold Builtin.Slice.sliceAdjust;simp only[h1,QY];show Prod.ext ?_ ?_
 .cases lo with
  | none=>rfl
  | some v=>show HU v n 0
 .cases hi with
  | none=>rfl
  | some v=>show HU v n n
def Ab6 (i j:Nat):Builtin.Slice.slicePlaces (i:Int) (j:Int) 1=j-i:=by
 unfold Builtin.Slice.slicePlaces;have h1:(1:Int)>0:=by omega
 simp only[h1,PD,Int.ediv_one];split<;>omega
def ES {Q:Option Int->Shared->Prop}(p:IsPart v o)(h:Q o s):wpAny (model prog w) A (Builtin.Slice.slicePartIndex v) Q E s:=by
 cases p with
 | none=>show slicePart_none h
 | int i t=>show slicePart_int h
def DE {sl:Addr}{I O:Value}{lo hi:Option Int}{n:Nat}{Q:Int×Int×Nat->Shared->Prop}(hs:s.heap.IsSliceOf sl I O .none)(pl:IsPart I lo)(pu:IsPart O hi)
  (h:Q (((BA n 0 lo:Nat):Int),1,BA n n hi-BA n 0 lo) s):wpAny (model prog w) A (Builtin.Slice.sliceApplied (.ref sl) (pure (n:Int))) Q E s:=by
 obtain⟨os,a0,a1,Y⟩:=id hs;unfold Builtin.Slice.sliceApplied Builtin.Slice.sliceFields;show JQ (JQ (LH a0 Y (x:=I) rfl (JQ (LH a0 Y (x:=O) rfl (JQ (LH a0 Y (x:=.none) rfl (JW (JQ (slicePart_none ?_)))))))))
 show wpAny _ _ (if((1:Int)==0)=true then _ else _) _ _ s
 rw[KH (by decide)];show JQ (ES pl (JQ (ES pu (JQ (JW ?_)))))
 show wpAny _ _ (match Builtin.Slice.sliceAdjust lo hi 1 (n:Int)with|(lo,hi)=>pure (lo,(1:Int),Builtin.Slice.slicePlaces lo hi 1)) _ _ s
 rw[Ad9 lo hi n]
 show wpAny _ _ (pure (((BA n 0 lo:Nat):Int),(1:Int),Builtin.Slice.slicePlaces ((BA n 0 lo:Nat):Int) ((BA n n hi:Nat):Int) 1)) _ _ s
 rw[Ab6];show JW h
def pick_gen (xs:Array Value)(i k:Nat):((List.range k).filterMap λ(m:Nat)=>xs[((i:Int)+(m:Int)*1).toNat]?).toArray=((xs.toList.drop i).take k).toArray:=by
 have e:(λ(m:Nat)=>xs[((i:Int)+(m:Int)*1).toNat]?)=λm=>xs[i+m]?:=by
  funext m;have:((i:Int)+(m:Int)*1).toNat=i+m:=by omega
  rw[this]
 rw[e];have:=pick_run xs i k;rw[List.filterMap_map]at this;have e2:((λx=>xs[x]?)∘λx=>i+x)=λm=>xs[i+m]?:=rfl;rw[e2]at this;rw[this]
def FM {t sl:Addr}{I:Array Value}{Y vu:Value}{lo hi:Option Int}{Q:Bo}(ht:IsTup s.heap t I)(hs:s.heap.IsSliceOf sl Y vu .none)(pl:IsPart Y lo)(pu:IsPart vu hi)
  (hw:¬(BA I.size 0 lo=0/\BA I.size I.size hi=I.size))
  (h:Q (.ref s.heap.objs.size) {s with heap:=s.heap.push {cls:=.type "tuple",data:=.seq ((I.toList.drop (BA I.size 0 lo)).take (BA I.size I.size hi-BA I.size 0 lo)).toArray}})
  (hsz:I.size<=sizeLine):wpAny (model prog w) A (getItem (.ref t) (.ref sl)) Q E s:=by
 have O:sizeOk (.seq ((I.toList.drop (BA I.size 0 lo)).take (BA I.size I.size hi-BA I.size 0 lo)).toArray):=by
  show((I.toList.drop (BA I.size 0 lo)).take (BA I.size I.size hi-BA I.size 0 lo)).toArray.size<=sizeLine
  rw[KS,LL,NB,OS];omega
 have hj:BA I.size I.size hi<=I.size:=sIx_le _ _ (JV _) hi;obtain⟨os,a3,a1,a4⟩:=id hs;have a0:s.TypeIs (.ref sl) "slice":=⟨os,a3,a1⟩;unfold getItem
 try with_reducible show NO ?_
 first|show JQ (JW ?_)|skip
 show JQ (wpAny_sequenceKey ht.typeIs (by decide) ?_)
 show JQ (LW (name:=Str.ofString "__getitem__") ht.typeIs LO
  (MP LO ht.typeIs entry_tuple_getitem ?_ (args_tuple_getitem _ _)))
 show wpAny _ _ (Builtin.Tuple.tupleItemsOf (.ref t) >>= _) _ _ s
 show JQ (tupleItemsOf_ ht (JQ (PY a0 ?_)));rw[KJ (by decide)];show JQ (DE hs pl pu ?_);have a2:¬((((BA I.size 0 lo:Nat):Int)==0&&(1:Int)==1&&(BA I.size I.size hi-BA I.size 0 lo)==I.size)=true):=by
  intro q;rw[MA,MA]at q;have q1:((BA I.size 0 lo:Nat):Int)=0:=eq_of_beq q.1.1;have q2:BA I.size I.size hi-BA I.size 0 lo=I.size:=eq_of_beq q.2;show hw ⟨by omega,by omega⟩
 show wpAny _ _ (if(((BA I.size 0 lo:Nat):Int)==0&&(1:Int)==1&&(BA I.size I.size hi-BA I.size 0 lo)==I.size)=true then _ else _) _ _ s
 rw[KH a2,pick_gen]
 first
  | show JQ (m:=Builtin.Tuple.tupleExact _) (ME (JW (Ad rfl (JW h))) O)
  | show JQ (m:=Builtin.Tuple.tupleExact _) (ME (JQ (JW (JW ⟨_,rfl,JW h⟩))) O)
  | show JQ (JQ (m:=Builtin.Tuple.tupleExact _) (ME (JW (JW ⟨_,rfl,JW h⟩)) O))
  | show JQ (JQ (m:=Builtin.Tuple.tupleExact _) (ME (JW ⟨_,rfl,JW h⟩) O))
end
end HT
namespace L2
open PySem PySem.Spec PyProof.Rows
abbrev TO:=St->Hp->(Option Int->Hp->Prop)->Prop
def PO (X:Cx)(e:Option Expr)(t:TO):Prop:=
 ∀(pins:Ej) (s:Shared) (σ:St) (H:Hp) (Q:Option Int->Hp->Prop),Inv X pins σ H s->t σ H Q ->
  wpAny (model X.prog X.w) X.A (evalPart e X.env) (λu s'=>∃o H',Inv X pins σ H' s'/\IsPart u o/\Q o H') X.xe s
def Jw:TO:=λ_ H Q=>Q none H
def tPart (t:TE):TO:=λσ H Q=>t σ H λx H1=>∃i,x=.int i/\Q (some i) H1
section
variable {X:Cx}{e:Expr}{te:TE}{lo hi:Option Expr}{tl th:TO}{pos p2:Pos}
def po_none:PO X none Jw:=by
 intro pins s σ H Q I h;rw[evalPart_none];show JW (Al none H I .none h)
def po_some (h:PE X e te):PO X (some e) (tPart te):=by
 intro pins s σ H Q I hw;rw[evalPart_some];show AT (h pins s σ H _ I hw) λu s1 ⟨x,H1,O,r1,Y⟩=>?_;show Am Y λi z1 q=>?_;subst z1;obtain⟨t,rfl⟩:=r1;show Al (some i) H1 O (.int i t) q
def SlR (X:Cx)(r:V->Option Int->Option Int->Hp->VK->Prop):Prop:=
 ∀(pins:Ej) (s:Shared) (σ:St) (H:Hp) (x:V) (v I O:Value) (lo hi:Option Int) (sl:Addr) (Q:VK),Inv X pins σ H s->RelV x v->s.heap.IsSliceOf sl I O .none->IsPart I lo->IsPart O hi->r x lo hi H Q ->
  ∃T id,typeLookup (.type T) "__getitem__"=pure (some (.builtin id))/\s.TypeIs v T/\wpAny (model X.prog X.w) X.A (getItem v (.ref sl)) (EP X pins σ Q) X.xe s
def tSl (r:V->Option Int->Option Int->Hp->VK->Prop)(te:TE)(tl th:TO):TE:=λσ H Q=>te σ H λx H1=>tl σ H1 λl H2=>th σ H2 λu H3=>r x l u H3 Q
def pe_slice {r:V->Option Int->Option Int->Hp->VK->Prop}(hr:SlR X r)(he:PE X e te)(hl:PO X lo tl)(hu:PO X hi th):PE X (.Subscript e (.Slice lo hi none p2) pos) (tSl r te tl th):=by
 intro pins s σ H Q a0 h;show Subscript_ (AT (he pins s σ H _ a0 h) λv s1 ⟨x,H1,I1,r1,q1⟩=>wpAny_Slice (AT (hl pins s1 σ H1 _ I1 q1) λO s2 ⟨l,H2,I2,pl,q2⟩=>AT (hu pins s2 σ H2 _ I2 q2) λY I ⟨u,H3,I3,pu,q3⟩=>?_));rw[evalPart_none];show JW ?_;have I4:Inv X pins σ H3 {I with heap:=I.heap.push {cls:=.type "slice",data:=.fields #[O,Y,.none]}}:=I3.kept (t':=I.toks) λb ob q=>JU _ q;show A0 (hr pins {I with heap:=I.heap.push {cls:=.type "slice",data:=.fields #[O,Y,.none]}} σ H3 x v O Y l u I.heap.objs.size Q I4 r1 (Heap.IsSliceOf.new ..) pl pu q3) λT id hT ht hg=>?_
 show wpAny (model X.prog X.w) X.A (subscriptTail e (.Slice lo hi none p2) v (.ref I.heap.objs.size)) (EP X pins σ Q) X.xe {I with heap:=I.heap.push {cls:=.type "slice",data:=.fields #[O,Y,.none]}}
 show tail_any (ops:=[.ref I.heap.objs.size,v]) ht hT hg (by with_unfolding_all rfl)
noncomputable def Ef (xs:List V)(lo hi:Option Int):List V:=(xs.drop (HT.BA xs.length 0 lo)).take (HT.BA xs.length xs.length hi-HT.BA xs.length 0 lo)
def Mb (xs:List V)(lo hi:Option Int):(Ef xs lo hi).length<=xs.length:=by
 unfold Ef;rw[LL,NB];omega
def rSlT (K:Av):V->Option Int->Option Int->Hp->VK->Prop:=λx lo hi H Q=>∃a xs,x=.ref a/\BJ K H a xs /\
 ¬(HT.BA xs.length 0 lo=0/\HT.BA xs.length xs.length hi=xs.length)/\∀p,H p=none->Q (.ref p) (upd H p (.tup (Ef xs lo hi)))
def E9:SlR X (rSlT X.K):=by
 intro pins s σ H x v vl vu lo hi sl Q I rx hs pl pu h;show Ia h λa xs z1 hx hw q=>?_;subst z1;cases rx;show Bg (I.tuple hx) λits r ht Y=>?_;have O:its.toArray.size=xs.length:=by rw[KS];show r.length.symm
 show Al "tuple" _ LO.lookup ht.typeIs ?_;show HT.FM ht hs pl pu (by rw[O];show hw) ?_ (by rw[O];show Y);rw[O];show Al (.ref s.heap.objs.size) _ (I.laid (t':=s.toks) (o:=.tup (Ef xs lo hi)) (λb ob q=>JU _ q) (JV _) ?_) rfl (q _ (I.AU.fresh (JV _)));show⟨KN (Mb xs lo hi) Y,(Ad ((r.drop (HT.BA xs.length 0 lo)).take (HT.BA xs.length xs.length hi-HT.BA xs.length 0 lo)) (IsTup.new _ _))⟩
def rCatT (K:Av):R2:=λx y H Q=>∃a b xs ys,x=.ref a/\y=.ref b/\BJ K H a xs/\BJ K H b ys/\xs≠[]/\xs.length+ys.length<=sizeLine /\
 (ys=[]->Q (.ref a) H)/\(ys≠[]->∀p,H p=none->Q (.ref p) (upd H p (.tup (xs++ys))))
def AK.GL (r:AK xs us):us=[]↔xs=[]:=by
 cases r with
 | nil=>simp
 | cons _ _=>simp
def op_catT:CO X (binaryOp .Add) (rCatT X.K):=by
 intro pins s σ H x y v u Q I rx ry h;show Ox h λa b xs ys z1 z2 ha hb hx z3=>Ch z3 λhz q1 q2=>?_;subst z1 z2;cases rx;cases ry;show Bg (I.tuple ha) λits Y p1 _=>Bg (I.tuple hb) λa0 O p2 _=>?_;show HT.cat_tup p1 p2 (λz=>hx (Y.GL.mp z)) (λz=>(Al (.ref a) H I rfl (q1 (O.GL.mp z)))) (λz=>(Al (.ref s.heap.objs.size) _ (I.laid (t':=s.toks) (o:=.tup (xs++ys)) (λb ob q=>JU _ q) (JV _) ?_) rfl (q2 (λw=>z (O.GL.mpr w)) _ (I.AU.fresh (JV _))))) (by rw[← Y.length,← O.length];show hz);show⟨by rw[JX];show hz,(Ad (Y.append O) (IsTup.new _ _))⟩
end
noncomputable def ixN (n:Nat)(i:Int):Option Nat:=if 0<=i then(if i<n then some i.toNat else none)else if -(n:Int)<=i then some (i+n).toNat else none
noncomputable def DY {α:Type}(xs:List α)(i:Int):Option α:=(ixN xs.length i).bind λj=>xs[j]?
def ixN_seq (h:ixN n i=some j):seqIndex? i n=some j/\j<n/\-(n:Int)<=i/\i<n:=by
 unfold ixN at h;by_cases h0:0<=i
 .rw [KJ h0]at h;by_cases h1:i<n
  .rw [KJ h1]at h;have e:i.toNat=j:=LV h;show C7 (by rw[seqIndex_of h0 h1,e]) (by omega) (by omega) h1
  .rw [KH h1]at h;cases h
 .rw [KH h0]at h;by_cases h1:-(n:Int)<=i
  .rw [KJ h1]at h;have e:(i+n).toNat=j:=LV h;show C7 (by rw[seqIndex_neg (by omega) h1,e]) (by omega) h1 (by omega)
  .rw [KH h1]at h;cases h
def Xs {α:Type}{xs:List α}{i:Int}{v:α}(h:DY xs i=some v):∃j,seqIndex? i xs.length=some j/\xs[j]?=some v/\j<xs.length/\-(xs.length:Int)<=i/\i<xs.length:=by
 unfold DY at h
 cases e:ixN xs.length i with
 | none=>rw[e]at h;cases h
 | some j=>
  rw[e]at h;show Qi (ixN_seq e) λh1 h2 h3 h4=>Rg j h1 h h2 h3 h4
def Be {α:Type}{xs:List α}{j:Nat}{v:α}(h:xs[j]?=some v):DY xs (j:Int)=some v:=by
 have I:j<xs.length:=(List.getElem?_eq_some_iff.mp h).1;have e:ixN xs.length (j:Int)=some j:=by
  unfold ixN;rw[KJ (by omega),KJ (by omega)];simp
 unfold DY;rw[e];show h
def Z2 {α:Type}(xs:List α)(v:α):DY (xs++[v]) (-1)=some v:=by
 have hl:(xs++[v]).length=xs.length+1:=by simp
 have e:ixN (xs++[v]).length (-1)=some xs.length:=by
  unfold ixN;rw[hl,KH (by decide),KJ (by omega)]
  congr 1
  omega
 unfold DY;rw[e]
 show(xs++[v])[xs.length]?=some v
 simp
def Xu (b:Expr):Prop:=∀o i,subscripted b false o i=operate [o,i] (getItem o i)
def IH (X:Cx)(r:R2):Prop:=
 ∀(O I:Expr) (pins:Ej) (s:Shared) (σ:St) (H:Hp) (x y:V) (v u:Value) (Q:VK),Inv X pins σ H s->RelV x v->RelV y u->r x y H Q ->
  subscripted I false v u=operate [v,u] (getItem v u)->wpAny (model X.prog X.w) X.A (subscriptTail O I v u) (EP X pins σ Q) X.xe s
def MtR (X:Cx)(id:String)(r:V->List V->Hp->VK->Prop):Prop:=
 ∀(pins:Ej) (s:Shared) (σ:St) (H:Hp) (x:V) (xs:List V) (v:Value) (us:List Value) (Q:VK),Inv X pins σ H s->RelV x v->AK xs us->r x xs H Q ->
  wpAny (model X.prog X.w) X.A (call (.builtin id) (v::us)) (EP X pins σ Q) X.xe s
section
variable {X:Cx}{a b:Expr}{ta tb:TE}{pos:Pos}
def pe_ix (hr:IH X r)(ha:PE X a ta)(hb:PE X b tb)(hs:Xu b):PE X (.Subscript a b pos) (JM r ta tb):=by
 intro pins s σ H Q I h;show Subscript_ (binT ha hb I h λv u s2 x y H2 O Y ry q=>hr a b pins s2 σ H2 x y v u Q O Y ry q (hs _ _))
def rIxL (K:Av):R2:=λx y H Q=>∃p xs i v,x=.ref p/\y=.int i/\AO K H p xs/\DY xs i=some v/\Q v H
def Q5 (K:Av):R2:=λx y H Q=>∃p xs i v,x=.ref p/\y=.int i/\BJ K H p xs/\DY xs i=some v/\Q v H
def rIxS:R2:=λx y H Q=>∃z i c,x=.str z/\y=.int i/\z.length<=sizeLine/\DY z.cps.toList i=some c/\Q (.str ⟨#[c]⟩) H
def Cy:IH X (rIxL X.K):=by
 intro a2 a1 pins s σ H x y v u Q I rx ry h hs;show Zq h λp xs i z z1 z2 hq he q=>?_;subst z1 z2;cases rx;obtain⟨t,rfl⟩:=ry;show Bg (I.list hq) λits r Y hz=>Tv (Xs he) λj h1 h2 h3 h4 h5=>Am (r.get h2) λw ew a0=>?_;have hl:=r.length;have hn:=Tg;have fin:EP X pins σ Q w s:=(Al z H I a0 q);by_cases h0:0<=i
 .have O:i.toNat=j:=by
   rw[seqIndex_of h0 h5]at h1;show LV h1
  show item_listR Y.isList h0 (by omega) (by rw[O];simpa using ew) fin hs
 .have O:(i+(its.toArray.size:Int)).toNat=j:=by
   rw[seqIndex_neg (by omega) h4]at h1;rw[KS,← hl];show LV h1
  show subscriptTail_builtinR (x:=w) Y.isList.typeIs slot_list_getitem.lookup
   (wpAny_getItem_list_neg (Q:=λr s'=>r=w/\EP X pins σ Q r s') Y.isList (by omega) (by rw[KS]<;>omega) (by omega) (by rw[O];simpa using ew) ⟨rfl,fin⟩) hs
def Hu:IH X (Q5 X.K):=by
 intro a2 a1 pins s σ H x y v u Q I rx ry h hs;show Zq h λp xs i z z1 z2 hq he q=>?_;subst z1 z2;cases rx;obtain⟨t,rfl⟩:=ry;show Bg (I.tuple hq) λits r O hz=>Tv (Xs he) λj h1 h2 h3 h4 h5=>Am (r.get h2) λw Y a0=>?_;have hl:=r.length;have hn:=Tg;have fin:EP X pins σ Q w s:=(Al z H I a0 q);show subscriptTail_builtinR (x:=w) O.typeIs slot_tuple_getitem.lookup
  (getItem_tuple (j:=j) (Q:=λr s'=>r=w/\EP X pins σ Q r s') O (by omega) (by omega) (by rw[KS,← hl];show h1) (by simpa using Y) ⟨rfl,fin⟩) hs
def ix_str:IH X rIxS:=by
 intro a1 a0 pins s σ H x y v u Q I Y ry h hs;show L9 h λz i c z1 z2 hz he q=>?_;subst z1 z2;obtain⟨t,rfl⟩:=Y;obtain⟨t',rfl⟩:=ry;show Tv (Xs he) λj h1 h2 h3 h4 O=>?_;have hl:z.cps.toList.length=z.length:=by simp[Str.length]
 rw[hl]at h1 h4 O;have hn:=Tg
 show tail_any (PP s z t) slot_str_getitem.lookup (getItem_str (c:=c) (by
  have e1:decide (i < -(2 ^ 63:Int))=false:=LU (by omega);have e2:decide (i>=2 ^ 63)=false:=LU (by omega)
  rw[e1,e2,Bool.or_false]) (by rw[h1];simpa using h2) (Al (.str ⟨#[c]⟩) H (I.tok _) ⟨_,rfl⟩ q)) hs
def V8 (lo hi:Option Int)(n:Nat):(sliceBounds lo hi none n).1=((HT.BA n 0 lo:Nat):Int)/\(sliceBounds lo hi none n).2.1=((HT.BA n n hi:Nat):Int)/\(sliceBounds lo hi none n).2.2=1:=by
 show Az ?_ ?_ rfl
 .cases lo with
  | none=>simp[sliceBounds,HT.BA]
  | some i=>
   simp only[sliceBounds,HT.BA,Option.getD_none,show(1:Int)>0 by decide,PD];by_cases h:i<0
   .simp only[h,PD]<;>omega
   .simp only[h,QY]<;>omega
 .cases hi with
  | none=>simp[sliceBounds,HT.BA]
  | some i=>
   simp only[sliceBounds,HT.BA,Option.getD_none,show(1:Int)>0 by decide,PD];by_cases h:i<0
   .simp only[h,PD]<;>omega
   .simp only[h,QY]<;>omega
def Ua (its:List Value)(lo hi:Option Int):slicePick its.toArray lo hi none=((its.drop (HT.BA its.length 0 lo)).take (HT.BA its.length its.length hi-HT.BA its.length 0 lo)).toArray:=by
 show Ch (V8 lo hi its.toArray.size) λh1 h2 h3=>?_;unfold slicePick;rw[h1,h2,h3];simp only[sliceRange_one,pick_run,KS]<;>rfl
def rSlL (K:Av):V->Option Int->Option Int->Hp->VK->Prop:=λx lo hi H Q=>∃a xs,x=.ref a/\AO K H a xs/\∀p,H p=none->Q (.ref p) (upd H p (.lst (Ef xs lo hi)))
def Rj:SlR X (rSlL X.K):=by
 intro pins s σ H x v vl vu lo hi sl Q I rx hs Y pu h;show A0 h λa xs z1 hx q=>?_;subst z1;cases rx;show Bg (I.list hx) λits r ht O=>?_;have a0:=r.length;show Al "list" _ slot_list_getitem.lookup ht.isList.typeIs ?_;show wpAny_getItem_list_slice ht.isList hs Y pu .none (by simp) ?_ (by rw[KS]<;>omega);rw[Ua,← a0];show Al (.ref s.heap.objs.size) _ (I.laid (t':=s.toks) (o:=.lst (Ef xs lo hi)) (λb ob q=>JU _ q) (JV _) ?_) rfl (q _ (I.AU.fresh (JV _)));show⟨KN (Mb xs lo hi) O,(C6 _ 0 ((r.drop (HT.BA xs.length 0 lo)).take (HT.BA xs.length xs.length hi-HT.BA xs.length 0 lo)) (KW _ rfl))⟩
noncomputable def My:V->Bool
 | .BI=>true
 | .bl _=>true
 | .int _=>true
 | .str _=>true
 | _=>false
noncomputable def eqV:V->V->Bool
 | .BI,.BI=>true
 | .bl a,.bl b=>a==b
 | .bl a,.int b=>(if a then 1 else 0)==b
 | .int a,.bl b=>a==(if b then 1 else 0)
 | .int a,.int b=>a==b
 | .str a,.str b=>a==b
 | _,_=>false
def eqAt_V (Y:RelV y u)(I:RelV x v)(fy:My y=true)(O:My x=true):SeqAt.EqAt A s u v (eqV y x):=by
 cases y with
 | BI=>
  cases Y
  cases x with
  | BI=>cases I;show SeqAt.EqAt.same _
  | bl b=>cases I;show SeqAt.EqAt.none_bool b
  | int b=>obtain⟨t,rfl⟩:=I;show SeqAt.EqAt.none_int b t
  | str b=>obtain⟨t,rfl⟩:=I;show SeqAt.EqAt.none_str b t
  | _=>show absurd (show false=true from O) LA
 | bl a=>
  cases Y
  cases x with
  | BI=>cases I;show SeqAt.EqAt.bool_none a
  | bl b=>cases I;show SeqAt.EqAt.bool_bool a b
  | int b=>obtain⟨t,rfl⟩:=I;show SeqAt.EqAt.bool_int a b t
  | str b=>obtain⟨t,rfl⟩:=I;show SeqAt.EqAt.bool_str a b t
  | _=>show absurd (show false=true from O) LA
 | int a=>
  obtain⟨t',rfl⟩:=Y
  cases x with
  | BI=>cases I;show SeqAt.EqAt.int_none a t'
  | bl b=>cases I;show SeqAt.EqAt.int_bool a t' b
  | int b=>obtain⟨t,rfl⟩:=I;show SeqAt.EqAt.int_int a t' b t
  | str b=>obtain⟨t,rfl⟩:=I;show SeqAt.EqAt.int_str a t' b t
  | _=>show absurd (show false=true from O) LA
 | str a=>
  obtain⟨t',rfl⟩:=Y
  cases x with
  | BI=>cases I;show SeqAt.EqAt.str_none a t'
  | bl b=>cases I;show SeqAt.EqAt.str_bool a t' b
  | int b=>obtain⟨t,rfl⟩:=I;show SeqAt.EqAt.str_int a t' b t
  | str b=>obtain⟨t,rfl⟩:=I;show SeqAt.EqAt.str_str a t' b t
  | _=>show absurd (show false=true from O) LA
 | _=>show absurd (show false=true from fy) LA
noncomputable def II (x:V)(u:Value):Bool:=match u with
 | .none=>eqV .BI x
 | .bool b=>eqV (.bl b) x
 | .int i _=>eqV (.int i) x
 | .str z _=>eqV (.str z) x
 | _=>false
def eqU_of (r:RelV y u)(f:My y=true):II x u=eqV y x:=by
 cases y with
 | BI=>cases r;rfl
 | bl b=>cases r;rfl
 | int i=>obtain⟨t,rfl⟩:=r;rfl
 | str z=>obtain⟨t,rfl⟩:=r;rfl
 | _=>show absurd (show false=true from f) LA
theorem O8:∀{xs:List V} {us:List Value},AK xs us->xs.all My=true->us.any (II x)=xs.any λy=>eqV y x
 | _,_,.nil,_=>rfl
 | y::xs,u::us,.cons r t,f=>by
  rw[List.all_cons,MA]at f;rw[OP,OP,eqU_of r f.1,O8 t f.2]
theorem Lx (Y:RelV x v)(O:My x=true):∀{xs:List V} {us:List Value},AK xs us->xs.all My=true->∀u∈us,SeqAt.EqAt A s u v (II x u)
 | _,_,.nil,_=>λu I=>by cases I
 | y::xs,u::us,.cons r t,f=>λu' I=>by
  rw[List.all_cons,MA]at f
  rcases JT.mp I with rfl|I
  .rw [eqU_of r f.1];show eqAt_V r Y f.1 O
  .show Lx Y O t f.2 u' I
noncomputable def HE (x:V)(xs:List V):Bool:=xs.any λy=>eqV y x
def rIn (K:Av)(I:Bool):R2:=λx y H Q=>∃p xs,y=.ref p/\(AO K H p xs\/BJ K H p xs)/\My x=true/\xs.all My=true/\Q (.bl (if I then !HE x xs else HE x xs)) H
def Hi:CO X (compareOp .In) (rIn X.K false):=by
 intro pins s σ H x y v u Q I rx ry h;show Ao2 h λp xs z1 O fx fs q=>?_;subst z1;cases ry
 rcases O with O|O
 .show Bg (I.list O) λits r Y hz=>SeqAt.in_listAt (II x) Y.isList (λw hw=>Lx rx fx r fs w (by simpa using hw)) (Al (.bl _) H I rfl ?_);rw[show its.toArray.any (II x)=its.any (II x)by simp,O8 r fs];show q
 .show Bg (I.tuple O) λits r Y hz=>SeqAt.in_tupleAt (II x) Y (λw hw=>Lx rx fx r fs w (by simpa using hw)) (Al (.bl _) H I rfl ?_);rw[show its.toArray.any (II x)=its.any (II x)by simp,O8 r fs];show q
def Gz:CO X (compareOp .NotIn) (rIn X.K true):=by
 intro pins s σ H x y v u Q I rx ry h;show Ao2 h λp xs z1 O fx fs q=>?_;subst z1;cases ry
 rcases O with O|O
 .show Bg (I.list O) λits r Y hz=>SeqAt.notIn_listAt (II x) Y.isList (λw hw=>Lx rx fx r fs w (by simpa using hw)) (Al (.bl _) H I rfl ?_);rw[show its.toArray.any (II x)=its.any (II x)by simp,O8 r fs];show q
 .show Bg (I.tuple O) λits r Y hz=>SeqAt.notIn_tupleAt (II x) Y (λw hw=>Lx rx fx r fs w (by simpa using hw)) (Al (.bl _) H I rfl ?_);rw[show its.toArray.any (II x)=its.any (II x)by simp,O8 r fs];show q
def Ks:BD X (.builtin "len") (λxs H Q=>∃p ys,xs=[.ref p]/\(AO X.K H p ys\/BJ X.K H p ys)/\Q (.int ys.length) H):=by
 intro pins s σ H xs us Q I r h;show A0 h λp ys z1 O q=>?_;subst z1;show Am (Jj r) λu z1 rx=>?_;subst z1;cases rx;have hn:=Tg
 rcases O with O|O
 .show Bg (I.list O) λits r' Y hz=>?_;have a0:=r'.length;show Calls.call_len_list Y.isList (by simp only[KS]<;>omega) (Al (.int ys.length) H (I.tok _) ⟨s.toks+1,by rw[KS,a0]⟩ q)
 .show Bg (I.tuple O) λits r' Y hz=>?_;have a0:=r'.length;show len_tuple Y (by simp only[KS]<;>omega) (Al (.int ys.length) H (I.tok _) ⟨s.toks+1,by rw[KS,a0]⟩ q)
def Kr:BD X (.builtin "len") (λxs H Q=>∃z,xs=[.str z]/\z.length<=sizeLine/\Q (.int z.length) H):=by
 intro pins s σ H xs us Q I r h;show Bg h λz z1 O q=>?_;subst z1;show Am (Jj r) λu z1 z2=>?_;subst z1;obtain⟨t,rfl⟩:=z2;have hn:=Tg;show len_str (by omega) (Al (.int z.length) H (I.tok _) ⟨_,rfl⟩ q)
def BD.or {r O:List V->Hp->VK->Prop}(h:BD X f r)(h':BD X f O):BD X f (λxs H Q=>r xs H Q\/O xs H Q):=by
 intro pins s σ H xs us Q I Y q
 rcases q with q|q
 .show h pins s σ H xs us Q I Y q
 .show h' pins s σ H xs us Q I Y q
def Xr:BD X (.type "list") (λxs H Q=>∃p ys,xs=[.ref p]/\(AO X.K H p ys\/BJ X.K H p ys)/\∀l,H l=none->Q (.ref l) (upd H l (.lst ys))):=by
 intro pins s σ H xs us Q a0 r h;show A0 h λp ys z1 Y q=>?_;subst z1;show Am (Jj r) λu z1 rx=>?_;subst z1;cases rx;have fin:∀(its:List Value),AK ys its->ys.length<=sizeLine->∀(h':Heap) (I:Nat),(∀b o',s.heap.get? b=some o'->h'.get? b=some o') ->
   h'.get? s.heap.objs.size=some {cls:=.type "list",dict:=none,data:=.seq its.toArray I,slots:=#[]}->EP X pins σ Q (.ref s.heap.objs.size) {s with heap:=h'}:=λits O hz h' I kp e=>
  (Al (.ref s.heap.objs.size) _ (a0.laid (t':=s.toks) kp (JV _) (show AV X.prog X.w _ h' _ (.lst ys)from⟨hz,(C6 its I O e)⟩)) rfl (q _ (a0.AU.fresh (JV _))))
 rcases Y with Y|Y
 .show Bg (a0.list Y) λits O pl hz=>?_;have a1:=O.length;show Bg pl.isList λo ho hc z1=>?_;obtain⟨n,hd⟩:=z1;show call_list_seq p (.inl rfl) ho hc hd (λh' I kp e=>fin its O hz h' I kp e) (by simp only[KS]<;>omega)
 .show Bg (a0.tuple Y) λits O pl hz=>?_;have a1:=O.length;show Bg pl λo ho hc z1=>?_;obtain⟨n,hd⟩:=z1;show call_list_seq p (.inr rfl) ho hc hd (λh' I kp e=>fin its O hz h' I kp e) (by simp only[KS]<;>omega)
def D6:BD X (.type "tuple") (λxs H Q=>∃p ys,xs=[.ref p]/\((AO X.K H p ys/\∀l,H l=none->Q (.ref l) (upd H l (.tup ys)))\/(BJ X.K H p ys/\Q (.ref p) H))):=by
 intro pins s σ H xs us Q I r h;obtain⟨p,ys,rfl,h⟩:=h;obtain⟨u,rfl,rx⟩:=Jj r;cases rx;rcases h with⟨O,q⟩|⟨O,q⟩
 .obtain⟨its,r',Y,hz⟩:=I.list O;have a0:=r'.length;show call_tuple_list Y.isList (λh' kp=>?_) (by simp only[KS]<;>omega);have I1:Inv X pins σ H {s with heap:=h'}:=I.kept (t':=s.toks) kp;have I2:Inv X pins σ (upd H h'.objs.size (.tup ys)) {s with heap:=h'.push {cls:=.type "tuple",data:=.seq its.toArray}}:=
   I1.laid (t':=s.toks) (λb o e=>JU _ e) (JV _) (show AV X.prog X.w _ _ _ (.tup ys)from⟨hz,(Aq its r' (IsTup.new _ _))⟩)
  show Al (.ref h'.objs.size) _ I2 rfl (q _ (I1.AU.fresh (JV _)))
 .show Bg (I.tuple O) λits r' Y hz=>call_tuple_same Y (Al (.ref p) H I rfl q)
def tyV (K:Av)(T:String)(x:V)(H:Hp):Prop:=match x with
 | .str _=>T="str"
 | .int _=>T="int"
 | .ref p=>(T="list"/\∃xs,AO K H p xs)\/(T="tuple"/\∃o,K.lookup p=some o/\o.cls=.type "tuple"/\o.dict=none) \/
   (T="dict"/\((∃kvs,H p=some (.dK kvs))\/∃kvs,H p=some (.dT kvs)))\/(T="set"/\∃S n,H p=some (.set S n))
 | _=>False
def Ap9 (I:Inv X pins σ H s)(r:RelV x v)(ty:tyV X.K T x H) :
  s.TypeIs v T/\∀a,v=.ref a->∃ob,s.heap.get? a=some ob/\ob.dict=none:=by
 cases x with
 | str z=>
  obtain⟨t,rfl⟩:=r;cases(show T="str" from ty);show⟨PP s z t,λ_ e=>nomatch e⟩
 | int i=>
  obtain⟨t,rfl⟩:=r;cases(show T="int" from ty);show⟨typeIs_int s i t,λ_ e=>nomatch e⟩
 | ref p=>
  cases r;rcases ty with⟨rfl,xs,hq⟩|⟨rfl,o,hk,Y,hd⟩|⟨rfl,hk⟩|⟨rfl,S,n,hk⟩
  .show Bg (I.list hq) λits _ O _=>⟨O.isList.typeIs,λa e=>?_⟩;cases e;show Ia O λo n e c hd _=>Aq o e hd
  .show⟨(Aq o (I.EE p o hk) Y),λa e=>?_⟩;cases e;show Aq o (I.EE _ o hk) hd
  .have z:∃o,s.heap.get? p=some o/\o.ExactDict:=by
    rcases hk with⟨kvs,hk⟩|⟨kvs,hk⟩
    .show Ch (I.AU p _ hk) λ_ _ z1=>Am z1 λ_ _ z2=>He z2 λo _ _ e ex _=>Aq o e ex
    .show Ch (I.AU p _ hk) λ_ _ z1=>Am z1 λ_ _ z2=>He z2 λo _ _ e ex _=>Aq o e ex
   show Am z λo e ex=>⟨(Aq o e ex.1),λa e2=>?_⟩;cases e2;show Aq o e ex.2.1
  .show Zs (I.AU p _ hk) λo _ _ _ e ex _=>⟨(Aq o e ex.1),λa e2=>?_⟩;cases e2;show Aq o e ex.2.1
 | _=>show False.elim ty
def tBM0 (K:Av)(T:String)(r:V->List V->Hp->VK->Prop)(to:TE):TE:=λσ H Q=>to σ H λx H1=>tyV K T x H1/\r x [] H1 Q
def tBM (K:Av)(T:String)(r:V->List V->Hp->VK->Prop)(to:TE)(t:TA):TE:=λσ H Q=>to σ H λx H1=>tyV K T x H1/\t σ H1 λxs H2=>r x xs H2 Q
variable {o e:Expr}{es:List Expr}{to:TE}{t:TA}{name:Str}{apos cpos:Pos}{T id:String}{r:V->List V->Hp->VK->Prop}
def pe_bm0 (pa:PlainAttrs T)(slot:Slot T name id)(a0:typeOf (.builtin id)=pure (.type "method_descriptor"))(hm:MtR X id r)(ho:PE X o to)
  (a1:attributeBase o name X.env (eval o X.env)=eval o X.env:=by rfl)(a2:(apos.endLine==cpos.line)=true:=by rfl):PE X (.Call (.Attribute o name apos) [] [] cpos) (tBM0 X.K T r to):=by
 intro pins s σ H Q I h;show wpAny_Call_method0_late a1 a2 (AT (ho pins s σ H _ I h) λv s1 ⟨x,H1,O,Y,ty,q1⟩=>?_);obtain⟨h1,h2⟩:=Ap9 O Y ty;show Km T id pa slot a0 h1 h2 (Calls.callWith_builtin rfl (PySem.evalArgs_none (hm pins s1 σ H1 x [] v [] Q O Y .nil q1)))
def pe_bm (pa:PlainAttrs T)(slot:Slot T name id)(a1:typeOf (.builtin id)=pure (.type "method_descriptor"))(hm:MtR X id r)(ho:PE X o to)(ha:PA X (e::es) t)
   (a3:attributeBase o name X.env (eval o X.env)=eval o X.env:=by rfl)
   (a2:((backTo cpos (starEach (e::es) X.env)).all (λx=>!x.1)&&(backToKw cpos (keywordEach [] X.env)).all (λx=>x.1.isSome)
     && decide ((e::es).length+([]:List Keyword).length+(if([]:List Keyword).isEmpty then 0 else 1)<30))=true:=by rfl)
   (a4:(apos.endLine==cpos.line)=true:=by rfl)(hs:Gi X e es:=by rfl)(a5:Hf X cpos es:=by rfl) :
   PE X (.Call (.Attribute o name apos) (e::es) [] cpos) (tBM X.K T r to t):=by
 intro pins s σ H Q a0 h;show wpAny_Call_method_late a3 a2 a4 rfl (AT (ho pins s σ H _ a0 h) λv s1 ⟨x,H1,I,Y,ty,q1⟩=>?_);obtain⟨h1,h2⟩:=Ap9 I Y ty;show Km T id pa slot a1 h1 h2 ?_;have O:=ha cpos pins s1 σ H1 _ I q1;rw[hs]at O ⊢;show Calls.callWith_builtin (by show(false||(backTo cpos (starEach es X.env)).any (·.1))=false;rw[a5]<;>rfl) (Calls.evalArgs_plain ?_);show AT O λus s2 ⟨vs,H2,I2,r2,q2⟩=>hm pins s2 σ H2 x vs v us Q I2 Y r2 q2
end
def MtM (X:Cx)(id:String)(r:V->List V->Hp->VK->Prop):Prop:=
 ∀(pins:Ej) (s:Shared) (σ:St) (H:Hp) (x:V) (xs:List V) (v:Value) (us:List Value) (Q:VK),Inv X pins σ H s->RelV x v->AK xs us->r x xs H Q ->
  wpAny (model X.prog X.w) X.A (call (.builtin id) (v::us)) (EP X pins σ Q) X.xe s
theorem AK.one:∀{x:V} {us:List Value},AK [x] us->∃u,us=[u]/\RelV x u
 | _,_,.cons r .nil=>(Ad rfl r)
theorem AK.zero:∀{us:List Value},AK [] us->us=[]
 | _,.nil=>rfl
def AK.dropLast (h:AK xs us):AK xs.dropLast us.dropLast:=by
 induction h with
 | nil=>show .nil
 | cons r t I=>
  cases t with
  | nil=>show .nil
  | cons q t'=>show .cons r I
def AK.reverse (h:AK xs us):AK xs.reverse us.reverse:=by
 induction h with
 | nil=>show .nil
 | cons r t I=>rw[List.reverse_cons,List.reverse_cons];show AK.append I (.cons r .nil)
def Ad6 {α:Type}(l:List α):l.eraseIdx (l.length-1)=l.dropLast:=by
 induction l with
 | nil=>rfl
 | cons a r I=>
  cases r with
  | nil=>rfl
  | cons b r=>
   have e:(a::b::r).length-1=((b::r).length-1)+1:=by
    have h1:(a::b::r).length=r.length+2:=rfl;have h2:(b::r).length=r.length+1:=rfl;omega
   rw[e,List.eraseIdx_cons_succ,I]
   all_goals rfl
section
def Inv.lset {its its':List Value}{n:Nat}{f:Array Value->Array Value}{t':Nat}(I:Inv X pins σ H s)(O:H l=some (.lst xs))
  (e:s.heap.get? l=some {cls:=.type "list",data:=.seq its.toArray n})(hf:f its.toArray=its'.toArray)(hv:AK ys its')(hz:ys.length<=sizeLine) :
  Inv X pins σ (upd H l (.lst ys)) {s with heap:=s.heap.update l (Obj.mapSeq f),toks:=t'}:=by
 have q:=PySem.IsL.update e f;rw[hf]at q;show I.write (x:=l) (e:=l) (by rw[O];show trivial) (.inl rfl) (λb' u hb Y=>(OJ s.heap (Obj.mapSeq f) (OO hb)).trans Y) ⟨_,q⟩ ?_;show⟨hz,(C6 its' _ hv q)⟩
def Inv.lnew (I:Inv X pins σ H s)(O:AK ys its)(Y:ys.length<=sizeLine) :
  Inv X pins σ (upd H s.heap.objs.size (.lst ys)) {s with heap:=s.heap.push {cls:=.type "list",data:=.seq its.toArray},toks:=t'}:=
 I.laid (λ_ _ q=>JU _ q) (JV _) ⟨Y,(C6 its 0 O (KW _ rfl))⟩
def Inv.fresh (I:Inv X pins σ H s):H s.heap.objs.size=none:=I.AU.fresh (JV _)
def Inv.IG (I:Inv X pins σ H s)(O:H l=some (.lst xs)):xs.length<=sizeLine/\∃(its:List Value) (n:Nat),AK xs its/\xs.length=its.length/\s.heap.get? l=some {cls:=.type "list",data:=.seq its.toArray n}:=by
 show Fc (I.AU l _ O) λz z1=>C8 z1 λits n r e=>⟨z,(Al its n r r.length e)⟩
end
section
def rAppend:V->List V->Hp->VK->Prop:=λx vs H Q=>∃l xs y,x=.ref l/\vs=[y]/\H l=some (.lst xs)/\xs.length<sizeLine/\Q .BI (upd H l (.lst (xs++[y])))
def Ec:MtM X "list.append" rAppend:=by
 intro pins s σ H x vs v us Q I rx rv h;show L9 h λl xs y z1 z2 O hz q=>?_;subst z1 z2;cases rx;show Am rv.one λu z1 Y=>?_;subst z1;show Fc (I.IG O) λz z1=>A0 z1 λits n r hl e=>?_;show OQ F.slot_list_append (Ad e rfl) F.entry_list_append (F.args_list_append_2 _ _) (PySem.list_append l its.toArray n u (by rw[KS];omega)) ⟨e,Al .BI _ (I.lset (its':=its++[u]) O e (by simp) (r.append (.cons Y .nil)) ?_) rfl q⟩;rw[JX,LI];omega
def rPop:V->List V->Hp->VK->Prop:=λx vs H Q=>∃l xs y,x=.ref l/\vs=[]/\H l=some (.lst xs)/\xs[xs.length-1]?=some y/\Q y (upd H l (.lst xs.dropLast))
def Nj:MtM X "list.pop" rPop:=by
 intro pins s σ H x vs v us Q I rx rv h;show L9 h λl xs y z1 z2 O hy q=>?_;subst z1 z2;cases rx;have a0:=rv.zero;subst a0;show Fc (I.IG O) λz z1=>A0 z1 λits n r hl e=>Am (r.get hy) λu Y ru=>?_;have a1:its.toArray[its.toArray.size-1]?=some u:=by
  show its.toArray[its.length-1]?=some u
  rw[← Array.getElem?_toList,← hl];show Y
 show OQ F.slot_list_pop (Ad e rfl) F.entry_list_pop (F.args_list_pop_1 _) (MeetsSeq.list_pop_last l its.toArray n u a1 (by rw[KS];omega)) ⟨e,Al y _ (I.lset (its':=its.dropLast) O e ?_ r.dropLast ?_) ru q⟩
 .show its.toArray.eraseIdxIfInBounds (its.toArray.size-1)=its.dropLast.toArray
  rw[KS,List.eraseIdxIfInBounds_toArray,Ad6]
 .rw [List.length_dropLast];omega
def At0:V->List V->Hp->VK->Prop:=λx vs H Q=>∃l xs,x=.ref l/\vs=[]/\H l=some (.lst xs)/\Q .BI (upd H l (.lst xs.reverse))
def Ac5:MtM X "list.reverse" At0:=by
 intro pins s σ H x vs v us Q I rx Y h;show Ia h λl xs z1 z2 O q=>?_;subst z1 z2;cases rx;have a0:=Y.zero;subst a0;show Fc (I.IG O) λz z1=>A0 z1 λits n r hl e=>?_;show OQ F.slot_list_reverse (Ad e rfl) F.entry_list_reverse (F.args_list_reverse_1 _) (AutoSeq1.list_reverse_list_0 l its.toArray n (by rw[KS];omega)) ⟨e,Al .BI _ (I.lset (its':=its.reverse) O e (by simp) r.reverse ?_) rfl q⟩;rw[OT];omega
def rCat:R2:=λx y H Q=>∃l b xs zs,x=.ref l/\y=.ref b/\H l=some (.lst xs)/\H b=some (.lst zs)/\xs.length+zs.length<=sizeLine/\∀p,H p=none->Q (.ref p) (upd H p (.lst (xs++zs)))
def Fe:CO X (binaryOp .Add) rCat:=by
 intro pins s σ H x y v u Q I rx ry h;show Ox h λl b xs zs z1 z2 hH Y hz q=>?_;subst z1 z2;cases rx;cases ry;show Fc (I.IG hH) λz z1=>A0 z1 λits n r hl e=>?_;show Fc (I.IG Y) λz2 z1=>A0 z1 λO n2 r2 a0 e2=>?_;show PySem.P.add_list e e2 ?_ (by rw[KS,KS];omega);have ea:its.toArray++O.toArray=(its++O).toArray:=by simp
 rw[ea];show Al (.ref _) _ (I.lnew (t':=s.toks) (r.append r2) (by rw[JX];omega)) rfl (q _ I.fresh)
end
section
variable {E:Bo}
end
section
end
end L2
namespace Att
open PySem PySem.W PySem.Calls PyProof.Rows
def Rf:∀(ns:List Int) (vs:List Value),WellAll P h vs (ns.map WData.int)->IntsAre vs ns:=by
 intro ns
 induction ns with
 | nil=>
  intro vs w;rw[No]at w;cases w;show .nil
 | cons n ns I=>
  intro vs w;rw[KE]at w
  cases w with
  | cons a b=>
   cases a;show .cons _ _ (I _ b)
def Al7 {l:OpenLaw}{n:Nat}(hn:l.most=some n){P:Params}{h:Heap}{args:List WData}{a0:List Value}
  (Y:l.row.toRowW.claim.pre args=true)(a2:WellAll P h a0 args) :
  ∃a vs ns,a0=[Value.ref a]/\args=[WData.list (ns.map WData.int)]/\h.get? a=some {cls:=.type "list",data:=.seq vs.toArray}/\IntsAre vs ns/\ns.length<=n:=by
 have a1:WShape.hasAll [] args [.list .int]=true:=(pre_splitW Y).1;have O:l.pre.holds [] {args:=args}=true:=(pre_splitW Y).2;obtain⟨d,r,rfl,h1,h2⟩:=hasAllW_cons a1;obtain rfl:=hasAllW_nil h2;obtain⟨xs,rfl,h3⟩:=hasW_list h1;obtain⟨ns,rfl⟩:=items_int h3;have a4:ns.length<=n:=by
  unfold OpenLaw.pre at O;have h4:(WTm.not (.lt (.lit (.int (n:Int))) (.len (.arg 0)))).holds [] {args:=[.list (ns.map .int)]}=true:=by
   have h4:=(holds_andW O).1;rw[hn]at h4;show h4
  have I:=condW_of h4 (w_not (w_lt w_lit (w_len_list (w_arg rfl))));rw[JR]at I;show Nat.le_of_not_lt λq=>?_;have q':(n:Int)<((ns.length:Nat):Int):=by omega
  first
   | (rw[KA q']at I;show absurd I (by decide))
   | (simp at I;omega)
 cases a2 with
 | cons w1 w2=>
  cases w2
  cases w1 with
  | list ho a3=>show⟨_,_,ns,rfl,rfl,ho,Rf ns _ a3,a4⟩
def Am0 (l:OpenLaw)(args:List WData):l.row.toRowW.claim.post args (.bool true) args=true:=
 postW_of (r:=l.row.toRowW) (X:=(true==true))
  (show WShape.has [] (.bool true) .bool=true by first|rfl|decide|simp[WShape.has,WShape.arms,WShape.armsAll])
  (show(WTm.eq .res (.lit (.bool true))).value [] {args:=args,res:=some (.bool true),after:=args}=some (.bool (true==true))from w_eq_bool (w_res rfl) w_lit) rfl
def HV {l:OpenLaw}{n:Nat}{q:Program}{a0:List Str}{Y:(Str->Option Value)->Heap->Prop}{YP:World->Heap->Prop}{d:DefRec}
   (hn:l.most=some n)(a3:d.params.defaults=[])
   (call:∀(w:World) (s₀ I:Shared) (mg mb:Cb) (O:Addr) (o:Obj) (pm cd doc:Value) (a:Addr) (vs:List Value) (ns:List Int),
     Ground q a0 [] Y w s₀ mg mb I.heap->YP w I.heap ->
     I.heap.get? O=some o->o.data=.func (docDef d.name d.params d.body d.scope pm cd doc)->I.heap.CodeRec cd d.name->mg d.name=some (.ref O) ->
     I.heap.get? a=some {cls:=.type "list",data:=.seq vs.toArray}->IntsAre vs ns->ns.length<=n->I.gens=#[] ->
     codeAny (model l.prog w) callerA (.call (.ref O) ⟨[.ref a],[]⟩) (λr s'=>r=.ok (.ret (.bool true))/\OldK I.heap s'.heap/\s'.os=I.os/\AllBare s'.gens) I) :
   WalkO q a0 Y YP l.row.toRowW d [] (λf vs=>PySem.call f vs):=by
 intro w s₀ I mg mb G a1 O o pm cd doc dV kV ho hd a2 hD a4 hg args aD as a8 aC aB a5 aA;obtain rfl:dV=.none:=Dflts.none hD a3;obtain rfl:kV=.none:=Dflts.noKw hD;obtain⟨a,vs,ns,rfl,rfl,a7,a9,a6⟩:=Al7 hn a8 a5;show enter_call (OI (call w s₀ I mg mb O o pm cd doc a vs ns G a1 ho (fd_plain hd) a2 a4 a7 a9 a6 hg) λr s' hq=>?_);obtain⟨rfl,h2,h3,h4⟩:=hq;show⟨.inl ⟨.bool true,.bool true,[],rfl,λ_=>rfl,.bool true,Am0 l _,λ_=>⟨List.Pairwise.nil,λ_ hm=>(nomatch hm)⟩⟩,h2,h3,h4⟩
section
variable {prog:Program}{w:World}{A:Around}{E:Bo}{s:Shared}{K:Frag}
end
end Att
namespace L2
open PySem PySem.Spec PyProof.Rows
theorem Ut:∀{vs:List Value} {ns:List Int},IntsAre vs ns->AK (ns.map V.int) vs
 | _,_,.nil=>.nil
 | _,_,.cons n t h=>.cons ⟨t,rfl⟩ (Ut h)
def Only (H:Hp):Prop:=∀b,H b=none\/∃o xs,H b=some (.EB o (.lst xs))
def law_call {P:Program}{w:World}{K:Av}{mg mb:Cb}{CX:IY}{k:Nat}{fa a:Addr}{fd:FuncData}{x:Str}{sp:Sp}{I:Shared}{vs:List Value}{ns:List Int}
  (KX:K.In I.heap)(a1:I.heap.Ns mainGlobals mg)(hb:I.heap.Ns builtinsNs mb)(a5:∀x:Str,x≠"__name__"->mb x=bootBuiltins x)(a8:I.heap.NoLimit)(hg:I.gens=#[])
  (ha:I.heap.get? a=some {cls:=.type "list",data:=.seq vs.toArray})(hi:IntsAre vs ns)(hl:ns.length<=sizeLine)(hr:BC k callerA)
  (F:∀base:Heap,K.In base->base.Ns mainGlobals mg->AH P w K mg base CX k fa fd [x] sp)(aB:∀(s:Shared) (u:Value),BindsTo s fd ⟨[u],[]⟩ [(x,u)])
  (a6:∀H:Hp,Only H->AO K H a (ns.map V.int)->sp [.ref a] H (λv _=>v=.bl true) λ_ _ _=>False)
  (a4:∀H e s',CX [] H I (λ_ _ _=>False) e s'->False) :
  codeAny (model P w) callerA (.call (.ref fa) ⟨[.ref a],[]⟩) (λr s'=>r=.ok (.ret (.bool true))/\OldK I.heap s'.heap/\s'.os=I.os/\AllBare s'.gens) I:=by
 have rv:=Ut hi;have aA:=hi.length;have a2:∀H:Hp,Only H->AO K H a (ns.map V.int)->CV P w H I.heap->(∀b,H b≠none->b=a)->(H a≠none->K.lookup a=none) ->
   codeAny (model P w) callerA (.call (.ref fa) ⟨[.ref a],[]⟩) (λr s'=>r=.ok (.ret (.bool true))/\OldK I.heap s'.heap/\s'.os=I.os/\AllBare s'.gens) I:=by
  intro H hO hS AU hA hK;have a3:∀{b:Addr} {o:Obj},I.heap.get? b=some o->H b=none->(Xn I.heap H).get? b=some o:=λe n=>hidT_get e n;have a7:∀{b:Addr} {o:Obj} {es:Array DictEntry} {ep:Nat},I.heap.get? b=some o->o.data=.dict es ep->H b=none:=fun {b o es ep} e d=>by
   cases q:H b with
   | none=>rfl
   | some u=>
    have e':b=a:=hA b (by rw[q];simp);subst e';rw[ha]at e;cases e;have d':Data.seq vs.toArray _=Data.dict es ep:=d;cases d'
  have Y:∀{b:Addr} {m:Cb},I.heap.Ns b m->(Xn I.heap H).Ns b m:=fun {b m} ⟨o,es,ep,e,d,r⟩=>(Kl o es ep (a3 e (a7 e d)) d r)
  have a0:K.In (Xn I.heap H):=λb o e=>a3 (KX b o e) (by
   cases q:H b with
   | none=>rfl
   | some u=>
    have e':b=a:=hA b (by rw[q];simp);subst e'
    rw[hK (by rw[q];simp)]at e;cases e)
  have hM:Mod K mg (Xn I.heap H):=⟨a0,Y a1,(Aq mb (Y hb) a5),let ⟨mc,h1,h2⟩:=a8;(Aq mc (Y h1) h2)⟩;have e0:HQ P w K mg (Xn I.heap H) callerA [] I H:=⟨rfl,hM,λb o e=>of_hidT e,Of (An4 _ _),trivial,λb hb=>absurd (show b∈([]:List Addr)from hb) (by simp),AU,.of_eq hg⟩;show OI ((F _ a0 (Y a1)).run callerA [] I H ⟨[.ref a],[]⟩ [.ref a] [.ref a] _ _ hr e0 (aB I (.ref a)) (.cons rfl .nil) (a6 H hO hS)) λr s' h=>?_
  cases r with
  | error e=>show(a4 H e s' h).elim
  | ok fl=>
   cases fl with
   | next=>show False.elim h
   | brk=>show False.elim h
   | cont=>show False.elim h
   | ret u=>
    show Kq h λv H' os bare un a9 r' q=>?_;have q':v=.bl true:=q;subst q';obtain rfl:u=Value.bool true:=r';show C7 rfl (OldK.of_keep λb o e=>?_) os bare
    cases q:H b with
    | none=>show un.keep b o e q (by intro z;show absurd (show b∈([]:List Addr)from z) (by simp)) (by simp)
    | some u=>
     rcases hO b with z|⟨ob,xs,z⟩
     .rw [q]at z;cases z
     .have z2:=un.DX b ob _ z;obtain⟨e1,_⟩:=AU b _ z;obtain⟨e2,_⟩:=a9 b _ z2;rw[e]at e1;cases e1;show e2
 cases hk:K.lookup a with
 | some o=>
  have e:=KX a o hk;rw[ha]at e;cases e;show a2 (λ_=>none) (λ_=>.inl rfl) (.inr (Lb _ vs.toArray _ hk rfl rfl rfl (by rw[KS,aA];show hl) (by simpa using rv))) (λb u z=>by have O:(none:Option HO)=some u:=z;cases O) (λb z=>absurd rfl z) λz=>absurd rfl z
 | none=>
  show a2 (λb=>if b=a then some (.EB {cls:=.type "list",data:=.seq vs.toArray} (.lst (ns.map V.int)))else none) (λb=>?_) (.inl (.inr ⟨{cls:=.type "list",data:=.seq vs.toArray},KJ rfl⟩)) (λb u z=>?_) (λb z=>?_) λ_=>hk
  .by_cases hb:b=a
   .show .inr (Jn (KJ hb))
   .show .inl (KH hb)
  .by_cases hb:b=a
   .have O:=(KJ hb).symm.trans z;cases O;subst hb;show Az ha (by rw[JR];show hl) (C6 vs _ rv ha)
   .have O:=(KH hb).symm.trans z;cases O
  .by_cases hb:b=a
   .show hb
   .show absurd (KH hb) z
def walk_of {l:PySem.W.OpenLaw}{n k:Nat}{q:Program}{a9:List Str}{XP:(Str->Option Value)->Heap->Prop}{Y:World->Heap->Prop}{d:DefRec}{K:Params->PySem.W.Frag}{CX:World->IY}{sp:World->Sp}{x:Str}
   (hn:l.most=some n)(a5:n<=sizeLine)(a3:d.params.defaults=[])(hr:BC k callerA)
   (hY:∀(w:World) (h:Heap),Y w h->(K w.params).In h)
   (F:∀(w:World) (mg:Cb) (I:Addr) (h:Heap),(K w.params).In h->h.Ns mainGlobals mg->mg d.name=some (.ref I) ->
     ∃fd:FuncData,(∀(s:Shared) (u:Value),BindsTo s fd ⟨[u],[]⟩ [(x,u)]) /\
       ∀base:Heap,(K w.params).In base->base.Ns mainGlobals mg->AH l.prog w (K w.params) mg base (CX w) k I fd [x] (sp w))
   (a6:∀(w:World) (H:Hp) (a:Addr) (ns:List Int),ns.length<=n->Only H->AO (K w.params) H a (ns.map V.int)->sp w [.ref a] H (λv _=>v=.bl true) λ_ _ _=>False)
   (a2:∀(w:World) (H:Hp) (s:Shared) (e:Value) (s':Shared),CX w [] H s (λ_ _ _=>False) e s'->False) :
   PySem.W.WalkO q a9 XP Y l.row.toRowW d [] (λf vs=>PySem.call f vs):=by
 show Att.HV hn a3 λw s₀ s₁ mg mb I o pm cd doc a vs ns G a1 ho hd aA a4 a7 a8 a0 hg=>?_;have O:=hY w _ a1;show Am (F w mg I _ O G.T.g a4) λfd hb hF=>law_call O G.T.g G.T.b G.T.builtins G.T.nolimit hg a7 a8 (KN a0 a5) hr hF hb (λH hO hS=>a6 w H a ns a0 hO hS) λH e s'=>a2 w H s₁ e s'
def inClass (s:Stmt)(j:Nat):Stmt:=match s with
 | .ClassDef _ _ _ I _ _ _ _ _ _ _=>I.getD j (.Pass ⟨0,0,0,0⟩)
 | _=>.Pass ⟨0,0,0,0⟩
def Ix (s:Stmt):Arguments:=match s with
 | .FunctionDef _ a _ _ _ _ _ _ _ _=>a
 | _=>{posonlyargs:=[],args:=[],vararg:=none,kwonlyargs:=[],kw_defaults:=[],kwarg:=none,defaults:=[]}
def Ew (s:Stmt):List Stmt:=match s with
 | .FunctionDef _ _ b _ _ _ _ _ _ _=>b
 | _=>[]
def Ao (s:Stmt):Scope:=match s with
 | .FunctionDef _ _ _ _ _ _ sc _ _ _=>sc
 | _=>{kind:=.function,names:=[],isGenerator:=false,isCoroutine:=false}
abbrev BE:IY:=λ_ _ _ _ _ _=>False
abbrev E0:XK:=λ_ _ _=>False
def pass0:Gm BE X E0:=λ_ _ _ _ _ _ _ h=>h.elim
structure As (K:Av)(x qual:Str)(st:Stmt)(f:Addr)(fd:FuncData):Prop where
 ex:∃(oc:Value) (od:Option Addr) (kV doc pm:Value) (an:Option Addr) (cdv ct:Value) (osl:Array (Option Value)),
  fd=PySem.W.fnOf x qual (Ix st) (Ew st) (Ao st) .none kV doc pm an cdv ct/\K.lookup f=some ⟨oc,od,.func fd,osl⟩/\PySem.W.codeIn K cdv qual=true
 kp:PySem.W.keepIn K (.ref f)=true
section
variable {P:Program}{w:World}{K:Av}{mg:Cb}{base:Heap}
def As.ok {x qual:Str}{st:Stmt}{f:Addr}{fd:FuncData}{N ps:List Str}{k:Nat}{sp:Sp}(F:As K x qual st f fd)(S:AD N ps (Ao st))(len:∀vs H Q E,sp vs H Q E->vs.length=ps.length)
   (Y:∀(cdv:Value) (A:Around) (outer:List Env) (s:Shared) (H:Hp) (vs:List V) (Q:VK) (E:XK),BC k (A.deeper (envOfC qual (Ao st) s.heap.objs.size f cdv))->sp vs H Q E ->
     ∃t,IU (FK BE P w K mg base N qual (Ao st) f cdv A outer s H E).nox (Ew st) t/\t {nx:=λ_ H'=>Q .BI H',rt:=Q} (start N vs) H):AH P w K mg base BE (k+1) f fd ps sp:=by
 show Dc F.ex λoc od kV doc pm an z1=>He z1 λcdv ct osl z2 lk I=>?_;subst z2;show fn_of lk I S len λA outer s H vs Q E hr O=>Am (Y cdv A outer s H vs Q E hr O) λt h q=>Aq t h.nox q
def As.binds {x qual:Str}{st:Stmt}{f:Addr}{fd:FuncData}{ps:List Str}(F:As K x qual st f fd)
  (h:∀(kV doc pm:Value) (an:Option Addr) (cdv ct:Value) (us:List Value),us.length=ps.length->bindArgs (PySem.W.fnOf x qual (Ix st) (Ew st) (Ao st) .none kV doc pm an cdv ct) ⟨us,[]⟩=pure (ps.zip us)):Binds K fd ps []:=by
 show Dc F.ex λoc od kV doc pm an z1=>He z1 λcdv ct osl z2 lk I=>?_;subst z2;show .all (h kV doc pm an cdv ct)
def Jh {x qual:Str}{st:Stmt}{f:Addr}{oc:Value}{od an:Option Addr}{osl:Array (Option Value)}{kV doc pm cdv ct:Value}(l:K.lookup f=some ⟨oc,od,.func (PySem.W.fnOf x qual (Ix st) (Ew st) (Ao st) .none kV doc pm an cdv ct),osl⟩)
  (c:PySem.W.codeIn K cdv qual=true)(k:PySem.W.keepIn K (.ref f)=true):As K x qual st f (PySem.W.fnOf x qual (Ix st) (Ew st) (Ao st) .none kV doc pm an cdv ct):=⟨(Cw oc od kV doc pm an (Kl cdv ct osl rfl l c)),k⟩
end
def Ds (hr:BC k A):A.units+1<cLine:=LS (Nat.add_le_add_left (by decide:1<=64) _) hr.units
section
def pv (i:Nat)(I:X.N[i]?=some x:=by rfl)(O:Vis X.env.scope x:=by first|show Or.inl rfl|show Or.inr (Or.inl rfl)|show Or.inr (Or.inr rfl))(hd:Eg x:=by decide)
  (Y:(x==("__classdict__":Str))=false:=by decide):PE X (.Name x pos) (tVar i):=pe_var I O hd Y
end
def Jo {A B:Prop}(h:B):if false=true then A else B:=by
 rw[KH LA];show h
def E7 {A B:Prop}(h:A):if true=true then A else B:=by
 rw[KJ rfl];show h
def B5 {c A B:Prop}[Decidable c](h1:c->A)(h2:¬c->B):if c then A else B:=by
 by_cases h:c
 .rw [KJ h];show h1 h
 .rw [KH h];show h2 h
def Hv {c A B:Prop}[Decidable c](I:c)(h:B):if(!decide c)=true then A else B:=by
 rw[KA I];show Jo h
def AA (H H':Hp):Prop:=∀b o,H b=some o->H' b=some o
def AA.refl (H:Hp):AA H H:=λ_ _ h=>h
def AA.trans (a:AA H H1)(b:AA H1 H2):AA H H2:=λc o h=>b c o (a c o h)
def AA.free (e:AA H H')(h:H' l=Option.none):H l=Option.none:=by
 cases q:H l with
 | none=>rfl
 | some o=>
  rw[e l o q]at h;cases h
def AA.seq {K:Av}{H H':Hp}{a:Addr}{xs:List V}(e:AA H H')(h:AO K H a xs):AO K H' a xs:=by
 rcases h with(h|⟨o,h⟩)|h
 .show .inl (.inl (e _ _ h))
 .show .inl (.inr ⟨o,e _ _ h⟩)
 .show .inr h
section
variable {R:Result->Shared->Prop}
def Xp (I:Nat->Shared->Prop)
   (a6:∀n s,I n s->wpAny (model prog w) A (pyNext it) (λr O=>match r with
     | none=>R (.ok .next) O
     | some v=>wpAny (model prog w) A (letOwnedTupleGo a0 it v) (λ_ a4=>wpAny (model prog w) A (assign a0 env v) (λ_ s₂=>
         wpAny (model prog w) A (forIn a3 true λc r=>if r=true then do let ok ← isTrue c env (eval c env);pure (ForInStep.yield ok)else pure (ForInStep.yield r)) (λok Y=>
           if ok=true then wpAny (model prog w) A (eval a2 env) (λx s₄=>
             wpAny (model prog w) A (call (.builtin "list.append") [a1,x]) (λ_ s₅=>∃m,m<n/\I m s₅) (λ_ _=>False) s₄) (λ_ _=>False) Y
           else ∃m,m<n/\I m Y) (λ_ _=>False) s₂) (λ_ _=>False) a4) (λ_ _=>False) O) (λ_ _=>False) s)
   (n:Nat)(h:I n s) :
   codeAny (model prog w) A (.compLoop (.ListComp a2 [⟨a0,iter,a3,0⟩] scope pos) 0 it a1 env) R s:=by
 have nv:∀{α:Type} {t:Sem α} {Q:α->Shared->Prop} {E':Bo} {s':Shared},wpAny (model prog w) A t Q (λ_ _=>False) s'->wpAny (model prog w) A t Q E' s':=
   λh=>NY h (λ_ _ q=>q) λ_ _ z=>z.elim
 show codeAny_loop rfl I (λn s hI=>?_) n h
 show wpAny _ A ((compTurn (.ListComp a2 [⟨a0,iter,a3,0⟩] scope pos) 0 it a1 env).onRaise (λx=>do noteFrame x env;theTreesLotGoes x)) _ _ s
 show wpAny_noted (nv ?_);rw[compTurn_list];show JQ (wpAny_standAt (JQ (AT (a6 n s hI) (λr O h₁=>?_))))
 cases r with
 | none=>show JW h₁
 | some v=>
   show JQ (AT h₁ (λ_ a4 a5=>JQ (AT a5 (λ_ s₂ h₂=>JQ (AT h₂ (λok Y h₃=>?_))))))
   cases ok with
   | false=>show JW ⟨rfl,h₃⟩
   | true=>
     show JQ (JQ (AT h₃ (λx s₄ h₄=>JQ (AT h₄ (λ_ s₅ h₅=>JW (JW ⟨rfl,h₅⟩))))))
end
noncomputable def CG (X:Cx)(N':List Str)(scope:Scope)(cl:List (Str×Addr))(I:Shared)(H3:Hp)(ex:List Addr):Cx where
 prog:=X.prog
 w:=X.w
 K:=X.K
 mg:=X.mg
 base:=X.base
 A:=X.A
 N:=N'
 s₀:=I
 H₀:=H3
 env:=compEnvC scope cl I.heap.objs.size X.env
 outer:=X.stack
 stack:=X.stack
 ex:=ex
 fn:=λ_=>false
 calm:=X.calm
 pn:=[]
 xe:=λ_ _=>False
noncomputable def Ld (n:Nat)(js:List Nat)(σ:St):St:=List.replicate n none++js.map λj=>(σ[j]?).join
structure AY (X:Cx)(scope:Scope)(cl:List (Str×Addr))(N':List Str)(n:Nat)(js:List Nat):Prop where
 HZ:closureFor scope X.env=pure cl
 kind:scope.kind=.function
 HP:∀y∈scope.names,y.2≠.cell
 names:∀y∈scope.names,y.2=.local->scope.names.lookup y.1=some .local
 len:N'.length=n+js.length
 sub:∀x c,cl.lookup x=some c->X.env.cells.lookup x=some c
 has:∀x,scope.names.lookup x=some .free->∃c,cl.lookup x=some c
 cap:∀k j,js[k]?=some j->∃x,N'[n+k]?=some x/\X.N[j]?=some x/\scope.names.lookup x=some .free/\(X.env.kindOf x=some .cell\/X.env.kindOf x=some .free)
theorem Ht {env:Env}:∀{names:List (Str×NameKind)} {x:Str} {k:NameKind},(∀y∈names,y.2≠.cell) ->
  (names.map λ(n,k)=>if(k==NameKind.free&&env.scope.kind==.function&&env.kindOf n==some .cell)then(n,NameKind.cell)else(n,k)).lookup x=some k->k=.cell\/k=.free->names.lookup x=some .free
 | [],_,_,_,h,_=>by simp at h
 | (n,k')::r,x,k,O,h,hk=>by
  have Y:=@Ht env r x k (λy hy=>O y (JS _ hy));have h':List.lookup x ((if(k'==NameKind.free&&env.scope.kind==.function&&env.kindOf n==some .cell)=true then(n,NameKind.cell)else(n,k'))::(r.map λ(n,k)=>if(k==NameKind.free&&env.scope.kind==.function&&env.kindOf n==some .cell)then(n,NameKind.cell)else(n,k)))=some k:=h;have hn:k'≠.cell:=O (n,k') JY;by_cases I:(k'==NameKind.free&&env.scope.kind==.function&&env.kindOf n==some .cell)=true
  .rw [KJ I]at h';have hf:k'=.free:=by
    simp only[MA,RB]at I;show I.1.1
   subst hf
   cases hx:x==n with
   | true=>simp[ND,hx]
   | false=>
    simp only[ND,hx]at h' ⊢;show Y h' hk
  .rw [KH I]at h'
   cases hx:x==n with
   | true=>
    simp only[ND,hx,Option.some.injEq]at h' ⊢;subst h'
    rcases hk with z|z
    .show absurd z hn
    .show z
   | false=>
    simp only[ND,hx]at h' ⊢;show Y h' hk
section
def AY.inner (c:AY X scope cl N' n js)(h:(compEnvC scope cl 0 X.env).kindOf x=some .cell\/(compEnvC scope cl 0 X.env).kindOf x=some .free) :
  scope.names.lookup x=some .free:=by
 rcases h with h|h
 .show Ht c.HP h (.inl rfl)
 .show Ht c.HP h (.inr rfl)
theorem Gq {env:Env}:∀{names:List (Str×NameKind)} {x:Str},names.lookup x=some .free ->
  (names.map λ(n,k)=>if(k==NameKind.free&&env.scope.kind==.function&&env.kindOf n==some .cell)then(n,NameKind.cell)else(n,k)).lookup x=some .cell \/
  (names.map λ(n,k)=>if(k==NameKind.free&&env.scope.kind==.function&&env.kindOf n==some .cell)then(n,NameKind.cell)else(n,k)).lookup x=some .free
 | [],_,h=>by simp at h
 | (n,k)::r,x,h=>by
  have I:=@Gq env r x
  show List.lookup x ((if(k==NameKind.free&&env.scope.kind==.function&&env.kindOf n==some .cell)=true then(n,NameKind.cell)else(n,k))::_)=_\/List.lookup x ((if(k==NameKind.free&&env.scope.kind==.function&&env.kindOf n==some .cell)=true then(n,NameKind.cell)else(n,k))::_)=_
  cases hx:x==n with
  | true=>
   simp only[ND,hx,Option.some.injEq]at h;subst h;split<;>simp[ND,hx]
  | false=>
   simp only[ND,hx]at h;split<;>(simp only[ND,hx];show I h)
def Zf (c:AY X scope cl N' n js)(I:Inv X pins σ H s)
  (f:∀b∈fp,Le X pins H b)(fo:∀b∈fp,b<s.heap.objs.size)(a0:∃m,h₁.Ns s.heap.objs.size m)(hk:∀b o,s.heap.get? b=some o->h₁.get? b=some o) :
  Inv (CG X N' scope cl s H fp) [] (Ld n js σ) H {s with heap:=h₁,toks:=tk}:=by
 obtain⟨m,a0⟩:=a0
 show⟨⟨I.ok.mod,c.kind,I.ok.glob,I.ok.blt,JV _,λx y a h1 h2=>I.ok.inj x y a (c.sub x a h1) (c.sub y a h2),λx hx=>c.has x (c.inner hx),λx a h=>(nomatch h),I.ok.hd,I.ok.frames,.inl rfl,
  λb hb=>⟨LF (fo b hb),λx a h=>(f b hb).2.2.2.2.1 x a (c.sub x a h)⟩,I.bs,KN I.ok.JE I.sz,λb o e hb=>?_,λb hb z=>?_,I.stack,I.GK⟩,
  rfl,I.bare,Un.kept hk,(Aq m a0 λi x v h1 h2 h3=>?_),λx a h=>?_,I.AU.fresh (JV _),λx a h=>I.CC x a (c.sub x a h),λp hp=>absurd (show p∈([]:List (Addr×Obj))from hp) (by simp),I.AU.kept hk,?_⟩
 .rcases (f b hb).2.2.2.1 with z|z
  .show I.ok.ID b o e z
  .show absurd (LD (JZ e) (KN I.ok.JE z)) (NK _)
 .rcases JT.mp (I.HS b z)with q|q
  .show (f b hb).2.1 q
  .show (f b hb).2.2.1 q
 . -- a captured name
  unfold Ld at h2;by_cases hi:i<n
  .rw [NV (by simpa using hi),List.getElem?_replicate]at h2;rw[KJ hi]at h2;cases h2
  .rw [MH (by simpa using hi),MT,LG]at h2
   cases e:js[i-n]? with
   | none=>rw[e]at h2;cases h2
   | some j=>
    rw[e]at h2;have O:(σ[j]?).join=some v:=LV h2;have hj:σ[j]?=some (some v):=by
     cases q:σ[j]? with
     | none=>rw[q]at O;cases O
     | some o=>rw[q]at O;show LM some O
    show Oz (c.cap (i-n) j e) λy e1 e2 e3 e4=>?_;have a3:n+(i-n)=i:=by omega
    rw[a3]at e1;have a2:N'[i]?=some x:=h1;rw[e1]at a2;cases a2;show Am I.loc λm0 a6 a4=>?_;have a5:Vis X.env.scope x:=by
     rcases e4 with z|z
     .show .inr (.inl z)
     .show .inr (.inr z)
    show Am (a4 j x v e2 hj a5) λu r l=>Aq u r (.inr ⟨?_,?_⟩)
    .show Gq (env:=X.env) e3
    .rcases l with⟨k,_⟩|⟨_,a,ea,ha⟩
     .rcases e4 with z|z
      .rw [z]at k;cases k
      .rw [z]at k;cases k
     .obtain⟨a',a1⟩:=c.has x e3;have:=c.sub x a' a1;rw[ea]at this;cases this;show Aq a a1 (Am ha λo Y hd=>Aq o (hk _ _ Y) hd)
 .show C8 (I.cell x a (c.sub x a h)) λv o Y hd=>C6 v o (hk _ _ Y) hd
 .show (Ld n js σ).length=N'.length
  unfold Ld;rw[JX,MT,JR,c.len]
def Zw (I:Inv X pins σ H s)(f:∀b∈fp,Le X pins H b)
  (J:Inv (CG X N' scope cl s H fp) [] σ' H' s'):Inv X pins σ H' s':=
 I.IA (ch:=fp) J.os J.base J.AU J.bare λb hb=>(C7 ((f b hb).2.2.2.1) ((f b hb).2.1) ((f b hb).2.2.2.2.1) ((f b hb).2.2.2.2.2))
def Mn (I:Inv X pins σ H s)(J:Inv X pins σ' H' s')(O:H' s.heap.objs.size=none)(hs:Heap.SameBut s.heap.objs.size s'.heap h'):Inv X pins σ' H' {s' with heap:=h'}:=by
 show J.turned (t':=s'.toks) (λb o hb e=>(hs.2 b hb).trans e) O (MK I.lt) (.inr I.sz) (λx c e z=>?_) λp Y z=>?_
 .obtain⟨v,q⟩:=I.cell x c e;show absurd q.lt (by rw[z];show NK _)
 .show absurd (JZ (I.pin p Y).1) (by rw[z];show NK _)
end
def PTS (X:Cx)(I:List Expr)(tt:TT):Prop:=
 ∀(pins:Ej) (s:Shared) (σ:St) (H:Hp) (Q:Bool->Hp->Prop),Inv X pins σ H s->tt σ H Q ->
  wpAny (model X.prog X.w) X.A (forIn I true λc r=>if r=true then do let ok ← isTrue c X.env (eval c X.env);pure (ForInStep.yield ok)else pure (ForInStep.yield r)) (TP X pins σ Q) X.xe s
def tYes:TT:=λ_ H Q=>Q true H
def pts_nil:PTS X [] tYes:=λ_ _ _ H _ I h=>wpAny_tests_nil (Aq H I h)
def pts_one (h:PT X c tt):PTS X [c] tt:=λpins s σ H Q I q=>wpAny_tests_one (h pins s σ H Q I q)
def Ae5 (κ:St->St)(wi:TI)(g:TG)(tt:TT)(te:TE):TE:=λσ H Q=>wi σ H λJ H1=>∀D,H1 D=none->∃W:Nat->Nat->St->Hp->Prop,(∃m,W 0 m (κ σ) (upd H1 D (.lst [])))/\∀i m σ' H',W i m σ' H' ->
 (J.stop i H'/\Q (.ref D) H')\/(J.go i H'/\∃(Ay:V->St->Hp->Prop) (An:St->Hp->Prop),(∀y σ3 O,Ay y σ3 O->∃ys,O D=some (.lst ys)/\ys.length<sizeLine/\∃Y,Y<m/\W (i+1) Y σ3 (upd O D (.lst (ys++[y]))))/\(∀σ3 I,An σ3 I->∃Y,Y<m/\W (i+1) Y σ3 I) /\
   ∀x H2,J.GF i H' x H2->g x σ' H2 λσ3 H3=>tt σ3 H3 λok I=>if ok=true then te σ3 I (λy O=>Ay y σ3 O)else An σ3 I)
section
def Zv {E:Bo}
   {RR:Value->Addr->Result->Shared->Prop}{tn:Nat->Heap->Prop}{W:Addr->Nat->Nat->St->Hp->Prop}{Fi:Addr->Hp->Prop}
   (c:AY X scope cl N' n js)(hc:X.calm=true)
   (aJ:∀I H3 fp,PG (CG X N' scope cl I H3 fp) tg g/\PTS (CG X N' scope cl I H3 fp) a8 tt/\PE (CG X N' scope cl I H3 fp) a6 te)
   (a2:Inv X pins σ H s)(T:Turn X.prog X.w X.K tg J fp it tn)(st:tn 0 s.heap)(f:∀b∈fp,Le X pins H b)
   (w0:∀D,H D=none->∃m,W D 0 m (Ld n js σ) (upd H D (.lst [])))
   (aW:∀D,H D=none->∀i m σ' H',W D i m σ' H'->(J.stop i H'/\Fi D H')\/(J.go i H'/\∃(Ay:V->St->Hp->Prop) (An:St->Hp->Prop),(∀y σ3 Y,Ay y σ3 Y->∃ys,Y D=some (.lst ys)/\ys.length<sizeLine/\∃O,O<m/\W D (i+1) O σ3 (upd Y D (.lst (ys++[y]))))/\(∀σ3 H4,An σ3 H4->∃O,O<m/\W D (i+1) O σ3 H4) /\
     ∀x H2,J.GF i H' x H2->g x σ' H2 λσ3 H3=>tt σ3 H3 λok H4=>if ok=true then te σ3 H4 (λy Y=>Ay y σ3 Y)else An σ3 H4))
   (hR:∀(D:Addr) (I:Shared) (H3 H':Hp) (s':Shared),Inv X pins σ H3 I->Inv X pins σ H' s'->(∃m,s'.heap.Ns I.heap.objs.size m)->H' I.heap.objs.size=none->Fi D H'->RR (.ref D) I.heap.objs.size (.ok .next) s') :
   wpAny (model X.prog X.w) X.A (newList []) (λa4 s₃=>wpAny (model X.prog X.w) X.A (newFunctionEnv scope X.env.globals cl [] X.env.qual none .none (some X.env)) (λaB s₄=>
     codeAny (model X.prog X.w) X.A (.compStart (.ListComp a6 [⟨tg,iter,a8,0⟩] scope pos) 0 (.ref it) a4 {aB with scope:=relabel scope X.env}) (RR a4 aB.locals) s₄) E s₃) E s:=by
 have hD:H s.heap.objs.size=none:=a2.fresh;have I3:=a2.lnew (ys:=[]) (its:=[]) (t':=s.toks) .nil (LN _);show ME ?_;have f3:∀b∈fp,Le X pins (upd H s.heap.objs.size (.lst [])) b:=λb hb=>by
   show Am (T.obj _ _ st b hb) λo e _=>?_;show⟨by rw[Aj (LF (JZ e))];show(f b hb).1,(f b hb).2⟩
 generalize aM:({s with heap:=s.heap.push {cls:=.type "list",data:=.seq ([]:List Value).toArray},toks:=s.toks}:Shared)=I at I3;have aI:s.heap.push {cls:=.type "list",data:=.seq ([]:List Value).toArray}=I.heap:=by rw[← aM]
 have k3:∀b o,s.heap.get? b=some o->I.heap.get? b=some o:=λb o e=>by rw[← aI];show JU _ e
 have fo:∀b∈fp,b<I.heap.objs.size:=λb hb=>by
   show Am (T.obj _ _ st b hb) λo e _=>JZ (k3 b o e)
 show wpAny_newFunctionEnv c.HP (by intro y hy;simp at hy) (λh₁ aU aV=>?_) c.kind;have k4:∀b o,I.heap.get? b=some o->h₁.get? b=some o:=λb o e=>aV.extBut b o (LF (JZ e)) (JU _ e);have I4:=Zf (h₁:=h₁) (tk:=I.toks+([]:List (Str×Value)).length) c I3 f3 fo ⟨_,aU⟩ k4;have a9:tn 0 h₁:=T.keep _ _ _ st λb _ o e=>k4 b o (k3 b o e);have a1:∀{H':Hp},(∀b∈fp,H' b=none)->∀b∈fp,Le (CG X N' scope cl I (upd H s.heap.objs.size (.lst [])) fp) [] H' b:=λhn b hb=>
   (D8 (hn b hb) (LF (fo b hb)) (I4.ok.HM b hb) (.inl hb) (λx a h=>(f b hb).2.2.2.2.1 x a (c.sub x a h)) λp hp=>absurd (show p∈([]:List (Addr×Obj))from hp) (by simp))
 show Ch (aJ I (upd H s.heap.objs.size (.lst [])) fp) λhg aN aH=>?_;have tr:=aW _ hD;have aC:codeAny (model X.prog X.w) X.A (.compLoop (.ListComp a6 [⟨tg,iter,a8,0⟩] scope pos) 0 (.ref it) (.ref s.heap.objs.size) (compEnvC scope cl I.heap.objs.size X.env))
     (RR (.ref s.heap.objs.size) I.heap.objs.size) {I with heap:=h₁,toks:=I.toks+([]:List (Str×Value)).length}:=by
   obtain⟨m0,w0⟩:=w0 _ hD;show Xp (λm s'=>∃i σ' H',Inv (CG X N' scope cl I (upd H s.heap.objs.size (.lst [])) fp) [] σ' H' s'/\tn i s'.heap/\(∀b∈fp,H' b=none)/\W s.heap.objs.size i m σ' H') ?_ m0 (Ei 0 _ _ I4 a9 (λb hb=>(f3 b hb).1) w0);rintro m s5 ⟨i,σ5,Y,I5,aA,a7,w5⟩;rcases tr i m σ5 Y w5 with⟨stop,qF⟩|⟨go,Ay,An,aG,aF,step⟩
   . show AT (T.done (CG X N' scope cl I (upd H s.heap.objs.size (.lst [])) fp) rfl rfl rfl hc i [] s5 σ5 Y (λ_ _=>False) I5 (a1 a7) aA stop) λr s6 ⟨hr,I6⟩=>?_;subst hr;show Am I6.loc λm6 aK _=>hR _ I _ Y s6 I3 (Zw I3 f3 I6) ⟨m6,aK⟩ I6.free qF
   . show AT (T.item (CG X N' scope cl I (upd H s.heap.objs.size (.lst [])) fp) rfl rfl rfl hc i [] s5 σ5 Y (λ_ _=>False) I5 (a1 a7) aA go) λr s6 ⟨u,hr,h6⟩=>?_;subst hr;show AT h6 λ_ s7 ⟨x,H7,I7,r7,y7,a0,aE⟩=>?_;have aD:=I7.pinned (a1 aE) (T.obj _ _ a0);show AT (hg _ s7 σ5 H7 x u _ aD r7 (step x H7 y7)) λ_ s8 ⟨σ8,H8,I8,q8⟩=>AT (aN _ s8 σ8 H8 _ I8 q8) λok s9 ⟨H9,I9,q9⟩=>?_;have back:∀{H':Hp} {s':Shared},Inv (CG X N' scope cl I (upd H s.heap.objs.size (.lst [])) fp) ([]++P4 fp s7.heap) σ8 H' s'->(∃O,O<m/\W s.heap.objs.size (i+1) O σ8 H') ->
         ∃O,O<m/\∃i σ' H',Inv (CG X N' scope cl I (upd H s.heap.objs.size (.lst [])) fp) [] σ' H' s'/\tn i s'.heap/\(∀b∈fp,H' b=none)/\W s.heap.objs.size i O σ' H':=fun {H' s'} J' w'=>by
       obtain⟨O,hm,w'⟩:=w';show⟨O,hm,i+1,σ8,H',J'.DO,T.keep _ _ _ a0 λb hb o e=>(J'.pin (b,o) (LB _ (LB _ (F4 hb e)))).1,λb hb=>(Am (T.obj _ _ a0 b hb) λo e d=>((J'.pin (b,o) (LB _ (LB _ (F4 hb e)))).2.1)),w'⟩
     cases ok with
     | false=>
       rw[KH (by decide)]at q9 ⊢;show back I9 (aF _ _ q9)
     | true=>
       rw[KJ rfl]at q9 ⊢;show AT (aH _ s9 σ8 H9 _ I9 q9) λyv aY ⟨y,aX,a3,aQ,qA⟩=>Bg (aG _ _ _ qA) λys a5 aZ aP=>?_;show Fc (a3.IG a5) λz z1=>A0 z1 λits nn r hl e=>?_;show OQ F.slot_list_append (Ad e rfl) F.entry_list_append (F.args_list_append_2 _ _) (PySem.list_append _ its.toArray nn yv (by rw[KS];omega)) ⟨e,back (a3.lset (its':=its++[yv]) a5 e (by simp) (r.append (.cons aQ .nil)) ?_) aP⟩;rw[JX,LI];omega
 show codeAny_compStart_list aC (T.self _ 0 _ _ _ a9 aC)
def pe_comp
   (c:AY X scope cl N' n js)(hc:X.calm=true)(hi:PI X tg iter wi)
   (a4:∀s3 H3 fp,PG (CG X N' scope cl s3 H3 fp) tg g/\PTS (CG X N' scope cl s3 H3 fp) a6 tt/\PE (CG X N' scope cl s3 H3 fp) a2 te)
   (hs:Up X iter:=by intro _;rfl):PE X (.ListComp a2 [⟨tg,iter,a6,0⟩] scope pos) (Ae5 (Ld n js) wi g tt te):=by
 intro pins s σ H Q a0 h;rw[eval_ListComp];show OR (use:=none) rfl hs c.HZ c.kind c.names (AT (hi pins s σ H _ a0 h) λv s1 h1=>AT h1 λa9 s2 h2=>?_);obtain⟨it,fp,tn,J,H2,e,I2,T,a7,f2,h2⟩:=h2;subst e;have a3:∃W:Addr->Nat->Nat->St->Hp->Prop,(∀D,H2 D=none->∃m,W D 0 m (Ld n js σ) (upd H2 D (.lst [])))/\∀D,H2 D=none->∀i m σ' H',W D i m σ' H' ->
     (J.stop i H'/\Q (.ref D) H')\/(J.go i H'/\∃(Ay:V->St->Hp->Prop) (An:St->Hp->Prop),(∀y σ3 Y,Ay y σ3 Y->∃ys,Y D=some (.lst ys)/\ys.length<sizeLine/\∃m',m'<m/\W D (i+1) m' σ3 (upd Y D (.lst (ys++[y]))))/\(∀σ3 O,An σ3 O->∃m',m'<m/\W D (i+1) m' σ3 O) /\
       ∀x H2,J.GF i H' x H2->g x σ' H2 λσ3 H3=>tt σ3 H3 λok O=>if ok=true then te σ3 O (λy Y=>Ay y σ3 Y)else An σ3 O):=by
   show⟨λD=>if I:H2 D=none then(h2 D I).choose else λ_ _ _ _=>False,λD I=>?_,λD I=>?_⟩
   . simp only[I,RC];show(h2 D I).choose_spec.1
   . simp only[I,RC];show(h2 D I).choose_spec.2
 show Am a3 λW w0 a8=>Zv (RR:=λa1 C=>compPost (model X.prog X.w) X.A X.xe none (EP X pins σ Q) a1 C) (Fi:=λD H'=>Q (.ref D) H') (W:=W) c hc a4 I2 T a7 f2 w0 a8 ?_;intro D s3 H3 H' s' I3 I' ⟨m,hn⟩ hC q;show Aq m hn λh' a5=>(Al (.ref D) H' (Mn I3 I' hC a5) rfl q)
def ps_comp
   (hN:X.N.Nodup)(a6:X.N[i0]?=some y)(hx:X.env.scope.names.lookup y=some .local)
   (aA:swapsWith (.ListComp a0 [⟨tg,iter,a1,0⟩] scope pos) (some (.Name y py)) aD.line X.env=pure true)
   (c:AY X scope cl N' n js)(hc:X.calm=true)(hi:PI X tg iter wi)
   (a7:∀s3 H3 fp,PG (CG X N' scope cl s3 H3 fp) tg g/\PTS (CG X N' scope cl s3 H3 fp) a1 tt/\PE (CG X N' scope cl s3 H3 fp) a0 te)
   (hs:Up X iter:=by intro _;rfl):PS X (.Assign [.Name y py] (.ListComp a0 [⟨tg,iter,a1,0⟩] scope pos) aD) (Ye (Ae5 (Ld n js) wi g tt te) (BH i0)):=by
 intro pins s σ H D0 a2 h;rw[exec_Assign_Name_used _ _ _ _ aA];show JQ (wpAny_standAt (JQ ?_))
 show wpAny _ X.A (do let _ ← comprehension (.ListComp a0 [⟨tg,iter,a1,0⟩] scope pos) scope X.env _ (newList []) false (eval iter X.env) (some (assign (.Name y py) X.env))) _ _ s
 show JQ (AT (OR (use:=some (assign (.Name y py) X.env)) (Q:=λ_ s'=>SP X pins D0 .next s') rfl hs c.HZ c.kind c.names (AT (hi pins s σ H _ a2 h) λv s1 h1=>AT h1 λaF s2 h2=>?_))
   λ_ s' hq=>JW (JW hq))
 obtain⟨it,fp,tn,J,H2,e,I2,T,aB,f2,h2⟩:=h2;subst e;have a5:∃W:Addr->Nat->Nat->St->Hp->Prop,(∀D,H2 D=none->∃m,W D 0 m (Ld n js σ) (upd H2 D (.lst [])))/\∀D,H2 D=none->∀i m σ' H',W D i m σ' H' ->
     (J.stop i H'/\D0.nx (σ.set i0 (some (.ref D))) H')\/(J.go i H'/\∃(Ay:V->St->Hp->Prop) (An:St->Hp->Prop),(∀y σ3 Y,Ay y σ3 Y->∃ys,Y D=some (.lst ys)/\ys.length<sizeLine/\∃m',m'<m/\W D (i+1) m' σ3 (upd Y D (.lst (ys++[y]))))/\(∀σ3 O,An σ3 O->∃m',m'<m/\W D (i+1) m' σ3 O) /\
       ∀x H2,J.GF i H' x H2->g x σ' H2 λσ3 H3=>tt σ3 H3 λok O=>if ok=true then te σ3 O (λy Y=>Ay y σ3 Y)else An σ3 O):=by
   show⟨λD=>if I:H2 D=none then(h2 D I).choose else λ_ _ _ _=>False,λD I=>?_,λD I=>?_⟩
   . simp only[I,RC];show(h2 D I).choose_spec.1
   . simp only[I,RC];show(h2 D I).choose_spec.2
 show Am a5 λW w0 aE=>Zv (RR:=λa4 C=>compPost (model X.prog X.w) X.A X.xe (some (assign (.Name y py) X.env)) (λ_ s'=>SP X pins D0 .next s') a4 C) (Fi:=λD H'=>D0.nx (σ.set i0 (some (.ref D))) H') (W:=W) c hc a7 I2 T aB f2 w0 aE ?_;intro D s3 H3 H' s' I3 I' ⟨m,hn⟩ hC q
 show wpAny _ _ (assign (.Name y py) X.env (.ref D)) _ _ s'
 show wpAny_assign_Name (Pe (v:=.ref D) I' hN a6 (.inl hx) rfl (λaG a3 ⟨a,aC,ha⟩=>?_) (.inr hx));have a8:s3.heap.objs.size≠a:=by
   rcases ha with z|z
   . rw[z];show MK I3.lt
   . intro q;obtain⟨v,w⟩:=I3.cell y a z;show absurd w.lt (by rw[← q];show NK _)
 show Aq m (hn.sameBut aC a8) λh' a9=>(C6 _ H' (Mn I3 a3 hC a9) q)
end
def Inv.IS {X:Cx}{pins:Ej}{σ:St}{H:Hp}{s:Shared}{h':Heap}{t':Nat}{fp:List Addr}{T:Addr}{xs:List V}{its:List Value}(I:Inv X pins σ H s)(f:∀b∈fp,Le X pins H b)
  (k:∀b o,b∉fp->s.heap.get? b=some o->h'.get? b=some o)(kt:∀b∈fp,∃o,h'.get? b=some o)(Y:s.heap.objs.size<=T)(hx:xs.length<=sizeLine)(hv:AK xs its)(ht:IsTup h' T its.toArray) :
  Inv X pins σ (upd H T (.tup xs)) {s with heap:=h',toks:=t'}:=by
 have hn:H T=none:=I.AU.fresh Y;have nL:X.env.locals∉fp:=λz=>(f _ z).2.1 rfl;show I.step (g':=s.gens) (d':=s.drawn) (ch:=fp) (λb hb=>(C7 ((f b hb).2.2.2.1) ((f b hb).2.1) ((f b hb).2.2.2.2.1) ((f b hb).2.2.2.2.2))) (λb o _ _ O e _=>k b o O e) (λb o _ _ O e _=>⟨o.slots,k b o O e⟩)
  (λb o _ e n=>by rw[Aj (LF (LD (JZ e) Y))];show n) (λb o O e=>⟨o,k b o O e⟩)
  (λb ys e=>by rw[Aj (Af e hn)];show e) (λb o u e=>by rw[Aj (Af e hn)];show e) (λb ps e=>⟨#[],by rw[Aj (Af e hn),e];simp⟩) (λm hm=>?_) (λb u e=>?_) I.bare
 .show Gh hm λo es ep ho r=>Nm o es ep (k _ o nL ho) r
 .by_cases hb:b=T
  .subst hb;rw[Ah]at e;cases e;show⟨hx,(Aq its hv ht)⟩
  .rw [Aj hb]at e;have nf:∀c v,H c=some v->c∉fp:=λc v q z=>by rw[(f c z).1]at q;cases q
   show(I.AU b u e).FD (λc v O q=>k c v ?_ q) (λc q=>by rw[Aj (Af q hn)];show q) λc ys q=>by rw[Aj (Af q hn)];show q
   rcases O with z|z
   .rw [z];show nf b u e
   .show nf c _ z
def Inv.JC {X:Cx}{pins:Ej}{σ:St}{H:Hp}{s:Shared}{h':Heap}{t':Nat}{fp:List Addr}(I:Inv X pins σ H s)(f:∀b∈fp,Le X pins H b)
  (k:∀b o,b∉fp->s.heap.get? b=some o->h'.get? b=some o):Inv X pins σ H {s with heap:=h',toks:=t'}:=by
 have nL:X.env.locals∉fp:=λz=>(f _ z).2.1 rfl;show I.step (g':=s.gens) (d':=s.drawn) (ch:=fp) (λb hb=>(C7 ((f b hb).2.2.2.1) ((f b hb).2.1) ((f b hb).2.2.2.2.1) ((f b hb).2.2.2.2.2))) (λb o _ _ O e _=>k b o O e) (λb o _ _ O e _=>⟨o.slots,k b o O e⟩)
  (λb o _ e n=>n) (λb o O e=>⟨o,k b o O e⟩) (λb ys e=>e) (λb o u e=>e) (λb ps e=>⟨#[],by rw[e];simp⟩) (λm hm=>?_) (λb u e=>?_) I.bare
 .show Gh hm λo es ep Y r=>Nm o es ep (k _ o nL Y) r
 .have nf:∀c v,H c=some v->c∉fp:=λc v q z=>by rw[(f c z).1]at q;cases q
  show(I.AU b u e).FD (λc v O q=>k c v ?_ q) (λc q=>q) λc ys q=>q
  rcases O with z|z
  .rw [z];show nf b u e
  .show nf c _ z
def Qj {K:Av}{a D:Addr}{xs:List V}{g:TG}{tt:TT}{te:TE}{σ0:St}{H1:Hp}{Q:Hp->Prop}(Pv:Nat->List V->St->Hp->Prop)(hx:xs.length<=sizeLine)(hD:H1 D=none)(h0:Pv 0 [] σ0 (upd H1 D (.lst [])))
   (hl:∀i ys σ H,i<=xs.length->Pv i ys σ H->AO K H a xs/\H D=some (.lst ys)/\ys.length<=i)
   (hs:∀i x ys σ H,xs[i]?=some x->Pv i ys σ H->g x σ H λσ3 H3=>tt σ3 H3 λok O=>if ok=true then te σ3 O λy I=>I D=some (.lst ys)/\Pv (i+1) (ys++[y]) σ3 (upd I D (.lst (ys++[y])))else Pv (i+1) ys σ3 O)
   (hd:∀ys σ H,Pv xs.length ys σ H->Q H) :
   ∃W:Nat->Nat->St->Hp->Prop,(∃m,W 0 m σ0 (upd H1 D (.lst [])))/\∀i m σ' H',W i m σ' H' ->
     ((Itl K a).stop i H'/\Q H')\/((Itl K a).go i H'/\∃(Ay:V->St->Hp->Prop) (An:St->Hp->Prop),(∀y σ3 I,Ay y σ3 I->∃ys,I D=some (.lst ys)/\ys.length<sizeLine/\∃Y,Y<m/\W (i+1) Y σ3 (upd I D (.lst (ys++[y])))) /\
       (∀σ3 O,An σ3 O->∃Y,Y<m/\W (i+1) Y σ3 O) /\
       ∀x H2,(Itl K a).GF i H' x H2->g x σ' H2 λσ3 H3=>tt σ3 H3 λok O=>if ok=true then te σ3 O (λy I=>Ay y σ3 I)else An σ3 O):=by
 show Aq (λi m σ H=>m=xs.length-i/\i<=xs.length/\∃ys,Pv i ys σ H) (Bx xs.length (by simp) (LN _) ⟨[],h0⟩) ?_;rintro i m σ H ⟨rfl,hi,ys,p⟩;show Ch (hl i ys σ H hi p) λq hy a1=>?_;by_cases a0:i<xs.length
 . show .inr ⟨(C6 xs (xs[i]) q (by simp[a0])),(Al (λy σ3 I=>I D=some (.lst ys)/\Pv (i+1) (ys++[y]) σ3 (upd I D (.lst (ys++[y])))) (λσ3 O=>Pv (i+1) ys σ3 O)
     (λy σ3 I ⟨e,p'⟩=>(Bx ys e (by omega) (Dh (xs.length-(i+1)) (by omega) rfl a0 ⟨_,p'⟩))) (λσ3 O p'=>(Dh (xs.length-(i+1)) (by omega) rfl a0 ⟨_,p'⟩)) λx H' y=>?_)⟩
   obtain⟨e,y⟩:=y;subst e;show hs i x ys σ H' (y xs q) p
 . have:i=xs.length:=by omega
   subst this;show .inl ⟨(Aq xs q (JV _)),hd ys σ H p⟩
def Bf:BD X (.builtin "isinstance") (λxs H Q=>∃x n t b,xs=[x,.ty n]/\FV X.K H x t/\PySem.W.kitOne X.K t (.type n)=some b/\Q (.bl b) H):=by
 intro pins s σ H xs us Q I r h;show Zr h λx n t b z1 ty e q=>?_;subst z1;show A0 (Ae2 r) λu w' z1 O Y=>?_;subst z1;cases Y;show An3 I O ty e λtk=>(Al (.bl b) H (I.tok _) rfl q)
structure AJ (P:Program)(w:World)(K:Av)(mg:Cb)(base:Heap)(k:Nat)(x:Str)(ps:List Str)(sp:Sp):Prop where
 ex:∃f fd,AH P w K mg base BE k f fd ps sp/\mg x=some (.ref f)/\PySem.W.keepIn K (.ref f)=true/\Binds K fd ps []
section
def pe_fn (F:AJ X.prog X.w X.K X.mg X.base k x ps sp)(hr:BC k X.A)(hg:Gl X x)(ha:PA X (e::es) t)(I:Eg x:=by decide)
  (he:Gi X e es:=by rfl)(O:Hf X pos es:=by rfl):PE X (.Call (.Name x p) (e::es) [] pos) (Nu sp [] E0 t):=by
 show Ia F.ex λf fd F hm hk hb=>Ah4 F hr hg hm hk hb .nil pass0 ha I he O
end
def pe_gint (hg:Gl X x)(hm:X.mg x=some (.int i t))(hd:Eg x:=by decide):PE X (.Name x pos) (tC (.int i)):=Ah3 (v:=.int i) hg hm ⟨t,rfl⟩ hd
def Bv:bootBuiltins "isinstance"=some (.builtin "isinstance"):=by decide +kernel
def Zb (K:Av):PySem.W.kitOne K (.type "int") (.type "int")=some true:=by rfl
def Kh (K:Av):PySem.W.kitOne K (.type "int") (.type "bool")=some false:=by rfl
def AY.nil (k:scope.kind=.function)(I:∀y∈scope.names,y.2≠.cell)(hf:∀y∈scope.names,y.2≠.free)(hn:∀y∈scope.names,y.2=.local->scope.names.lookup y.1=some .local)(hl:N'.length=n) :
  AY X scope [] N' n []:=
 ⟨closureFor_none hf,k,I,hn,by simpa using hl,λx c h=>(nomatch h),λx h=>absurd rfl (hf _ (NF h)),λk j h=>(by simp at h)⟩
def iteD {c A B:Prop}[Decidable c](I:c)(h:A):if decide c=true then A else B:=by
 rw[KA I];show E7 h
def Lz {c A B:Prop}[Decidable c](I:¬c)(h:B):if decide c=true then A else B:=by
 rw[LU I];show Jo h
def iteB {A B:Prop}(hb:b=true)(h:A):if b=true then A else B:=by
 rw[KJ hb];show h
def cutV_mem {xs:List V}{lo:Option Int}(h:x∈Ef xs lo hi):x∈xs:=MZ (OB h)
def AA.upd (e:AA H H1)(h:H1 p=none):AA H (upd H1 p o):=λb u q=>by
 rw[Aj (Af (e b u q) h)];show e b u q
def atI_all {xs:List Int}{i:Int}{P:Int->Prop}(h:∀x∈xs,P x)(h0:0<=i)(h1:i<xs.length):∃c,DY (xs.map V.int) i=some (V.int c)/\P c:=by
 have hk:i.toNat<xs.length:=by omega
 have e:(xs.map V.int)[i.toNat]?=some (V.int xs[i.toNat]):=by simp[hk]
 have:=Be e;rw[show((i.toNat:Nat):Int)=i by omega]at this;show Ad this (h _ (RD hk))
def Aj5 {ns:List Int}{k:Int}(h0:0<=k)(h1:k<ns.length):∃c,DY (ns.map V.int) k=some (V.int c):=by
 show Am (atI_all (P:=λ_=>True) (xs:=ns) (λ_ _=>trivial) h0 h1) λc h _=>⟨c,h⟩
theorem Us:∀(l:List (Str×Tok)),AK ((l.map (·.1)).map V.str) (strValues l)
 | []=>.nil
 | (x,t)::r=>.cons ⟨t,rfl⟩ (Us r)
def Al0:∀{xs:List Str} {us:List Value},AK (xs.map V.str) us->∃l:List (Str×Tok),l.map (·.1)=xs/\us=strValues l:=by
 intro xs
 induction xs with
 | nil=>intro us h;cases h;show Aq [] rfl rfl
 | cons x xs I=>
  intro us h
  cases h with
  | cons r t=>
   obtain⟨tk,rfl⟩:=r;show Am (I t) λl e1 e2=>?_;show Aq ((x,tk)::l) (by simp[e1]) (by rw[e2];rfl)
section
def mt_split:MtR X "str.split" (λx xs H Q=>∃z y,x=.str z/\xs=[.str y]/\(y.length==0)=false/\z.length+2<=sizeLine/\∀p,H p=none->Q (.ref p) (upd H p (.lst ((Txt.split z y).map V.str)))):=by
 intro pins s σ H x xs v us Q I rx rv h;show Ao2 h λz y z1 z2 O hz q=>?_;subst z1 z2;obtain⟨t,rfl⟩:=rx;show Am rv.one λu z1 z2=>?_;subst z1;obtain⟨t',rfl⟩:=z2;have Y:(Txt.split z y).length<=sizeLine:=KN (split_le z y) hz;have fin:∀(l:List (Str×Tok)) (tk:Nat),l.map (·.1)=Txt.split z y->EP X pins σ Q (.ref s.heap.objs.size) {s with heap:=s.heap.push {cls:=.type "list",data:=.seq (strValues l).toArray},toks:=tk}:=λl tk e=>by
  have hv:AK ((Txt.split z y).map V.str) (strValues l):=by rw[← e];show Us l
  show Al (.ref _) _ (I.lnew (t':=tk) hv (by rw[JR];show Y)) rfl (q _ I.fresh)
 cases h1:(decide (z.length<y.length)||decide (Builtin.Str.strKind z<Builtin.Str.strKind y))with
 | true=>
  show OQ F.slot_str_split (PP _ _ _) F.entry_str_split (F.args_str_split_2 _ _) (meets_str_split_cannot_occur z y t t' h1) (fin [(z,t)] s.toks (KJ h1).symm)
 | false=>
  cases hf:(Builtin.Str.occurrences z y 0 z.length (z.length+1)).isEmpty with
  | true=>
   show OQ F.slot_str_split (PP _ _ _) F.entry_str_split (F.args_str_split_2 _ _) (meets_str_split_not_found z y t t' h1 O hf) (fin [(z,t)] s.toks ((KH (ne_true_of_eq_false h1)).trans (KJ hf)).symm)
  | false=>
   have e:Txt.split z y=Builtin.Str.partsBetween z (Builtin.Str.occurrences z y 0 z.length (z.length+1)) y.length:=(KH (ne_true_of_eq_false h1)).trans (KH (ne_true_of_eq_false hf));show OQ F.slot_str_split (PP _ _ _) F.entry_str_split (F.args_str_split_2 _ _) (meets_str_split_sep z y t t' h1 O hf (by omega) (by rw[← e];show Y)) ?_;rw[strsFrom_eq];show fin (numbered s.toks _) _ ((numbered_texts _ _).trans e.symm)
end
theorem Iv (I:Str):∀ts:List Str,(Str.join I ts).length<=(ts.map (·.length)).sum+ts.length*I.length
 | []=>LN _
 | [x]=>by simp[Str.join]
 | x::y::r=>by
  have O:=Iv I (y::r);have e:Str.join I (x::y::r)=x++I++Str.join I (y::r):=rfl;rw[e,NH,NH];simp only[KE,List.sum_cons,KC,Nat.succ_mul]at O ⊢;omega
section
def Xa:MtR X "str.join" (λx xs H Q=>∃O a ts,x=.str O/\xs=[.ref a]/\AO X.K H a (ts.map V.str)/\(ts.map (·.length)).sum+ts.length*O.length<=16000000/\Q (.str (Str.join O ts)) H):=by
 intro pins s σ H x xs v us Q I rx rv h;show L9 h λO a ts z1 z2 ha hz q=>?_;subst z1 z2;obtain⟨t,rfl⟩:=rx;show Am rv.one λu z1 r1=>?_;subst z1;cases r1;show Bg (I.list ha) λits r Y _=>Am (Al0 r) λl e1 e2=>?_;subst e2;have hg:Builtin.Str.glued O (l.map (·.1))=Str.join O ts:=by rw[e1];show StrLaws.glued_eq_join O ts
 have a0:Builtin.Str.tooLong ((l.map (·.1)).toArray.foldl (λa p=>a+p.length+O.length) 0)=false:=by
  rw[StrLaws.joinTotal,e1];unfold Builtin.Str.tooLong;show LU (by rw[LJ];omega)
 show OQ F.slot_str_join (PP _ _ _) F.entry_str_join (F.args_str_join_2 _ _) (meets_str_join_list O t a l a0) ⟨Y.isList,?_⟩;have a1:=Iv O ts;have hsz:(Str.join O ts).length<=sizeLine:=by rw[LJ];omega
 cases l with
 | nil=>
  show(Made.str (Builtin.Str.glued O [])).post _ s
  have e:Builtin.Str.glued O []=Str.join O ts:=hg;rw[e];show⟨hsz,(Al (.str _) H (I.tok _) ⟨_,rfl⟩ q)⟩
 | cons p r2=>
  cases r2 with
  | nil=>
   have e:p.1=Str.join O ts:=by rw[← e1];rfl
   show Al (.str _) H I ⟨p.2,by rw[← e]⟩ q
  | cons p2 r3=>
   show(Made.str (Builtin.Str.glued O ((p::p2::r3).map (·.1)))).post _ s
   rw[hg];show⟨hsz,(Al (.str _) H (I.tok _) ⟨_,rfl⟩ q)⟩
def Ac6:MtR X "str.isdigit" (λx xs H Q=>∃z,x=.str z/\xs=[]/\Q (.bl (decide (z.length>0)&&z.cps.all Unicode.isDigit)) H):=by
 intro pins s σ H x xs v us Q I Y O h;show Bg h λz z1 z2 q=>?_;subst z1 z2;obtain⟨t,rfl⟩:=Y;cases O;show call_gives F.slot_str_isdigit (PP _ _ _) F.entry_str_isdigit (F.args_str_isdigit_1 _) (gives_str_isdigit z t) (show(Made.val _).post _ _ from(Al (.bl _) H I rfl q))
def Mw:MtR X "str.startswith" (λx xs H Q=>∃z y,x=.str z/\xs=[.str y]/\Q (.bl (decide (0+y.length<=z.length)&&Builtin.Str.subAt z y 0)) H):=by
 intro pins s σ H x xs v us Q I Y O h;show A0 h λz y z1 z2 q=>?_;subst z1 z2;obtain⟨t,rfl⟩:=Y;show Am O.one λu z1 z2=>?_;subst z1;obtain⟨t',rfl⟩:=z2;show call_gives F.slot_str_startswith (PP _ _ _) F.entry_str_startswith (F.args_str_startswith_2 _ _) (gives_str_startswith z y t t') (show(Made.val _).post _ _ from(Al (.bl _) H I rfl q))
def O7:BD X (.type "int") (λxs H Q=>∃z n,xs=[.str z]/\PySem.intText? z=some n/\z.length<=640/\Q (.int n) H):=by
 intro pins s σ H xs us Q I r h;show Ia h λz n z1 hn hl q=>?_;subst z1;show Am (Jj r) λu z1 z2=>?_;subst z1;obtain⟨t,rfl⟩:=z2;show PySem.W.KIN.call_text hn hl (Al (.int n) H (I.tok _) ⟨_,rfl⟩ q)
def O6:BD X (.type "str") (λxs H Q=>∃z,xs=[.str z]/\Q (.str z) H):=by
 intro pins s σ H xs us Q I r h;show Am h λz z1 q=>?_;subst z1;show Am (Jj r) λu z1 z2=>?_;subst z1;obtain⟨t,rfl⟩:=z2;show PySem.P.str_of_str (Al (.str z) H I ⟨_,rfl⟩ q)
def Mg:CO X (compareOp .LtE) (λx y H Q=>∃i j,x=.str i/\y=.str j/\Q (.bl (!decide (j.cps.toList<i.cps.toList))) H):=by
 intro pins s σ H x y v u Q I O Y h;show A0 h λi j z1 z2 q=>?_;subst z1 z2;obtain⟨t,rfl⟩:=O;obtain⟨t',rfl⟩:=Y;show PySem.P.le_str (Al (.bl _) H I rfl q)
def rSlS:V->Option Int->Option Int->Hp->VK->Prop:=λx lo hi H Q=>∃z,x=.str z/\z.length<=sizeLine/\Q (.str (Txt.slice z lo hi)) H
def Aa7:SlR X rSlS:=by
 intro pins s σ H x v vl vu lo hi sl Q a0 rx hs pl Y h;show Bg h λz z1 I q=>?_;subst z1;obtain⟨t,rfl⟩:=rx;show Al "str" _ F.slot_str_getitem.lookup (PP _ _ _) ?_;have fin:∀(t':Tok) (k:Nat),EP X pins σ Q (.str (Txt.slice z lo hi) t') {s with toks:=k}:=λt' k=>(Al (.str _) H (a0.tok _) ⟨_,rfl⟩ q)
 cases pl with
 | none=>
  cases Y with
  | none=>show OU (l:=none) (u:=none) (st:=none) hs rfl (post_val_or_str ⟨KN (Txt.slice_le z _ _) I,λt' k=>fin t' k⟩)
  | int j O=>show OU (l:=none) (u:=some (j,O)) (st:=none) hs rfl (post_val_or_str ⟨KN (Txt.slice_le z _ _) I,λt' k=>fin t' k⟩)
 | int i ui=>
  cases Y with
  | none=>show OU (l:=some (i,ui)) (u:=none) (st:=none) hs rfl (post_val_or_str ⟨KN (Txt.slice_le z _ _) I,λt' k=>fin t' k⟩)
  | int j O=>show OU (l:=some (i,ui)) (u:=some (j,O)) (st:=none) hs rfl (post_val_or_str ⟨KN (Txt.slice_le z _ _) I,λt' k=>fin t' k⟩)
end
noncomputable def Its (x:Str):It:=⟨λi _=>i<x.cps.size,λi H v H'=>H'=H/\∃c,x.cps[i]?=some c/\v=.str ⟨#[c]⟩,λi _=>x.cps.size<=i⟩
theorem Aq1 {P:Program}{w:World}{K:Av}(it:Addr)(x:Str)(t:Tok):Turn P w K (.Name n pos) (Its x) [it] it (λi h=>h.IsStrIter it "str_ascii_iterator" x t i) where
 mem:=by simp
 obj:=λi h st b hb=>by
  have e:b=it:=by simpa using hb
  subst e;show Bg st λo e c d=>?_;show Aq o e λv z=>by rw[d]at z;cases z
 keep:=λi h h' st k=>let ⟨o,ho,r⟩:=st;(Aq o (k it (by simp) o ho) r)
 item:=by
  intro X hP hw hK hc i pins s σ H E I hf st hg;subst hP hw hK;show Ib (hf it (by simp)) λf0 O f2 Y f4 f5=>?_;have W:=Walks.strAscii (prog:=X.prog) (w:=X.w) (I.ok.hd hc) it x t;show W.item i s _ _ hg st λv h' tk hv a1 kk=>?_;show C8 hv λc t' a0 z1=>?_;subst z1;have I1:Inv X pins σ H {s with heap:=h',toks:=tk}:=I.turned (λb o hb e=>kk b o (by simpa using hb) e) f0 O Y f4 f5;show Ad rfl (JW (Jr (.str ⟨#[c]⟩) H I1 ⟨t',rfl⟩ ⟨rfl,(Aq c a0 rfl)⟩ a1 λb hb=>(hf b hb).1))
 done:=by
  intro X hP hw hK hc i pins s σ H E I hf st hg;subst hP hw hK;show Ib (hf it (by simp)) λf0 O f2 Y f4 f5=>?_;have a2:x.cps.size<=i:=hg;show wpAny_pyNext_ascii_end (I.ok.hd hc) st (by simp;omega) λh' eb=>⟨rfl,I.turned (t':=s.toks) (λb o hb e=>eb b o hb e) f0 O Y f4 f5⟩
 self:=λ_ _ _ _ _ st h=>wpAny_pyIter_striter_ascii st h
def iStr (tl:TE):TI:=λσ H R=>tl σ H λx H1=>∃z,x=.str z/\z.cps.all (·<128)=true/\R (Its z) H1
def pi_str (hl:PE X l tl):PI X (.Name n p) l (iStr tl):=by
 intro pins s σ H R I h;show AT (hl pins s σ H _ I h) λv s1 ⟨x,H1,O,r1,Y⟩=>Bg Y λz e ha q=>?_;subst e;obtain⟨t,rfl⟩:=r1;show wpAny_pyIter_ascii ha (F5 s1.heap.objs.size [s1.heap.objs.size] _ _ H1 rfl (O.kept (t':=s1.toks) λb o e=>JU _ e) (Aq1 _ z t) (Bh (KW _ rfl) rfl rfl) (λb hb=>?_) q);have e:b=s1.heap.objs.size:=by simpa using hb
 subst e;show O.IM (JV _) (O.AU.fresh (JV _))
def for_str {z:Str}{g:TG}{tb:TS}{D:Ends}{σ:St}{H:Hp}(Pv:Nat->St->Hp->Prop)(h0:Pv 0 σ H)
  (hs:∀i c σ H,z.cps[i]?=some c->Pv i σ H->g (.str ⟨#[c]⟩) σ H λσ2 H2=>tb {D with nx:=Pv (i+1),ct:=Pv (i+1),bk:=D.nx} σ2 H2)(hd:∀σ H,Pv z.cps.size σ H->D.nx σ H) :
  ∃W:Nat->Nat->St->Hp->Prop,(∃m,W 0 m σ H)/\∀i m σ H,W i m σ H ->
   ((Its z).stop i H/\D.nx σ H)\/((Its z).go i H/\∃N:St->Hp->Prop,(∀σ' H',N σ' H'->∃I,I<m/\W (i+1) I σ' H')/\∀x H',(Its z).GF i H x H'->g x σ H' λσ2 H2=>tb {D with nx:=N,ct:=N,bk:=D.nx} σ2 H2):=by
 show Aq (λi m σ H=>m=z.cps.size-i/\i<=z.cps.size/\Pv i σ H) (Bx z.cps.size (by simp) (LN _) h0) ?_;rintro i m σ H ⟨rfl,hi,p⟩;by_cases O:i<z.cps.size
 .show .inr ⟨O,(Aq (Pv (i+1)) (λσ' H' p'=>(Dh (z.cps.size-(i+1)) (by omega) rfl O p')) λx H' y=>?_)⟩;show Fc y λz1 z2=>Am z2 λc Y z3=>?_;subst z1 z3;show hs i c σ H' Y p
 .have:i=z.cps.size:=by omega
  subst this;show .inl ⟨JV _,hd σ H p⟩
section
variable {κ:Type}[DecidableEq κ]
noncomputable def Bm (kvs:List (κ×V))(k:κ):Option V:=(kvs.find? λI=>decide (I.1=k)).map (·.2)
noncomputable def putK (kvs:List (κ×V))(k:κ)(v:V):List (κ×V):=
 if(kvs.any λI=>decide (I.1=k))=true then kvs.map (λI=>if I.1=k then(I.1,v)else I)else kvs++[(k,v)]
def Dn {p:κ×V}{r:List (κ×V)}{k:κ}(e:p.1=k):Bm (p::r) k=some p.2:=by simp[Bm,PH,e]
def Dp {p:κ×V}{r:List (κ×V)}{k:κ}(e:¬p.1=k):Bm (p::r) k=Bm r k:=by simp[Bm,PH,e]
theorem Jk (k:κ):∀kvs:List (κ×V),(kvs.any λI=>decide (I.1=k))=(Bm kvs k).isSome
 | []=>rfl
 | p::r=>by
  rw[OP];by_cases e:p.1=k
  .simp only[Dn e,KA e,Bool.true_or,Option.isSome_some]
  .rw [Dp e,LU e,Bool.false_or];show Jk k r
theorem X0 (k j:κ)(y:V):∀kvs:List (κ×V),Bm (kvs.map λI=>if I.1=k then(I.1,y)else I) j=(Bm kvs j).map λx=>if j=k then y else x
 | []=>rfl
 | p::r=>by
  have O:=X0 k j y r;rw[KE];by_cases h:p.1=k
  .rw [KJ h];by_cases e:p.1=j
   .rw [Dn (p:=(p.1,y)) e,Dn e,Option.map_some,KJ (e.symm.trans h)]
   .rw [Dp (p:=(p.1,y)) e,Dp e,O]
  .rw [KH h];by_cases e:p.1=j
   .rw [Dn (p:=p) e,Dn e,Option.map_some,KH (λz=>h (e.trans z))]
   .rw [Dp (p:=p) e,Dp e,O]
theorem Uu (k j:κ)(y:V):∀kvs:List (κ×V),Bm kvs k=none->Bm (kvs++[(k,y)]) j=if j=k then some y else Bm kvs j
 | [],_=>by
  by_cases e:k=j
  .rw [KJ e.symm];show Dn (p:=(k,y)) e
  .rw [KH (λz=>e z.symm)];show Dp (p:=(k,y)) e
 | p::r,hn=>by
  rw[PZ];have hk:¬p.1=k:=λz=>by rw[Dn z]at hn;cases hn
  rw[Dp hk]at hn;have I:=Uu k j y r hn;by_cases e:p.1=j
  .rw [Dn e,Dn e,KH (λz=>hk (e.trans z))]
  .rw [Dp e,Dp e,I]
def Ci (kvs:List (κ×V))(k j:κ)(y:V):Bm (putK kvs k y) j=if j=k then some y else Bm kvs j:=by
 unfold putK;by_cases a:(kvs.any λI=>decide (I.1=k))=true
 .rw [KJ a,X0];rw[Jk]at a;by_cases e:j=k
  .obtain⟨x,hx⟩:=Option.isSome_iff_exists.mp a;rw[KJ e,e,hx,Option.map_some,KJ rfl]
  .rw [KH e]
   cases Bm kvs j with
   | none=>rfl
   | some x=>rw[Option.map_some,KH e]
 .rw [KH a];show Uu k j y kvs ?_;rw[Jk]at a
  cases q:Bm kvs k with
  | none=>rfl
  | some x=>rw[q]at a;show(a rfl).elim
def Iu (kvs:List (κ×V))(k:κ)(v:V):(putK kvs k v).length<=kvs.length+1:=by
 unfold putK;split
 .rw [JR];omega
 .rw [JX,KC,OE];omega
def At8 {kvs:List (κ×V)}{k:κ}(v:V)(h:Bm kvs k=none):putK kvs k v=kvs++[(k,v)]:=by
 unfold putK;rw[Jk,h];show KH (by decide)
def ET.CZ (r:ET o u):o.isSome=u.isSome:=by
 cases o with
 | none=>cases u with
  | none=>rfl
  | some _=>show(show False from r).elim
 | some _=>cases u with
  | none=>show(show False from r).elim
  | some _=>rfl
def ET.getD (r:ET o u)(I:RelV d d'):RelV (o.getD d) (u.getD d'):=by
 cases o with
 | none=>cases u with
  | none=>show I
  | some _=>show(show False from r).elim
 | some _=>cases u with
  | none=>show(show False from r).elim
  | some _=>show r
def KV.val (r:KV kvs vs)(k:κ):ET (Bm kvs k) (valueAt vs k):=by
 unfold KV at r
 induction r with
 | nil=>show True.intro
 | @cons p q ps O h t Y=>
  obtain⟨h1,h2⟩:=h;by_cases e:p.1=k
  .have I:q.1=k:=h1.symm.trans e;have b:valueAt (q::O) k=some q.2:=by simp[valueAt,PH,I]
   rw[Dn e,b];show h2
  .have I:¬q.1=k:=λz=>e (h1.trans z);have b:valueAt (q::O) k=valueAt O k:=by simp[valueAt,PH,I]
   rw[Dp e,b];show Y
def KV.any (r:KV kvs vs)(k:κ):(kvs.any λI=>decide (I.1=k))=vs.any λI=>decide (I.1=k):=by
 unfold KV at r
 induction r with
 | nil=>rfl
 | cons h t O=>rw[OP,OP,O,h.1]
def KV.repl (r:KV kvs vs)(k:κ)(Y:RelV y u) :
  KV (kvs.map λI=>if I.1=k then(I.1,y)else I) (vs.map λI=>if I.1=k then(I.1,u)else I):=by
 unfold KV at r ⊢
 induction r with
 | nil=>show .nil
 | @cons p q ps qs h t O=>
  rw[KE,KE];show .cons ?_ O;obtain⟨h1,h2⟩:=h;by_cases e:p.1=k
  .rw [KJ e,KJ (h1.symm.trans e)];show⟨h1,Y⟩
  .rw [KH e,KH (λz=>e (h1.trans z))];show⟨h1,h2⟩
def KV.put (r:KV kvs vs)(k:κ)(I:RelV y u):KV (putK kvs k y) (stored vs k u):=by
 unfold putK stored;rw[r.any k];by_cases e:(vs.any λO=>decide (O.1=k))=true
 .rw [KJ e,KJ e];show r.repl k I
 .rw [KH e,KH e];show Paired.snoc r ⟨rfl,I⟩
def KV.length {kvs:List (κ×V)}{vs:List (κ×Value)}(r:KV kvs vs):kvs.length=vs.length:=Paired.length r
end
def Os (r:RelV (kV k) u):(Cu P w).is k u=true:=by
 cases k with
 | inl i=>obtain⟨t,e⟩:=(show ∃t,u=Value.int i t from r);subst e;show Yy P w i t
 | inr x=>obtain⟨t,e⟩:=(show ∃t,u=Value.str x t from r);subst e;show Yx P w x t
theorem U4:∀{ks:List Key} {us:List Value},AK (ks.map kV) us->ItemsAre (Cu P w) ks us
 | [],_,r=>by rw[No]at r;cases r;show .nil
 | k::ks,_,r=>by
  rw[KE]at r
  cases r with
  | cons h t=>show .cons (Os h) (U4 t)
abbrev KT (H:Hp):List (List Key×V)->List (List Key×Addr×Value)->Prop:=Paired λp q=>p.1=q.1/\H q.2.1=some (.tup (p.1.map kV))/\RelV p.2 q.2.2
def KT.val (r:KT H kvs xs)(k:List Key):ET (Bm kvs k) ((atKey xs k).map (·.2)):=by
 induction r with
 | nil=>show True.intro
 | @cons p q ps O h t Y=>
  show Ch h λh1 _ h2=>?_;by_cases e:p.1=k
  .have I:q.1=k:=h1.symm.trans e;have b:atKey (q::O) k=some q.2:=by simp[atKey,PH,I]
   rw[Dn e,b];show h2
  .have I:¬q.1=k:=λz=>e (h1.trans z);have b:atKey (q::O) k=atKey O k:=by simp[atKey,PH,I]
   rw[Dp e,b];show Y
def KT.repl (r:KT H kvs xs)(k:List Key)(Y:RelV y u) :
  KT H (kvs.map λI=>if I.1=k then(I.1,y)else I) (xs.map (putAt k u)):=by
 induction r with
 | nil=>show .nil
 | @cons p q ps qs h t O=>
  rw[KE,KE];show .cons (Ch h λh1 h2 h3=>?_) O;unfold putAt;by_cases e:p.1=k
  .rw [KJ e,KJ (h1.symm.trans e)];show Az h1 h2 Y
  .rw [KH e,KH (λz=>e (h1.trans z))];show Az h1 h2 h3
def KT.put (r:KT H kvs xs)(k:List Key)(hb:H b=some (.tup (k.map kV)))(I:RelV y u) :
  KT H (putK kvs k y) (storedH xs k b u):=by
 have e:(kvs.any λO=>decide (O.1=k))=(atKey xs k).isSome:=by
  rw[Jk,(r.val k).CZ,Option.isSome_map]
 unfold putK storedH;rw[e];by_cases q:(atKey xs k).isSome=true
 .rw [KJ q,KJ q];show r.repl k I
 .rw [KH q,KH q];show Paired.snoc r (Az rfl hb I)
def KT.keeps (r:KT H kvs xs)(ht:∀b ys,H b=some (.tup ys)->H' b=some (.tup ys)):KT H' kvs xs:=
 Paired.mapP r λ_ _ z=>(Az z.1 (ht _ _ z.2.1) z.2.2)
section
def rd_of (ok:CV P w H h)(e:Rd H a u):AV P w H h a u:=e.ok ok
def M0 (ok:CV P w H h)(e:Rd H a (.dK kvs)):kvs.length<=sizeLine/\(a==sysModules)=false/\∃vs,KV kvs vs/\h.DictOf (Cu P w) a vs:=
 show AV P w H h a (.dK kvs)from rd_of ok e
def dk_of (ok:CV P w H h)(e:H a=some (.dK kvs)):kvs.length<=sizeLine/\(a==sysModules)=false/\∃vs,KV kvs vs/\h.DictOf (Cu P w) a vs:=M0 ok (.inl e)
def Qd (ok:CV P w H h)(e:H a=some (.tup (ks.map kV))):(tupleKind (Cu P w)).is h ks a:=by
 show Fc ((show AV P w H h a (.tup (ks.map kV))from ok a _ e)) λ_ z1=>Am z1 λits r z2=>Bg z2 λo h1 h2 I=>?_;obtain⟨n,h3⟩:=I;show Ei o its.toArray n h1 h2 h3 (by simpa using U4 r)
def Tn (ok:CV P w H h)(e:Rd H a (.dT kvs)):kvs.length<=sizeLine/\(a==sysModules)=false /\
  ∃xs,KT H kvs xs/\h.DictOfH (tupleKind (Cu P w)) a xs:=by
 show Ch ((show AV P w H h a (.dT kvs)from rd_of ok e)) λz y z1=>Am z1 λxs r z2=>L9 z2 λo es ep h1 h2 h3 h4 O=>Az z y (Aq xs r (Lb o es ep h1 h2 h3 h4 (λx hx=>?_) O));have all:∀{l:List (List Key×V)} {m:List (List Key×Addr×Value)},KT H l m->∀x∈m,(tupleKind (Cu P w)).is h x.1 x.2.1:=by
  intro l m q
  induction q with
  | nil=>intro x hx;show nomatch hx
  | @cons p q ps qs I t Y=>
   intro x hx
   rcases JT.mp hx with e|hx
   .subst e;show Qd ok (by rw[← I.1];show I.2.1)
   .show Y x hx
 show all r x hx
def dt_of (ok:CV P w H h)(e:H a=some (.dT kvs)):kvs.length<=sizeLine/\(a==sysModules)=false /\
  ∃xs,KT H kvs xs/\h.DictOfH (tupleKind (Cu P w)) a xs:=Tn ok (.inl e)
end
def AL (H:Hp)(a:Addr)(y:V)(r:Option V):Prop:=
 (∃kvs k,Rd H a (.dK kvs)/\y=kV k/\r=Bm kvs k)\/∃kvs k b,Rd H a (.dT kvs)/\y=.ref b/\H b=some (.tup (k.map kV))/\r=Bm kvs k
def DD (H:Hp)(a:Addr)(y v:V)(H':Hp):Prop:=
 (∃kvs k,H a=some (.dK kvs)/\y=kV k/\kvs.length<sizeLine/\H'=upd H a (.dK (putK kvs k v))) \/
 ∃kvs k b,H a=some (.dT kvs)/\y=.ref b/\H b=some (.tup (k.map kV))/\kvs.length<sizeLine/\H'=upd H a (.dT (putK kvs k v))
def AL.k {H:Hp}{a:Addr}{kvs:List (Key×V)}{k:Key}(e:H a=some (.dK kvs)):AL H a (kV k) (Bm kvs k):=.inl (Al kvs k (.inl e) rfl rfl)
def DD.k {H:Hp}{a:Addr}{kvs:List (Key×V)}{k:Key}{v:V}(e:H a=some (.dK kvs))(hl:kvs.length<sizeLine):DD H a (kV k) v (upd H a (.dK (putK kvs k v))):=.inl (Co kvs k e rfl hl rfl)
section
variable {E:Bo}
def Inv.big (I:Inv X pins σ H s):sysModules<s.heap.objs.size:=by
 have h:mainGlobals<s.heap.objs.size:=(I.mod.glob.keeps I.bk).lt;show Nat.lt_trans (by decide) h
def Ao4 {Q:Bo}(hu:A.units+1<cLine)(I:Inv X pins σ H s)(g:AL H a y (some v))(ry:RelV y u)(h:∀O s',Inv X pins σ H s'->RelV v O->Q O s') :
  wpAny (model X.prog X.w) A (getItem (.ref a) u) Q E s:=by
 rcases g with⟨kvs,k,e,Y,l⟩|⟨kvs,k,b,e,Y,eb,l⟩
 .subst Y;show Ch (M0 I.AU e) λz hd z1=>Am z1 λvs a0 dd=>?_;show Am (ET.some_of (v:=v) (o:=valueAt vs k) (by rw[l];show a0.val k)) λO hw a1=>wpAny_getItem_of (Os ry) dd.mapOf hw (h O _ (I.tok _) a1)
 .subst Y;cases(show u=Value.ref b from ry);show Ch (Tn I.AU e) λz hd z1=>Am z1 λxs a0 dd=>?_;show Am (ET.some_of (v:=v) (o:=(atKey xs k).map (·.2)) (by rw[l];show a0.val k)) λO hw a1=>Am (Option.map_eq_some_iff.mp hw) λp hp a2=>wpAny_getItem_heap (PF hu) (Qd I.AU eb) dd hp ?_;rw[a2];show h O _ (I.tok _) a1
def d_in {Q:Bo}(hu:A.units+1<cLine)(I:Inv X pins σ H s)(g:AL H a y o)(ry:RelV y u)(h:∀s',Inv X pins σ H s'->Q (.bool o.isSome) s') :
  wpAny (model X.prog X.w) A (compareOp .In u (.ref a)) Q E s:=by
 rcases g with⟨kvs,k,e,O,l⟩|⟨kvs,k,b,e,O,eb,l⟩
 .subst O;show Ch (M0 I.AU e) λz hd z1=>Am z1 λvs Y dd=>wpAny_in_of (Os ry) hd dd.mapOf ?_;rw[← (Y.val k).CZ,← l];show h _ (I.tok _)
 .subst O;cases(show u=Value.ref b from ry);show Ch (Tn I.AU e) λz hd z1=>Am z1 λxs Y dd=>wpAny_in_heap (PF hu) (Qd I.AU eb) hd dd ?_;have q:=(Y.val k).CZ;rw[Option.isSome_map]at q;rw[← q,← l];show h _ (I.tok _)
def d_notIn {Q:Bo}(hu:A.units+1<cLine)(I:Inv X pins σ H s)(g:AL H a y o)(ry:RelV y u)(h:∀s',Inv X pins σ H s'->Q (.bool (!o.isSome)) s') :
  wpAny (model X.prog X.w) A (compareOp .NotIn u (.ref a)) Q E s:=by
 rcases g with⟨kvs,k,e,O,l⟩|⟨kvs,k,b,e,O,eb,l⟩
 .subst O;show Ch (M0 I.AU e) λz hd z1=>Am z1 λvs Y dd=>wpAny_notIn_of (Os ry) hd dd.mapOf ?_;rw[← (Y.val k).CZ,← l];show h _ (I.tok _)
 .subst O;cases(show u=Value.ref b from ry);show Ch (Tn I.AU e) λz hd z1=>Am z1 λxs Y dd=>wpAny_notIn_heap (PF hu) (Qd I.AU eb) hd dd ?_;have q:=(Y.val k).CZ;rw[Option.isSome_map]at q;rw[← q,← l];show h _ (I.tok _)
def Rt (I:Inv X pins σ H s)(O:Mut (H a))(hs:Heap.SameBut a s.heap h')(he:∃q,h'.get? a=some q)(new:AV X.prog X.w (upd H a ob) h' a ob) :
  Inv X pins σ (upd H a ob) {s with heap:=h',toks:=t'}:=
 I.write (x:=a) (e:=a) O (.inl rfl) (λb q hb z=>(hs.2 b hb).trans z) he new
def Ts (z:kvs.length<=sizeLine)(hd:(a==sysModules)=false)(I:KV kvs vs)(dd:h'.DictOf (Cu P w) a vs) :
  AV P w H' h' a (.dK kvs):=(Az z hd (Aq vs I dd))
def Ao3 {Q:Uo}(hu:A.units+1<cLine)(I:Inv X pins σ H s)(g:DD H a y v H')(ry:RelV y u)(rv:RelV v r)(h:∀s',Inv X pins σ H' s'->Q () s') :
  wpAny (model X.prog X.w) A (setItem (.ref a) u r) Q E s:=by
 rcases g with⟨kvs,k,e,ey,l,eH⟩|⟨kvs,k,b,e,ey,eb,l,eH⟩
 .subst ey eH;show Ch (dk_of I.AU e) λz hd z1=>Am z1 λvs O dd=>?_;have hz:vs.length<=sizeLine:=by rw[← O.length];show z
  have hl:(putK kvs k v).length<=sizeLine:=by have:=Iu kvs k v;omega
  show wpAny_setItem_pairs (hsz:=hz) (Os ry) dd λh' a0 hs=>h _ ?_;have he:∃q,h'.get? a=some q:=let ⟨q,_,_,Y,_⟩:=a0;⟨q,Y⟩
  show Rt I (by rw[e];show True.intro) hs he (Ts hl hd (O.put k rv) a0)
 .subst ey eH;cases(show u=Value.ref b from ry);show Ch (dt_of I.AU e) λz hd z1=>Am z1 λxs O dd=>?_;have hz:xs.length<=sizeLine:=by rw[← Paired.length O];show z
  have hl:(putK kvs k v).length<=sizeLine:=by have:=Iu kvs k v;omega
  show wpAny_setItem_heap (hsz:=hz) (PF hu) (Qd I.AU eb) dd λh' a0 hs=>h _ (Ri a0 λq es ep Y h2 h3 h4 _ h5=>?_);show Rt I (by rw[e];show True.intro) hs ⟨q,Y⟩ (Az hl hd (Ad ((O.put k eb rv).keeps λc ys ec=>?_) (Ep q es ep Y h2 h3 h4 h5)));rw[Aj (Bd ec e (λz=>nomatch z))];show ec
end
section
variable {E:Bo}
def d_len {Q:Bo}(I:Inv X pins σ H s)(e:Rd H a (.dK kvs))(h:∀t s',Inv X pins σ H s'->Q (.int kvs.length t) s'):wpAny (model X.prog X.w) A (call (.builtin "len") [.ref a]) Q E s:=by
 show Ch (M0 I.AU e) λz hd z1=>Am z1 λvs O dd=>?_;show call_len_dict hd dd (by rw[← O.length];rw[LJ]at z;omega) ?_;rw[← O.length];show h _ _ (I.tok _)
end
def Ap0 (i:Expr):Prop:=∀O I,subscripted i false O I=operate [O,I] (getItem O I)
def Ae9 {E:Bo}{id:String}{Q:Bo}
  (hl:typeLookup (.type T) "__getitem__"=pure (some (.builtin id)))(hs:Ap0 Y)
  (h:wpAny (model prog w) A (eval a0 env) (λo s₁=>wpAny (model prog w) A (eval Y env) (λi I=>I.TypeIs o T/\wpAny (model prog w) A (getItem o i) Q E I) E s₁) E s) :
  wpAny (model prog w) A (eval (.Subscript a0 Y pos) env) Q E s:=by
 show Subscript_ (NY h (λo s₁ h₁=>NY h₁ (λi I O=>?_) λ_ _ x=>x) λ_ _ x=>x);obtain⟨hT,O⟩:=O;unfold subscriptTail;show JQ ?_;rw[getitemInPython_of_ne hT.not_modules];show JQ (wpAny_specialOf hT hl ?_);have fin:wpAny (model prog w) A (subscripted Y false o i) (λr s₃=>wpAny (model prog w) A (letTemporaryGo a0 o r >>= λ_=>pure r) Q E s₃) E I:=by
  rw[hs o i];show wpAny_operating (NY O (λr s₃ h₃=>JQ (wpAny_letTemporaryGo (JW h₃))) λ_ _ x=>x)
 first
  | show JW (JQ fin)
  | show JQ (JW (JQ fin))
  | show JQ fin
def Zp (I:Inv X pins σ H s)(g:AL H a y o):s.TypeIs (.ref a) "dict":=by
 rcases g with⟨kvs,k,e,_,_⟩|⟨kvs,k,b,e,_,_,_⟩
 .show Ch (M0 I.AU e) λ_ _ z1=>Am z1 λvs _ dd=>dd.typeIs
 .show Ch (Tn I.AU e) λ_ _ z1=>Am z1 λxs _ dd=>dd.typeIs
def Aq8 (I ty:TE):TE:=λσ H Q=>I σ H λx H1=>ty σ H1 λy H2=>∃a v,x=.ref a/\AL H2 a y (some v)/\Q v H2
def tDIn (ty I:TE):TE:=λσ H Q=>ty σ H λy H1=>I σ H1 λx H2=>∃a o,x=.ref a/\AL H2 a y o/\Q (.bl o.isSome) H2
def Ae4 (ty I:TE):TE:=λσ H Q=>ty σ H λy H1=>I σ H1 λx H2=>∃a o,x=.ref a/\AL H2 a y o/\Q (.bl (!o.isSome)) H2
def sDPut (O ty Y:TE):TS:=λD σ H=>Y σ H λv H1=>O σ H1 λx H2=>ty σ H2 λy H3=>∃a I,x=.ref a/\DD H3 a y v I/\D.nx σ I
section
def pe_dget (hu:X.A.units+1<cLine)(ho:PE X o td)(hi:PE X i ty)(hs:Ap0 i):PE X (.Subscript o i pos) (Aq8 td ty):=by
 intro pins s σ H Q I h;show Ae9 PySem.F.slot_dict_getitem.lookup hs (AT (ho pins s σ H _ I h) λu s1 ⟨x,H1,Y,rx,q1⟩=>AT (hi pins s1 σ H1 _ Y q1) λiv s2 ⟨y,H2,O,ry,a,v,ex,g,q2⟩=>?_);subst ex;obtain rfl:u=Value.ref a:=rx;show⟨Zp O g,Ao4 hu O g ry λw' s3 I3 a0=>(Al v H2 I3 a0 q2)⟩
def pc_din (hu:X.A.units+1<cLine)(hi:PE X i ty)(ho:PE X o td):PC X .In i o (tDIn ty td):=by
 intro pins s σ H Q I h;show AT (hi pins s σ H _ I h) λiv s1 ⟨y,H1,O,ry,q1⟩=>AT (ho pins s1 σ H1 _ O q1) λu s2 ⟨x,H2,Y,rx,a,ov,ex,g,q2⟩=>?_;subst ex;obtain rfl:u=Value.ref a:=rx;show d_in hu Y g ry λs3 I3=>(Al (.bl ov.isSome) H2 I3 rfl q2)
def Am5 (hu:X.A.units+1<cLine)(hi:PE X i ty)(ho:PE X o td):PC X .NotIn i o (Ae4 ty td):=by
 intro pins s σ H Q I h;show AT (hi pins s σ H _ I h) λiv s1 ⟨y,H1,O,ry,q1⟩=>AT (ho pins s1 σ H1 _ O q1) λu s2 ⟨x,H2,Y,rx,a,ov,ex,g,q2⟩=>?_;subst ex;obtain rfl:u=Value.ref a:=rx;show d_notIn hu Y g ry λs3 I3=>(Al (.bl (!ov.isSome)) H2 I3 rfl q2)
def ps_dput (hu:X.A.units+1<cLine)(ho:PE X o td)(hi:PE X i ty)(hv:PE X O tv)(hs:swapsWith O (some (.Subscript o i a0)) pos.line X.env=pure false) :
  PS X (.Assign [.Subscript o i a0] O pos) (sDPut td ty tv):=by
 intro pins s σ H D I h;show wpAny_Assign_Subscript (AT (hv pins s σ H _ I h) λr s1 ⟨v,H1,I1,rv,q1⟩=>AT (ho pins s1 σ H1 _ I1 q1) λu s2 ⟨x,H2,I2,rx,q2⟩=>AT (hi pins s2 σ H2 _ I2 q2) λiv s3 ⟨y,H3,I3,ry,a,Y,ex,g,q3⟩=>?_) hs;subst ex;obtain rfl:u=Value.ref a:=rx;show Ao3 hu I3 g ry rv λs4 I4=>(C6 σ Y I4 q3)
end
def Tt (h:Heap)(hb:sysModules<h.objs.size):AV P w H (h.push {cls:=.type "dict",data:=.dict #[]}) h.objs.size (.dK []):=
 (Az (LN _) (MS.mpr (OO (LF hb))) (Aq [] .nil (Heap.DictOf.new h)))
def Aq6:TE:=λ_ H Q=>∀p,H p=none->Q (.ref p) (upd H p (.dK []))
section
def pe_dnewK:PE X (.Dict [] [] pos) Aq6:=λpins s σ H Q I h=>
 wpAny_Dict_empty (Al (.ref s.heap.objs.size) _ (I.laid (a:=s.heap.objs.size) (o:=.dK []) (t':=s.toks) (λ_ _ q=>JU _ q) (JV _) (Tt s.heap I.big)) rfl (h _ (I.AU.fresh (JV _))))
end
def Aa2:List (TE×TE)->St->Hp->(List (V×V)->Hp->Prop)->Prop
 | [],_,H,Q=>Q [] H
 | (tk,I)::r,σ,H,Q=>tk σ H λx H1=>I σ H1 λy H2=>Aa2 r σ H2 λps H3=>Q ((x,y)::ps) H3
abbrev VV:List (V×V)->List (Value×Value)->Prop:=Paired λp q=>RelV p.1 q.1/\RelV p.2 q.2
def PPs (X:Cx)(pos:Pos)(keys:List (Option Expr))(O:List Expr)(I:List (TE×TE)):Prop:=
 ∀(pins:Ej) (s:Shared) (σ:St) (H:Hp) (Q:List (V×V)->Hp->Prop),Inv X pins σ H s->Aa2 I σ H Q ->
  wpAny (model X.prog X.w) X.A (evalPairs (pairTrees keys O X.env pos)) (λvs s'=>∃ps H',Inv X pins σ H' s'/\VV ps vs/\Q ps H') X.xe s
def pps_nil:PPs X pos [] [] []:=λpins s σ H Q I h=>pairTrees_nil_walk (Al [] H I .nil h)
def Au4 (hk:PE X k tk)(hv:PE X v tv)(hr:PPs X pos ks vs a1) :
  PPs X pos (some k::ks) (v::vs) ((tk,tv)::a1):=λpins s σ H Q I h=>
 pairTrees_cons_walk (AT (hk pins s σ H _ I h) λu s1 ⟨x,H1,O,rx,q1⟩=>AT (hv pins s1 σ H1 _ O q1) λw2 s2 ⟨y,H2,Y,ry,q2⟩=>
  AT (hr pins s2 σ H2 _ Y q2) λws s3 ⟨ps,H3,I3,a0,q3⟩=>(Al ((x,y)::ps) H3 I3 (.cons ⟨rx,ry⟩ a0) q3))
noncomputable def Ev (kvs more:List (Key×V)):List (Key×V):=more.foldl (λO I=>putK O I.1 I.2) kvs
def KV.merge:∀{more:List (Key×V)} {I:List (Key×Value)} {kvs:List (Key×V)} {vs:List (Key×Value)},KV more I->KV kvs vs->KV (Ev kvs more) (merged vs I):=by
 intro more I kvs vs r;unfold KV at r
 induction r generalizing kvs vs with
 | nil=>intro q;show q
 | @cons p q ps Y h t O=>
  intro r0;have e:KV (putK kvs p.1 p.2) (stored vs q.1 q.2):=by
   have:=r0.put p.1 h.2;rw[← h.1];show this
  show O e
theorem Jg:∀(more kvs:List (Key×V)),(Ev kvs more).length<=kvs.length+more.length
 | [],kvs=>by show kvs.length<=kvs.length+0;omega
 | p::r,kvs=>by
  have h1:=Jg r (putK kvs p.1 p.2);have h2:=Iu kvs p.1 p.2
  show(Ev (putK kvs p.1 p.2) r).length<=_
  rw[KC];omega
theorem Tx:∀{kvs:List (Key×V)} {ws:List (Value×Value)},VV (kvs.map λO=>(kV O.1,O.2)) ws->∃I,Carries (Cu P w) ws I/\KV kvs I
 | [],_,r=>by rw[No]at r;cases r;show Aq [] True.intro .nil
 | p::kvs,_,r=>by
  rw[KE]at r
  cases r with
  | @cons a b as bs h t=>
   show Am (Tx (P:=P) (w:=w) t) λI c q=>?_;obtain⟨b1,Y⟩:=b;show Aq ((p.1,Y)::I) (Az (Os h.1) rfl c) (.cons ⟨rfl,h.2⟩ q)
def tDisp (O:List (TE×TE)):TE:=λσ H Q=>∀p,H p=none->Aa2 O σ (upd H p (.dK [])) λps H2=>H2 p=some (.dK [])/\∃kvs:List (Key×V),ps=kvs.map (λI=>(kV I.1,I.2))/\kvs.length<=15/\Q (.ref p) (upd H2 p (.dK (Ev [] kvs)))
def pe_disp (h:PPs X pos keys a0 a3)(a4:keys.all (·.isSome)=true)(hl:keys.length=a0.length)(h0:keys≠[])
  (a1:keys.length<=15):PE X (.Dict keys a0 pos) (tDisp a3):=by
 intro pins s σ H Q I q;have hn:=I.AU.fresh (JV s.heap.objs.size);have I1:=I.laid (a:=s.heap.objs.size) (o:=.dK []) (h':=s.heap.push {cls:=.type "dict",data:=.dict #[]}) (t':=s.toks) (λ_ _ q=>JU _ q) (JV _) (Tt s.heap I.big);show wpAny_Dict_walk (knd:=Cu X.prog X.w) a4 hl h0 a1 (AT (h pins _ σ _ _ I1 (q _ hn)) λws s2 ⟨ps,H2,O,a2,e,kvs,ep,lk,q2⟩=>?_);subst ep;show Am (Tx (P:=X.prog) (w:=X.w) a2) λrs c rk=>?_;show Ch (dk_of O.AU e) λz hd z1=>Am z1 λa5 r0 dd=>?_;cases r0;show Bx rs c dd λh' Y hs=>(Al (.ref s.heap.objs.size) _ ?_ rfl q2);have hz:(Ev [] kvs).length<=sizeLine:=by
  have h1:=Jg kvs [];rw[OE]at h1;rw[LJ];omega
 have he:∃q,h'.get? s.heap.objs.size=some q:=let ⟨q,_,_,hq,_⟩:=Y;⟨q,hq⟩
 show Rt O (by rw[e];show True.intro) hs he (Ts hz hd (rk.merge .nil) Y)
structure M2 (X:Cx)(o:Expr)(m:Str)(apos:Pos)(e f:Expr)(cpos:Pos):Prop where
 base:attributeBase o m X.env (eval o X.env)=eval o X.env
 few:((backTo cpos (starEach [e,f] X.env)).all (λx=>!x.1)&&(backToKw cpos (keywordEach [] X.env)).all (λx=>x.1.isSome)
  && decide (([e,f]:List Expr).length+([]:List Keyword).length+(if([]:List Keyword).isEmpty then 0 else 1)<30))=true
 line:(apos.endLine==cpos.line)=true
 trees:backTo cpos (starEach [e,f] X.env)=[(false,eval e X.env),(false,eval f X.env)]
def IsD (H:Hp)(a:Addr):Prop:=(∃kvs,Rd H a (.dK kvs))\/∃kvs,Rd H a (.dT kvs)
def isD_at (I:Inv X pins σ H s)(d:IsD H a) :
  s.TypeIs (.ref a) "dict"/\(∀b,Value.ref a=.ref b->∃ob,s.heap.get? b=some ob/\ob.dict=none)/\(a==sysModules)=false:=by
 rcases d with⟨kvs,e⟩|⟨kvs,e⟩
 .show Ch (M0 I.AU e) λ_ hd z1=>Am z1 λvs _ dd=>Az dd.typeIs (λb q=>?_) hd;cases q;show He dd λob _ _ h1 h2 _=>Aq ob h1 h2.2.1
 .show Ch (Tn I.AU e) λ_ hd z1=>Am z1 λxs _ dd=>Az dd.typeIs (λb q=>?_) hd;cases q;show He dd λob _ _ h1 h2 _=>Aq ob h1 h2.2.1
section
variable {E:Bo}
def d_get2 {Q:Bo}(hu:A.units+1<cLine)(I:Inv X pins σ H s)(g:AL H a y o)(ry:RelV y u)(rd:RelV d r)(h:∀w' s',Inv X pins σ H s'->RelV (o.getD d) w'->Q w' s') :
  wpAny (model X.prog X.w) A (call (.builtin "dict.get") [.ref a,u,r]) Q E s:=by
 rcases g with⟨kvs,k,e,O,l⟩|⟨kvs,k,b,e,O,eb,l⟩
 .subst O;show Ch (M0 I.AU e) λz hd z1=>Am z1 λvs Y dd=>call_meetsIn PySem.F.slot_dict_get dd.typeIs PySem.F.entry_dict_get (PySem.F.args_dict_get_3 _ _ _) (meets_dict_get_default (Cu X.prog X.w) a (Os ry) hd r) (Ad dd.mapOf (h _ _ (I.tok _) ?_));rw[l];show(Y.val k).getD rd
 .subst O;cases(show u=Value.ref b from ry);show Ch (Tn I.AU e) λz hd z1=>Am z1 λxs Y dd=>call_meetsIn PySem.F.slot_dict_get dd.typeIs PySem.F.entry_dict_get (PySem.F.args_dict_get_3 _ _ _) (meetsH_dict_get_default (tupleKind (Cu X.prog X.w)) a b hd r) ⟨PF hu,(Al k xs (Qd I.AU eb) dd (h _ _ (I.tok _) ?_))⟩;rw[l];show(Y.val k).getD rd
end
def Aq7 (I ty tx:TE):TE:=λσ H Q=>I σ H λx H1=>∃a,x=.ref a/\IsD H1 a/\ty σ H1 λy H2=>tx σ H2 λz H3=>∃o,AL H3 a y o/\Q (o.getD z) H3
section
def pe_dget2 (hu:X.A.units+1<cLine)(ho:PE X o td)(he:PE X e ty)(hf:PE X f tx)(m:M2 X o "get" apos e f cpos):PE X (.Call (.Attribute o "get" apos) [e,f] [] cpos) (Aq7 td ty tx):=by
 intro pins s σ H Q I h;show wpAny_Call_method m.base m.few m.line PySem.F.plainAttrs_dict PySem.F.slot_dict_get PySem.F.type_dict_get (AT (ho pins s σ H _ I h) λu s1 ⟨x,H1,O,rx,a,ex,d,q1⟩=>?_);subst ex;obtain rfl:u=Value.ref a:=rx;show Ch (isD_at O d) λt1 t2 _=>Az t1 t2 ?_;rw[m.trees]
 show Calls.callWith_builtin rfl (Calls.evalArgs_plain (QQ (AT (he pins s1 σ H1 _ O q1) λiv s2 ⟨y,H2,Y,ry,q2⟩=>
  QQ (AT (hf pins s2 σ H2 _ Y q2) λfv s3 ⟨z,H3,I3,rz,ov,g,q3⟩=>Calls.spliced_nil ?_))))
 show d_get2 hu I3 g ry rz λw' s4 I4 a0=>(Al _ H3 I4 a0 q3)
end
section
variable {E:Bo}
end
section
variable {E:Bo}
end
section
def Vh:BD X (.builtin "len") (λxs H Q=>∃a kvs,xs=[V.ref a]/\H a=some (.dK kvs)/\Q (.int kvs.length) H):=by
 intro pins s σ H xs us Q I r h;show A0 h λa kvs z1 ha q=>?_;subst z1;show Am (Jj r) λu z1 Y=>?_;subst z1;cases Y;show d_len I (.inl ha) λt s' O=>(Al (.int kvs.length) H O ⟨t,rfl⟩ q)
end
section
variable {κ:Type}[DecidableEq κ]
end
def AY.of (HZ:closureFor scope X.env=pure cl)(k:scope.kind=.function)(O:∀y∈scope.names,y.2≠.cell)
  (hn:∀y∈scope.names,y.2=.local->scope.names.lookup y.1=some .local)(hl:N'.length=n+js.length)(a4:∀p∈cl,X.env.cells.lookup p.1=some p.2)(I:List Str)(a0:cl.map (·.1)=I)(a3:∀y∈scope.names,y.2=.free->y.1∈I)
  (a2:∀q∈js.zip (N'.drop n),X.N[q.1]?=some q.2/\scope.names.lookup q.2=some .free/\(X.env.kindOf q.2=some .cell\/X.env.kindOf q.2=some .free)):AY X scope cl N' n js:=by
 show⟨HZ,k,O,hn,hl,λx c h=>a4 (x,c) (NF h),λx h=>?_,λi j h=>?_⟩
 .have hm:x∈cl.map (·.1):=by rw[a0];show a3 (x,.free) (NF h) rfl
  cases e:cl.lookup x with
  | some c=>show⟨c,rfl⟩
  | none=>
   rw[List.lookup_eq_none_iff]at e;show Am (KI.mp hm) λp Y e2=>?_;have:=e p Y;simp[e2]at this
 .have hi:i<js.length:=(List.getElem?_eq_some_iff.mp h).1;have a1:i<(N'.drop n).length:=by rw[NB];omega
  have e1:(N'.drop n)[i]?=some (N'.drop n)[i]:=LC a1;have hz:(j,(N'.drop n)[i])∈js.zip (N'.drop n):=by
   show KR (i:=i) ?_;rw[List.getElem?_zip_eq_some];show⟨h,e1⟩
  show Ch (a2 _ hz) λh1 h2 h3=>Dh ((N'.drop n)[i]) ?_ h1 h2 h3;rw[← e1,List.getElem?_drop]
def AJ.of {P:Program}{w:World}{K:Av}{mg:Cb}{base:Heap}{k:Nat}{x:Str}{ps:List Str}{sp:Sp}{f:Addr}{fd:FuncData}(F:AH P w K mg base BE k f fd ps sp)(hm:mg x=some (.ref f))(hk:PySem.W.keepIn K (.ref f)=true)(hb:Binds K fd ps []) :
  AJ P w K mg base k x ps sp:=⟨f,fd,F,hm,hk,hb⟩
def AH.none {P:Program}{w:World}{K:Av}(h:∀vs H Q E,¬sp vs H Q E):AH P w K mg base BE k f fd ps sp:=
 ⟨λvs H Q E z=>absurd z (h _ _ _ _),λA outer s H args us vs Q E _ _ _ _ z=>absurd z (h _ _ _ _)⟩
def Op (K:Av):PySem.W.kitOne K (.type "tuple") (.type "tuple")=some true:=by rfl
def Gg (K:Av):PySem.W.kitOne K (.type "int") (.type "tuple")=some false:=by rfl
def Gf (K:Av):PySem.W.kitOne K (.type "str") (.type "tuple")=some false:=by rfl
def Oo (K:Av):PySem.W.kitOne K (.type "tuple") (.type "bool")=some false:=by rfl
def Oq (K:Av):PySem.W.kitOne K (.type "str") (.type "bool")=some false:=by rfl
def Qw (K:Av):PySem.W.kitOne K (.type "tuple") (.type "str")=some false:=by rfl
def Qx (K:Av):PySem.W.kitOne K (.type "str") (.type "str")=some true:=by rfl
def Qy (K:Av):PySem.W.kitOne K (.type "int") (.type "str")=some false:=by rfl
def E5 {lo:Int}{n:Nat}{D:Addr}{g:TG}{tt:TT}{te:TE}{σ0:St}{H1:Hp}{Q:Hp->Prop}(Pv:Nat->List V->St->Hp->Prop)(hx:n<=sizeLine)(h0:Pv 0 [] σ0 (upd H1 D (.lst [])))
   (hl:∀i ys σ H,i<=n->Pv i ys σ H->H D=some (.lst ys)/\ys.length<=i)
   (hs:∀i ys σ H,i<n->Pv i ys σ H->g (.int (lo+i)) σ H λσ3 H3=>tt σ3 H3 λok O=>if ok=true then te σ3 O λy I=>I D=some (.lst ys)/\Pv (i+1) (ys++[y]) σ3 (upd I D (.lst (ys++[y])))else Pv (i+1) ys σ3 O)
   (hd:∀ys σ H,Pv n ys σ H->Q H) :
   ∃W:Nat->Nat->St->Hp->Prop,(∃m,W 0 m σ0 (upd H1 D (.lst [])))/\∀i m σ' H',W i m σ' H' ->
     ((Itr lo n).stop i H'/\Q H')\/((Itr lo n).go i H'/\∃(Ay:V->St->Hp->Prop) (An:St->Hp->Prop),(∀y σ3 I,Ay y σ3 I->∃ys,I D=some (.lst ys)/\ys.length<sizeLine/\∃Y,Y<m/\W (i+1) Y σ3 (upd I D (.lst (ys++[y])))) /\
       (∀σ3 O,An σ3 O->∃Y,Y<m/\W (i+1) Y σ3 O) /\
       ∀x H2,(Itr lo n).GF i H' x H2->g x σ' H2 λσ3 H3=>tt σ3 H3 λok O=>if ok=true then te σ3 O (λy I=>Ay y σ3 I)else An σ3 O):=by
 show Aq (λi m σ H=>m=n-i/\i<=n/\∃ys,Pv i ys σ H) (Bx n (by simp) (LN _) ⟨[],h0⟩) ?_;rintro i m σ H ⟨rfl,hi,ys,p⟩;obtain⟨hy,a1⟩:=hl i ys σ H hi p;by_cases a0:i<n
 . show .inr ⟨a0,(Al (λy σ3 I=>I D=some (.lst ys)/\Pv (i+1) (ys++[y]) σ3 (upd I D (.lst (ys++[y])))) (λσ3 O=>Pv (i+1) ys σ3 O)
     (λy σ3 I ⟨e,p'⟩=>(Bx ys e (by omega) (Dh (n-(i+1)) (by omega) rfl a0 ⟨_,p'⟩))) (λσ3 O p'=>(Dh (n-(i+1)) (by omega) rfl a0 ⟨_,p'⟩)) λx H' y=>?_)⟩
   obtain⟨rfl,rfl⟩:=y;show hs i ys σ H' a0 p
 . have:i=n:=by omega
   subst this;show .inl ⟨JV _,hd ys σ H p⟩
def Mc {K:Av}{a D:Addr}{xs:List V}{g:TG}{tt:TT}{te:TE}{σ0:St}{H1:Hp}{Q:Hp->Prop}(Pv:Nat->List V->St->Hp->Prop)(hx:xs.length<=sizeLine)(h0:Pv 0 [] σ0 (upd H1 D (.lst [])))
   (hl:∀i ys σ H,i<=xs.length->Pv i ys σ H->BJ K H a xs/\H D=some (.lst ys)/\ys.length<=i)
   (hs:∀i x ys σ H,xs[i]?=some x->Pv i ys σ H->g x σ H λσ3 H3=>tt σ3 H3 λok O=>if ok=true then te σ3 O λy I=>I D=some (.lst ys)/\Pv (i+1) (ys++[y]) σ3 (upd I D (.lst (ys++[y])))else Pv (i+1) ys σ3 O)
   (hd:∀ys σ H,Pv xs.length ys σ H->Q H) :
   ∃W:Nat->Nat->St->Hp->Prop,(∃m,W 0 m σ0 (upd H1 D (.lst [])))/\∀i m σ' H',W i m σ' H' ->
     ((IW K a).stop i H'/\Q H')\/((IW K a).go i H'/\∃(Ay:V->St->Hp->Prop) (An:St->Hp->Prop),(∀y σ3 I,Ay y σ3 I->∃ys,I D=some (.lst ys)/\ys.length<sizeLine/\∃Y,Y<m/\W (i+1) Y σ3 (upd I D (.lst (ys++[y])))) /\
       (∀σ3 O,An σ3 O->∃Y,Y<m/\W (i+1) Y σ3 O) /\
       ∀x H2,(IW K a).GF i H' x H2->g x σ' H2 λσ3 H3=>tt σ3 H3 λok O=>if ok=true then te σ3 O (λy I=>Ay y σ3 I)else An σ3 O):=by
 show Aq (λi m σ H=>m=xs.length-i/\i<=xs.length/\∃ys,Pv i ys σ H) (Bx xs.length (by simp) (LN _) ⟨[],h0⟩) ?_;rintro i m σ H ⟨rfl,hi,ys,p⟩;show Ch (hl i ys σ H hi p) λq hy a1=>?_;by_cases a0:i<xs.length
 . show .inr ⟨(C6 xs (xs[i]) q (by simp[a0])),(Al (λy σ3 I=>I D=some (.lst ys)/\Pv (i+1) (ys++[y]) σ3 (upd I D (.lst (ys++[y])))) (λσ3 O=>Pv (i+1) ys σ3 O)
     (λy σ3 I ⟨e,p'⟩=>(Bx ys e (by omega) (Dh (xs.length-(i+1)) (by omega) rfl a0 ⟨_,p'⟩))) (λσ3 O p'=>(Dh (xs.length-(i+1)) (by omega) rfl a0 ⟨_,p'⟩)) λx H' y=>?_)⟩
   obtain⟨e,y⟩:=y;subst e;show hs i x ys σ H' (y xs q) p
 . have:i=xs.length:=by omega
   subst this;show .inl ⟨(Aq xs q (JV _)),hd ys σ H p⟩
structure QE (X:Cx)(e:Expr)(t:TE):Prop where
 go:PE X e t
structure QT (X:Cx)(e:Expr)(t:TT):Prop where
 go:PT X e t
structure QW (X:Cx)(e:Expr)(t:TT):Prop where
 go:PW X e t
structure QA (X:Cx)(es:List Expr)(t:TA):Prop where
 go:PA X es t
structure QS (X:Cx)(s:Stmt)(t:TS):Prop where
 go:PS X s t
structure IX (X:Cx)(ss:List Stmt)(t:TS):Prop where
 go:IU X ss t
structure QG (X:Cx)(e:Expr)(t:TG):Prop where
 go:PG X e t
structure QGs (X:Cx)(es:List Expr)(t:TGs):Prop where
 go:PGs X es t
structure QI (X:Cx)(tg iter:Expr)(t:TI):Prop where
 go:PI X tg iter t
structure QTS (X:Cx)(es:List Expr)(t:TT):Prop where
 go:PTS X es t
structure QO (X:Cx)(e:Option Expr)(t:TO):Prop where
 go:PO X e t
structure QPs (X:Cx)(pos:Pos)(ks:List (Option Expr))(vs:List Expr)(t:List (TE×TE)):Prop where
 go:PPs X pos ks vs t
section
def Di (ha:QE X e te)(hr:QA X es t)(hs:Gi X e es:=by rfl):QA X (e::es) (Go te t):=⟨pa_cons ha.go hr.go hs⟩
def Fa :QA X [] Yd:=⟨pa_nil⟩
def Ag {i j pos}:QE X (.Constant (.int i) j pos) (tC (.int i)):=⟨pe_int⟩
def Ap (I:CO X (binaryOp op) r)(ha:QE X a ta)(hb:QE X b tb):QE X (.BinOp a op b pos) (JM r ta tb):=⟨pe_op I ha.go hb.go⟩
def Ak (h1:QS X I t):IX X [I] t:=⟨Rm h1.go⟩
def Ae (h1:QS X I t)(h2:IX X O u):IX X (I::O) (Aa1 t u):=⟨Au0 h1.go h2.go⟩
def Ar (he:QE X e te):QS X (.Return (some e) pos) (tRet te):=⟨ps_ret he.go⟩
def qe_fn (F:AJ X.prog X.w X.K X.mg X.base k x ps sp)(hr:BC k X.A)(hg:Gl X x)(ha:QA X (e::es) t)(I:Eg x:=by decide)(he:Gi X e es:=by rfl)(O:Hf X pos es:=by rfl):QE X (.Call (.Name x p) (e::es) [] pos) (Nu sp [] E0 t):=⟨pe_fn F hr hg ha.go I he O⟩
def Rk (I:CO X (compareOp op) r)(ha:QE X a ta)(hb:QE X b tb)(hm:behindInMarks op b=false):QT X (.Compare a [op] [b] pos) (Yc (JM r ta tb)):=⟨pt_cmpR I ha.go hb.go hm⟩
def Bj (I:QT X c O)(ha:IX X a t)(hb:IX X b u):QS X (.If c a b pos) (tIfS O t u):=⟨ps_if I.go ha.go hb.go⟩
def Ax :IX X [] Lf:=⟨pss_nil⟩
def Ai {x j pos}:QE X (.Constant (.str x) j pos) (tC (.str x)):=⟨pe_str⟩
def Wh (I:X.N.Nodup)(O:X.N[i]?=some x)(hx:Loc X.env.scope x)(he:QE X e te)(hs:swapsWith e (some (.Name x Y)) pos.line X.env=pure false:=by rfl)(hf:Xv X x:=by first|show .inl rfl|show .inr rfl|assumption):QS X (.Assign [.Name x Y] e pos) (Ye te (BH i)):=⟨ps_set I O hx he.go hs hf⟩
def Bc (I:BD X (.builtin a1) r)(hg:Gl X x)(hm:X.mg x=none)(O:bootBuiltins x=some (.builtin a1))(ha:QA X (e::es) t)(hn:x≠"__name__":=by decide)(Y:Eg x:=by decide)(he:Gi X e es:=by rfl)(a0:Hf X pos es:=by rfl):QE X (.Call (.Name x p) (e::es) [] pos) (tCB r t):=⟨pe_callB I hg hm O ha.go hn Y he a0⟩
def Io (I:CO X (compareOp op) r)(ha:QE X a ta)(hb:QE X b tb)(hm:behindInMarks op b=false):QE X (.Compare a [op] [b] pos) (JM r ta tb):=⟨pe_cmpR I ha.go hb.go hm⟩
def B2 (h:QA X es t):QE X (.List es pos) (tLst t):=⟨pe_lst h.go⟩
def Ag5 (I:X.N.Nodup)(O:X.N[i]?=some x)(hx:Loc X.env.scope x)(hf:Xv X x:=by first|show .inl rfl|show .inr rfl|assumption):QG X (.Name x pos) (BH i):=⟨pg_name I O hx hf⟩
def Da (hr:IH X r)(ha:QE X a ta)(hb:QE X b tb)(hs:Xu b):QE X (.Subscript a b pos) (JM r ta tb):=⟨pe_ix hr ha.go hb.go hs⟩
def Eb (h:QE X e t)(he:∀whole,isTrue e X.env whole=(do let v ← whole;standAt e.pos;holding [v] (truthy v)):=by intro _;rfl):QT X e (tB t):=⟨pt_val h.go he⟩
def Es {b j pos}:QE X (.Constant (.bool b) j pos) (tC (.bl b)):=⟨pe_bl⟩
def Fz (ha:QT X a tA):QT X (.UnaryOp .Not a pos) (tNot tA):=⟨pt_not ha.go⟩
def Cn (hg:Gl X x)(hm:X.mg x=none)(I:bootBuiltins x=some u)(r:RelV v u)(hn:x≠"__name__":=by decide)(hd:Eg x:=by decide):QE X (.Name x pos) (tC v):=⟨pe_bltn hg hm I r hn hd⟩
def N0 (ha:QT X a tA)(hb:QW X (.BoolOp .Or (b::I) pos) tB'):QW X (.BoolOp .Or (a::b::I) pos) (tOr tA tB'):=⟨pw_or ha.go hb.go⟩
def Dj (ha:QE X a ta)(hb:QE X (.BoolOp .And (b::I) pos) tb):QE X (.BoolOp .And (a::b::I) pos) (tAndV ta tb):=⟨pe_and ha.go hb.go⟩
def Ex (O:PassesOwn (model X.prog X.w) X.A X.env X.xe)(I:X.calm=true)(a0:QI X tg iter Y)(hg:QG X tg g)(hb:IX X a1 tb)(hs:Up X iter:=by intro _;rfl):QS X (.For tg iter a1 [] pos) (tFor Y g tb):=⟨ps_for O I a0.go hg.go hb.go hs⟩
def Bq (h:QE X e te):QO X (some e) (tPart te):=⟨po_some h.go⟩
def Ag6 {r:V->Hp->VK->Prop}(I:UnR X (unaryOp op) r)(ha:QE X a ta):QE X (.UnaryOp op a pos) (tUn r ta):=⟨pe_un I ha.go⟩
def Du {op}(h:QE X a t):QE X (.BoolOp op [a] pos) t:=⟨pe_one h.go⟩
def Ka (ha:QT X a tA):QW X (.BoolOp .Or [a] pos) tA:=⟨pw_or1 ha.go⟩
def Kb (hg:Gl X x)(hm:X.mg x=some (.int i t))(hd:Eg x:=by decide):QE X (.Name x pos) (tC (.int i)):=⟨pe_gint hg hm hd⟩
def Bu {r:V->Option Int->Option Int->Hp->VK->Prop}(hr:SlR X r)(he:QE X e te)(hl:QO X Y tl)(I:QO X O th):QE X (.Subscript e (.Slice Y O none p2) pos) (tSl r te tl th):=⟨pe_slice hr he.go hl.go I.go⟩
def B4 (I:BD X (.type T) r)(hg:Gl X x)(hm:X.mg x=none)(O:bootBuiltins x=some (.type T))(ha:QA X (e::es) t)(hn:x≠"__name__":=by decide)(Y:Eg x:=by decide)(he:Gi X e es:=by rfl)(a0:Hf X pos es:=by rfl):QE X (.Call (.Name x p) (e::es) [] pos) (tCB r t):=⟨Am4 I hg hm O ha.go hn Y he a0⟩
def Gc (pa:PlainAttrs T)(a5:Slot T O I)(a0:typeOf (.builtin I)=pure (.type "method_descriptor"))(hm:MtR X I r)(Y:QE X o a1)(ha:QA X (e::es) t)(a3:attributeBase o O X.env (eval o X.env)=eval o X.env:=by rfl)(a2:((backTo cpos (starEach (e::es) X.env)).all (λx=>!x.1)&&(backToKw cpos (keywordEach [] X.env)).all (λx=>x.1.isSome)&&decide ((e::es).length+([]:List Keyword).length+(if([]:List Keyword).isEmpty then 0 else 1)<30))=true:=by rfl)(a4:(apos.endLine==cpos.line)=true:=by rfl)(hs:Gi X e es:=by rfl)(a6:Hf X cpos es:=by rfl):QE X (.Call (.Attribute o O apos) (e::es) [] cpos) (tBM X.K T r a1 t):=⟨pe_bm pa a5 a0 hm Y.go ha.go a3 a2 a4 hs a6⟩
def Gb (h1:QG X e t)(h2:QGs X es u)(hs:(assignEach (e::es) X.env).map (·.2)=assign e X.env::(assignEach es X.env).map (·.2):=by rfl):QGs X (e::es) (gCons t u):=⟨pgs_cons h1.go h2.go hs⟩
def Bk {I}(h:QA X es t):QE X (.Tuple es I pos) (tTup t):=⟨pe_tup h.go⟩
def At3 :QS X I Aq5:=⟨Au2⟩
def Cc :QO X none Jw:=⟨po_none⟩
def Dw (hg:Gl X "range")(hm:X.mg "range"=none)(ha:QA X [a] ta)(hs:starEach [a] X.env=[(false,eval a X.env)]:=by rfl):QI X tg (.Call (.Name "range" p) [a] [] pos) (iRng1 ta):=⟨Am2 hg hm ha.go hs⟩
def Al8 (hg:Gl X "range")(hm:X.mg "range"=none)(ha:QA X [a,b] ta)(hs:starEach [a,b] X.env=[(false,eval a X.env),(false,eval b X.env)]:=by rfl)(I:starEach [b] X.env=[(false,eval b X.env)]:=by rfl):QI X tg (.Call (.Name "range" p) [a,b] [] pos) (iRng2 ta):=⟨Am1 hg hm ha.go hs I⟩
def Gx (hl:QE X l tl):QI X tg l (iList X.K tl):=⟨pi_list hl.go⟩
def Au (he:QE X e te)(hs:swapsWith e none pos.line X.env=pure false:=by rfl):QS X (.Expr e pos) (tDrop te):=⟨Wl he.go hs⟩
def Nd {j pos}:QE X (.Constant .none j pos) (tC .BI):=⟨pe_non⟩
def Db :QTS X [] tYes:=⟨pts_nil⟩
def Rl :QGs X [] gNil:=⟨pgs_nil⟩
def Wk (I:X.calm=true)(h:QGs X es t)(hn:(assignEach es X.env).length=n:=by rfl)(O:(assignEach es X.env).findIdx? (·.1)=none:=by rfl):QG X (.Tuple es k pos) (gTup X.K n t):=⟨pg_tup I h.go hn O⟩
def Yl (I:QT X c tA)(ha:QE X a ta)(hb:QE X b tb):QE X (.IfExp c a b pos) (tIf tA ta tb):=⟨pe_ifExp I.go ha.go hb.go⟩
def Kc (pa:PlainAttrs T)(a4:Slot T O I)(a0:typeOf (.builtin I)=pure (.type "method_descriptor"))(hm:MtR X I r)(Y:QE X o a1)(a2:attributeBase o O X.env (eval o X.env)=eval o X.env:=by rfl)(a3:(apos.endLine==cpos.line)=true:=by rfl):QE X (.Call (.Attribute o O apos) [] [] cpos) (tBM0 X.K T r a1):=⟨pe_bm0 pa a4 a0 hm Y.go a2 a3⟩
def F7 (ha:QT X a tA):QW X (.BoolOp .And [a] pos) tA:=⟨pw_and1 ha.go⟩
def Je (ha:QT X a tA)(hb:QW X (.BoolOp .And (b::I) pos) tB'):QW X (.BoolOp .And (a::b::I) pos) (tAnd tA tB'):=⟨pw_and ha.go hb.go⟩
def Yj (Y:CO X (compareOp op) r)(a0:CO X (compareOp I) r')(ha:QE X a ta)(hb:QE X b tb)(O:QE X c tc)(hm:lastMarks [op,I] [b,c]=false:=by with_unfolding_all rfl):QT X (.Compare a [op,I] [b,c] pos) (Yc (Vw r r' ta tb tc)):=⟨At9 Y a0 ha.go hb.go O.go hm⟩
def F0 (hl:QE X l tl):QI X tg l (iTup X.K tl):=⟨pi_tup hl.go⟩
def qe_or (ha:QE X a ta)(hb:QE X (.BoolOp .Or (b::I) pos) tb):QE X (.BoolOp .Or (a::b::I) pos) (tOrV ta tb):=⟨pe_or ha.go hb.go⟩
def At5 (ha:QE X a ta):QE X (.UnaryOp .Not a pos) (tNotV ta):=⟨pe_not ha.go⟩
def qe_dget (O:X.A.units+1<cLine)(I:QE X o Y)(a0:QE X i ty)(hs:Ap0 i):QE X (.Subscript o i pos) (Aq8 Y ty):=⟨pe_dget O I.go a0.go hs⟩
def Ob (Y:CO X (compareOp op) r)(a0:CO X (compareOp I) r')(ha:QE X a ta)(hb:QE X b tb)(O:QE X c tc)(hm:lastMarks [op,I] [b,c]=false:=by with_unfolding_all rfl):QE X (.Compare a [op,I] [b,c] pos) (Vw r r' ta tb tc):=⟨pe_chain Y a0 ha.go hb.go O.go hm⟩
def Mf (h:QT X c tt):QTS X [c] tt:=⟨pts_one h.go⟩
def At4 (hl:QE X l tl):QI X (.Name n p) l (iStr tl):=⟨pi_str hl.go⟩
def qps_nil:QPs X pos [] [] []:=⟨pps_nil⟩
def Lq (hk:QE X k tk)(I:QE X v O)(hr:QPs X pos ks vs Y):QPs X pos (some k::ks) (v::vs) ((tk,O)::Y):=⟨Au4 hk.go I.go hr.go⟩
def qe_disp (h:QPs X pos keys I Y)(a0:keys.all (·.isSome)=true)(hl:keys.length=I.length)(h0:keys≠[])(O:keys.length<=15):QE X (.Dict keys I pos) (tDisp Y):=⟨pe_disp h.go a0 hl h0 O⟩
def qv (i:Nat)(I:X.N[i]?=some x:=by rfl)(O:Vis X.env.scope x:=by first|show Or.inl rfl|show Or.inr (Or.inl rfl)|show Or.inr (Or.inr rfl))(hd:Eg x:=by decide)(Y:(x==("__classdict__":Str))=false:=by decide):QE X (.Name x pos) (tVar i):=⟨pv i I O hd Y⟩
def QW.pt (h:QW X e t):QT X e t:=⟨h.go.pt⟩
def El (c:AY X scope cl N' n js)(Y:X.calm=true)(hi:QI X tg iter wi)(O:∀I H3 fp,QG (CG X N' scope cl I H3 fp) tg g/\QTS (CG X N' scope cl I H3 fp) a1 tt/\QE (CG X N' scope cl I H3 fp) a0 te)(hs:Up X iter:=by intro _;rfl):QE X (.ListComp a0 [⟨tg,iter,a1,0⟩] scope pos) (Ae5 (Ld n js) wi g tt te):=⟨pe_comp c Y hi.go (λI H3 fp=>(Az ((O I H3 fp).1.go) ((O I H3 fp).2.1.go) ((O I H3 fp).2.2.go))) hs⟩
def Gw (hN:X.N.Nodup)(a1:X.N[i0]?=some y)(hx:X.env.scope.names.lookup y=some .local)(a2:swapsWith (.ListComp Y [⟨tg,iter,a0,0⟩] scope pos) (some (.Name y py)) a3.line X.env=pure true)(c:AY X scope cl N' n js)(hc:X.calm=true)(hi:QI X tg iter wi)(O:∀I H3 fp,QG (CG X N' scope cl I H3 fp) tg g/\QTS (CG X N' scope cl I H3 fp) a0 tt/\QE (CG X N' scope cl I H3 fp) Y te)(hs:Up X iter:=by intro _;rfl):QS X (.Assign [.Name y py] (.ListComp Y [⟨tg,iter,a0,0⟩] scope pos) a3) (Ye (Ae5 (Ld n js) wi g tt te) (BH i0)):=⟨ps_comp hN a1 hx a2 c hc hi.go (λI H3 fp=>(Az ((O I H3 fp).1.go) ((O I H3 fp).2.1.go) ((O I H3 fp).2.2.go))) hs⟩
end
def As.okQ {P:Program}{w:World}{K:Av}{mg:Cb}{base:Heap}{x qual:Str}{I:Stmt}{f:Addr}{fd:FuncData}{N ps:List Str}{k:Nat}{sp:Sp}(F:As K x qual I f fd)(S:AD N ps (Ao I))(len:∀vs H Q E,sp vs H Q E->vs.length=ps.length)(Y:∀(cdv:Value) (A:Around) (outer:List Env) (s:Shared) (H:Hp) (vs:List V) (Q:VK) (E:XK),BC k (A.deeper (envOfC qual (Ao I) s.heap.objs.size f cdv))->sp vs H Q E->∃t,IX (FK BE P w K mg base N qual (Ao I) f cdv A outer s H E).nox (Ew I) t/\t {nx:=λ_ H'=>Q .BI H',rt:=Q} (start N vs) H):AH P w K mg base BE (k+1) f fd ps sp:=F.ok S len λcdv A outer s H vs Q E hr O=>let ⟨t,h,q⟩:=Y cdv A outer s H vs Q E hr O;(Aq t h.go q)
noncomputable def outO (o:Obj):Obj:={o with data:=.freed}
noncomputable def Fp (h:Heap):List Addr->Heap
 | []=>h
 | a::l=>(Fp h l).update a outO
def out_get {h:Heap}:(h.update a outO).get? a=none:=by
 obtain⟨objs,l⟩:=h
 show(match (objs.modify a outO)[a]? with|some ⟨_,_,.freed,_⟩=>none|o=>o)=none
 rw[Array.getElem?_modify,KJ rfl]
 cases objs[a]? with
 | none=>rfl
 | some o=>rfl
theorem Hj:∀{l:List Addr} {b:Addr},b∈l->(Fp h l).get? b=none
 | [],b,hb=>by simp at hb
 | a::l,b,hb=>by
  by_cases e:a=b
  .subst e;show out_get
  .show ((Fp h l).update a outO).get? b=none
   rw[OJ _ _ e]
   rcases JT.mp hb with q|q
   .show absurd q.symm e
   .show Hj q
theorem Ih:∀{l:List Addr} {b:Addr},b∉l->(Fp h l).get? b=h.get? b
 | [],b,hb=>rfl
 | a::l,b,hb=>by
  have e:a≠b:=λz=>hb (z▸JY ..)
  show((Fp h l).update a outO).get? b=_
  rw[OJ _ _ e];show Ih λz=>hb (JS _ z)
def Ms:(Fp h l).StaysIn h:=λb o e=>by
 by_cases hb:b∈l
 .rw [Hj hb]at e;cases e
 .rw [Ih hb]at e;show e
theorem Mx {h B I:Heap}:∀{l:List Env},h.FunFrames B l->(∀b∈EU l,I.get? b=none)->h.FunFrames I l
 | [],_,_=>trivial
 | env::l,⟨k,⟨L,o,hf,_,Y,hd⟩,r⟩,O=>by
  show Az k (Co L o hf (O L ?_) Y hd) (Mx r λb hb=>O b ?_)
  .show L∈(env::l).filterMap (·.frame)
   rw[OG,hf];show JY ..
  .show b∈(env::l).filterMap (·.frame)
   rw[OG,hf];show JS _ hb
def AV.there (x:AV P w H h a o):∃ob,h.get? a=some ob:=by
 cases o with
 | lst xs=>show Fc x λ_ z1=>?_;show C8 z1 λ_ _ _ e=>?_;show⟨_,e⟩
 | tup xs=>show Fc x λ_ z1=>?_;show Am z1 λ_ _ z2=>?_;show Am z2 λob e _=>?_;show⟨_,e⟩
 | dK kvs=>show Ch x λ_ _ z1=>?_;show Am z1 λ_ _ z2=>?_;show Gh z2 λo _ _ e _=>?_;show⟨_,e⟩
 | dT kvs=>show Ch x λ_ _ z1=>?_;show Am z1 λ_ _ z2=>?_;show Gh z2 λo _ _ e _=>?_;show⟨_,e⟩
 | set S n=>show dd41 x λo _ _ _ e _=>?_;show⟨_,e⟩
 | ins C dx fs=>show Ma x λ_ _ _ e _=>?_;show⟨_,e⟩
 | own y=>show x
 | xd fs=>show Am x λ_ z1 _=>?_;obtain⟨_,_,_,e,_⟩:=z1;show⟨_,e⟩
 | rng lo hi=>show Jt x λ_ _ _ e=>?_;show⟨_,e⟩
 | EB ob u=>obtain⟨e,_⟩:=x;show⟨_,e⟩
 | tbl ps=>show⟨_,show h.get? a=some _ from x⟩
 | met f y=>show⟨_,show h.get? a=some _ from x⟩
 | ext φ=>show Ch x λ_ e _=>?_;show e
def CV.none_of (x:CV P w H h)(e:h.get? a=none):H a=none:=by
 cases q:H a with
 | none=>rfl
 | some o=>obtain⟨ob,r⟩:=(x a o q).there;rw[e]at r;cases r
def CV.IN (x:CV P w H h)(k:∀b u o,H b=some o->h.get? b=some u->h'.get? b=some u):CV P w H h':=λa o e=>
 (x a o e).FD (λb u hb q=>by
   rcases hb with rfl|hb
   . show k _ u o e q
   . show k b u _ hb q) (λ_ q=>q) λ_ _ q=>q
def CV.track (x:CV P w H h)(hn:H a=none)(new:AV P w (upd H a o) h a o):CV P w (upd H a o) h:=λb u e=>by
 by_cases hb:b=a
 .subst hb;rw[Ah]at e;cases e;show new
 .rw [Aj hb]at e;show(x b u e).FD (λc v _ q=>q) (λc q=>by rw[Aj (Af q hn)];show q) λc xs q=>by rw[Aj (Af q hn)];show q
def Rec (h:Heap)(e:Addr)(cls:Value):Option Addr->Prop
 | none=>∃I vs,h.get? e=some I/\I.cls=cls/\I.data=.fields vs/\vs[1]?=some .none
 | some T=>∃I vs oT ts,h.get? e=some I/\I.cls=cls/\I.data=.fields vs/\vs[1]?=some (.ref T)/\T≠e/\h.get? T=some oT/\oT.data=.fields ts/\ts[3]?=some .none
def Rec.made (x:Heap.MadeExcOf h h' e cls vs):Rec h' e cls none:=by
 show Am x.there λt q _=>Cd q rfl rfl rfl
structure Noted (l:List Env)(e:Addr)(cls:Value)(T:Option Addr)(h h':Heap)(T':Addr):Prop where
 rc:Rec h' e cls (some T')
 new:h.get? T'=none\/T=some T'
 keep:∀b o,h.get? b=some o->b∉EU l->b≠e->T≠some b->h'.get? b=some o
 slot:∀b o,h.get? b=some o->b∈EU l->∃sl,h'.get? b=some {o with slots:=sl}
section
variable {E:Bo}
def noted_of (hF:h.FunFrames B (env::outer))(lf:Heap.Left (Fp h (e::(T.toList++EU (env::outer)))) (env::outer) e cls h h'):∃T',Noted (env::outer) e cls T h h' T':=by
 show Qi lf λst ff z1 sl=>?_;obtain⟨oe,vs,T',oT,ts,h1,h2,h3,h4,I,O,Y,h8,h9⟩:=z1;show⟨T',(Cm oe vs oT ts h1 h2 h3 h4 O (Az Y h8 h9)),?_,λb o hb n1 n2 n3=>?_,λb o hb a2=>?_⟩
 .by_cases hm:T'∈e::(T.toList++EU (env::outer))
  .rcases JT.mp hm with q|q
   .show absurd q O
   .rcases KQ.mp q with q|q
    .cases T with
     | none=>simp at q
     | some t=>simp at q;show .inr (by rw[q])
    .show Fc (ff.mem q) λ_ z1=>Am z1 λo ho hd=>?_;rw[Y]at ho;cases ho;show absurd h8 (hd ts)
  .rw [Ih hm]at I;show .inl I
 .show st b o ?_;rw[Ih ?_]
  .show hb
  .intro z
   rcases JT.mp z with z|z
   .show n2 z
   .rcases KQ.mp z with z|z
    .cases T with
     | none=>simp at z
     | some t=>simp at z;show n3 (by rw[z])
    .show n1 z
 .show Fc (hF.mem a2) λ_ z1=>Am z1 λo' a0 a1=>?_;rw[hb]at a0;cases a0;show sl b o hb a1
def Yw {Q:Uo}(hA:A.frames=some (env::outer))(hL:env.frame=some L)(hF:s.heap.FunFrames B (env::outer))(r:Rec s.heap e cls T)
  (k:∀h' T',Noted (env::outer) e cls T s.heap h' T'->Q () {s with heap:=h'}):wpAny M A (noteFrame (.ref e) env) (λ_ s2=>wpAny M A (setFlight (.ref e) none) Q E s2) E s:=by
 have hB:∀b∈EU (env::outer),(Fp s.heap (e::(T.toList++EU (env::outer)))).get? b=none:=λb hb=>Hj (JS _ (LB _ hb));have a0:=Mx hF hB;have hE:(Fp s.heap (e::(T.toList++EU (env::outer)))).get? e=none:=Hj (JY ..);have fin:∀h',Heap.Left (Fp s.heap (e::(T.toList++EU (env::outer)))) (env::outer) e cls s.heap h'->Q () {s with heap:=h'}:=λh' lf=>by
  obtain⟨T',n⟩:=noted_of hF lf;show k h' T' n
 cases T with
 | none=>
  show Ia r λoe vs O z1 Y g4=>?_;subst z1
  show wpAny M A (noteFrame (.ref e) env) _ E s
  unfold noteFrame;simp only[hL];show JQ (LH O Y g4 ?_);rw[KH (by decide)];show wpAny_newEntry hA a0 hL O Ms hE Y (Array.getElem?_eq_some_iff.mp g4).1 fin
 | some T=>
  show Ox r λoe vs oT ts O z1 Y g4 g5 z2=>Ch z2 λg6 g7 g8=>?_;subst z1;have hT:(Fp s.heap (e::((some T).toList++EU (env::outer)))).get? T=none:=Hj (JS _ (MD _ (by simp)))
  show wpAny M A (noteFrame (.ref e) env) _ E s
  unfold noteFrame;simp only[hL];show JQ (LH O Y g4 ?_);rw[KJ (show(Value.ref T !=Value.none)=true by simp)];show JQ (LH g6 g7 g8 ?_);rw[KH (show ¬(Value.none==rawInt L)=true by simp[rawInt])];show JQ (wpAny_setField g6 g7 (Array.getElem?_eq_some_iff.mp g8).1 ?_);have oth:∀b,b≠T->(s.heap.update T (Obj.mapFields (·.setIfInBounds 3 Value.none))).get? b=s.heap.get? b:=λb hb=>OJ _ _ (OO hb);have nr:∀b o,s.heap.get? b=some o->(∀zs,o.data≠.fields zs)->b≠T:=λb o q I z=>by
   rw[z,g6]at q;cases q;show I ts g7
  show wpAny_newEntry hA (a0.of_keeps λb o q I=>(Aq o ((oth b (nr b o q I)).trans q) rfl)) hL ((oth e (OO g5)).trans O)
   (λb o q=>(oth b λz=>by rw[z,hT]at q;cases q).trans (Ms b o q)) hE Y (Array.getElem?_eq_some_iff.mp g4).1 ?_
  rintro h' ⟨x1,x2,x3,x4⟩;show fin h' (C7 x1 x2 x3 λb o q I=>x4 b o ((oth b (nr b o q I)).trans q) I)
end
noncomputable def HD (P:Program)(w:World):IY:=λouter H s E e s'=>∃(a:Addr) (cls:Value) (T:Addr) (H':Hp),e=.ref a/\s'.os=s.os/\AllBare s'.gens/\Un (EU outer) [] H H' s.heap s'.heap/\CV P w H' s'.heap /\
 Rec s'.heap a cls (some T)/\s.heap.get? a=none/\H' a=none/\s.heap.get? T=none/\H' T=none/\E cls none H'
def Xt (X:Cx)(E:XK):Prop:=∀(pins:Ej) (σ:St) (H:Hp) (s:Shared) (a:Addr) (cls:Value) (T:Option Addr),Inv X pins σ H s->Rec s.heap a cls T->X.s₀.heap.get? a=none->H a=none ->
 (∀t,T=some t->X.s₀.heap.get? t=none/\H t=none)->E cls none H->X.xe (.ref a) s
def Inv.JB (I:Inv X pins σ H s)(hex:X.ex=[])(h:s.heap.get? a=none):X.s₀.heap.get? a=none:=by
 cases q:X.s₀.heap.get? a with
 | none=>rfl
 | some o=>
  obtain⟨o',r⟩:=I.base.there a o q (by rw[hex];simp);rw[h]at r;cases r
def Ck {P:Program}{w:World}{K:Av} :
  Xt (FK (HD P w) P w K mg base N qual scope f cd A outer s₀ H₀ E) E:=by
 intro pins σ H s a cls T I r ha hH Y e
 show wpAny _ _ (leaving _ _) _ _ s
 unfold leaving;have a2:∀b o,s₀.heap.get? b=some o->b≠s₀.heap.objs.size:=λb o q=>LF (JZ q);show JQ (Yw I.ok.frames rfl I.stack r λh' T' n=>?_);have fr:∀b,b∈EU (envOfC qual scope s₀.heap.objs.size f cd::outer)->b=s₀.heap.objs.size\/b∈EU outer:=λb hb=>by
  have:=I.HS b hb
  rcases JT.mp this with z|z
  .show .inl z
  .show .inr z
 have own:∀b,b∈EU outer->b∈EU (envOfC qual scope s₀.heap.objs.size f cd::outer):=λb hb=>JS _ hb;have nT:∀b o,s₀.heap.get? b=some o->T≠some b:=λb o q z=>by
  have:=(Y b z).1;have this:s₀.heap.get? b=none:=this;rw[q]at this;cases this
 have na:∀b o,s₀.heap.get? b=some o->b≠a:=λb o q z=>by
  have this:s₀.heap.get? a=none:=ha;rw[z,this]at q;cases q
 have a0:s₀.heap.get? T'=none/\H T'=none:=by
  rcases n.new with z|z
  .show⟨I.JB rfl z,I.AU.none_of z⟩
  .show Y T' z
 show Cm a cls T' H rfl I.os I.bare ⟨λb o q m hb hx=>?_,λb o q m hb hx=>?_,I.base.free,λb o q hx=>?_,I.base.AF,I.base.DX,I.base.FN⟩ (I.AU.IN λb u o hb q=>?_) (D8 n.rc ha hH a0.1 a0.2 e)
 .have O:=I.base.keep b o q m hb hx;show n.keep b o O (λz=>(fr b z).elim (a2 b o q) hb) (na b o q) (nT b o q)
 .obtain⟨sl,O⟩:=I.base.slot b o q m hb hx;obtain⟨a1,q2⟩:=n.slot b _ O (own b hb);show⟨a1,q2⟩
 .obtain⟨o',O⟩:=I.base.there b o q hx;by_cases hb:b∈EU (envOfC qual scope s₀.heap.objs.size f cd::outer)
  .obtain⟨a1,q2⟩:=n.slot b _ O hb;show⟨_,q2⟩
  .show⟨o',n.keep b o' O hb (na b o q) (nT b o q)⟩
 .show n.keep b u q (λz=>?_) (λz=>?_) λz=>?_
  .rw [I.GK b z]at hb;cases hb
  .rw [z,hH]at hb;cases hb
  .rw [(Y b z).2]at hb;cases hb
def Ip (R:Xt X E)(hex:X.ex=[]):Gm (HD X.prog X.w) X E:=by
 intro pins σ H s e s' I h;show Ox h λa cls T H' z1 os bare un AU z2=>Ib z2 λr ha Y hT a0 q=>?_;subst z1;have O:Inv X pins σ H' s':=I.IA (ch:=[]) os un AU bare λb z=>absurd z (by simp);show R pins σ H' s' a cls (some T) O r (I.JB hex ha) Y (λt z=>by cases z;show⟨I.JB hex hT,a0⟩) q
def exc_obj {K:Av}{h:Heap}{C:Addr}{bmB:List Value}{newId:String}(X:K.In h)(q:PySem.W.excIn K C bmB newId=true) :
  ∃bm N nm O bs hdct sn sub ab col dd k0 k1 k2 k3 k5 mN,h.get? C=some (excClassObj nm O C N bs bm hdct sn sub ab col dd k0 k1 k2 k3 k5 newId)/\h.Ns N mN/\mN "__init__"=none/\OwnTail h bmB bm:=by
 unfold PySem.W.excIn at q;split at q
 case h_2=>cases q
 case h_1 dd cd sl ho=>
  split at q
  case h_2=>cases q
  case h_1 C' bm k0 k1 k2 k3 n k5 hm hs=>
   simp only[MA,NP,RB]at q;obtain⟨⟨⟨⟨⟨e1,e2⟩,Y⟩,ht⟩,I⟩,e5⟩:=q;subst e1;subst e2;obtain⟨nm,bs,mr,a0,O,hdct,sn,sub,ab,col,dl⟩:=cd;dsimp only at hm Y I e5;subst hm;subst Y;have z:sl=#[k0,k1,k2,k3,some (Value.builtin n),k5]:=by cases sl with|mk l=>simp only at hs;rw[hs]
   rw[z]at ho;show Cw bm a0 nm O bs hdct (Cw sn sub ab col dd k0 (ii53 k1 k2 k3 k5 _ (X _ _ ho) (.of_isNs (PySem.W.isNs_of_in X I)) (PySem.W.nsMap_none_of_in X I e5) (PySem.W.tail_of_in X ht)))
def Aq4 (E:XK)(C:Addr)(t:TA):TS:=λ_ σ H=>t σ H λvs H1=>vs.length<=sizeLine/\E (.ref C) none H1
def Au1 (R:Xt X E)(hex:X.ex=[])(hc:X.calm=true)(FB:ExcBaseFacts B newId initId bm)(hg:Gl X x)(hm:X.mg x=some (.ref C))
  (hC:PySem.W.excIn X.K C bm newId=true)(ha:PA X (e::es) t)(a0:Eg x:=by decide)(he:Gi X e es:=by rfl)(a2:Hf X cpos es:=by rfl) :
  PS X (.Raise (some (.Call (.Name x np) (e::es) [] cpos)) none pos) (Aq4 E C t):=by
 intro pins s σ H D I h;show Dc (exc_obj I.mod.kin hC) λtl N nm q bs hdct z1=>Dc z1 λsn sub ab col dd k0 z2=>dd53 z2 λk1 k2 k3 k5 mN hO hN a1 T=>?_;have a3:(backTo cpos (starEach (e::es) X.env)).any (·.1)=false:=by
  rw[he]
  show(false||(backTo cpos (starEach es X.env)).any (·.1))=false
  rw[a2];rfl
 show wpAny_Raise_call_subT (C:=C) (nm:=nm) (q:=q) (N:=N) (bs:=bs) (bm:=tl) (hdct:=hdct) (sn:=sn) (sub:=sub) (ab:=ab) (col:=col) (dd:=dd) (k0:=k0) (k1:=k1) (k2:=k2) (k3:=k3) (k5:=k5) FB (mN:=mN) (T.hasType FB.hasBase) (I.ok.hd hc) a3 a1 (G0 I hg hm ⟨rfl,?_⟩ a0);have h2:=ha cpos pins s σ H _ I h;rw[he]at h2 ⊢;show Calls.evalArgs_plain (NY h2 (λus s2 z=>(Ia z λvs H1 O rv ln ee=>?_)) λ_ _ y=>y);show D8 rfl (by rw[← rv.length];show ln) (O.bk _ _ hO) (hN.keeps O.bk) (T.keeps O.bk) λh' a Y=>R pins σ H1 {s2 with heap:=h'} a (.ref C) none (O.kept (t':=s2.toks) Y.keeps) (Rec.made Y) (O.JB hex Y.new) (O.AU.none_of Y.new) (λt z=>nomatch z) ee
structure CN (P:Program)(w:World)(K:Av)(mg:Cb)(base:Heap)(k:Nat)(x:Str)(ps:List Str)(sp:Sp):Prop where
 ex:∃f fd,AH P w K mg base (HD P w) k f fd ps sp/\mg x=some (.ref f)/\PySem.W.keepIn K (.ref f)=true/\Binds K fd ps []
def pe_fn1 (F:CN X.prog X.w X.K X.mg X.base k x ps sp)(I:Gm (HD X.prog X.w) X E)(hr:BC k X.A)(hg:Gl X x)(ha:PA X (e::es) t)(O:Eg x:=by decide)
  (he:Gi X e es:=by rfl)(Y:Hf X pos es:=by rfl):PE X (.Call (.Name x p) (e::es) [] pos) (Nu sp [] E t):=by
 show Ia F.ex λf fd F hm hk hb=>Ah4 F hr hg hm hk hb .nil I ha O he Y
section
variable {P:Program}{w:World}{K:Av}{mg:Cb}{base:Heap}
def As.ok1 {x qual:Str}{st:Stmt}{f:Addr}{fd:FuncData}{N ps:List Str}{k:Nat}{sp:Sp}(F:As K x qual st f fd)(S:AD N ps (Ao st))(len:∀vs H Q E,sp vs H Q E->vs.length=ps.length)
   (Y:∀(cdv:Value) (A:Around) (outer:List Env) (s:Shared) (H:Hp) (vs:List V) (Q:VK) (E:XK),BC k (A.deeper (envOfC qual (Ao st) s.heap.objs.size f cdv))->sp vs H Q E ->
     ∃t,IX (FK (HD P w) P w K mg base N qual (Ao st) f cdv A outer s H E) (Ew st) t/\t {nx:=λ_ H'=>Q .BI H',rt:=Q} (start N vs) H):AH P w K mg base (HD P w) (k+1) f fd ps sp:=by
 show Dc F.ex λoc od kV doc pm an z1=>He z1 λcdv ct osl z2 lk I=>?_;subst z2;show fn_of lk I S len λA outer s H vs Q E hr O=>Am (Y cdv A outer s H vs Q E hr O) λt h q=>Aq t h.go q
end
section
def Ho (R:Xt X E)(hex:X.ex=[])(O:X.calm=true)(FB:ExcBaseFacts B newId initId bm)(hg:Gl X x)(hm:X.mg x=some (.ref C))
  (I:PySem.W.excIn X.K C bm newId=true)(ha:QA X (e::es) t)(Y:Eg x:=by decide)(he:Gi X e es:=by rfl)(a0:Hf X cpos es:=by rfl) :
  QS X (.Raise (some (.Call (.Name x np) (e::es) [] cpos)) none pos) (Aq4 E C t):=⟨Au1 R hex O FB hg hm I ha.go Y he a0⟩
def qe_fn1 (F:CN X.prog X.w X.K X.mg X.base k x ps sp)(I:Gm (HD X.prog X.w) X E)(hr:BC k X.A)(hg:Gl X x)(ha:QA X (e::es) t)(O:Eg x:=by decide)
  (he:Gi X e es:=by rfl)(Y:Hf X pos es:=by rfl):QE X (.Call (.Name x p) (e::es) [] pos) (Nu sp [] E t):=⟨pe_fn1 F I hr hg ha.go O he Y⟩
end
structure EJ (k:Nat)(A:Around):Prop where
 dp:A.depth+3*k+5<recursionLimit
 un:A.units+16*k+200<cLine
def BC.h (r:BC k A)(v:Option Value):EJ k (A.mark v):=⟨r.dp,r.un⟩
def EJ.deeper (r:EJ (k+1) A)(env:Env):EJ k (A.deeper env):=
 ⟨by have:=r.dp;show A.depth+1+3*k+5<_;omega,by have:=r.un;show A.units+3+16*k+200<_;omega⟩
def EJ.depth (r:EJ k A):A.depth<recursionLimit:=by have:=r.dp;omega
structure IT (P:Program)(w:World)(K:Av)(mg:Cb)(base:Heap)(k:Nat)(f:Addr)(fd:FuncData)(ps:List Str)(sp:Sp):Prop where
 len:∀vs H Q,sp vs H Q E0->vs.length=ps.length
 run:∀(A:Around) (outer:List Env) (s:Shared) (H:Hp) (args:Args) (us:List Value) (vs:List V) (Q:VK),EJ k A->HQ P w K mg base A outer s H->BindsTo s fd args (ps.zip us)->AK vs us->sp vs H Q E0 ->
  codeAny (model P w) A (.call (.ref f) args) (CR BE outer P w H s Q E0) s
noncomputable def Aj2 (P:Program)(w:World)(K:Av)(mg:Cb)(base:Heap)(N:List Str)(qual:Str)(scope:Scope)(f:Addr)(cd:Value)(A:Around)(outer:List Env)(s:Shared)(H:Hp):Cx:=
 {FK BE P w K mg base N qual scope f cd A outer s H E0 with calm:=false,xe:=λ_ _=>False}
section
variable {P:Program}{w:World}{K:Av}{mg:Cb}{base:Heap}
def Inv.toH
  (I:Inv (FK BE P w K mg base N qual scope f cd {A with handled:=none} outer s H E0) pins σ H1 s1):Inv (Aj2 P w K mg base N qual scope f cd A outer s H) pins σ H1 s1:=
 ⟨⟨I.ok.mod,I.ok.kind,I.ok.glob,I.ok.blt,I.ok.above,I.ok.inj,I.ok.has,I.ok.cab,λz=>Bool.noConfusion z,I.ok.frames,I.ok.stk,I.ok.exf,I.ok.bs,I.ok.JE,I.ok.ID,I.ok.HM,I.ok.AC,I.ok.frf⟩,
  I.os,I.bare,I.base,I.loc,I.cell,I.free,I.CC,I.pin,I.AU,I.len⟩
def As.okH {x qual:Str}{st:Stmt}{f:Addr}{fd:FuncData}{N ps:List Str}{k:Nat}{sp:Sp}(F:As K x qual st f fd)(S:AD N ps (Ao st))(len:∀vs H Q,sp vs H Q E0->vs.length=ps.length)
   (a5:∀(cdv:Value) (A:Around) (outer:List Env) (s:Shared) (H:Hp) (vs:List V) (Q:VK),EJ k (A.deeper (envOfC qual (Ao st) s.heap.objs.size f cdv))->sp vs H Q E0 ->
     ∃t,IX (Aj2 P w K mg base N qual (Ao st) f cdv A outer s H) (Ew st) t/\t {nx:=λ_ H'=>Q .BI H',rt:=Q} (start N vs) H):IT P w K mg base (k+1) f fd ps sp:=by
 show Dc F.ex λoc od kV doc pm an z1=>He z1 λcdv ct osl z2 lk a3=>?_;subst z2;show⟨len,λA outer s H args us vs Q hr I hb r a0=>?_⟩;have hl:=len _ _ _ a0;have Y:K.In s.heap:=I.mod.kin.keeps λb o e=>(I.bs b o e).1;have a4:s.heap.NoLimit:=I.mod.nolimit.keeps λb o e=>(I.bs b o e).1;have a6:∀y∈ps.zip us,(Ao st).names.lookup y.1=some .local\/((Ao st).names.lookup y.1=some .cell/\((cellsFrom (s.heap.objs.size+1) (Ao st).names []).lookup y.1).isSome=true):=λ⟨n,v⟩ hy=>by
   rcases S.par n (QL hy).1 with q|q
   . show .inl q
   . show .inr ⟨q,PySem.W.cellsFrom_some _ _ _ (.inl q)⟩
 show codeAny_call_function hr.depth (Y _ _ lk) rfl S.co S.gen rfl (PySem.W.codeRec_of Y a3) (hb _ _ _ _ (wpAny_newFunctionEnv_cells S.kind a6 λenv he s1 x=>?_));subst he;show⟨a4.keeps x.toInCall.keep,codeAny_func ?_⟩;show Am (a5 cdv A outer s H vs Q (hr.deeper _) a0) λt ht hq=>?_;have a2:HQ P w K mg base {A with handled:=none} outer s H:=⟨I.frames,I.mod,I.bs,I.JE,I.AC,I.frf,I.AU,I.bare⟩;have a1:Inv (Aj2 P w K mg base N qual (Ao st) f cdv A outer s H) [] (start N vs) H s1:=Inv.toH (U6 (A:={A with handled:=none}) S rfl a2 hl r x);show NY (ht.go [] s1 (start N vs) H _ a1 hq) (λfl s' hs=>?_) λe s' hs=>hs.elim;have fin:∀{σ':St} {H':Hp} {v:V} {u:Value},Inv (Aj2 P w K mg base N qual (Ao st) f cdv A outer s H) [] σ' H' s'->RelV v u->Q v H'->CE outer P w H s Q u s':=
   fun {σ' H' v u} J O q=>(Km v H' J.os J.bare J.base J.AU O q)
 cases fl with
 | ret u=>
   show He hs λv σ' H' J O q=>fin J O q
 | next=>
   show C8 hs λσ' H' J q=>fin (v:=V.BI) (u:=Value.none) J rfl q
 | brk=>
   show C8 hs λ_ _ _ q=>False.elim q
 | cont=>
   show C8 hs λ_ _ _ q=>False.elim q
end
structure FnBH (P:Program)(w:World)(K:Av)(mg:Cb)(base:Heap)(k:Nat)(x:Str)(ps:List Str)(sp:Sp):Prop where
 ex:∃f fd,IT P w K mg base k f fd ps sp/\mg x=some (.ref f)/\PySem.W.keepIn K (.ref f)=true/\Binds K fd ps []
def pe_fnH (F:FnBH X.prog X.w X.K X.mg X.base k x ps sp)(hr:EJ k X.A)(hg:Gl X x)(ha:PA X (e::es) t)(a1:Eg x:=by decide)
  (he:Gi X e es:=by rfl)(a2:Hf X pos es:=by rfl):PE X (.Call (.Name x p) (e::es) [] pos) (Nu sp [] E0 t):=by
 show Ia F.ex λf fd F hm hk hb=>?_;intro pins s σ H Q I h;show NZ (G0 I hg hm (PB (h₀:=X.base) I.ok.mod.kin hk (AT (ha pos pins s σ H _ I h) λus s1 ⟨vs,H1,Y,r,q⟩=>⟨Y.EE,?_⟩) he a2) a1);have q:sp vs H1 Q E0:=by simpa using q
 have hl:us.length=ps.length:=by rw[← r.length];show F.len _ _ _ q
 have a0:BindsTo s1 fd ⟨us,[]⟩ (ps.zip us):=by
  have:=hb s1 us Y.EE (by simpa using hl);simpa using this
 show wpAny_call (OI (F.run X.A X.stack s1 H1 ⟨us,[]⟩ us vs Q hr Y.env0 a0 r q) λr s' O=>?_)
 cases r with
 | error e=>show False.elim O
 | ok fl=>
  cases fl with
  | ret u=>show Y.after O
  | next=>show False.elim O
  | brk=>show False.elim O
  | cont=>show False.elim O
def qe_fnH (F:FnBH X.prog X.w X.K X.mg X.base k x ps sp)(hr:EJ k X.A)(hg:Gl X x)(ha:QA X (e::es) t)(I:Eg x:=by decide)
  (he:Gi X e es:=by rfl)(O:Hf X pos es:=by rfl):QE X (.Call (.Name x p) (e::es) [] pos) (Nu sp [] E0 t):=⟨pe_fnH F hr hg ha.go I he O⟩
def XO (a:Addr)(cls:Value)(h:Heap):Prop:=∃o vs,h.get? a=some o/\o.cls=cls/\o.data=.fields vs
def XO.ok (x:XO a cls h):AV P w H h a (.ext (XO a cls)):=by
 show A0 x λo vs e c d=>Az (Al o vs e c d) ⟨o,e⟩ λh1 h2 ⟨o,vs,e,c,d⟩ k=>(Al o vs (k o e) c d)
def Rec.xo (r:Rec h e cls (some T)):XO e cls h:=by
 show Zr r λoe vs oT ts I O Y _=>Al oe vs I O Y
def Un.noted (u:Un (EU l) [] H H' h h1)(n:Noted l e cls T h1 h2 T')(he:h.get? e=none)(hT:∀t,T=some t->h.get? t=none):Un (EU l) [] H H' h h2:=by
 have ne:∀b o,h.get? b=some o->b≠e:=λb o q z=>by rw[z,he]at q;cases q
 have Y:∀b o,h.get? b=some o->T≠some b:=λb o q z=>by rw[hT b z]at q;cases q
 show⟨λb o q m hb hx=>n.keep b o (u.keep b o q m hb hx) hb (ne b o q) (Y b o q),λb o q m hb hx=>?_,u.free,λb o q hx=>?_,u.AF,u.DX,u.FN⟩
 .obtain⟨sl,I⟩:=u.slot b o q m hb hx;obtain⟨a0,O⟩:=n.slot b _ I hb;show⟨a0,O⟩
 .obtain⟨o',I⟩:=u.there b o q hx;by_cases hb:b∈EU l
  .obtain⟨a0,O⟩:=n.slot b _ I hb;show⟨_,O⟩
  .show⟨o',n.keep b o' I hb (ne b o q) (Y b o q)⟩
def Un.but (u:Un fs [] H H' h h1)(k:∀b o,b≠T->h1.get? b=some o->h2.get? b=some o)(Y:h.get? T=none):Un fs [] H H' h h2:=by
 have I:∀b o,h.get? b=some o->b≠T:=λb o q z=>by rw[z,Y]at q;cases q
 show⟨λb o q m hb hx=>k b o (I b o q) (u.keep b o q m hb hx),λb o q m hb hx=>?_,u.free,λb o q hx=>?_,u.AF,u.DX,u.FN⟩
 .obtain⟨sl,O⟩:=u.slot b o q m hb hx;show⟨sl,k b _ (I b o q) O⟩
 .obtain⟨o',O⟩:=u.there b o q hx;show⟨o',k b o' (I b o q) O⟩
def Un.track (u:Un fs [] H H' h h1)(ha:h.get? a=none)(hn:H' a=none):Un fs [] H (upd H' a o) h h1:=by
 show⟨u.keep,u.slot,λb ob q m hx=>?_,u.there,λb xs q=>?_,λb ob xs q=>?_,λb ps q=>?_⟩
 .rw [Aj (λz=>by rw[z,ha]at q;cases q)];show u.free b ob q m hx
 .have:=u.AF b xs q;rw[Aj (Af this hn)];show this
 .have:=u.DX b ob xs q;rw[Aj (Af this hn)];show this
 .obtain⟨m,z⟩:=u.FN b ps q;show⟨m,by rw[Aj (Af z hn)];show z⟩
def Ad2 {E:Bo}{Q:Uo}(r:Rec s.heap e cls (some T))
  (k:∀h',Rec h' e cls (some T)->(∀b o,b≠T->s.heap.get? b=some o->h'.get? b=some o)->Q () {s with heap:=h'}):wpAny M A (setFlight (.ref e) none) Q E s:=by
 show Ox r λoe vs oT ts I g2 O Y g5 z1=>Ch z1 λg6 g7 g8=>?_;have hsz:=(Array.getElem?_eq_some_iff.mp g8).1;have oth:∀b,b≠T->(s.heap.update T (Obj.mapFields (·.setIfInBounds 3 Value.none))).get? b=s.heap.get? b:=λb hb=>OJ _ _ (OO hb);have hd:=Obj.data_mapFields g7 (·.setIfInBounds 3 Value.none);show wpAny_setFlight_none I O Y g6 g7 hsz (k _ (Cm oe vs _ _ ((oth e (OO g5)).trans I) g2 O Y g5 (Az (Heap.get?_update_self _ g6 (Obj.isFreed_of_fields hd)) hd ?_)) λb o hb q=>(oth b hb).trans q);simp[hsz]
abbrev Cx.HJ (X:Cx)(a:Addr)(pn:Ej):Cx:={X with A:=X.A.mark (some (.ref a)),calm:=false,pn:=pn,xe:=λ_ _=>False}
def Inv.HJ (I:Inv X pins σ H s)(h:pn=X.pn++pins):Inv (X.HJ a pn) [] σ H s:=by
 subst h
 show⟨⟨I.ok.mod,I.ok.kind,I.ok.glob,I.ok.blt,I.ok.above,I.ok.inj,I.ok.has,I.ok.cab,λz=>Bool.noConfusion z,I.ok.frames,I.ok.stk,I.ok.exf,I.ok.bs,I.ok.JE,I.ok.ID,I.ok.HM,I.ok.AC,I.ok.frf⟩,
  I.os,I.bare,I.base,I.loc,I.cell,I.free,I.CC,λp O=>I.pin p (by simpa using O),I.AU,I.len⟩
def Inv.IQ (ok:X.Ok)(I:Inv (X.HJ a pn) [] σ H s)(h:pn=X.pn++pins):Inv X pins σ H s:=by
 subst h;show⟨ok,I.os,I.bare,I.base,I.loc,I.cell,I.free,I.CC,λp O=>I.pin p (by simpa using O),I.AU,I.len⟩
def Mh {E:Bo}{Q:Uo}(I:Inv X pins σ H s)(hN:X.N.Nodup)(hi:X.N[i]?=some n)(hk:X.env.kindOf n=some .local)
  (h:∀s',Inv X pins (σ.set i none) H s'->Q () s'):wpAny M A (do bindName X.env n .none;unbindBehindTheSuite X.env n pos) Q E s:=by
 show Am (id I.loc) λm hn hl=>?_;have a0:i<σ.length:=by rw[I.len];show(List.getElem?_eq_some_iff.mp hi).1
 show wpAny_nameGoes_keeps hk hn (by rw[I.ok.kind];rfl) λh' v a1 hs=>h _ (Gh (id hn) λoL _ _ a2 _=>?_);have Y:∀b o,X.s₀.heap.get? b=some o->b≠X.env.locals:=λb o e=>LF (LD (JZ e) I.ok.above);show⟨I.ok,I.os,I.bare,⟨λb o e n hb hx=>?_,λb o e n hb hx=>?_,I.base.free,λb o e hx=>?_,I.base.AF,I.base.DX,I.base.FN⟩,(Ad a1 λj y v' e1 e2 e3=>?_),λy c e=>?_,I.free,I.CC,λp hp=>?_,?_,by simpa using I.len⟩
 .show (hs.2 b (Y b o e)).trans (I.base.keep b o e n hb hx)
 .obtain⟨sl,e1⟩:=I.base.slot b o e n hb hx;show⟨sl,(hs.2 b (Y b o e)).trans e1⟩
 .obtain⟨o',e1⟩:=I.base.there b o e hx;show⟨o',(hs.2 b (Y b o e)).trans e1⟩
 .by_cases O:j=i
  .subst O;rw[List.getElem?_set_self a0]at e2;cases e2
  .rw [List.getElem?_set_ne (OO O)]at e2;show Am (hl j y v' e1 e2 e3) λu' r' q=>Aq u' r' ?_;rcases q with⟨k,e⟩|⟨k,c,e,z⟩
   .show .inl ⟨k,?_⟩;have:y≠n:=λe=>O (Tc hN e1 (e▸hi));simp[this,e]
   .show .inr ⟨k,(Aq c e (z.sameBut hs (I.cne y c e)))⟩
 .obtain⟨w',z⟩:=I.cell y c e;show⟨w',z.sameBut hs (I.cne y c e)⟩
 .show Ma (I.pin p hp) λe nn ne nf d=>Fb ((hs.2 p.1 ne).trans e) nn ne nf d
 .show I.AU.IN λb u o hb q=>(hs.2 b λz=>?_).trans q;rw[z,I.free]at hb;cases hb
abbrev Cx.HN (X:Cx)(pn:Ej)(E:Bo):Cx:={X with pn:=pn,xe:=E}
def Inv.HN {E:Bo}(I:Inv X pins σ H s)(h:pn=X.pn++pins):Inv (X.HN pn E) [] σ H s:=by
 subst h
 show⟨⟨I.ok.mod,I.ok.kind,I.ok.glob,I.ok.blt,I.ok.above,I.ok.inj,I.ok.has,I.ok.cab,I.ok.hd,I.ok.frames,I.ok.stk,I.ok.exf,I.ok.bs,I.ok.JE,I.ok.ID,I.ok.HM,I.ok.AC,I.ok.frf⟩,
  I.os,I.bare,I.base,I.loc,I.cell,I.free,I.CC,λp O=>I.pin p (by simpa using O),I.AU,I.len⟩
def Inv.GO {E:Bo}(ok:X.Ok)(I:Inv (X.HN pn E) Y σ H s)(h:pn=X.pn++pins):Inv X pins σ H s:=by
 subst h;show⟨ok,I.os,I.bare,I.base,I.loc,I.cell,I.free,I.CC,λp O=>I.pin p (MD _ O),I.AU,I.len⟩
noncomputable def Ai5 (D:Ends)(i:Nat):Ends:={nx:=λσ H=>D.nx (σ.set i none) H,rt:=D.rt,bk:=λσ H=>D.bk (σ.set i none) H,ct:=λσ H=>D.ct (σ.set i none) H}
def Xq (K:Av)(i:Nat)(C:Addr)(ts:TS)(D:Ends)(σ:St):XK:=λcls _ H=>PySem.W.exmOne K cls (.ref C)=some true/\∀a,H a=none->ts (Ai5 D i) (σ.set i (some (.ref a))) (upd H a (.ext (XO a cls)))
section
def An5 (hN:X.N.Nodup)(hi:X.N[i]?=some n)(hk:X.env.kindOf n=some .local)(a0:X.stack=X.env::X.outer)(a6:X.env.frame=some X.env.locals)(hg:Gl X cx)(hm:X.mg cx=some (.ref C))(a5:Eg cx)
  (hs:∀a pn,IX (X.HJ a pn) (b₀::aB) ts)(I:Inv X pins σ H s)(h:HD X.prog X.w X.stack H s (Xq X.K i C ts D σ) e s') :
  wpAny (model X.prog X.w) X.A (noteFrame e X.env) (λ_ s2=>wpAny (model X.prog X.w) X.A (setFlight e none) (λ_ s3=>wpAny (model X.prog X.w) X.A (handleBy e X.env [.ExceptHandler (some (.Name cx cp)) (some n) (b₀::aB) hpos]) (SP X pins D) X.xe s3) X.xe s2) X.xe s':=by
 show Ox h λa cls T H' z1 os bare un AU z2=>Ib z2 λr ha hH hT a1 z3=>?_;subst z1;obtain⟨hx,hq⟩:=z3;have I':Inv X pins σ H' s':=I.IA (ch:=[]) os un AU bare λb z=>absurd z (by simp);have hF:=I'.stack;have hA:=I.ok.frames;rw[a0]at hF hA un;show Yw hA a6 hF r λh1 T1 n1=>?_;have a2:s.heap.get? T1=none/\H' T1=none:=by
  rcases n1.new with z|z
  .show⟨?_,AU.none_of z⟩
   cases q:s.heap.get? T1 with
   | none=>rfl
   | some o=>obtain⟨o',q'⟩:=un.there T1 o q (by simp);rw[z]at q';cases q'
  .cases z;show⟨hT,a1⟩
 have a7:=un.noted n1 ha (λt z=>by cases z;show hT)
 have a3:CV X.prog X.w H' h1:=AU.IN λb u o hb q=>n1.keep b u q (λz=>by
   rw[← a0]at z
   rw[I'.GK b z]at hb;cases hb) (λz=>by rw[z,hH]at hb;cases hb) λz=>by cases z;rw[a1]at hb;cases hb
 have a4:Un (EU X.stack) [] H H' s.heap h1:=by rw[a0];show a7
 have I1:Inv X pins σ H' {s' with heap:=h1}:=I.IA (s':={s' with heap:=h1}) (ch:=[]) os a4 a3 bare λb z=>absurd z (by simp);have J1:Inv (X.HJ a (X.pn++pins)) [] σ H' {s' with heap:=h1}:=I1.HJ rfl;show wpAny_handleBy_cons (codeAny_handlers_test (G0 (X:=X.HJ a (X.pn++pins)) J1 hg hm ?_ a5)) (by intro q;cases q);have LT:PySem.W.Looks (model X.prog X.w) h1 (typeOf (.ref a)) cls:=by
  show A0 n1.rc.xo λo vs g1 g2 _=>g2▸(PySem.W.Looks.ld g1).andThen .now
 show(PySem.W.exm_one (M:=model X.prog X.w) I1.EE LT hx).here ?_
 show codeAny _ _ _ _ _
 show codeAny_handlers_suite_as (Ad2 n1.rc λh2 r2 k2=>?_);have aA:=a4.but k2 a2.1;have a8:CV X.prog X.w H' h2:=a3.IN λb u o hb q=>k2 b u (λz=>by rw[z,a2.2]at hb;cases hb) q;have a9:CV X.prog X.w (upd H' a (.ext (XO a cls))) h2:=a8.track hH r2.xo.ok;have I3:Inv X pins σ (upd H' a (.ext (XO a cls))) {s' with heap:=h2}:=I.IA (s':={s' with heap:=h2}) (ch:=[]) os (aA.track ha hH) a9 bare λb z=>absurd z (by simp);show R0 I3 hN hi (.inl hk) (v:=.ref a) rfl (λs4 I4=>?_) (.inr hk);have J4:Inv (X.HJ a (X.pn++pins)) [] (σ.set i (some (.ref a))) (upd H' a (.ext (XO a cls))) s4:=I4.HJ rfl;show NY ((hs a (X.pn++pins)).go [] s4 _ _ (Ai5 D i) J4 (hq a hH)) (λf s5 z=>?_) λ_ _ z=>z.elim
 show wpAny _ _ (do bindName X.env n .none;unbindBehindTheSuite X.env n hpos) _ _ s5
 cases f with
 | next=>
  show C8 z λσ5 O J5 q5=>Mh (J5.IQ I.ok rfl) hN hi hk λs6 Y=>(C6 _ O Y q5)
 | brk=>
  show C8 z λσ5 O J5 q5=>Mh (J5.IQ I.ok rfl) hN hi hk λs6 Y=>(C6 _ O Y q5)
 | cont=>
  show C8 z λσ5 O J5 q5=>Mh (J5.IQ I.ok rfl) hN hi hk λs6 Y=>(C6 _ O Y q5)
 | ret u=>
  show He z λv5 σ5 O J5 r5 q5=>Mh (J5.IQ I.ok rfl) hN hi hk λs6 Y=>(Kl v5 _ O Y r5 q5)
end
end L2
namespace L2
open PySem PySem.Spec PyProof.Rows PySem.W
structure GZ (K:Av)(C:Addr):Prop where
 ga:PySem.W.findIn K (.ref C) "__getattribute__"=some (some (.builtin "BaseException.__getattribute__"))
 gt:PySem.W.findIn K (.ref C) "__getattr__"=some none
 cl:PySem.W.findIn K (.ref C) "__class__"=some (some (.builtin "object.__class__"))
 sub:PySem.W.subIn K (.ref C) (.type "BaseException")=some true
 obj:PySem.W.subIn K (.ref C) (.type "object")=some true
 is:PySem.W.isClsIn K C=true
section
variable {prog:Program}{w:World}{A:Around}{E:Bo}{h:Heap}{g:Array GenState}{d:Drawn}{t:Nat}{os:OsState}{a C:Addr}{o:Obj}{K:Av}
def Xg {Q:Option Value->Shared->Prop}(X:K.In h)(e:PySem.W.findIn K (.ref C) n=some r)(q:Q r ⟨h,g,d,t,os⟩):wpAny M A (typeLookup (.ref C) n) Q E ⟨h,g,d,t,os⟩:=(PySem.W.looks_findIn X e).here q
def Af9 {Q:Bool->Shared->Prop}(X:K.In h)(e:PySem.W.subIn K (.ref C) c=some r)(q:Q r ⟨h,g,d,t,os⟩):wpAny M A (isSubtype (.ref C) c) Q E ⟨h,g,d,t,os⟩:=(PySem.W.looks_subIn X e).here q
def Z5 {R:Result->Shared->Prop}(c:GZ K C)(X:K.In h)(hx:h.get? a=some o)(I:o.cls=.ref C)(hq:R (.ok (.ret (.ref C))) ⟨h,g,d,t,os⟩) :
  codeAny (model prog w) A (.call (.builtin "getset_descriptor.__get__") ⟨[.builtin "object.__class__",.ref a,.ref C],[]⟩) R ⟨h,g,d,t,os⟩:=by
 have Y:(⟨h,g,d,t,os⟩:Shared).TypeIs (.builtin "object.__class__") "getset_descriptor":=F.typeOf_object_class;have O:PySem.W.subIn K (.ref C) (.type (".".intercalate ("object.__class__".cutAt '.').dropLast))=some true:=by rw[F.owner_object_class];show c.obj
 show PR F.slot_gs_get.plain F.entry_gs_get (F.slot_gs_get.check _ _ _ _ _ _ _ _ Y (F.args_gs_get _ _ _) ?_)
 repeat (any_goals (first|assumption|(with_reducible show PM hx ?_;rw[I])|with_reducible show Af9 X O ?_|wp_step))
 show⟨Code.quiet_builtin _ (by decide +kernel),codeAny_builtin F.entry_object_class ?_⟩
 repeat (any_goals (first|assumption|(with_reducible show PM hx ?_;rw[I])|wp_step))
def Ak0 {Q:Uo}(c:GZ K C)(X:K.In h)(hx:h.get? a=some o)(I:o.cls=.ref C)(O:Q () ⟨h,g,d,t,os⟩):wpAny M A (checkBuiltinCall "BaseException.__getattribute__" ⟨[.ref a,Y],[]⟩) Q E ⟨h,g,d,t,os⟩:=by
 have z1:builtinKind "BaseException.__getattribute__"=some .slot:=by decide +kernel
 have z2:splitId "BaseException.__getattribute__"=some ("BaseException","__getattribute__"):=by decide +kernel
 have z3:=F.args_bexc_ga (.ref a) Y;simp only[checkBuiltinCall,z1,z2];show JQ ?_;unfold isInstance
 repeat (first|(with_reducible show PM hx ?_;rw[I])|with_reducible show Af9 X c.sub ?_|wp_step)
 show O
def Vo {Q:Fin->Shared->Prop}(c:GZ K C)(X:K.In h)(hx:h.get? a=some o)(I:o.cls=.ref C)(O:Q (.done (.ret (.ref C))) ⟨h,g,d,t,os⟩) :
  wpAny (model prog w) A (Builtin.«object.__getattribute__» ⟨[.ref a,.str "__class__" tk],[]⟩) Q E ⟨h,g,d,t,os⟩:=by
 have a0:(⟨h,g,d,t,os⟩:Shared).TypeIs (.builtin "object.__class__") "getset_descriptor":=F.typeOf_object_class;have Y:=F.typeOf_object_class;have z6:=F.slot_gs_get.lookup;have z7:=F.slot_gs_set.lookup
 repeat (any_goals (first|assumption|(with_reducible show PM hx ?_;rw[I])|with_reducible show Xg X c.cl ?_|wp_step))
 show Z5 c X hx I ?_
 repeat (any_goals (first|assumption|wp_step))
def Xx {R:Result->Shared->Prop}(c:GZ K C)(X:K.In h)(hx:h.get? a=some o)(I:o.cls=.ref C)(O:R (.ok (.ret (.ref C))) ⟨h,g,d,t,os⟩) :
  codeAny (model prog w) A (.call (.builtin "BaseException.__getattribute__") ⟨[.ref a,.str "__class__" tk],[]⟩) R ⟨h,g,d,t,os⟩:=
 PR PySem.F.attr_ValueError.ga.plain F.entry_bexc_ga (Ak0 c X hx I (Vo c X hx I O))
def Aj9 {Q:Bo}(c:GZ K C)(X:K.In h)(hx:h.get? a=some o)(I:o.cls=.ref C)(O:Q (.ref C) ⟨h,g,d,t,os⟩) :
  wpAny (model prog w) A (getAttrBy (.ref a) (.str "__class__" tk) fl) Q E ⟨h,g,d,t,os⟩:=by
 have Y:=PySem.F.attr_ValueError.ga.bind (.ref a);have z2:(Value.builtin "BaseException.__getattribute__"==Value.builtin "object.__getattribute__")=false:=by decide +kernel
 have z1:(onTheHeap (Value.ref C)&&Value.builtin "BaseException.__getattribute__"==Value.builtin "object.__getattribute__")=false:=by rw[z2];rfl
 repeat (any_goals (first|assumption|(with_reducible show PM hx ?_;rw[I])|with_reducible show Xg X c.ga ?_|with_reducible show Xg X c.gt ?_|wp_step))
 show Xx c X hx I ?_
 repeat (any_goals (first|assumption|wp_step))
def Xy {Q:Option Value->Shared->Prop}(c:GZ K C)(X:K.In h)(hx:h.get? a=some o)(I:o.cls=.ref C)(O:Q (some (.ref C)) ⟨h,g,d,t+1,os⟩):wpAny (model prog w) A (getAttr? (.ref a) "__class__") Q E ⟨h,g,d,t,os⟩:=by
 unfold getAttr? getAttrBy?
 repeat (any_goals (first|assumption|with_reducible apply Aj9 c X hx I|wp_step))
end
def Ve {K:Av}{C:Addr}(h:PySem.W.isClsIn K C=true):∃c d cd sl,K.lookup C=some ⟨c,d,.cls cd,sl⟩:=by
 unfold PySem.W.isClsIn PySem.W.clsIn at h;split at h
 .rename_i c d cd sl q;show ii40 c d cd sl q
 .cases h
theorem Za {K:Av}{a C:Addr}(c:GZ K C):PySem.W.KitX K (.ref a) (.ref C) (XO a (.ref C)) where
 ty:=λM h _ x=>by
  show A0 x λo vs I O _=>O▸(PySem.W.Looks.ld I).andThen .now
 it:=λ_ _ X _=>by
  show dd40 (Ve c.is) λY d0 cd sl q=>?_;intro A Q E s k z;unfold isType loadHead;show JQ (wpAny_loadPart (k _ _ (X _ _ q)) (JW z))
 ne:=λh tp dd its n sl X a0=>by
  show dd40 (Ve c.is) λY d0 cd a1 q=>Bool.eq_false_iff.mpr λz=>?_;have e:C=tp:=Value.ref.inj (RB.mp z);subst e;have:=(X _ _ q).symm.trans a0;cases this
 ca:=fun {prog w A E Q s} X x k=>by
  obtain⟨hh,g,d,t,os⟩:=s;show A0 x λo vs I O _=>Xy c X I O k
noncomputable def clV:V->Value
 | .ref D=>.ref D
 | .ty n=>.type n
 | _=>.none
def IsCl:V->Prop
 | .ref _=>True
 | .ty _=>True
 | _=>False
theorem clV_of:∀{v:V} {u:Value},IsCl v->RelV v u->u=clV v
 | .ref D,u,_,r=>r
 | .ty n,u,_,r=>r
theorem Aj3:∀{vs:List V} {us:List Value},(∀v∈vs,IsCl v)->AK vs us->us=vs.map clV
 | [],_,_,.nil=>rfl
 | v::vs,_,h,.cons r t=>by rw[clV_of (h v (JY ..)) r,Aj3 (λz I=>h z (JS _ I)) t];rfl
def Kt:BD X (.builtin "isinstance") (λxs H Q=>∃a C c b,xs=[.ref a,c]/\IsCl c/\H a=some (.ext (XO a (.ref C)))/\GZ X.K C/\PySem.W.kitOne X.K (.ref C) (clV c)=some b/\Q (.bl b) H):=by
 intro pins s σ H xs us Q I r h;show Ox h λa C c b z1 O ha xc e q=>?_;subst z1;show A0 (Ae2 r) λu w' z1 Y r2=>?_;subst z1;cases Y;rw[clV_of O r2];obtain⟨x,_⟩:=(show AV X.prog X.w H s.heap a (.ext (XO a (.ref C)))from I.AU a _ ha);show MM (Za xc) I.EE x e (λz=>nomatch z) λtk=>(Al (.bl b) H (I.tok _) rfl q)
def Um:BD X (.builtin "isinstance") (λxs H Q=>∃a C Y O b,xs=[.ref a,.ref Y]/\H Y=some (.tup O)/\(∀v∈O,IsCl v)/\H a=some (.ext (XO a (.ref C)))/\GZ X.K C/\PySem.W.kitAny X.K (.ref C) (O.map clV)=some b/\Q (.bl b) H):=by
 intro pins s σ H xs us Q I r h;show Tu h λa C Y O b z1 ht hc ha xc z2=>?_;subst z1;obtain⟨e,q⟩:=z2;show A0 (Ae2 r) λu w' z1 r1 r2=>?_;subst z1;cases r1;cases r2;obtain⟨x,_⟩:=(show AV X.prog X.w H s.heap a (.ext (XO a (.ref C)))from I.AU a _ ha);show Fc ((show AV X.prog X.w H s.heap Y (.tup O)from I.AU Y _ ht)) λ_ z1=>Am z1 λits rv z2=>Bg z2 λo g1 g2 z3=>?_;obtain⟨n,g3⟩:=z3;rw[← Aj3 hc rv]at e;obtain⟨oc,od,a0,osl⟩:=o;dsimp only at g2 g3;subst g2;subst g3;show PySem.W.kia_tup (Za xc) I.EE x g1 e (λz=>nomatch z) λtk=>(Al (.bl b) H (I.tok _) rfl q)
def pe_gcls (hg:Gl X x)(hm:X.mg x=some (.ref C))(hd:Eg x:=by decide):PE X (.Name x pos) (tC (.ref C)):=Ah3 (v:=.ref C) hg hm rfl hd
def Im (hg:Gl X x)(hm:X.mg x=some (.ref C))(hd:Eg x:=by decide):QE X (.Name x pos) (tC (.ref C)):=⟨pe_gcls hg hm hd⟩
theorem Y9:∀xs:List Str,(∀x∈xs,PyData.strOk x=true)->PyData.canLayAll0 (xs.map PyData.str)=true
 | [],_=>rfl
 | x::r,h=>by simp[PyData.canLayAll0,PyData.canLay0,Y9 r (λy I=>h y (JS _ I)),h x (JY ..)]
theorem Vb:∀xs:List Str,PyData.depthAll (xs.map PyData.str)=0
 | []=>rfl
 | x::r=>by simp[PyData.depthAll,PyData.depth,Vb r]
def Ij (xs:List Str)(h:∀x∈xs,PyData.strOk x=true):SeqAt.shaped (.list (xs.map PyData.str))=true:=by
 simp[SeqAt.shaped,PyData.canLay0,PyData.depth,Y9 xs h,Vb]
theorem Uy:∀xs ys:List Str,PySem.Spec.sameAll (xs.map PyData.str) (ys.map PyData.str)=decide (xs=ys)
 | [],[]=>by simp[PySem.Spec.sameAll]
 | [],_::_=>by simp[PySem.Spec.sameAll]
 | _::_,[]=>by simp[PySem.Spec.sameAll]
 | a::r,b::t=>by
  simp only[KE,PySem.Spec.sameAll,PySem.Spec.same,Uy r t];by_cases h:a=b<;>by_cases h':r=t<;>simp[h,h']
def Uz (xs ys:List Str):PySem.Spec.same (.list (xs.map PyData.str)) (.list (ys.map PyData.str))=decide (xs=ys):=by
 show PySem.Spec.sameAll _ _=_
 show Uy xs ys
theorem Fx:∀{xs:List Str} {us:List Value},AK (xs.map V.str) us->CarriedAll us (xs.map PyData.str)
 | [],_,.nil=>.nil
 | x::xs,_,.cons r t=>by
  obtain⟨tk,rfl⟩:=r;show .cons (.str _ tk) (Fx t)
def Wn (O:X.A.units+64<cLine):CO X (compareOp .NotEq) (λx y H Q=>∃(a b:Addr) (xs ys:List Str),x=.ref a/\y=.ref b/\AO X.K H a (xs.map V.str)/\AO X.K H b (ys.map V.str)/\(∀x∈xs,PyData.strOk x=true)/\(∀x∈ys,PyData.strOk x=true)/\Q (.bl (!decide (xs=ys))) H):=by
 intro pins s σ H x y v u Q I rx ry h;show Ox h λa b xs ys z1 z2 ha hb Y z3=>?_;subst z1 z2;obtain⟨o2,q⟩:=z3;cases rx;cases ry;show Bg (I.list ha) λits r pl _=>Bg (I.list hb) λa1 r2 a0 _=>ne_dataH_same (reads_newData pl.isList (Fx r)) (reads_newData a0.isList (Fx r2)) (Ij _ Y) (Ij _ o2) O (SeqAt.noMix_of_shape (.list .str) rfl _ _ (list_map_has λ_=>rfl) (list_map_has λ_=>rfl)) ?_;rw[Uz];show Al (.bl _) H I rfl q
def Ah5 (O:X.A.units+64<cLine):CO X (compareOp .Eq) (λx y H Q=>∃(a b:Addr) (xs ys:List Str),x=.ref a/\y=.ref b/\AO X.K H a (xs.map V.str)/\AO X.K H b (ys.map V.str)/\(∀x∈xs,PyData.strOk x=true)/\(∀x∈ys,PyData.strOk x=true)/\Q (.bl (decide (xs=ys))) H):=by
 intro pins s σ H x y v u Q I rx ry h;show Ox h λa b xs ys z1 z2 ha hb Y z3=>?_;subst z1 z2;obtain⟨o2,q⟩:=z3;cases rx;cases ry;show Bg (I.list ha) λits r pl _=>Bg (I.list hb) λa1 r2 a0 _=>eq_dataH_same (reads_newData pl.isList (Fx r)) (reads_newData a0.isList (Fx r2)) (Ij _ Y) (Ij _ o2) O (SeqAt.noMix_of_shape (.list .str) rfl _ _ (list_map_has λ_=>rfl) (list_map_has λ_=>rfl)) ?_;rw[Uz];show Al (.bl _) H I rfl q
def Ab9:CO X (binaryOp .Mult) (λx y H Q=>∃z n,x=.str z/\y=.int n/\z.length<=1000/\-1000<=n/\n<=1000/\Q (.str (Txt.mul z n)) H):=by
 intro pins s σ H x y v u Q I Y ry h;show Kq h λz n z1 z2 O a0 a1 q=>?_;subst z1 z2;obtain⟨t,rfl⟩:=Y;obtain⟨t',rfl⟩:=ry;show SB.mul (mulOk_of 1000 1000 O (by omega) (by omega) (by decide) (by decide)) λt' k=>(Al (.str _) H (I.tok _) ⟨_,rfl⟩ q)
noncomputable def alt {α:Type}:List α->List α
 | []=>[]
 | [x]=>[x]
 | x::_::r=>x::alt r
theorem Rv {α:Type}:∀xs:List α,(alt xs).length=(xs.length+1)/2
 | []=>by simp[alt]
 | [x]=>by simp[alt]
 | x::y::r=>by
  show(alt r).length+1=(r.length+1+1+1)/2
  rw[Rv r];omega
theorem Aj6 {α:Type}:∀(xs:List α) (k:Nat),(alt xs)[k]?=xs[2*k]?
 | [],k=>by simp[alt]
 | [x],0=>rfl
 | [x],k+1=>by simp[alt]
 | x::y::r,0=>rfl
 | x::y::r,k+1=>by
  show(alt r)[k]?=_
  rw[Aj6 r k,show 2*(k+1)=2*k+1+1 by omega];rfl
theorem AK.alt:∀{xs:List V} {us:List Value},AK xs us->AK (alt xs) (L2.alt us)
 | _,_,.nil=>.nil
 | _,_,.cons r .nil=>.cons r .nil
 | _,_,.cons r (.cons _ t)=>.cons r (AK.alt t)
def pick_alt (xs:Array Value)(i k:Nat)(hk:k=(xs.size-i+1)/2):((List.range k).filterMap λ(m:Nat)=>xs[((i:Int)+(m:Int)*2).toNat]?)=alt (xs.toList.drop i):=by
 have e:(λ(m:Nat)=>xs[((i:Int)+(m:Int)*2).toNat]?)=λm=>(alt (xs.toList.drop i))[m]?:=by
  funext m;have:((i:Int)+(m:Int)*2).toNat=i+2*m:=by omega
  rw[this,Aj6,List.getElem?_drop];simp
 rw[e];have hl:(alt (xs.toList.drop i)).length=k:=by rw[Rv,NB,hk];simp
 rw[← hl];generalize alt (xs.toList.drop i)=l;show List.ext_getElem? λn=>?_;have:(List.range l.length).filterMap (λm=>l[m]?)=l:=by
  induction l with
  | nil=>rfl
  | cons x l I=>
   rw[KC,List.range_succ_eq_map,OG];simp only[List.getElem?_cons_zero,List.filterMap_map]
   congr 1
 rw[this]
section
variable {E:Bo}
def Au5 (i n:Nat)(h:i<=n):Builtin.Slice.slicePlaces (i:Int) (n:Int) 2=(n-i+1)/2:=by
 unfold Builtin.Slice.slicePlaces;have h1:(2:Int)>0:=by omega
 simp only[h1,PD];split<;>omega
def R8 {sl:Addr}{I:Value}{t:Tok}{lo:Option Int}{n:Nat}{Q:Int×Int×Nat->Shared->Prop}(hs:s.heap.IsSliceOf sl I .none (.int 2 t))(pl:IsPart I lo)
  (h:Q (((HT.BA n 0 lo:Nat):Int),2,(n-HT.BA n 0 lo+1)/2) s):wpAny (model prog w) A (Builtin.Slice.sliceApplied (.ref sl) (pure (n:Int))) Q E s:=by
 show Bg (id hs) λos Y a0 O=>?_;unfold Builtin.Slice.sliceApplied Builtin.Slice.sliceFields;show JQ (JQ (LH Y O (x:=I) rfl (JQ (LH Y O (x:=.none) rfl (JQ (LH Y O (x:=.int 2 t) rfl (JW (JQ (slicePart_int ?_)))))))))
 show wpAny _ _ (if((2:Int)==0)=true then _ else _) _ _ s
 rw[KH (by decide)];show JQ (HT.ES pl (JQ (slicePart_none (JQ (JW ?_)))));have ea:Builtin.Slice.sliceAdjust lo none 2 (n:Int)=(((HT.BA n 0 lo:Nat):Int),(n:Int)):=by
  have h1:¬((2:Int)<0):=by omega
  unfold Builtin.Slice.sliceAdjust;simp only[h1,QY];show Prod.ext ?_ rfl
  cases lo with
  | none=>rfl
  | some v=>show HT.HU v n 0
 show wpAny _ _ (match Builtin.Slice.sliceAdjust lo none 2 (n:Int)with|(lo,hi)=>pure (lo,(2:Int),Builtin.Slice.slicePlaces lo hi 2)) _ _ s
 rw[ea]
 show wpAny _ _ (pure (((HT.BA n 0 lo:Nat):Int),(2:Int),Builtin.Slice.slicePlaces ((HT.BA n 0 lo:Nat):Int) (n:Int) 2)) _ _ s
 rw[Au5 _ _ (HT.sIx_le _ _ (LN _) lo)];show JW h
def Rh {I:Array Value}{Y:Value}{lo:Option Int}{Q:Bo}(ht:IsTup s.heap t I)(hs:s.heap.IsSliceOf sl Y .none (.int 2 tk))(pl:IsPart Y lo)
  (h:Q (.ref s.heap.objs.size) {s with heap:=s.heap.push {cls:=.type "tuple",data:=.seq (alt (I.toList.drop (HT.BA I.size 0 lo))).toArray}})
  (hsz:I.size<=sizeLine):wpAny (model prog w) A (getItem (.ref t) (.ref sl)) Q E s:=by
 have O:sizeOk (.seq (alt (I.toList.drop (HT.BA I.size 0 lo))).toArray):=by
  show(alt (I.toList.drop (HT.BA I.size 0 lo))).toArray.size<=sizeLine
  rw[KS,Rv,NB,OS];omega
 show Bg (id hs) λos a2 a1 a3=>?_;have a0:s.TypeIs (.ref sl) "slice":=(Aq os a2 a1);unfold getItem
 try with_reducible show NO ?_
 first|show JQ (JW ?_)|skip
 show JQ (wpAny_sequenceKey ht.typeIs (by decide) ?_)
 show JQ (LW (name:=Str.ofString "__getitem__") ht.typeIs LO
  (MP LO ht.typeIs entry_tuple_getitem ?_ (args_tuple_getitem _ _)))
 show wpAny _ _ (Builtin.Tuple.tupleItemsOf (.ref t) >>= _) _ _ s
 show JQ (tupleItemsOf_ ht (JQ (PY a0 ?_)));rw[KJ (by decide)];show JQ (R8 hs pl ?_)
 show wpAny _ _ (if(((HT.BA I.size 0 lo:Nat):Int)==0&&(2:Int)==1&&_)=true then _ else _) _ _ s
 rw[show(((HT.BA I.size 0 lo:Nat):Int)==0&&(2:Int)==1)=false by simp,Bool.false_and,KH (by decide),pick_alt _ _ _ rfl]
 first
  | show JQ (m:=Builtin.Tuple.tupleExact _) (ME (JW (Ad rfl (JW h))) O)
  | show JQ (m:=Builtin.Tuple.tupleExact _) (ME (JQ (JW (JW ⟨_,rfl,JW h⟩))) O)
  | show JQ (JQ (m:=Builtin.Tuple.tupleExact _) (ME (JW (JW ⟨_,rfl,JW h⟩)) O))
  | show JQ (JQ (m:=Builtin.Tuple.tupleExact _) (ME (JW ⟨_,rfl,JW h⟩) O))
end
section
def tSl2 (K:Av)(te:TE)(tl:TO):TE:=λσ H Q=>te σ H λx H1=>tl σ H1 λl H2=>∃a xs,x=.ref a/\BJ K H2 a xs/\∀p,H2 p=none->Q (.ref p) (upd H2 p (.tup (alt (xs.drop (HT.BA xs.length 0 l)))))
def Am3 {e:Expr}{lo:Option Expr}{te:TE}{tl:TO}{kk:Nat}{cp p2 pos:Pos}(he:PE X e te)(hl:PO X lo tl):PE X (.Subscript e (.Slice lo none (some (.Constant (.int 2) kk cp)) p2) pos) (tSl2 X.K te tl):=by
 intro pins s σ H Q a0 h;show Subscript_ (AT (he pins s σ H _ a0 h) λv s1 ⟨x,H1,I1,r1,q1⟩=>wpAny_Slice (AT (hl pins s1 σ H1 _ I1 q1) λvl s2 ⟨l,H2,I2,pl,q2⟩=>?_));rw[evalPart_none];show JW ?_;rw[evalPart_some];show AT (pe_int (X:=X) pins s2 σ H2 (λy H3=>y=.int 2/\H3=H2) I2 ⟨rfl,rfl⟩) λv2 I ⟨y,H3,I3,ry,ey,eh⟩=>?_;subst ey;subst eh;obtain⟨tk,rfl⟩:=ry;have O:Inv X pins σ H3 {I with heap:=I.heap.push {cls:=.type "slice",data:=.fields #[vl,.none,.int 2 tk]}}:=I3.kept (t':=I.toks) λb ob q=>JU _ q;show A0 q2 λa xs z1 hx q=>?_;subst z1;cases r1;show Bg (O.tuple hx) λits r ht hz=>?_;have Y:its.toArray.size=xs.length:=by rw[KS];show r.length.symm
 show tail_any (ops:=[.ref a,.ref I.heap.objs.size]) ht.typeIs LO.lookup ?_ (by with_unfolding_all rfl);show Rh ht (Heap.IsSliceOf.new ..) pl ?_ (by rw[Y];show hz);rw[Y];show Al (.ref _) _ (O.laid (t':=I.toks) (o:=.tup (alt (xs.drop (HT.BA xs.length 0 l)))) (λb ob q=>JU _ q) (JV _) ?_) rfl (q _ (O.AU.fresh (JV _)));show⟨by rw[Rv,NB];omega,(Ad (AK.alt (r.drop (HT.BA xs.length 0 l))) (IsTup.new _ _))⟩
def Fk {e:Expr}{lo:Option Expr}{te:TE}{tl:TO}{kk:Nat}{cp p2 pos:Pos}(he:QE X e te)(hl:QO X lo tl):QE X (.Subscript e (.Slice lo none (some (.Constant (.int 2) kk cp)) p2) pos) (tSl2 X.K te tl):=⟨Am3 he.go hl.go⟩
end
def Ju (hc:X.calm=true):BD X (.builtin "all") (λxs H Q=>∃(a:Addr) (bs:List Bool),xs=[.ref a]/\AO X.K H a (bs.map V.bl)/\Q (.bl (bs.all id)) H):=by
 intro pins s σ H xs us Q a0 r h;show A0 h λa bs z1 ha q=>?_;subst z1;show Am (Jj r) λu z1 ru=>?_;subst z1;cases ru;show Bg (a0.list ha) λits Y pl _=>?_;have hh:X.A.handled=none:=a0.ok.hd hc;have a2:a<s.heap.objs.size:=by show C8 pl λo n e _=>?_;show JZ e
 have hn:∀i:Nat,its.toArray[i]?=(bs[i]?).map Value.bool:=λi=>by
  have:=Y
  cases e:bs[i]? with
  | none=>
   have h1:(bs.map V.bl)[i]?=none:=by rw[LG,e];rfl
   have:=Y.none_of h1;simpa using this
  | some b=>
   have h1:(bs.map V.bl)[i]?=some (V.bl b):=by rw[LG,e];rfl
   show Am (Y.get h1) λu hu ru=>?_;cases(show u=Value.bool b from ru);simpa using hu
 have a4:its.length=bs.length:=by have:=Y.length;simpa using this.symm
 have W:=Walks.list (prog:=X.prog) (w:=X.w) (A:=X.A.in1) hh s.heap.objs.size a (LF a2) its.toArray;show call_all_walk (NG pl.isList (jj60 (Rg (λi=>(bs[i]?).getD true) rfl W ?_ ?_ λh' tk k=>?_)))
 .show⟨(Bh (KW _ rfl) rfl rfl),Heap.IsList.push pl.isList _⟩
 .intro i v s' Q' E' I O;have O:Q' ((bs[i]?).getD true) s':=O;rw[hn i]at I
  cases e:bs[i]? with
  | none=>rw[e]at I;cases I
  | some b=>
   rw[e]at I O;cases I;show MU O
 .have a3:(List.range its.toArray.size).all (λi=>(bs[i]?).getD true)=bs.all id:=by
   rw[KS,a4,ON,MQ,MQ];constructor
   .intro h x hx;obtain⟨i,hi,rfl⟩:=List.getElem_of_mem hx;have:=h i (List.mem_range.mpr hi);rw[LC hi]at this;show this
   .intro h i hi;have a1:=List.mem_range.mp hi;rw[LC a1];show h _ (RD a1)
  rw[a3];show Al (.bl _) H (a0.kept (t':=tk) λb u e=>k b u (by simp;show LF (JZ e)) (JU _ e)) rfl q
section
variable {R:Result->Shared->Prop}
def Ul (I:Nat->Shared->Prop)
   (a4:∀n s,I n s->wpAny (model prog w) A (pyNext it) (λr O=>match r with
     | none=>R (.ok .next) O
     | some v=>wpAny (model prog w) A (letOwnedTupleGo a0 it v) (λ_ a2=>wpAny (model prog w) A (assign a0 env v) (λ_ s₂=>
         wpAny (model prog w) A (forIn a1 true λc r=>if r=true then do let ok ← isTrue c env (eval c env);pure (ForInStep.yield ok)else pure (ForInStep.yield r)) (λok Y=>
           if ok=true then wpAny (model prog w) A (eval kx env) (λkv s₄=>wpAny (model prog w) A (eval vx env) (λvv s₅=>
             wpAny (model prog w) A (dictSet D kv vv) (λ_ s₆=>∃m,m<n/\I m s₆) (λ_ _=>False) s₅) (λ_ _=>False) s₄) (λ_ _=>False) Y
           else ∃m,m<n/\I m Y) (λ_ _=>False) s₂) (λ_ _=>False) a2) (λ_ _=>False) O) (λ_ _=>False) s)
   (n:Nat)(h:I n s) :
   codeAny (model prog w) A (.compLoop (.DictComp kx vx [⟨a0,iter,a1,0⟩] scope pos) 0 it (.ref D) env) R s:=by
 have nv:∀{α:Type} {t:Sem α} {Q:α->Shared->Prop} {E':Bo} {s':Shared},wpAny (model prog w) A t Q (λ_ _=>False) s'->wpAny (model prog w) A t Q E' s':=
   λh=>NY h (λ_ _ q=>q) λ_ _ z=>z.elim
 show codeAny_loop rfl I (λn s hI=>?_) n h
 show wpAny _ A ((compTurn (.DictComp kx vx [⟨a0,iter,a1,0⟩] scope pos) 0 it (.ref D) env).onRaise (λx=>do noteFrame x env;theTreesLotGoes x)) _ _ s
 show wpAny_noted (nv ?_);rw[compTurn_dict];show JQ (wpAny_standAt (JQ (AT (a4 n s hI) (λr O h₁=>?_))))
 cases r with
 | none=>show JW h₁
 | some v=>
   show JQ (AT h₁ (λ_ a2 a3=>JQ (AT a3 (λ_ s₂ h₂=>JQ (AT h₂ (λok Y h₃=>?_))))))
   cases ok with
   | false=>show JW ⟨rfl,h₃⟩
   | true=>
     show JQ (JQ (AT h₃ (λkv s₄ h₄=>JQ (NO (AT h₄ (λvv s₅ h₅=>JQ (wpAny_standAt (NO (AT h₅ (λ_ s₆ h₆=>JW ⟨rfl,h₆⟩))))))))))
end
def Vv (κ:St->St)(wi:TI)(g:TG)(tt:TT)(tk tv:TE):TE:=λσ H Q=>wi σ H λJ H1=>∀D,H1 D=none->∃W:Nat->Nat->St->Hp->Prop,(∃m,W 0 m (κ σ) (upd H1 D (.dK [])))/\∀i m σ' H',W i m σ' H' ->
 (J.stop i H'/\Q (.ref D) H')\/(J.go i H'/\∃(Ay:V->V->St->Hp->Prop) (An:St->Hp->Prop),(∀y v σ3 O,Ay y v σ3 O->∃kvs key,y=kV key/\O D=some (.dK kvs)/\kvs.length<sizeLine/\∃Y,Y<m/\W (i+1) Y σ3 (upd O D (.dK (putK kvs key v))))/\(∀σ3 I,An σ3 I->∃Y,Y<m/\W (i+1) Y σ3 I) /\
   ∀x H2,J.GF i H' x H2->g x σ' H2 λσ3 H3=>tt σ3 H3 λok I=>if ok=true then tk σ3 I (λy O=>tv σ3 O λv H6=>Ay y v σ3 H6)else An σ3 I)
section
def Vc {E:Bo}
   {RR:Value->Addr->Result->Shared->Prop}{tn:Nat->Heap->Prop}{W:Addr->Nat->Nat->St->Hp->Prop}{Fi:Addr->Hp->Prop}
   (c:AY X scope cl N' n js)(hc:X.calm=true)
   (aP:∀I H3 fp,PG (CG X N' scope cl I H3 fp) tg g/\PTS (CG X N' scope cl I H3 fp) a8 tt/\PE (CG X N' scope cl I H3 fp) kx tk/\PE (CG X N' scope cl I H3 fp) vx tv)
   (a0:Inv X pins σ H s)(T:Turn X.prog X.w X.K tg J fp it tn)(st:tn 0 s.heap)(f:∀b∈fp,Le X pins H b)
   (w0:∀D,H D=none->∃m,W D 0 m (Ld n js σ) (upd H D (.dK [])))
   (ag:∀D,H D=none->∀i m σ' H',W D i m σ' H'->(J.stop i H'/\Fi D H')\/(J.go i H'/\∃(Ay:V->V->St->Hp->Prop) (An:St->Hp->Prop),(∀y v σ3 Y,Ay y v σ3 Y->∃kvs key,y=kV key/\Y D=some (.dK kvs)/\kvs.length<sizeLine/\∃O,O<m/\W D (i+1) O σ3 (upd Y D (.dK (putK kvs key v))))/\(∀σ3 H4,An σ3 H4->∃O,O<m/\W D (i+1) O σ3 H4) /\
     ∀x H2,J.GF i H' x H2->g x σ' H2 λσ3 H3=>tt σ3 H3 λok H4=>if ok=true then tk σ3 H4 (λy Y=>tv σ3 Y λv H6=>Ay y v σ3 H6)else An σ3 H4))
   (hR:∀(D:Addr) (I:Shared) (H3 H':Hp) (s':Shared),Inv X pins σ H3 I->Inv X pins σ H' s'->(∃m,s'.heap.Ns I.heap.objs.size m)->H' I.heap.objs.size=none->Fi D H'->RR (.ref D) I.heap.objs.size (.ok .next) s') :
   wpAny (model X.prog X.w) X.A newDict (λa4 s₃=>wpAny (model X.prog X.w) X.A (newFunctionEnv scope X.env.globals cl [] X.env.qual none .none (some X.env)) (λaC s₄=>
     codeAny (model X.prog X.w) X.A (.compStart (.DictComp kx vx [⟨tg,iter,a8,0⟩] scope pos) 0 (.ref it) a4 {aC with scope:=relabel scope X.env}) (RR a4 aC.locals) s₄) E s₃) E s:=by
 have hD:H s.heap.objs.size=none:=a0.fresh;have I3:Inv X pins σ (upd H s.heap.objs.size (.dK [])) {s with heap:=s.heap.push {cls:=.type "dict",data:=.dict #[]},toks:=s.toks}:=a0.laid (t':=s.toks) (λ_ _ q=>JU _ q) (JV _) (Tt s.heap a0.big);show ME ?_;have f3:∀b∈fp,Le X pins (upd H s.heap.objs.size (.dK [])) b:=λb hb=>by
   show Am (T.obj _ _ st b hb) λo e _=>?_;show⟨by rw[Aj (LF (JZ e))];show(f b hb).1,(f b hb).2⟩
 generalize aU:({s with heap:=s.heap.push {cls:=.type "dict",data:=.dict #[]},toks:=s.toks}:Shared)=I at I3;have aN:s.heap.push {cls:=.type "dict",data:=.dict #[]}=I.heap:=by rw[← aU]
 have k3:∀b o,s.heap.get? b=some o->I.heap.get? b=some o:=λb o e=>by rw[← aN];show JU _ e
 have fo:∀b∈fp,b<I.heap.objs.size:=λb hb=>by
   show Am (T.obj _ _ st b hb) λo e _=>JZ (k3 b o e)
 show wpAny_newFunctionEnv c.HP (by intro y hy;simp at hy) (λh₁ ac ae=>?_) c.kind;have k4:∀b o,I.heap.get? b=some o->h₁.get? b=some o:=λb o e=>ae.extBut b o (LF (JZ e)) (JU _ e);have I4:=Zf (h₁:=h₁) (tk:=I.toks+([]:List (Str×Value)).length) c I3 f3 fo ⟨_,ac⟩ k4;have aA:tn 0 h₁:=T.keep _ _ _ st λb _ o e=>k4 b o (k3 b o e);have a2:∀{H':Hp},(∀b∈fp,H' b=none)->∀b∈fp,Le (CG X N' scope cl I (upd H s.heap.objs.size (.dK [])) fp) [] H' b:=λhn b hb=>
   (D8 (hn b hb) (LF (fo b hb)) (I4.ok.HM b hb) (.inl hb) (λx a h=>(f b hb).2.2.2.2.1 x a (c.sub x a h)) λp hp=>absurd (show p∈([]:List (Addr×Obj))from hp) (by simp))
 show Qi (aP I (upd H s.heap.objs.size (.dK [])) fp) λhg aV aK aM=>?_;have tr:=ag _ hD;have aD:codeAny (model X.prog X.w) X.A (.compLoop (.DictComp kx vx [⟨tg,iter,a8,0⟩] scope pos) 0 (.ref it) (.ref s.heap.objs.size) (compEnvC scope cl I.heap.objs.size X.env))
     (RR (.ref s.heap.objs.size) I.heap.objs.size) {I with heap:=h₁,toks:=I.toks+([]:List (Str×Value)).length}:=by
   obtain⟨m0,w0⟩:=w0 _ hD;show Ul (λm s'=>∃i σ' H',Inv (CG X N' scope cl I (upd H s.heap.objs.size (.dK [])) fp) [] σ' H' s'/\tn i s'.heap/\(∀b∈fp,H' b=none)/\W s.heap.objs.size i m σ' H') ?_ m0 (Ei 0 _ _ I4 aA (λb hb=>(f3 b hb).1) w0);rintro m s5 ⟨i,σ5,Y,I5,aB,a7,w5⟩;rcases tr i m σ5 Y w5 with⟨stop,qF⟩|⟨go,Ay,An,aJ,aI,step⟩
   . show AT (T.done (CG X N' scope cl I (upd H s.heap.objs.size (.dK [])) fp) rfl rfl rfl hc i [] s5 σ5 Y (λ_ _=>False) I5 (a2 a7) aB stop) λr s6 ⟨hr,I6⟩=>?_;subst hr;show Am I6.loc λm6 aQ _=>hR _ I _ Y s6 I3 (Zw I3 f3 I6) ⟨m6,aQ⟩ I6.free qF
   . show AT (T.item (CG X N' scope cl I (upd H s.heap.objs.size (.dK [])) fp) rfl rfl rfl hc i [] s5 σ5 Y (λ_ _=>False) I5 (a2 a7) aB go) λr s6 ⟨u,hr,h6⟩=>?_;subst hr;show AT h6 λ_ s7 ⟨x,H7,I7,r7,y7,a1,aH⟩=>?_;have aG:=I7.pinned (a2 aH) (T.obj _ _ a1);show AT (hg _ s7 σ5 H7 x u _ aG r7 (step x H7 y7)) λ_ s8 ⟨σ8,H8,I8,q8⟩=>AT (aV _ s8 σ8 H8 _ I8 q8) λok s9 ⟨H9,I9,q9⟩=>?_;have back:∀{H':Hp} {s':Shared},Inv (CG X N' scope cl I (upd H s.heap.objs.size (.dK [])) fp) ([]++P4 fp s7.heap) σ8 H' s'->(∃O,O<m/\W s.heap.objs.size (i+1) O σ8 H') ->
         ∃O,O<m/\∃i σ' H',Inv (CG X N' scope cl I (upd H s.heap.objs.size (.dK [])) fp) [] σ' H' s'/\tn i s'.heap/\(∀b∈fp,H' b=none)/\W s.heap.objs.size i O σ' H':=fun {H' s'} J' w'=>by
       obtain⟨O,hm,w'⟩:=w';show⟨O,hm,i+1,σ8,H',J'.DO,T.keep _ _ _ a1 λb hb o e=>(J'.pin (b,o) (LB _ (LB _ (F4 hb e)))).1,λb hb=>(Am (T.obj _ _ a1 b hb) λo e d=>((J'.pin (b,o) (LB _ (LB _ (F4 hb e)))).2.1)),w'⟩
     cases ok with
     | false=>
       rw[KH (by decide)]at q9 ⊢;show back I9 (aI _ _ q9)
     | true=>
       rw[KJ rfl]at q9 ⊢;show AT (aK _ s9 σ8 H9 _ I9 q9) λyv aa ⟨y,aE,aF,aY,aW⟩=>AT (aM _ aa σ8 aE _ aF aW) λvv ai ⟨v,ah,a3,aZ,qA⟩=>?_;show Ia (aJ _ _ _ _ qA) λkvs key z1 a6 aj aX=>?_;subst z1;show Ch (dk_of a3.AU a6) λz hd z1=>Am z1 λvs a9 dd=>?_;have hz:vs.length<=sizeLine:=by rw[← a9.length];show z
       have hl:(putK kvs key v).length<=sizeLine:=by have:=Iu kvs key v;omega
       show wpAny_dictSet_pairs (hsz:=hz) (Os aY) dd λh' a5 hs=>back ?_ aX;have he:∃q,h'.get? s.heap.objs.size=some q:=let ⟨q,_,_,hq,_⟩:=a5;⟨q,hq⟩
       show Rt a3 (by rw[a6];show True.intro) hs he (Ts hl hd (a9.put key aZ) a5)
 show codeAny_compStart_dict aD (T.self _ 0 _ _ _ aA aD)
def pe_compD
   (c:AY X scope cl N' n js)(hc:X.calm=true)(hi:PI X tg iter wi)
   (a3:∀s3 H3 fp,PG (CG X N' scope cl s3 H3 fp) tg g/\PTS (CG X N' scope cl s3 H3 fp) a5 tt/\PE (CG X N' scope cl s3 H3 fp) kx tk/\PE (CG X N' scope cl s3 H3 fp) vx tv)
   (hs:Up X iter:=by intro _;rfl):PE X (.DictComp kx vx [⟨tg,iter,a5,0⟩] scope pos) (Vv (Ld n js) wi g tt tk tv):=by
 intro pins s σ H Q a0 h;rw[arm_eval_DictComp];show OR (use:=none) rfl hs c.HZ c.kind c.names (AT (hi pins s σ H _ a0 h) λv s1 h1=>AT h1 λa8 s2 h2=>?_);obtain⟨it,fp,tn,J,H2,e,I2,T,a6,f2,h2⟩:=h2;subst e;have a2:∃W:Addr->Nat->Nat->St->Hp->Prop,(∀D,H2 D=none->∃m,W D 0 m (Ld n js σ) (upd H2 D (.dK [])))/\∀D,H2 D=none->∀i m σ' H',W D i m σ' H' ->
     (J.stop i H'/\Q (.ref D) H')\/(J.go i H'/\∃(Ay:V->V->St->Hp->Prop) (An:St->Hp->Prop),(∀y v σ3 Y,Ay y v σ3 Y->∃kvs key,y=kV key/\Y D=some (.dK kvs)/\kvs.length<sizeLine/\∃m',m'<m/\W D (i+1) m' σ3 (upd Y D (.dK (putK kvs key v))))/\(∀σ3 O,An σ3 O->∃m',m'<m/\W D (i+1) m' σ3 O) /\
       ∀x H2,J.GF i H' x H2->g x σ' H2 λσ3 H3=>tt σ3 H3 λok O=>if ok=true then tk σ3 O (λy Y=>tv σ3 Y λv H6=>Ay y v σ3 H6)else An σ3 O):=by
   show⟨λD=>if I:H2 D=none then(h2 D I).choose else λ_ _ _ _=>False,λD I=>?_,λD I=>?_⟩
   . simp only[I,RC];show(h2 D I).choose_spec.1
   . simp only[I,RC];show(h2 D I).choose_spec.2
 show Am a2 λW w0 a7=>Vc (RR:=λa1 C=>compPost (model X.prog X.w) X.A X.xe none (EP X pins σ Q) a1 C) (Fi:=λD H'=>Q (.ref D) H') (W:=W) c hc a3 I2 T a6 f2 w0 a7 ?_;intro D s3 H3 H' s' I3 I' ⟨m,hn⟩ hC q;show Aq m hn λh' a4=>(Al (.ref D) H' (Mn I3 I' hC a4) rfl q)
def At6
  (c:AY X scope cl N' n js)(Y:X.calm=true)(hi:QI X tg iter wi)
  (O:∀I H3 fp,QG (CG X N' scope cl I H3 fp) tg g/\QTS (CG X N' scope cl I H3 fp) a0 tt/\QE (CG X N' scope cl I H3 fp) kx tk/\QE (CG X N' scope cl I H3 fp) vx tv)
  (hs:Up X iter:=by intro _;rfl):QE X (.DictComp kx vx [⟨tg,iter,a0,0⟩] scope pos) (Vv (Ld n js) wi g tt tk tv):=
 ⟨pe_compD c Y hi.go (λI H3 fp=>(C7 ((O I H3 fp).1.go) ((O I H3 fp).2.1.go) ((O I H3 fp).2.2.1.go) ((O I H3 fp).2.2.2.go))) hs⟩
def Au3
   (hN:X.N.Nodup)(a5:X.N[i0]?=some y)(hx:X.env.scope.names.lookup y=some .local)
   (a9:swapsWith (.DictComp kx vx [⟨tg,iter,a0,0⟩] scope pos) (some (.Name y py)) aC.line X.env=pure true)
   (c:AY X scope cl N' n js)(hc:X.calm=true)(hi:PI X tg iter wi)
   (a6:∀O H3 fp,PG (CG X N' scope cl O H3 fp) tg g/\PTS (CG X N' scope cl O H3 fp) a0 tt/\PE (CG X N' scope cl O H3 fp) kx tk/\PE (CG X N' scope cl O H3 fp) vx tv)
   (hs:Up X iter:=by intro _;rfl):PS X (.Assign [.Name y py] (.DictComp kx vx [⟨tg,iter,a0,0⟩] scope pos) aC) (Ye (Vv (Ld n js) wi g tt tk tv) (BH i0)):=by
 intro pins s σ H D0 a1 h;rw[exec_Assign_Name_used _ _ _ _ a9];show JQ (wpAny_standAt (JQ ?_))
 show wpAny _ X.A (do let _ ← comprehension (.DictComp kx vx [⟨tg,iter,a0,0⟩] scope pos) scope X.env _ newDict false (eval iter X.env) (some (assign (.Name y py) X.env))) _ _ s
 show JQ (AT (OR (use:=some (assign (.Name y py) X.env)) (Q:=λ_ s'=>SP X pins D0 .next s') rfl hs c.HZ c.kind c.names (AT (hi pins s σ H _ a1 h) λv s1 h1=>AT h1 λaE s2 h2=>?_))
   λ_ s' hq=>JW (JW hq))
 obtain⟨it,fp,tn,J,H2,e,I2,T,aA,f2,h2⟩:=h2;subst e;have a4:∃W:Addr->Nat->Nat->St->Hp->Prop,(∀D,H2 D=none->∃m,W D 0 m (Ld n js σ) (upd H2 D (.dK [])))/\∀D,H2 D=none->∀i m σ' H',W D i m σ' H' ->
     (J.stop i H'/\D0.nx (σ.set i0 (some (.ref D))) H')\/(J.go i H'/\∃(Ay:V->V->St->Hp->Prop) (An:St->Hp->Prop),(∀y v σ3 H5,Ay y v σ3 H5->∃kvs key,y=kV key/\H5 D=some (.dK kvs)/\kvs.length<sizeLine/\∃m',m'<m/\W D (i+1) m' σ3 (upd H5 D (.dK (putK kvs key v))))/\(∀σ3 Y,An σ3 Y->∃m',m'<m/\W D (i+1) m' σ3 Y) /\
       ∀x H2,J.GF i H' x H2->g x σ' H2 λσ3 H3=>tt σ3 H3 λok Y=>if ok=true then tk σ3 Y (λy H5=>tv σ3 H5 λv H6=>Ay y v σ3 H6)else An σ3 Y):=by
   show⟨λD=>if I:H2 D=none then(h2 D I).choose else λ_ _ _ _=>False,λD I=>?_,λD I=>?_⟩
   . simp only[I,RC];show(h2 D I).choose_spec.1
   . simp only[I,RC];show(h2 D I).choose_spec.2
 show Am a4 λW w0 aD=>Vc (RR:=λa3 C=>compPost (model X.prog X.w) X.A X.xe (some (assign (.Name y py) X.env)) (λ_ s'=>SP X pins D0 .next s') a3 C) (Fi:=λD H'=>D0.nx (σ.set i0 (some (.ref D))) H') (W:=W) c hc a6 I2 T aA f2 w0 aD ?_;intro D O H3 H' s' I3 I' ⟨m,hn⟩ hC q
 show wpAny _ _ (assign (.Name y py) X.env (.ref D)) _ _ s'
 show wpAny_assign_Name (Pe (v:=.ref D) I' hN a5 (.inl hx) rfl (λaF a2 ⟨a,aB,ha⟩=>?_) (.inr hx));have a7:O.heap.objs.size≠a:=by
   rcases ha with z|z
   . rw[z];show MK I3.lt
   . intro q;obtain⟨v,w⟩:=I3.cell y a z;show absurd w.lt (by rw[← q];show NK _)
 show Aq m (hn.sameBut aB a7) λh' a8=>(C6 _ H' (Mn I3 a2 hC a8) q)
def Yk
  (hN:X.N.Nodup)(a1:X.N[i0]?=some y)(hx:X.env.scope.names.lookup y=some .local)
  (a2:swapsWith (.DictComp Y vx [⟨tg,iter,a0,0⟩] scope pos) (some (.Name y py)) a3.line X.env=pure true)
  (c:AY X scope cl N' n js)(hc:X.calm=true)(hi:QI X tg iter wi)
  (O:∀I H3 fp,QG (CG X N' scope cl I H3 fp) tg g/\QTS (CG X N' scope cl I H3 fp) a0 tt/\QE (CG X N' scope cl I H3 fp) Y tk/\QE (CG X N' scope cl I H3 fp) vx tv)
  (hs:Up X iter:=by intro _;rfl):QS X (.Assign [.Name y py] (.DictComp Y vx [⟨tg,iter,a0,0⟩] scope pos) a3) (Ye (Vv (Ld n js) wi g tt tk tv) (BH i0)):=
 ⟨Au3 hN a1 hx a2 c hc hi.go (λI H3 fp=>(C7 ((O I H3 fp).1.go) ((O I H3 fp).2.1.go) ((O I H3 fp).2.2.1.go) ((O I H3 fp).2.2.2.go))) hs⟩
end
def Ad7 {K:Av}{a D:Addr}{xs:List V}{g:TG}{tt:TT}{tk tv:TE}{σ0:St}{H1:Hp}{Q:Hp->Prop}(Pv:Nat->List (Key×V)->St->Hp->Prop)(hx:xs.length<=sizeLine)(h0:Pv 0 [] σ0 (upd H1 D (.dK [])))
   (hl:∀i ys σ H,i<=xs.length->Pv i ys σ H->AO K H a xs/\H D=some (.dK ys)/\ys.length<=i)
   (hs:∀i x ys σ H,xs[i]?=some x->Pv i ys σ H->g x σ H λσ3 H3=>tt σ3 H3 λok I=>if ok=true then tk σ3 I (λy O=>tv σ3 O λv H6=>∃key,y=kV key/\H6 D=some (.dK ys)/\Pv (i+1) (putK ys key v) σ3 (upd H6 D (.dK (putK ys key v))))else Pv (i+1) ys σ3 I)
   (hd:∀ys σ H,Pv xs.length ys σ H->Q H) :
   ∃W:Nat->Nat->St->Hp->Prop,(∃m,W 0 m σ0 (upd H1 D (.dK [])))/\∀i m σ' H',W i m σ' H' ->
     ((Itl K a).stop i H'/\Q H')\/((Itl K a).go i H'/\∃(Ay:V->V->St->Hp->Prop) (An:St->Hp->Prop),(∀y v σ3 O,Ay y v σ3 O->∃kvs key,y=kV key/\O D=some (.dK kvs)/\kvs.length<sizeLine/\∃Y,Y<m/\W (i+1) Y σ3 (upd O D (.dK (putK kvs key v)))) /\
       (∀σ3 I,An σ3 I->∃Y,Y<m/\W (i+1) Y σ3 I) /\
       ∀x H2,(Itl K a).GF i H' x H2->g x σ' H2 λσ3 H3=>tt σ3 H3 λok I=>if ok=true then tk σ3 I (λy O=>tv σ3 O λv H6=>Ay y v σ3 H6)else An σ3 I):=by
 show Aq (λi m σ H=>m=xs.length-i/\i<=xs.length/\∃ys,Pv i ys σ H) (Bx xs.length (by simp) (LN _) ⟨[],h0⟩) ?_;rintro i m σ H ⟨rfl,hi,ys,p⟩;show Ch (hl i ys σ H hi p) λq hy a1=>?_;by_cases a0:i<xs.length
 . show .inr ⟨(C6 xs (xs[i]) q (by simp[a0])),(Al (λy v σ3 O=>∃key,y=kV key/\O D=some (.dK ys)/\Pv (i+1) (putK ys key v) σ3 (upd O D (.dK (putK ys key v)))) (λσ3 I=>Pv (i+1) ys σ3 I)
     (λy v σ3 O ⟨key,ek,e,p'⟩=>(Co ys key ek e (by omega) (Dh (xs.length-(i+1)) (by omega) rfl a0 ⟨_,p'⟩))) (λσ3 I p'=>(Dh (xs.length-(i+1)) (by omega) rfl a0 ⟨_,p'⟩)) λx H' y=>?_)⟩
   obtain⟨e,y⟩:=y;subst e;show hs i x ys σ H' (y xs q) p
 . have:i=xs.length:=by omega
   subst this;show .inl ⟨(Aq xs q (JV _)),hd ys σ H p⟩
def Vd {K:Av}{a D:Addr}{xs:List V}{g:TG}{tt:TT}{tk tv:TE}{σ0:St}{H1:Hp}{Q:Hp->Prop}(Pv:Nat->List (Key×V)->St->Hp->Prop)(hx:xs.length<=sizeLine)(h0:Pv 0 [] σ0 (upd H1 D (.dK [])))
   (hl:∀i ys σ H,i<=xs.length->Pv i ys σ H->BJ K H a xs/\H D=some (.dK ys)/\ys.length<=i)
   (hs:∀i x ys σ H,xs[i]?=some x->Pv i ys σ H->g x σ H λσ3 H3=>tt σ3 H3 λok I=>if ok=true then tk σ3 I (λy O=>tv σ3 O λv H6=>∃key,y=kV key/\H6 D=some (.dK ys)/\Pv (i+1) (putK ys key v) σ3 (upd H6 D (.dK (putK ys key v))))else Pv (i+1) ys σ3 I)
   (hd:∀ys σ H,Pv xs.length ys σ H->Q H) :
   ∃W:Nat->Nat->St->Hp->Prop,(∃m,W 0 m σ0 (upd H1 D (.dK [])))/\∀i m σ' H',W i m σ' H' ->
     ((IW K a).stop i H'/\Q H')\/((IW K a).go i H'/\∃(Ay:V->V->St->Hp->Prop) (An:St->Hp->Prop),(∀y v σ3 O,Ay y v σ3 O->∃kvs key,y=kV key/\O D=some (.dK kvs)/\kvs.length<sizeLine/\∃Y,Y<m/\W (i+1) Y σ3 (upd O D (.dK (putK kvs key v)))) /\
       (∀σ3 I,An σ3 I->∃Y,Y<m/\W (i+1) Y σ3 I) /\
       ∀x H2,(IW K a).GF i H' x H2->g x σ' H2 λσ3 H3=>tt σ3 H3 λok I=>if ok=true then tk σ3 I (λy O=>tv σ3 O λv H6=>Ay y v σ3 H6)else An σ3 I):=by
 show Aq (λi m σ H=>m=xs.length-i/\i<=xs.length/\∃ys,Pv i ys σ H) (Bx xs.length (by simp) (LN _) ⟨[],h0⟩) ?_;rintro i m σ H ⟨rfl,hi,ys,p⟩;show Ch (hl i ys σ H hi p) λq hy a1=>?_;by_cases a0:i<xs.length
 . show .inr ⟨(C6 xs (xs[i]) q (by simp[a0])),(Al (λy v σ3 O=>∃key,y=kV key/\O D=some (.dK ys)/\Pv (i+1) (putK ys key v) σ3 (upd O D (.dK (putK ys key v)))) (λσ3 I=>Pv (i+1) ys σ3 I)
     (λy v σ3 O ⟨key,ek,e,p'⟩=>(Co ys key ek e (by omega) (Dh (xs.length-(i+1)) (by omega) rfl a0 ⟨_,p'⟩))) (λσ3 I p'=>(Dh (xs.length-(i+1)) (by omega) rfl a0 ⟨_,p'⟩)) λx H' y=>?_)⟩
   obtain⟨e,y⟩:=y;subst e;show hs i x ys σ H' (y xs q) p
 . have:i=xs.length:=by omega
   subst this;show .inl ⟨(Aq xs q (JV _)),hd ys σ H p⟩
def SI (b:Bool)(h:Heap)(it l:Addr)(i:Nat):Prop:=if b=true then h.IsListIter it l i else h.IsTupleIter it l i
def SQ (b:Bool)(h:Heap)(l:Addr)(xs:Array Value):Prop:=if b=true then h.IsList l xs else h.IsTuple l xs
def SI.at (x:SI b h it l i)(e:∀o,h.get? it=some o->h'.get? it=some o):SI b h' it l i:=by
 cases b
 .show Heap.IsTupleIter.at (show h.IsTupleIter it l i from x) e
 .show Heap.IsListIter.at (show h.IsListIter it l i from x) e
def SQ.at (x:SQ b h l xs)(e:∀o,h.get? l=some o->h'.get? l=some o):SQ b h' l xs:=by
 cases b
 .show Heap.IsTuple.at (show h.IsTuple l xs from x) e
 .show Heap.IsList.at (show h.IsList l xs from x) e
def SI.obj (x:SI b h it l i):∃o,h.get? it=some o/\∀v,o.data≠.cell v:=by
 cases b
 .show Bg ((show h.IsTupleIter it l i from x)) λo e _ d=>?_;show Aq o e λv z=>by rw[d]at z;cases z
 .show Bg ((show h.IsListIter it l i from x)) λo e _ d=>?_;show Aq o e λv z=>by rw[d]at z;cases z
section
variable {E:Bo}
def Rb {Q:Bo}(u:s.heap.IsTupleIter it l i)(q:s.heap.IsTuple l xs)(z:xs[i]?=some x)
  (k:∀h',h'.IsTupleIter it l (i+1)->Heap.SameBut it s.heap h'->Q x {s with heap:=h'}):wpAny (model prog w) A (Builtin.SmallTypes.nextOf (.ref it)) Q E s:=by
 show Bg (id u) λo e c d=>?_;show Bg q λO e2 _ z1=>?_;obtain⟨n2,I⟩:=z1
 delta Builtin.SmallTypes.nextOf
 show JQ (LW (name:=Str.ofString "__next__") u.typeIs NQ (MP NQ u.typeIs PySem.F.entry_tuple_iterator_next ?_ (PySem.F.args_tuple_iterator_next_1 _)))
 show wpAny _ _ (field (.ref it) 0 >>= λ_=>_) _ _ s
 show JQ (LH e d (x:=.ref l) rfl ?_)
 show wpAny _ _ (if(Value.ref l==Value.none)=true then _ else(field (.ref it) 1 >>= λ_=>_)) _ _ s
 rw[KH (show ¬((Value.ref l==Value.none)=true)from λz=>LA z)];show JQ (LH e d (x:=.int i 0) rfl ?_)
 show wpAny _ _ (seqItems? (.ref l) >>= λ_=>_) _ _ s
 show JQ (NL e2 I ?_);simp only[z,QX];show JQ (wpAny_setField e d (by simp) (JW (Aq x rfl (JW (k _ (Bh (Heap.get?_update_self _ e (Obj.isFreed_of_fields (Obj.data_mapFields d _))) ((Obj.cls_mapFields ..).trans c) ?_) (Heap.SameBut.update ..))))));rw[Obj.data_mapFields d];simp[rawInt]
def Td {Q:Bo}(O:A.handled=none)(u:s.heap.IsTupleIter it l i)(q:s.heap.IsTuple l xs)(z:xs[i]?=none)
  (k:∀h' e,Heap.ExtBut it s.heap h'->(∃o,h'.get? e=some o/\o.cls=.type "StopIteration")->E (.ref e) {s with heap:=h'}):wpAny (model prog w) A (Builtin.SmallTypes.nextOf (.ref it)) Q E s:=by
 show Bg (id u) λo e c d=>?_;show Bg q λY e2 _ z1=>?_;obtain⟨n2,I⟩:=z1
 delta Builtin.SmallTypes.nextOf
 show JQ (LW (name:=Str.ofString "__next__") u.typeIs NQ (MP NQ u.typeIs PySem.F.entry_tuple_iterator_next ?_ (PySem.F.args_tuple_iterator_next_1 _)))
 show wpAny _ _ (field (.ref it) 0 >>= λ_=>_) _ _ s
 show JQ (LH e d (x:=.ref l) rfl ?_)
 show wpAny _ _ (if(Value.ref l==Value.none)=true then _ else(field (.ref it) 1 >>= λ_=>_)) _ _ s
 rw[KH (show ¬((Value.ref l==Value.none)=true)from λz=>LA z)];show JQ (LH e d (x:=.int i 0) rfl ?_)
 show wpAny _ _ (seqItems? (.ref l) >>= λ_=>_) _ _ s
 show JQ (NL e2 I ?_);simp only[z,QX];show JQ (wpAny_rule (JQ (wpAny_setField e d (by simp) ?_)))
 show wpAny _ _ (newExc (.type "StopIteration") [] >>= λ_=>_) _ _ _
 show JQ ?_;simp only[newTuple,newExc];show JQ (ME (JQ (m:=firstArgMember _ _) (wpAny_of_eq (a:=Value.none) (by first|rfl|(simp only[firstArgMember];rfl)) (ME ?_ (by size_fits)))) (by size_fits));simp only[raiseNew];show JQ (wpAny_handled ?_);rw[show A.in1.handled=none from O];show JQ (JW (wpAny_throw (k _ _ (((Heap.SameBut.update ..).extBut.push _).push _) (Ad (KW _ rfl) rfl))))
def Ez {Q:Bo}(u:SI b s.heap it l i)(q:SQ b s.heap l xs)(z:xs[i]?=some x)
  (k:∀h',SI b h' it l (i+1)->Heap.SameBut it s.heap h'->Q x {s with heap:=h'}):wpAny (model prog w) A (Builtin.SmallTypes.nextOf (.ref it)) Q E s:=by
 cases b
 .show Rb u q z k
 .show wpAny_nextOf_list_item u q z k
def Hs {Q:Bo}(I:A.handled=none)(u:SI b s.heap it l i)(q:SQ b s.heap l xs)(z:xs[i]?=none)
  (k:∀h' e,Heap.ExtBut it s.heap h'->(∃o,h'.get? e=some o/\o.cls=.type "StopIteration")->E (.ref e) {s with heap:=h'}):wpAny (model prog w) A (Builtin.SmallTypes.nextOf (.ref it)) Q E s:=by
 cases b
 .show Td I u q z k
 .show wpAny_nextOf_list_end I u q z k
def An8 {b:Bool}{e it l:Addr}{i:Nat}{xs:Array Value}{x O:Value}{Q:Option Value->Shared->Prop}(he:IsEnum s.heap e it i O)(u:SI b s.heap it l i)(q:SQ b s.heap l xs)(z:xs[i]?=some x)(ne:e≠it)
   (k:∀h',IsEnumOut h' e it ((i:Int)+1) x s.heap.objs.size->SI b h' it l (i+1)->h'.get? s.heap.objs.size=some {cls:=.type "tuple",data:=.seq #[.int i s.toks,x]}->h'.objs.size=s.heap.objs.size+1 ->
     (∀c o,c≠e->c≠it->s.heap.get? c=some o->h'.get? c=some o)->Q (some (.ref s.heap.objs.size)) {s with heap:=h',toks:=s.toks+1}):wpAny (model prog w) A (pyNext (.ref e)) Q E s:=by
 have ty:s.TypeIs (.ref e) "enumerate":=(Ad he rfl);unfold pyNext;show JQ (QH (LW (name:=Str.ofString "__next__") ty PK (MP PK ty F.entry_enumerate_next ?_ (F.args_enumerate_next_1 _))));obtain⟨I,g,d,tk,os⟩:=s
 show wpAny _ _ (field (.ref e) 2 >>= λ_=>_) _ _ _
 show JQ (LH he rfl (x:=.ref it) rfl (JQ (Ez u q z λh1 u1 s1=>?_)));replace s1:Heap.SameBut it I h1:=s1;have e1:IsEnum h1 e it i O:=(s1.2 e ne).trans he
 show wpAny _ _ (field (.ref e) 3 >>= λ_=>_) _ _ ⟨h1,g,d,tk,os⟩
 show JQ (LH e1 rfl (x:=rawInt i) rfl ?_)
 show wpAny _ _ (field (.ref e) 4 >>= λ_=>_) _ _ ⟨h1,g,d,tk,os⟩
 show JQ (LH e1 rfl (x:=.none) rfl ?_)
 show wpAny _ _ (mkInt i >>= λ_=>_) _ _ ⟨h1,g,d,tk,os⟩
 show JQ (wpAny_mkInt (?_))
 show wpAny _ _ (setField (.ref e) 3 (rawInt ((i:Int)+1)) >>= λ_=>_) _ _ ⟨h1,g,d,tk+1,os⟩
 show JQ (MF e1 (by simp) λh2 e2 s2=>?_);replace s2:Heap.SameBut e h1 h2:=s2;replace e2:IsEnum h2 e it ((i:Int)+1) O:=e2
 show wpAny _ _ (setField (.ref e) 4 .none >>= λ_=>_) _ _ ⟨h2,g,d,tk+1,os⟩
 show JQ (MF e2 (by simp) λh3 e3 Y=>?_);replace Y:Heap.SameBut e h2 h3:=Y;replace e3:IsEnum h3 e it ((i:Int)+1) O:=e3
 show wpAny _ _ (newTuple [.int i tk,x] >>= λ_=>_) _ _ ⟨h3,g,d,tk+1,os⟩
 show JQ (wpAny_newTuple (?_));have e4:IsEnum (h3.push {cls:=.type "tuple",data:=.seq #[.int i tk,x]}) e it ((i:Int)+1) O:=JU _ e3;generalize p4:h3.push {cls:=.type "tuple",data:=.seq #[.int i tk,x]}=h4 at e4;have sz:h3.objs.size=I.objs.size:=by rw[Y.1,s2.1,s1.1]
 have le:e<I.objs.size:=JZ he;have t4:h4.get? I.objs.size=some {cls:=.type "tuple",data:=.seq #[.int i tk,x]}:=by rw[← p4,← sz];show KW _ rfl
 have z4:h4.objs.size=I.objs.size+1:=by rw[← p4,MY,sz]
 have k4:∀c o,c≠e->c≠it->I.get? c=some o->h4.get? c=some o:=λc o c1 c2 y=>by
   rw[← p4];show JU _ (Y.extBut c o c1 (s2.extBut c o c1 (s1.extBut c o c2 y)))
 have u4:SI b h4 it l (i+1):=u1.at λo y=>by
   rw[← p4];show JU _ (Y.extBut _ _ (OO ne) (s2.extBut _ _ (OO ne) y))
 show wpAny _ _ (Builtin.SmallTypes.ownedTupleIsFree (.ref e) >>= λ_=>_) _ _ ⟨h4,g,d,tk+1,os⟩
 rw[sz];show JQ ?_
 delta Builtin.SmallTypes.ownedTupleIsFree
 show JQ (LH e4 rfl (x:=.none) rfl (JW ?_));simp only[PD];show JQ (wpAny_rule (JQ (LH e4 rfl (x:=O) rfl (JQ (MF e4 (by simp) λh5 e5 s5=>?_)))));replace s5:Heap.SameBut e h4 h5:=s5;replace e5:IsEnum h5 e it ((i:Int)+1) x:=e5
 show wpAny _ _ (Builtin.SmallTypes.ownedTupleHandOut (.ref e) (.ref I.objs.size) >>= λ_=>_) _ _ ⟨h5,g,d,tk+1,os⟩
 show JQ ?_
 delta Builtin.SmallTypes.ownedTupleHandOut
 show JQ (MF e5 (by simp) λh6 e6 s6=>?_);replace s6:Heap.SameBut e h5 h6:=s6;replace e6:IsEnumOut h6 e it ((i:Int)+1) x I.objs.size:=e6;show MF e6 (by simp) λh7 e7 s7=>?_;replace s7:Heap.SameBut e h6 h7:=s7;replace e7:IsEnumOut h7 e it ((i:Int)+1) x I.objs.size:=e7;have up:∀c o,c≠e->h4.get? c=some o->h7.get? c=some o:=λc o c1 y=>s7.extBut c o c1 (s6.extBut c o c1 (s5.extBut c o c1 y));show JQ (wpAny_letGo (JW (Ad rfl (JW (k h7 e7 (u4.at λo y=>up _ _ (OO ne) y) (up _ _ (MK le) t4) (by rw[s7.1,s6.1,s5.1,z4]) λc o c1 c2 y=>up c o c1 (k4 c o c1 c2 y))))))
def enum_end {b:Bool}{e it l:Addr}{i:Nat}{xs:Array Value}{a0:Value}{Q:Option Value->Shared->Prop}(I:A.handled=none)(he:IsEnum s.heap e it i a0)(u:SI b s.heap it l i)(q:SQ b s.heap l xs)(z:xs[i]?=none)
  (k:∀h',Heap.ExtBut it s.heap h'->Q none {s with heap:=h'}):wpAny (model prog w) A (pyNext (.ref e)) Q E s:=by
 have ty:s.TypeIs (.ref e) "enumerate":=(Ad he rfl);unfold pyNext;show JQ (QH (LW (name:=Str.ofString "__next__") ty PK (MP PK ty F.entry_enumerate_next ?_ (F.args_enumerate_next_1 _))))
 show wpAny _ _ (field (.ref e) 2 >>= λ_=>_) _ _ _
 show JQ (LH he rfl (x:=.ref it) rfl (JQ (Hs I u q z λh' x O ⟨o,Y,y3⟩=>JQ (OV (T:="StopIteration") (b:=true) (Aq o Y y3) QZ (JW (k _ O))))))
end
def Tf (l:Addr)(xs:Array Value)(o:Obj) :
  Meets (Builtin.«enumerate.__new__» ⟨[.type "enumerate",.ref l],[]⟩) (λ_ R s=>s.heap.get? l=some o/\s.heap.IsTuple l xs /\
   R (.ok (.ret (.ref (s.heap.push {cls:=.type "tuple_iterator",data:=.fields #[.ref l,.int 0 0]}).objs.size)))
    {s with heap:=(s.heap.push {cls:=.type "tuple_iterator",data:=.fields #[.ref l,.int 0 0]}).push {cls:=.type "enumerate",data:=.fields #[.none,.bool false,.ref s.heap.objs.size,rawInt 0,.none,.none]}}):=
 .of_wp λprog w A R s h=>by
  obtain⟨O,g,d,tk,os⟩:=s;obtain⟨hl,q,h⟩:=h;have sub:=sub_enumerate;have I:Heap.IsTuple (Shared.heap ⟨O,g,d,tk,os⟩) l xs:=q
  wp_walk using MG hl
  show wpAny_stack_any λst=>JW ?_;split
  .rename_i c _ _ _ _ _;cases(c==Value.type "enumerate")
   .wp_walk using MG hl,MR I
    show⟨_,rfl,h⟩
   .wp_walk using MG hl,MR I
    show Ad rfl h
  .wp_walk using MG hl,MR I
   show Ad rfl h
def Rc (l:Addr)(xs:Array Value)(o:Obj) :
  Meets (Builtin.«enumerate.__new__» ⟨[.type "enumerate",.ref l],[]⟩) (λ_ R s=>s.heap.get? l=some o/\s.heap.IsList l xs /\
   R (.ok (.ret (.ref (s.heap.push {cls:=.type "list_iterator",data:=.fields #[.ref l,.int 0 0]}).objs.size)))
    {s with heap:=(s.heap.push {cls:=.type "list_iterator",data:=.fields #[.ref l,.int 0 0]}).push {cls:=.type "enumerate",data:=.fields #[.none,.bool false,.ref s.heap.objs.size,rawInt 0,.none,.none]}}):=
 .of_wp λprog w A R s h=>by
  obtain⟨O,g,d,tk,os⟩:=s;obtain⟨hl,q,h⟩:=h;have sub:=sub_enumerate;have I:Heap.IsList (Shared.heap ⟨O,g,d,tk,os⟩) l xs:=q
  wp_walk using MG hl
  show wpAny_stack_any λst=>JW ?_;split
  .rename_i c _ _ _ _ _;cases(c==Value.type "enumerate")
   .wp_walk using MG hl,NG I
    show⟨_,rfl,h⟩
   .wp_walk using MG hl,NG I
    show Ad rfl h
  .wp_walk using MG hl,NG I
   show Ad rfl h
section
variable {E:Bo}
def Ao8 {Q:Bo}(q:SQ b s.heap l xs)
  (k:∀h',IsEnum h' (s.heap.objs.size+1) s.heap.objs.size 0 .none->SI b h' s.heap.objs.size l 0->h'.objs.size=s.heap.objs.size+2->(∀c o,s.heap.get? c=some o->h'.get? c=some o)->Q (.ref (s.heap.objs.size+1)) {s with heap:=h'}) :
  wpAny (model prog w) A (call (.type "enumerate") [.ref l]) Q E s:=by
 have key:∀(n:String) (h1:Heap),h1=s.heap.push {cls:=.type n,data:=.fields #[.ref l,.int 0 0]}->SI b h1 s.heap.objs.size l 0 ->
   (∃o',(h1.push {cls:=.type "enumerate",data:=.fields #[.none,.bool false,.ref s.heap.objs.size,rawInt 0,.none,.none]}).get? h1.objs.size=some o'/\o'.cls=.type "enumerate") /\
   Q (.ref h1.objs.size) {s with heap:=h1.push {cls:=.type "enumerate",data:=.fields #[.none,.bool false,.ref s.heap.objs.size,rawInt 0,.none,.none]}}:=λn h1 e u=>by
  have z:h1.objs.size=s.heap.objs.size+1:=by rw[e];show MY ..
  have he:=KW h1 (o:={cls:=.type "enumerate",data:=.fields #[.none,.bool false,.ref s.heap.objs.size,rawInt 0,.none,.none]}) rfl;show⟨(Ad he rfl),?_⟩;rw[z]at he ⊢;show k _ he (u.at λo y=>JU _ y) (by rw[MY,z]) λc o y=>JU _ (by rw[e];show JU _ y)
 cases b
 .show Am ((show s.heap.IsTuple l xs from q)) λo e _=>callType_new F.called_enumerate (by decide) (F.typeCall_enumerate_1 _) (F.newCall_enumerate_1 _) (λobj=>F.args_object_init_2 obj _) F.entry_enumerate_new (Tf l xs o) (Az e q (key "tuple_iterator" _ rfl (Bh (KW _ rfl) rfl rfl)))
 .show Am ((show s.heap.IsList l xs from q)) λo e _=>callType_new F.called_enumerate (by decide) (F.typeCall_enumerate_1 _) (F.newCall_enumerate_1 _) (λobj=>F.args_object_init_2 obj _) F.entry_enumerate_new (Rc l xs o) (Az e q (key "list_iterator" _ rfl (Bh (KW _ rfl) rfl rfl)))
end
def DG (b:Bool)(K:Av)(H:Hp)(a:Addr)(xs:List V):Prop:=if b=true then AO K H a xs else BJ K H a xs
section
def Inv.sq (I:Inv X pins σ H s)(h:DG b X.K H a xs):∃its:List Value,AK xs its/\SQ b s.heap a its.toArray/\xs.length<=sizeLine:=by
 cases b
 .show I.tuple h
 .show Bg (I.list h) λits r p z=>Bx its r p.isList z
def Inv.IK (I:Inv X pins σ H s)(h:DG b X.K H a xs)(h':DG b X.K H a ys):xs=ys:=by
 cases b
 .show I.HG h h'
 .show I.IC h h'
end
noncomputable def Ite (b:Bool)(K:Av)(a:Addr):It:=
 ⟨λi H=>∃xs x,DG b K H a xs/\xs[i]?=some x,
  λi H v H'=>∃p x,H p=none/\v=.ref p/\H'=upd H p (.tup [.int i,x])/\∀xs,DG b K H a xs->xs[i]?=some x,
  λi H=>∃xs,DG b K H a xs/\xs.length<=i⟩
def eTn (b:Bool)(e it a:Addr)(i:Nat)(h:Heap):Prop:=(∃I,IsEnum h e it i I)/\SI b h it a i
theorem Ak8 {P:Program}{w:World}{K:Av}{b:Bool}{kk}(ne:e≠it) :
  Turn P w K (.Tuple a7 kk pos) (Ite b K a) [it,e] e (eTn b e it a) where
 mem:=by simp
 obj:=λi h st c O=>by
  obtain⟨⟨a0,he⟩,u⟩:=st;simp only[JT,KU,MB]at O
  rcases O with rfl|rfl
  .show u.obj
  .show Ad he λv z=>(nomatch z)
 keep:=λi h h' st k=>by
  obtain⟨⟨a0,he⟩,u⟩:=st;show⟨⟨a0,k _ (by simp) _ he⟩,u.at λo y=>k _ (by simp) o y⟩
 item:=by
  intro X hP hw hK O i pins s σ H E I hf st hg;subst hP hw hK;show C8 hg λxs x hq hx=>?_;obtain⟨⟨a0,he⟩,u⟩:=st;show Bg (I.sq hq) λits rv p z=>Am (rv.get hx) λv hv ru=>An8 he u p (x:=v) (by simpa using hv) ne λh' o1 u1 t1 z1 k1=>Ad rfl (wpAny_letOwnedTupleGo_enum (s:={s with heap:=h',toks:=s.toks+1}) o1 λY e2 sb=>?_);have a1:@LT.lt Nat _ e s.heap.objs.size:=JZ he;have a5:@LT.lt Nat _ it s.heap.objs.size:=by show Am u.obj λo y _=>?_;show JZ y
  have up:∀c o,c≠e->h'.get? c=some o->Y.get? c=some o:=λc o a3 y=>(sb.2 c a3).trans y;have kk:∀c o,c∉[it,e]->s.heap.get? c=some o->Y.get? c=some o:=λc o O y=>by
   simp only[JT,KU,MB,QR]at O;show up c o O.2 (k1 c o O.2 O.1 y)
  have a2:eTn b e it a (i+1) Y:=⟨⟨_,by simpa using e2⟩,u1.at λo y=>up _ o (OO ne) y⟩;have kt:∀c∈[it,e],∃o,Y.get? c=some o:=λc O=>by
   obtain⟨⟨a8,a4⟩,u'⟩:=a2;simp only[JT,KU,MB]at O
   rcases O with rfl|rfl
   .show Am u'.obj λo y _=>⟨o,y⟩
   .show⟨_,a4⟩
  have I1:Inv X pins σ (upd H s.heap.objs.size (.tup [.int i,x])) {s with heap:=Y,toks:=s.toks+1}:=
   I.IS (t':=s.toks+1) (its:=[.int i s.toks,v]) hf kk kt (JV _) (zl 2) (.cons ⟨_,rfl⟩ (.cons ru .nil)) (Bh (up _ _ (MK a1) t1) rfl ⟨_,rfl⟩)
  show Jr (.ref s.heap.objs.size) _ I1 rfl (Co _ x I.fresh rfl rfl λa6 h=>by rw[I.IK h hq];show hx) a2 λc O=>?_;rw[Aj ?_]
  .show (hf c O).1
  .simp only[JT,KU,MB]at O
   rcases O with rfl|rfl
   .show LF a5
   .show LF a1
 done:=by
  intro X hP hw hK O i pins s σ H E I hf st hg;subst hP hw hK;show Am hg λxs hq hl=>?_;obtain⟨⟨a0,he⟩,u⟩:=st;show Bg (I.sq hq) λits rv p z=>?_;have e1:=rv.length;show enum_end (I.ok.hd O) he u p (by simp;omega) λh' k1=>⟨rfl,I.JC (t':=s.toks) hf λc o O y=>?_⟩;simp only[JT,KU,MB,QR]at O;show k1 c o O.1 y
 self:=λ_ _ _ _ _ st h=>by
  obtain⟨⟨a0,he⟩,u⟩:=st;show wpAny_pyIter_enum he h
def iEnum (b:Bool)(K:Av)(ta:TA):TI:=λσ H R=>ta σ H λvs H1=>∃a,vs=[.ref a]/\(∃xs,DG b K H1 a xs)/\R (Ite b K a) H1
def Ao9:bootBuiltins "enumerate"=some (.type "enumerate"):=by decide +kernel
def pi_enum {kk}(hg:Gl X "enumerate")(hm:X.mg "enumerate"=none)(ha:PA X [a] ta)(hs:starEach [a] X.env=[(false,eval a X.env)]:=by rfl) :
  PI X (.Tuple a1 kk a2) (.Call (.Name "enumerate" p) [a] [] pos) (iEnum b X.K ta):=by
 intro pins s σ H R I h;show Call_ (Ly I hg hm Ao9 (MV (AT (ha pos pins s σ H _ I h) λus s1 ⟨vs,H1,O,r1,q1⟩=>?_) hs rfl));show Bg q1 λl e z1 q=>?_;obtain⟨xs,hq⟩:=z1;subst e
 cases r1 with
 | cons r rr=>
  cases rr;cases r;show Bg (O.sq hq) λits rv p1 z=>Ao8 p1 λh' he u sz k1=>wpAny_pyIter_enum (s:={s1 with heap:=h'}) he (F5 (s1.heap.objs.size+1) [s1.heap.objs.size,s1.heap.objs.size+1] (eTn b _ _ l) (Ite b X.K l) H1 rfl (O.kept (t':=s1.toks) k1) (Ak8 (Nat.succ_ne_self _)) ⟨⟨_,he⟩,u⟩ (λc Y=>?_) q);have a0:s1.heap.objs.size<=c:=by
   simp only[JT,KU,MB]at Y
   rcases Y with rfl|rfl<;>omega
  show O.IM a0 (O.AU.fresh a0)
def Ag4 {kk}(hg:Gl X "enumerate")(hm:X.mg "enumerate"=none)(ha:QA X [a] ta)(hs:starEach [a] X.env=[(false,eval a X.env)]:=by rfl) :
  QI X (.Tuple I kk O) (.Call (.Name "enumerate" p) [a] [] pos) (iEnum b X.K ta):=⟨pi_enum hg hm ha.go hs⟩
def Zi {K:Av}{b:Bool}{a:Addr}{xs:List V}{g:TG}{tb:TS}{D:Ends}{σ:St}{H:Hp}(Pv:Nat->St->Hp->Prop)(h0:Pv 0 σ H)(hl:∀i σ H,i<=xs.length->Pv i σ H->DG b K H a xs)
  (hs:∀i x σ H p,xs[i]?=some x->Pv i σ H->H p=none->g (.ref p) σ (upd H p (.tup [.int i,x])) λσ2 H2=>tb {D with nx:=Pv (i+1),ct:=Pv (i+1),bk:=D.nx} σ2 H2)(hd:∀σ H,Pv xs.length σ H->D.nx σ H) :
  ∃W:Nat->Nat->St->Hp->Prop,(∃m,W 0 m σ H)/\∀i m σ H,W i m σ H ->
   ((Ite b K a).stop i H/\D.nx σ H)\/((Ite b K a).go i H/\∃N:St->Hp->Prop,(∀σ' H',N σ' H'->∃I,I<m/\W (i+1) I σ' H')/\∀x H',(Ite b K a).GF i H x H'->g x σ H' λσ2 H2=>tb {D with nx:=N,ct:=N,bk:=D.nx} σ2 H2):=by
 show Aq (λi m σ H=>m=xs.length-i/\i<=xs.length/\Pv i σ H) (Bx xs.length (by simp) (LN _) h0) ?_;rintro i m σ H ⟨rfl,hi,p⟩;have q:=hl i σ H hi p;by_cases O:i<xs.length
 .show .inr ⟨(C6 xs (xs[i]) q (by simp[O])),(Aq (Pv (i+1)) (λσ' H' Y=>(Dh (xs.length-(i+1)) (by omega) rfl O Y)) λx H' y=>?_)⟩;show Ia y λt x' ht z1 z2 e1=>?_;subst z1 z2;show hs i x' σ H t (e1 xs q) p ht
 .have:i=xs.length:=by omega
  subst this;show .inl ⟨(Aq xs q (JV _)),hd σ H p⟩
section
variable {E:Bo}
def Ur {b c:Bool}{z TI TO i1 i2 l1 l2:Addr}{n1 n2:Nat}{xs ys:Array Value}{x y u0 v0:Value}{Q:Option Value->Shared->Prop}(D:ZipApart z TI TO i1 i2 l1 l2)
   (hz:IsZip s.heap z TI TO .none)(hI:IsPair s.heap TI (.ref i1) (.ref i2))(hO:IsPair s.heap TO u0 v0)(u1:SI b s.heap i1 l1 n1)(u2:SI c s.heap i2 l2 n2)(q1:SQ b s.heap l1 xs)(q2:SQ c s.heap l2 ys)(hx:xs[n1]?=some x)(hy:ys[n2]?=some y)
   (k:∀h',IsZip h' z TI TO (rawInt s.heap.objs.size)->IsPair h' TO x y->SI b h' i1 l1 (n1+1)->SI c h' i2 l2 (n2+1)->IsPair h' s.heap.objs.size x y->h'.objs.size=s.heap.objs.size+1 ->
     (∀a o,a≠z->a≠TO->a≠i1->a≠i2->s.heap.get? a=some o->h'.get? a=some o)->Q (some (.ref s.heap.objs.size)) {s with heap:=h'}):wpAny (model prog w) A (pyNext (.ref z)) Q E s:=by
 have ty:s.TypeIs (.ref z) "zip":=(Ad hz rfl);unfold pyNext;show JQ (QH (LW (name:=Str.ofString "__next__") ty OF (MP OF ty F.entry_zip_next ?_ (F.args_zip_next_1 _))))
 show wpAny _ _ (field (.ref z) 2 >>= λ_=>_) _ _ _
 show JQ (LH hz rfl (x:=.bool false) rfl ?_)
 show wpAny _ _ (field (.ref z) 3 >>= λ_=>_) _ _ _
 show JQ (LH hz rfl (x:=.ref TI) rfl (JQ (NL hI rfl ?_)))
 show wpAny _ _ (Builtin.SmallTypes.ownedTupleIsFree (.ref z) >>= λ_=>_) _ _ _
 show JQ ?_
 delta Builtin.SmallTypes.ownedTupleIsFree
 show JQ (LH hz rfl (x:=.none) rfl (JW ?_));simp only[PD];show JQ (wpAny_rule (JQ (LH hz rfl (x:=.ref TO) rfl (JQ (MF hz (by simp) λh1 z1 s1=>?_)))));replace z1:IsZip h1 z TI TO .ellipsis:=z1;show JQ ?_;simp only[List.zipIdx_nil,List.zipIdx_cons,List.forIn_nil,List.forIn_cons];show JQ (JQ (wpAny_onRaise ?_))
 show wpAny _ _ (Builtin.SmallTypes.nextOf (.ref i1) >>= λ_=>_) _ _ _
 show JQ (Ez (u1.at λo e=>s1.extBut _ o D.i1z e) (q1.at λo e=>s1.extBut _ o D.l1z e) hx λh2 v1 s2=>JW ?_);have O2:IsPair h2 TO u0 v0:=s2.extBut _ _ D.TOi1 (s1.extBut _ _ D.TOz hO);show JQ (NL O2 rfl (JQ (wpAny_updateSeq_pair O2 λh3 O3 s3=>?_)));replace O3:IsPair h3 TO x v0:=O3;show JQ (wpAny_letGo (JW (JQ (JQ (wpAny_onRaise ?_)))))
 show wpAny _ _ (Builtin.SmallTypes.nextOf (.ref i2) >>= λ_=>_) _ _ _
 have a0:∀a o,a≠z->a≠i1->a≠TO->s.heap.get? a=some o->h3.get? a=some o:=λa o O Y a3 e=>s3.extBut _ o a3 (s2.extBut _ o Y (s1.extBut _ o O e));show JQ (Ez (u2.at λo e=>a0 _ o D.i2z D.i12.symm D.TOi2.symm e) (q2.at λo e=>a0 _ o D.l2z D.l2i1 D.l2TO e) hy λh4 v2 s4=>JW ?_);have O4:IsPair h4 TO x v0:=s4.extBut _ _ D.TOi2 O3;show JQ (NL O4 rfl (JQ (wpAny_updateSeq_pair O4 λI O5 s5=>?_)));replace O5:IsPair I TO x y:=O5;show JQ (wpAny_letGo (JW (JW (JQ (NL O5 rfl (JQ (wpAny_newTuple (?_))))))));have sz:I.objs.size=s.heap.objs.size:=by rw[s5.1,s4.1,s3.1,s2.1,s1.1]
 have z5:IsZip I z TI TO .ellipsis:=s5.extBut _ _ D.TOz.symm (s4.extBut _ _ D.i2z.symm (s3.extBut _ _ D.TOz.symm (s2.extBut _ _ D.i1z.symm z1)));have a5:∀a o,a≠z->a≠TO->a≠i1->a≠i2->s.heap.get? a=some o->I.get? a=some o:=λa o O Y a3 a4 e=>s5.extBut _ o Y (s4.extBut _ o a4 (a0 a o O a3 Y e));have w1:SI b I i1 l1 (n1+1):=v1.at λo e=>s5.extBut _ o D.TOi1.symm (s4.extBut _ o D.i12 (s3.extBut _ o D.TOi1.symm e));have w2:SI c I i2 l2 (n2+1):=v2.at λo e=>s5.extBut _ o D.TOi2.symm e;have lz:@LT.lt Nat _ z I.objs.size:=JZ z5
 show wpAny _ _ (Builtin.SmallTypes.ownedTupleHandOut (.ref z) (.ref I.objs.size) >>= λ_=>_) _ _ _
 show JQ ?_
 delta Builtin.SmallTypes.ownedTupleHandOut
 have z6:IsZip (I.push {cls:=.type "tuple",data:=.seq #[x,y]}) z TI TO .ellipsis:=JU _ z5;show JQ (MF z6 (by simp) λh7 z7 s7=>?_);replace z7:IsZip h7 z TI TO (rawInt I.objs.size):=z7;show MF z7 (by simp) λh8 z8 s8=>?_;replace z8:IsZip h8 z TI TO (rawInt I.objs.size):=z8;have up:∀a o,a≠z->I.get? a=some o->h8.get? a=some o:=λa o O e=>s8.extBut _ o O (s7.extBut _ o O (JU _ e));have T8:IsPair h8 I.objs.size x y:=s8.extBut _ _ (MK lz) (s7.extBut _ _ (MK lz) (KW _ rfl));have e8:h8.objs.size=I.objs.size+1:=by rw[s8.1,s7.1,MY]
 rw[sz]at z8 T8 e8;show JW (Ad rfl (JW ?_))
 show Q (some (.ref I.objs.size)) _
 rw[sz];show k h8 z8 (up _ _ D.TOz O5) (w1.at λo e=>up _ o D.i1z e) (w2.at λo e=>up _ o D.i2z e) T8 e8 λa o O Y a3 a4 e=>up a o O (a5 a o O Y a3 a4 e)
def Xw {b c:Bool}{z TI TO i1 i2 l1 l2:Addr}{n1 n2:Nat}{xs ys:Array Value}{u0 v0:Value}{Q:Option Value->Shared->Prop}(hh:A.handled=none)(D:ZipApart z TI TO i1 i2 l1 l2)
  (hz:IsZip s.heap z TI TO .none)(hI:IsPair s.heap TI (.ref i1) (.ref i2))(hO:IsPair s.heap TO u0 v0)(u1:SI b s.heap i1 l1 n1)(u2:SI c s.heap i2 l2 n2)(q1:SQ b s.heap l1 xs)(q2:SQ c s.heap l2 ys)(a6:xs[n1]?=none\/ys[n2]?=none)
  (k:∀h',(∀a o,a≠z->a≠TO->a≠i1->a≠i2->s.heap.get? a=some o->h'.get? a=some o)->Q none {s with heap:=h'}):wpAny (model prog w) A (pyNext (.ref z)) Q E s:=by
 have ty:s.TypeIs (.ref z) "zip":=(Ad hz rfl);unfold pyNext;show JQ (QH (LW (name:=Str.ofString "__next__") ty OF (MP OF ty F.entry_zip_next ?_ (F.args_zip_next_1 _))))
 show wpAny _ _ (field (.ref z) 2 >>= λ_=>_) _ _ _
 show JQ (LH hz rfl (x:=.bool false) rfl ?_)
 show wpAny _ _ (field (.ref z) 3 >>= λ_=>_) _ _ _
 show JQ (LH hz rfl (x:=.ref TI) rfl (JQ (NL hI rfl ?_)))
 show wpAny _ _ (Builtin.SmallTypes.ownedTupleIsFree (.ref z) >>= λ_=>_) _ _ _
 show JQ ?_
 delta Builtin.SmallTypes.ownedTupleIsFree
 show JQ (LH hz rfl (x:=.none) rfl (JW ?_));simp only[PD];show JQ (wpAny_rule (JQ (LH hz rfl (x:=.ref TO) rfl (JQ (MF hz (by simp) λh1 z1 s1=>?_)))));replace z1:IsZip h1 z TI TO .ellipsis:=z1;show JQ ?_;simp only[List.zipIdx_nil,List.zipIdx_cons,List.forIn_nil,List.forIn_cons];show JQ (JQ (wpAny_onRaise ?_))
 show wpAny _ _ (Builtin.SmallTypes.nextOf (.ref i1) >>= λ_=>_) _ _ _
 have stop:∀(h':Heap) (e:Addr),IsZip h' z TI TO .ellipsis->(∃o,h'.get? e=some o/\o.cls=.type "StopIteration")->(∀a o,a≠z->a≠TO->a≠i1->a≠i2->s.heap.get? a=some o->h'.get? a=some o) ->
   wpAny (model prog w) A.in1 (setField (.ref z) 0 .none) (λ_ s'=>∃o,s'.heap.get? e=some o/\o.cls=.type "StopIteration"/\∃I,s'={s with heap:=I}/\∀a o,a≠z->a≠TO->a≠i1->a≠i2->s.heap.get? a=some o->I.get? a=some o) (λ_ _=>False) {s with heap:=h'}:=λh' e zz ⟨oe,ge,ce⟩ up=>by
  have a5:e≠z:=λx=>by subst x;rw[zz]at ge;cases ge;simp at ce
  show MF (s:={s with heap:=h'}) zz (by simp) λI _ sb=>(Bx oe (sb.extBut _ _ a5 ge) ce (Aq I rfl λa o O a2 Y a4 x=>sb.extBut _ _ O (up a o O a2 Y a4 x)))
 have fin:∀(e:Addr) (s':Shared),(∃o,s'.heap.get? e=some o/\o.cls=.type "StopIteration"/\∃I,s'={s with heap:=I}/\∀a o,a≠z->a≠TO->a≠i1->a≠i2->s.heap.get? a=some o->I.get? a=some o) ->
   (∃o,s'.heap.get? e=some o/\o.cls=.type "StopIteration")/\Q none s':=λe s' ⟨o,g,c,I,eq,up⟩=>⟨(Aq o g c),by rw[eq];show k I up⟩
 cases hx:xs[n1]? with
 | none=>
  show JQ (Hs hh (u1.at λo e=>s1.extBut _ o D.i1z e) (q1.at λo e=>s1.extBut _ o D.l1z e) hx λh2 e s2 he=>NY (stop h2 e (s2 _ _ D.i1z.symm z1) he λa o O a2 Y a4 x=>s2 _ _ Y (s1.extBut _ _ O x)) (λ_ s' y=>?_) λ_ _ y=>y.elim);obtain⟨g,q⟩:=fin e s' y;show JQ (OV (T:="StopIteration") (b:=true) g QZ (JW q))
 | some x=>
  have hy:ys[n2]?=none:=by rcases a6 with h|h;rw[hx]at h;cases h;show h
  show JQ (Ez (u1.at λo e=>s1.extBut _ o D.i1z e) (q1.at λo e=>s1.extBut _ o D.l1z e) hx λh2 v1 s2=>JW ?_);have O2:IsPair h2 TO u0 v0:=s2.extBut _ _ D.TOi1 (s1.extBut _ _ D.TOz hO);show JQ (NL O2 rfl (JQ (wpAny_updateSeq_pair O2 λh3 O3 s3=>JQ (wpAny_letGo (JW (JQ (JQ (wpAny_onRaise ?_))))))))
  show wpAny _ _ (Builtin.SmallTypes.nextOf (.ref i2) >>= λ_=>_) _ _ _
  have a0:∀a o,a≠z->a≠i1->a≠TO->s.heap.get? a=some o->h3.get? a=some o:=λa o O a2 Y e=>s3.extBut _ o Y (s2.extBut _ o a2 (s1.extBut _ o O e));show JQ (Hs hh (u2.at λo e=>a0 _ o D.i2z D.i12.symm D.TOi2.symm e) (q2.at λo e=>a0 _ o D.l2z D.l2i1 D.l2TO e) hy λh4 e s4 he=>?_);have z4:IsZip h4 z TI TO .ellipsis:=s4 _ _ D.i2z.symm (s3.extBut _ _ D.TOz.symm (s2.extBut _ _ D.i1z.symm z1));show NY (stop h4 e z4 he λa o O a2 Y a4 x=>s4 _ _ a4 (a0 a o O Y a2 x)) (λ_ s' y=>?_) λ_ _ y=>y.elim;obtain⟨g,q⟩:=fin e s' y;show JQ (OV (T:="StopIteration") (b:=true) g QZ (JW q))
end
noncomputable def kdI (b:Bool):String:=if b=true then "list_iterator" else "tuple_iterator"
abbrev zB1 (b:Bool)(h:Heap)(l1:Addr):Heap:=h.push {cls:=.type (kdI b),data:=.fields #[.ref l1,.int 0 0]}
abbrev zB2 (b c:Bool)(h:Heap)(l1 l2:Addr):Heap:=(zB1 b h l1).push {cls:=.type (kdI c),data:=.fields #[.ref l2,.int 0 0]}
abbrev zB3 (b c:Bool)(h:Heap)(l1 l2:Addr):Heap:=(zB2 b c h l1 l2).push {cls:=.type "tuple",data:=.seq #[.ref h.objs.size,.ref (zB1 b h l1).objs.size]}
abbrev zB4 (b c:Bool)(h:Heap)(l1 l2:Addr):Heap:=(zB3 b c h l1 l2).push {cls:=.type "tuple",data:=.seq #[.none,.none]}
abbrev zB5 (b c:Bool)(h:Heap)(l1 l2:Addr):Heap:=(zB4 b c h l1 l2).push {cls:=.type "zip",data:=.fields #[.none,.bool false,.bool false,.ref (zB2 b c h l1 l2).objs.size,.ref (zB3 b c h l1 l2).objs.size]}
def Xe (l1 l2:Addr)(xs ys:Array Value) :
  Meets (Builtin.«zip.__new__» ⟨[.type "zip",.ref l1,.ref l2],[]⟩) (λ_ R s=>s.heap.IsTuple l1 xs/\s.heap.IsTuple l2 ys/\R (.ok (.ret (.ref (zB4 false false s.heap l1 l2).objs.size))) {s with heap:=zB5 false false s.heap l1 l2}):=
 .of_wp λprog w A R s h=>by
  obtain⟨I,g,d,tk,os⟩:=s;obtain⟨Y,q2,h⟩:=h;have sub:=sub_zip;have O:Heap.IsTuple (Shared.heap ⟨I,g,d,tk,os⟩) l1 xs:=Y;have L2:Heap.IsTuple (Shared.heap ⟨I.push {cls:=.type "tuple_iterator",data:=.fields #[.ref l1,.int 0 0]},g,d,tk,os⟩) l2 ys:=Heap.IsTuple.at q2 λo e=>JU _ e
  wp_walk using MR O,MR L2
  show⟨_,rfl,h⟩
def Xd (l1 l2:Addr)(xs ys:Array Value) :
  Meets (Builtin.«zip.__new__» ⟨[.type "zip",.ref l1,.ref l2],[]⟩) (λ_ R s=>s.heap.IsTuple l1 xs/\s.heap.IsList l2 ys/\R (.ok (.ret (.ref (zB4 false true s.heap l1 l2).objs.size))) {s with heap:=zB5 false true s.heap l1 l2}):=
 .of_wp λprog w A R s h=>by
  obtain⟨I,g,d,tk,os⟩:=s;obtain⟨Y,q2,h⟩:=h;have sub:=sub_zip;have O:Heap.IsTuple (Shared.heap ⟨I,g,d,tk,os⟩) l1 xs:=Y;have L2:Heap.IsList (Shared.heap ⟨I.push {cls:=.type "tuple_iterator",data:=.fields #[.ref l1,.int 0 0]},g,d,tk,os⟩) l2 ys:=Heap.IsList.at q2 λo e=>JU _ e
  wp_walk using MR O,NG L2
  show⟨_,rfl,h⟩
def Xc (l1 l2:Addr)(xs ys:Array Value) :
  Meets (Builtin.«zip.__new__» ⟨[.type "zip",.ref l1,.ref l2],[]⟩) (λ_ R s=>s.heap.IsList l1 xs/\s.heap.IsTuple l2 ys/\R (.ok (.ret (.ref (zB4 true false s.heap l1 l2).objs.size))) {s with heap:=zB5 true false s.heap l1 l2}):=
 .of_wp λprog w A R s h=>by
  obtain⟨I,g,d,tk,os⟩:=s;obtain⟨Y,q2,h⟩:=h;have sub:=sub_zip;have O:Heap.IsList (Shared.heap ⟨I,g,d,tk,os⟩) l1 xs:=Y;have L2:Heap.IsTuple (Shared.heap ⟨I.push {cls:=.type "list_iterator",data:=.fields #[.ref l1,.int 0 0]},g,d,tk,os⟩) l2 ys:=Heap.IsTuple.at q2 λo e=>JU _ e
  wp_walk using NG O,MR L2
  show⟨_,rfl,h⟩
def Xb (l1 l2:Addr)(xs ys:Array Value) :
  Meets (Builtin.«zip.__new__» ⟨[.type "zip",.ref l1,.ref l2],[]⟩) (λ_ R s=>s.heap.IsList l1 xs/\s.heap.IsList l2 ys/\R (.ok (.ret (.ref (zB4 true true s.heap l1 l2).objs.size))) {s with heap:=zB5 true true s.heap l1 l2}):=
 .of_wp λprog w A R s h=>by
  obtain⟨I,g,d,tk,os⟩:=s;obtain⟨Y,q2,h⟩:=h;have sub:=sub_zip;have O:Heap.IsList (Shared.heap ⟨I,g,d,tk,os⟩) l1 xs:=Y;have L2:Heap.IsList (Shared.heap ⟨I.push {cls:=.type "list_iterator",data:=.fields #[.ref l1,.int 0 0]},g,d,tk,os⟩) l2 ys:=Heap.IsList.at q2 λo e=>JU _ e
  wp_walk using NG O,NG L2
  show⟨_,rfl,h⟩
def Ac7 (b c:Bool)(l1 l2:Addr)(xs ys:Array Value) :
  Meets (Builtin.«zip.__new__» ⟨[.type "zip",.ref l1,.ref l2],[]⟩) (λ_ R s=>SQ b s.heap l1 xs/\SQ c s.heap l2 ys/\R (.ok (.ret (.ref (zB4 b c s.heap l1 l2).objs.size))) {s with heap:=zB5 b c s.heap l1 l2}):=by
 cases b<;>cases c
 .show Xe l1 l2 xs ys
 .show Xd l1 l2 xs ys
 .show Xc l1 l2 xs ys
 .show Xb l1 l2 xs ys
def SI.made (e:h.get? it=some {cls:=.type (kdI b),data:=.fields #[.ref l,.int 0 0]}):SI b h it l 0:=by
 cases b
 .show Bh e rfl rfl
 .show Bh e rfl rfl
section
variable {E:Bo}
def Ao7 {Q:Bo}(q1:SQ b s.heap l1 xs)(q2:SQ c s.heap l2 ys)
   (k:∀h',IsZip h' (s.heap.objs.size+4) (s.heap.objs.size+2) (s.heap.objs.size+3) .none->IsPair h' (s.heap.objs.size+2) (.ref s.heap.objs.size) (.ref (s.heap.objs.size+1))->IsPair h' (s.heap.objs.size+3) .none .none ->
     SI b h' s.heap.objs.size l1 0->SI c h' (s.heap.objs.size+1) l2 0->h'.objs.size=s.heap.objs.size+5->(∀a o,s.heap.get? a=some o->h'.get? a=some o)->Q (.ref (s.heap.objs.size+4)) {s with heap:=h'}) :
   wpAny (model prog w) A (call (.type "zip") [.ref l1,.ref l2]) Q E s:=by
 show callType_new F.called_zip (by decide) (F.typeCall_zip_2 _ _) (F.newCall_zip_2 _ _) (λobj=>F.args_object_init_3 obj _ _) F.entry_zip_new (Ac7 b c l1 l2 xs ys) (Az q1 q2 ?_);have e1:(zB1 b s.heap l1).objs.size=s.heap.objs.size+1:=MY ..;have e2:(zB2 b c s.heap l1 l2).objs.size=s.heap.objs.size+2:=by rw[MY,e1]
 have I:(zB3 b c s.heap l1 l2).objs.size=s.heap.objs.size+3:=by rw[MY,e2]
 have O:(zB4 b c s.heap l1 l2).objs.size=s.heap.objs.size+4:=by rw[MY,I]
 have e5:(zB5 b c s.heap l1 l2).objs.size=s.heap.objs.size+5:=by rw[MY,O]
 have up:∀{h:Heap} {o:Obj} {a:Addr} {u:Obj},h.get? a=some u->(h.push o).get? a=some u:=λe=>JU _ e;have Y:(zB5 b c s.heap l1 l2).get? (zB4 b c s.heap l1 l2).objs.size=some _:=KW _ rfl;have g4:(zB5 b c s.heap l1 l2).get? (zB3 b c s.heap l1 l2).objs.size=some _:=up (KW _ rfl);have g3:(zB5 b c s.heap l1 l2).get? (zB2 b c s.heap l1 l2).objs.size=some _:=up (up (KW _ rfl));have g2:(zB5 b c s.heap l1 l2).get? (zB1 b s.heap l1).objs.size=some _:=up (up (up (KW _ rfl)));have g1:(zB5 b c s.heap l1 l2).get? s.heap.objs.size=some _:=up (up (up (up (KW _ rfl))))
 show _/\_
 rw[e2,I,O]at Y;rw[e1,e2]at g3;rw[I]at g4;rw[e1]at g2;rw[O];show⟨(Ad Y rfl),k _ Y g3 g4 (.made g1) (.made g2) e5 λa o x=>up (up (up (up (up x))))⟩
end
noncomputable def Ap1 (b c:Bool)(K:Av)(l1 l2:Addr):It:=
 ⟨λi H=>∃xs ys x y,DG b K H l1 xs/\DG c K H l2 ys/\xs[i]?=some x/\ys[i]?=some y,
  λi H v H'=>∃p x y,H p=none/\v=.ref p/\H'=upd H p (.tup [x,y])/\(∀xs,DG b K H l1 xs->xs[i]?=some x)/\∀ys,DG c K H l2 ys->ys[i]?=some y,
  λi H=>∃xs ys,DG b K H l1 xs/\DG c K H l2 ys/\(xs.length<=i\/ys.length<=i)⟩
def zBn (b c:Bool)(z TI TO i1 i2 l1 l2:Addr)(i:Nat)(h:Heap):Prop:=IsZip h z TI TO .none/\IsPair h TI (.ref i1) (.ref i2)/\(∃u v,IsPair h TO u v)/\SI b h i1 l1 i/\SI c h i2 l2 i
theorem Ak5 {P:Program}{w:World}{K:Av}{b c:Bool}{aD:List Expr}{kk}{pos:Pos}{l1 l2 z TI TO i1 i2:Addr}(D:ZipApart z TI TO i1 i2 l1 l2) :
  Turn P w K (.Tuple aD kk pos) (Ap1 b c K l1 l2) [i1,i2,TI,TO,z] z (zBn b c z TI TO i1 i2 l1 l2) where
 mem:=by simp
 obj:=λi h st a ha=>by
  show Ma st λhz Y z1 u1 u2=>?_;obtain⟨u,v,hO⟩:=z1;simp only[JT,KU,MB]at ha
  rcases ha with rfl|rfl|rfl|rfl|rfl
  .show u1.obj
  .show u2.obj
  .show Ad Y λv z=>(nomatch z)
  .show Ad hO λv z=>(nomatch z)
  .show Ad hz λv z=>(nomatch z)
 keep:=λi h h' st k=>by
  show Ma st λhz Y z1 u1 u2=>?_;obtain⟨u,v,hO⟩:=z1;show Fb (k _ (by simp) _ hz) (k _ (by simp) _ Y) (Uj u v (k _ (by simp) _ hO)) (u1.at λo e=>k _ (by simp) o e) (u2.at λo e=>k _ (by simp) o e)
 item:=by
  intro X hP hw hK O i pins s σ H E I hf st hg;subst hP hw hK;show Zr hg λxs ys x y a1 a2 hx hy=>?_;show Ma st λhz Y z1 u1 u2=>?_;obtain⟨u0,v0,hO⟩:=z1;show Bg (I.sq a1) λaE a3 pa za=>Bg (I.sq a2) λaF a4 pb zb=>Am (a3.get hx) λu hu ru=>Am (a4.get hy) λv hv rv=>Ur D hz Y hO u1 u2 pa pb (x:=u) (y:=v) (by simpa using hu) (by simpa using hv) λh' z1 p1 n1 n2 t1 aG k1=>Ad rfl (wpAny_letOwnedTupleGo_zip (s:={s with heap:=h'}) z1 λa0 z2 sb=>?_);have a8:s.heap.objs.size≠z:=MK (JZ hz);have up:∀c o,c≠z->h'.get? c=some o->a0.get? c=some o:=λc o a9 e=>(sb.2 c a9).trans e;have tT:IsPair a0 s.heap.objs.size u v:=up _ _ a8 t1;have kk:∀c o,c∉[i1,i2,TI,TO,z]->s.heap.get? c=some o->a0.get? c=some o:=λc o O e=>by
   simp only[JT,KU,MB,QR]at O;show up c o O.2.2.2.2 (k1 c o O.2.2.2.2 O.2.2.2.1 O.1 O.2.1 e)
  have tI:IsPair a0 TI (.ref i1) (.ref i2):=up _ _ D.TIz (k1 TI _ D.TIz D.TITO D.TIi1 D.TIi2 Y);have a5:zBn b c z TI TO i1 i2 l1 l2 (i+1) a0:=(Fb z2 tI (Uj u v (up _ _ D.TOz p1)) (n1.at λo e=>up _ o D.i1z e) (n2.at λo e=>up _ o D.i2z e));have kt:∀a∈[i1,i2,TI,TO,z],∃o,a0.get? a=some o:=λa ha=>by
   show Ma a5 λaB a6 z1 y1 y2=>?_;obtain⟨u',v',a7⟩:=z1;simp only[JT,KU,MB]at ha
   rcases ha with rfl|rfl|rfl|rfl|rfl
   .show Am y1.obj λo e _=>⟨o,e⟩
   .show Am y2.obj λo e _=>⟨o,e⟩
   .show⟨_,a6⟩
   .show⟨_,a7⟩
   .show⟨_,aB⟩
  have I1:Inv X pins σ (upd H s.heap.objs.size (.tup [x,y])) {s with heap:=a0}:=
   I.IS (t':=s.toks) (its:=[u,v]) hf kk kt (JV _) (zl 2) (.cons ru (.cons rv .nil)) (Bh tT rfl ⟨_,rfl⟩)
  show Jr (.ref s.heap.objs.size) _ I1 rfl (Ep _ x y I.fresh rfl rfl (λaC h=>by rw[I.IK h a1];show hx) λaC h=>by rw[I.IK h a2];show hy) a5 λa ha=>?_;rw[Aj ?_]
  .show (hf a ha).1
  .intro e;have aA:a<s.heap.objs.size:=by
    simp only[JT,KU,MB]at ha
    rcases ha with rfl|rfl|rfl|rfl|rfl
    .show Am u1.obj λo e _=>JZ e
    .show Am u2.obj λo e _=>JZ e
    .show JZ Y
    .show JZ hO
    .show JZ hz
   show absurd aA (by rw[e];show NK _)
 done:=by
  intro X hP hw hK O i pins s σ H E I hf st hg;subst hP hw hK;show A0 hg λxs ys a1 a2 hl=>?_;show Ma st λhz Y z1 u1 u2=>?_;obtain⟨u0,v0,hO⟩:=z1;show Bg (I.sq a1) λaE a3 pa za=>Bg (I.sq a2) λaF a4 pb zb=>?_;have e1:=a3.length;have e2:=a4.length;show Xw (I.ok.hd O) D hz Y hO u1 u2 pa pb ?_ λh' k1=>⟨rfl,I.JC (t':=s.toks) hf λc o O e=>?_⟩
  .rcases hl with h|h
   .show .inl (by simp;omega)
   .show .inr (by simp;omega)
  .simp only[JT,KU,MB,QR]at O;show k1 c o O.2.2.2.2 O.2.2.2.1 O.1 O.2.1 e
 self:=λ_ _ _ _ _ st h=>wpAny_pyIter_zip st.1 h
def iZipB (b c:Bool)(K:Av)(ta:TA):TI:=λσ H R=>ta σ H λvs H1=>∃l1 l2,vs=[.ref l1,.ref l2]/\(∃xs,DG b K H1 l1 xs)/\(∃ys,DG c K H1 l2 ys)/\R (Ap1 b c K l1 l2) H1
def ZipAt (X:Cx)(pins:Ej)(σ:St)(R:Addr->Addr->Hp->Prop)(b c:Bool)(v:Value)(s2:Shared):Prop:=∃(z TI TO i1 i2 l1 l2:Addr) (H1:Hp),v=.ref z/\Inv X pins σ H1 s2/\ZipApart z TI TO i1 i2 l1 l2/\zBn b c z TI TO i1 i2 l1 l2 0 s2.heap/\(∀a∈[i1,i2,TI,TO,z],Le X pins H1 a)/\(∀a∈[i1,i2,TI,TO,z],a≠l1/\a≠l2)/\R l1 l2 H1
def Va (hg:Gl X "zip")(hm:X.mg "zip"=none)(ha:PA X [x,y] ta)(hs:starEach [x,y] X.env=[(false,eval x X.env),(false,eval y X.env)])(a1:starEach [y] X.env=[(false,eval y X.env)])
 {R:Addr->Addr->Hp->Prop}(a0:Inv X pins σ H s)(h:ta σ H λvs H1=>∃l1 l2,vs=[.ref l1,.ref l2]/\(∃xs,DG b X.K H1 l1 xs)/\(∃ys,DG c X.K H1 l2 ys)/\R l1 l2 H1):wpAny (model X.prog X.w) X.A (eval (.Call (.Name "zip" p) [x,y] [] pos) X.env) (ZipAt X pins σ R b c) X.xe s:=by
 show Call_ (Ly a0 hg hm boot_zip (MV (AT (ha pos pins s σ H _ a0 h) λus s1 ⟨vs,H1,O,r1,q1⟩=>?_) (by rw[hs,a1]) (by rw[a1];rfl)));show Ia q1 λl1 l2 e z1 z2 q=>?_;obtain⟨xs,a3⟩:=z1;obtain⟨ys,a4⟩:=z2;subst e
 cases r1 with
 | cons r rr=>
  cases rr with
  | cons r' rr=>
   cases rr;cases r;cases r';show Bg (O.sq a3) λa9 a7 pa za=>Bg (O.sq a4) λaA a8 pb zb=>?_;have a2:∀{b:Bool} {l:Addr} {xs:Array Value},SQ b s1.heap l xs->@LT.lt Nat _ l s1.heap.objs.size:=fun {b l xs} q=>by
    cases b
    .show Am ((show s1.heap.IsTuple l xs from q)) λo e _=>JZ e
    .show Am ((show s1.heap.IsList l xs from q)) λo e _=>JZ e
   have a5:=a2 pa;have a6:=a2 pb;show Ao7 pa pb λh' z1 p1 p2 n1 n2 sz k1=>?_;have up:∀{m n:Nat},m<n->n≠m:=λh=>MK h;have I:∀{m n:Nat},m<n->m≠n:=λh=>LF h
   show Cw (s1.heap.objs.size+4) _ _ _ _ l1 (Km l2 H1 rfl (O.kept (t':=s1.toks) k1)
    ⟨I (by omega),I (by omega),I (by omega),I (by omega),I (by omega),up (by omega),up (by omega),up (by omega),up (by omega),I (by omega),I (by omega),I (by omega),I (by omega),I (by omega),I (by omega),I (by omega),I (by omega),I (by omega)⟩ (Fb z1 p1 (Jn p2) n1 n2) (λa ha=>?_) ⟨λa ha=>?_,q⟩)
   rotate_left
   .have Y:s1.heap.objs.size<=a:=by
     simp only[JT,KU,MB]at ha
     rcases ha with rfl|rfl|rfl|rfl|rfl<;>omega
    show⟨MK (LD a5 Y),MK (LD a6 Y)⟩
   have Y:s1.heap.objs.size<=a:=by
    simp only[JT,KU,MB]at ha
    rcases ha with rfl|rfl|rfl|rfl|rfl<;>omega
   show O.IM Y (O.AU.fresh Y)
def pi_zipB {kk}(hg:Gl X "zip")(hm:X.mg "zip"=none)(ha:PA X [x,y] ta)(hs:starEach [x,y] X.env=[(false,eval x X.env),(false,eval y X.env)]:=by rfl)(a0:starEach [y] X.env=[(false,eval y X.env)]:=by rfl) :
  PI X (.Tuple a1 kk a2) (.Call (.Name "zip" p) [x,y] [] pos) (iZipB b c X.K ta):=by
 intro pins s σ H R I h;show AT (Va (R:=λl1 l2 H1=>R (Ap1 b c X.K l1 l2) H1) hg hm ha hs a0 I h) λv s1 Y=>?_;show Dc Y λz TI TO i1 i2 l1 z1=>Kq z1 λl2 H1 e O D st f z2=>?_;obtain⟨_,q⟩:=z2;subst e;show wpAny_pyIter_zip st.1 (F5 z _ _ _ H1 rfl O (Ak5 D) st f q)
def Ag3 {kk}(hg:Gl X "zip")(hm:X.mg "zip"=none)(ha:QA X [x,y] ta)(hs:starEach [x,y] X.env=[(false,eval x X.env),(false,eval y X.env)]:=by rfl)(I:starEach [y] X.env=[(false,eval y X.env)]:=by rfl) :
  QI X (.Tuple O kk Y) (.Call (.Name "zip" p) [x,y] [] pos) (iZipB b c X.K ta):=⟨pi_zipB hg hm ha.go hs I⟩
def Zh {K:Av}{b c:Bool}{l1 l2:Addr}{xs ys:List V}{g:TG}{tb:TS}{D:Ends}{σ:St}{H:Hp}(Pv:Nat->St->Hp->Prop)(h0:Pv 0 σ H)(hl:∀i σ H,i<=xs.length->Pv i σ H->DG b K H l1 xs/\DG c K H l2 ys)(a2:xs.length=ys.length)
  (hs:∀i x y σ H p,xs[i]?=some x->ys[i]?=some y->Pv i σ H->H p=none->g (.ref p) σ (upd H p (.tup [x,y])) λσ2 H2=>tb {D with nx:=Pv (i+1),ct:=Pv (i+1),bk:=D.nx} σ2 H2)(hd:∀σ H,Pv xs.length σ H->D.nx σ H) :
  ∃W:Nat->Nat->St->Hp->Prop,(∃m,W 0 m σ H)/\∀i m σ H,W i m σ H ->
   ((Ap1 b c K l1 l2).stop i H/\D.nx σ H)\/((Ap1 b c K l1 l2).go i H/\∃N:St->Hp->Prop,(∀σ' H',N σ' H'->∃Y,Y<m/\W (i+1) Y σ' H')/\∀x H',(Ap1 b c K l1 l2).GF i H x H'->g x σ H' λσ2 H2=>tb {D with nx:=N,ct:=N,bk:=D.nx} σ2 H2):=by
 show Aq (λi m σ H=>m=xs.length-i/\i<=xs.length/\Pv i σ H) (Bx xs.length (by simp) (LN _) h0) ?_;rintro i m σ H ⟨rfl,hi,p⟩;obtain⟨I,O⟩:=hl i σ H hi p;by_cases a0:i<xs.length
 .have a1:i<ys.length:=by omega
  show .inr ⟨(ii43 xs ys (xs[i]) (ys[i]) I O (by simp[a0]) (by simp[a1])),(Aq (Pv (i+1)) (λσ' H' p'=>(Dh (xs.length-(i+1)) (by omega) rfl a0 p')) λx H' y=>?_)⟩;show L9 y λt x' y' ht z1 z2 e1 e2=>?_;subst z1 z2;show hs i x' y' σ H t (e1 xs I) (e2 ys O) p ht
 .have:i=xs.length:=by omega
  subst this;show .inl ⟨(Al xs ys I O (.inl (JV _))),hd σ H p⟩
def mroD:mroOf (.type "dict")=pure [.type "dict",.type "object"]:=by rw[mroOf_type];kernel_rfl
def newD:typeLookup (.type "dict") "__new__"=pure (some (.builtin "dict.__new__")):=by rw[typeLookup_type,builtinLookup_eq_fast];kernel_rfl
def calledD:TypeCalled "dict" "dict.__new__" "dict.__init__":=
 ⟨by decide +kernel,by decide +kernel,(Jn mroD),madeBy_type mroD newD (by decide +kernel),by decide +kernel,by rw[isSubtype_type];kernel_rfl,PySem.F.slot_dict_init⟩
def Ak3 (a:Value):checkTypeCall "dict" ⟨[a],[]⟩=pure ():=by kernel_rfl
def newCallD (a:Value):checkBuiltinCall "dict.__new__" ⟨[.type "dict",a],[]⟩=pure ():=by kernel_rfl
def entryD:entryFor table "dict.__new__"=some Builtin.«dict.__new__»:=entryFor_of_tree (by kernel_rfl)
def subD:isSubtype (.type "dict") (.type "dict")=pure true:=by rw[isSubtype_type];kernel_rfl
def Ac8 (a:Value):Meets (Builtin.«dict.__new__» ⟨[.type "dict",a],[]⟩) (λ_ R s=>R (.ok (.ret (.ref s.heap.objs.size))) {s with heap:=s.heap.push {cls:=.type "dict",data:=.dict #[]}}):=
 .of_wp λprog w A R s h=>by
  obtain⟨I,g,d,tk,os⟩:=s;have s1:=subD;have s2:=mroD
  wp_walk
  show Ad rfl h
def Ap2:typeLookup (.type "zip") "__getattr__"=pure none:=by rw[typeLookup_type,builtinLookup_eq_fast];kernel_rfl
def Z3:typeLookup (.type "zip") "keys"=pure none:=by rw[typeLookup_type,builtinLookup_eq_fast];kernel_rfl
def zip_ga:entryFor table "zip.__getattribute__"=some Builtin.«object.__getattribute__»:=
 entryFor_alias (id':="object.__getattribute__") (by kernel_rfl) (by first|rfl|decide +kernel|(unfold String.splitOn;simp +decide [String.splitOnAux])) (by decide +kernel) (by kernel_rfl)
def Te (z TI TO:Addr)(f0:Value)(u:Tok) :
  Meets (Builtin.«object.__getattribute__» ⟨[.ref z,.str "keys" u],[]⟩) (λA R s=>IsZip s.heap z TI TO f0/\raisesAttr (.ref z) "keys" A R s):=
 Meets.of_wp λprog w A R s hs=>by
  obtain⟨I,g,d,tk,os⟩:=s;obtain⟨hx,hs⟩:=hs;have O:(⟨I,g,d,tk,os⟩:Shared).TypeIs (.ref z) "zip":=(Ad hx rfl);have nk:=Z3;unfold Builtin.«object.__getattribute__»
  repeat (any_goals (first|assumption|wp_step))
  show wpAny_raiseAttrError hs.1 hs.2 (attrMsg_fits (by decide +kernel) (by decide))
def Ap3 {E:Bo}{z TI TO:Addr}{Q:Option Value->Shared->Prop}(Y:IsZip s.heap z TI TO f0)(hA:A.handled=none)
  (k:∀h' tk,(∀b o,s.heap.get? b=some o->h'.get? b=some o)->Q none {s with heap:=h',toks:=tk}):wpAny (model prog w) A (getAttr? (.ref z) "keys") Q E s:=by
 obtain⟨hp,g,d,tk,os⟩:=s;have O:∀I,(⟨hp,g,d,I,os⟩:Shared).TypeIs (.ref z) "zip":=λ_=>(Ad Y rfl);have f1:=sub_AttributeError;have f3:=OZ.lookup;have f4:=OZ.bind (.ref z);have f5:=Ap2;unfold getAttr? getAttrBy? getAttrBy
 repeat (any_goals (first|assumption|show O _|((with_reducible show wpAny _ _ (call (Value.builtin "zip.__getattribute__") _ _) _ _ _);show OQ OZ (O _) zip_ga (PySem.F.args_zip_getattribute_2 _ _) (Te z TI TO f0 _) (Az Y hA λh' I e a0=>?_))|wp_step))
 show Zt a0.there λt' u' he=>?_
 show wpAny _ _ (getattributeRaised _ _ _ _ _ _ _) _ _ _
 unfold getattributeRaised
 repeat (any_goals (first|assumption|wp_step))
 show k h' I a0.keeps
def Z1 {E:Bo}{Q Q₁:Bo}(I:TypeCalled T newId initId)
  (c1:checkTypeCall T ⟨args,[]⟩=pure ())(c2:checkBuiltinCall newId ⟨.type T::args,[]⟩=pure ())(n1:entryFor table newId=some Bn)(n2:entryFor table initId=some Bi)(g:Meets (Bn ⟨.type T::args,[]⟩) S)(h:S A.in1 (wants Q₁ E) s)
  (nx:∀obj Y,Q₁ obj Y->Y.TypeIs obj T/\argsOk initId ⟨obj::args,[]⟩/\∃O,MeetsIn prog w (Bi ⟨obj::args,[]⟩) O/\O A.in1 (wants (λr s₂=>r=.none/\Q obj s₂) E) Y) :
  wpAny (model prog w) A (call (.type T) args) Q E s:=by
 show Zt I.mro λc tl m1=>?_;have m2:=I.made;have m3:=I.sub;show wpAny_call (codeAny_of_tree (?_))
 show wpAny _ _ (callAny (.type T) ⟨args,[]⟩) _ _ _
 show JW ⟨Code.quiet_builtin _ (by decide +kernel),codeAny_builtin F.entry_type_call (?_)⟩;rw[Around.under_plain (weight_type_call_type T args []) (units_type_call_type T args [])];have m4:=I.notType;have m5:=I.canCreate
 repeat (any_goals (first|assumption|wp_step))
 show OI (PR I.plain n1 (wpAny_of_eq c2 (g prog w A.in1 _ s h))) λr s1 y=>?_
 cases r with
 | error e=>show y
 | ok fl=>
  cases fl with
  | ret obj=>
   show Ch (nx _ _ y) λhT ok z1=>Am z1 λO gi z=>?_;have m6:=I.init.lookup;have m7:=I.init.bind obj
   repeat (any_goals (first|assumption|wp_step))
   show OI (PR I.init.plain n2 (I.init.check _ _ _ _ _ _ _ _ hT ok (gi A.in1 _ s1 z))) λr2 s2 y2=>?_
   cases r2 with
   | error e=>show y2
   | ok a0=>
    cases a0 with
    | ret r=>
     obtain⟨rfl,q⟩:=y2
     repeat (any_goals (first|assumption|wp_step))
    | _=>show y2.elim
  | _=>show y.elim
def Ty {E:Bo}{Q:Bo}(g:MeetsIn prog w (Builtin.«dict.__init__» ⟨[.ref s.heap.objs.size,x],[]⟩) I)
  (h:I A.in1 (wants (λr s2=>r=.none/\Q (.ref s.heap.objs.size) s2) E) {s with heap:=s.heap.push {cls:=.type "dict",data:=.dict #[]}}):wpAny (model prog w) A (call (.type "dict") [x]) Q E s:=by
 show Z1 (Q₁:=λobj s1=>obj=.ref s.heap.objs.size/\s1={s with heap:=s.heap.push {cls:=.type "dict",data:=.dict #[]}}) calledD (Ak3 x) (newCallD x) entryD PySem.F.entry_dict_init (Ac8 x) ⟨rfl,rfl⟩ λobj s1 y=>?_;obtain⟨rfl,rfl⟩:=y;show Az (Ad (KW _ rfl) rfl) (PySem.F.args_dict_init_2 _ _) (Aq I g h)
def Y0 {κ:Type}[DecidableEq κ](knd:KeyKind prog w κ)(d o:Addr)(ne:d≠o)(O:(o==sysModules)=false) :
  MeetsIn prog w (Builtin.«dict.__init__» ⟨[.ref d,.ref o],[]⟩) (λ_ R s=>∃kvs more,s.heap.DictOf knd d kvs/\s.heap.DictOf knd o more/\kvs.length+more.length<=sizeLine /\
   ∀h',h'.DictOf knd d (merged kvs more)->Heap.SameBut d s.heap h'->R (.ok (.ret .none)) {s with heap:=h'}):=
 .of_wp λA R s ⟨kvs,more,hd,I,Y,k⟩=>by
  delta Builtin.«dict.__init__»
  show JQ ?_
  delta Builtin.Dict.selfAndRest
  show JQ (wpAny_notOrdered_dict hd.typeIs (?_))
  show wpAny _ _ (pure (d,[Value.ref o])) _ _ s
  show JW ?_
  show wpAny _ _ (Builtin.Dict.updateFrom "dict.__init__" d (.ref o) [] .none) _ _ s
  delta Builtin.Dict.updateFrom
  show JQ (PY I.typeIs (?_));rw[KH (by decide)];show JQ ?_
  delta Builtin.Dict.merge
  show JQ ?_
  delta Builtin.Dict.readDirectly
  show JQ (OV I.typeIs isSubtype_dict_dict (?_));simp only[Bool.not_true,QY,OK];show JQ (wpAny_specialOf I.typeIs PySem.F.slot_dict_iter.lookup (JW (?_)));simp only[PD,beq_self_eq_true];show JQ (JW (wpAny_mergeDict (hsz:=Y) ne O hd I λh' a0 a2 a1=>?_))
  show wpAny _ _ (Builtin.Dict.addKeywords d [] >>= λ_=>_) _ _ _
  show JQ (JW (JW (Aq .none rfl (k h' a0 a1))))
abbrev Kv (h:Heap)(z TI TO T:Addr)(f:Bool):Prop:=
 h.get? z=some {cls:=.type "zip",dict:=none,data:=.fields #[rawInt T,.bool f,.bool false,.ref TI,.ref TO],slots:=#[]}
section
variable {E:Bo}
def Am9 {Q:Option Obj->Shared->Prop}(h:Q (s.heap.get? a) s):wpAny (model prog w) A (loadIfAlive a) Q E s:=λ_ _ _=>h
def Ai7 {f:Bool}{z TI TO T:Addr}{oT:Obj}{Q:Bool->Shared->Prop}(I:Kv s.heap z TI TO T f)(O:s.heap.get? T=some oT)
  (k:∀h',Kv h' z TI TO T true->Heap.SameBut z s.heap h'->Q false {s with heap:=h'}):wpAny (model prog w) A (Builtin.SmallTypes.ownedTupleIsFree (.ref z)) Q E s:=by
 delta Builtin.SmallTypes.ownedTupleIsFree
 show JQ (LH I rfl (x:=rawInt T) rfl ?_)
 show wpAny _ _ (loadIfAlive (Int.toNat (T:Int)) >>= λ_=>_) _ _ _
 rw[QX];show JQ (Am9 ?_);rw[O]
 show wpAny _ _ (if(some oT).isNone=true then _ else(field (.ref z) 1 >>= λ_=>_)) _ _ _
 rw[KH (by simp)];show JQ (LH I rfl (x:=.bool f) rfl ?_);cases f
 .show wpAny _ _ (setField (.ref z) 1 (.bool true) >>= λ_=>_) _ _ _
  show JQ (MF I (by simp) λh' z' Y=>JW (k h' z' Y))
 .show JW (k s.heap I (Heap.SameBut.refl _ _))
def Aj8 {b c f:Bool}{z TI TO T i1 i2 l1 l2:Addr}{n1 n2:Nat}{xs ys:Array Value}{x y:Value}{oT:Obj}{Q:Option Value->Shared->Prop}(D:ZipApart z TI TO i1 i2 l1 l2)
   (Y:Kv s.heap z TI TO T f)(hT:s.heap.get? T=some oT)(hI:IsPair s.heap TI (.ref i1) (.ref i2))(u1:SI b s.heap i1 l1 n1)(u2:SI c s.heap i2 l2 n2)(q1:SQ b s.heap l1 xs)(q2:SQ c s.heap l2 ys)(hx:xs[n1]?=some x)(hy:ys[n2]?=some y)
   (k:∀h',Kv h' z TI TO T true->SI b h' i1 l1 (n1+1)->SI c h' i2 l2 (n2+1)->IsPair h' s.heap.objs.size x y->h'.objs.size=s.heap.objs.size+1 ->
     (∀a o,a≠z->a≠i1->a≠i2->s.heap.get? a=some o->h'.get? a=some o)->Q (some (.ref s.heap.objs.size)) {s with heap:=h'}):wpAny (model prog w) A (pyNext (.ref z)) Q E s:=by
 have ty:s.TypeIs (.ref z) "zip":=(Ad Y rfl);unfold pyNext;show JQ (QH (LW (name:=Str.ofString "__next__") ty OF (MP OF ty F.entry_zip_next ?_ (F.args_zip_next_1 _))))
 show wpAny _ _ (field (.ref z) 2 >>= λ_=>_) _ _ _
 show JQ (LH Y rfl (x:=.bool false) rfl ?_)
 show wpAny _ _ (field (.ref z) 3 >>= λ_=>_) _ _ _
 show JQ (LH Y rfl (x:=.ref TI) rfl (JQ (NL hI rfl ?_)))
 show wpAny _ _ (Builtin.SmallTypes.ownedTupleIsFree (.ref z) >>= λ_=>_) _ _ _
 show JQ (Ai7 Y hT λh1 z1 s1=>?_);simp only[OK,QY,List.forIn_toArray,List.forIn_cons,List.forIn_nil];show JQ (JQ (JQ (NO ?_)))
 show wpAny _ _ (Builtin.SmallTypes.nextOf (.ref i1) >>= λ_=>_) _ _ _
 show JQ (Ez (u1.at λo e=>s1.extBut _ o D.i1z e) (q1.at λo e=>s1.extBut _ o D.l1z e) hx λh2 v1 s2=>JW (JW ?_));have a0:∀a o,a≠z->a≠i1->s.heap.get? a=some o->h2.get? a=some o:=λa o I O e=>s2.extBut _ o O (s1.extBut _ o I e);show JQ (JQ (NO ?_))
 show wpAny _ _ (Builtin.SmallTypes.nextOf (.ref i2) >>= λ_=>_) _ _ _
 show JQ (Ez (u2.at λo e=>a0 _ o D.i2z D.i12.symm e) (q2.at λo e=>a0 _ o D.l2z D.l2i1 e) hy λh3 v2 s3=>JW (JW (JW ?_)))
 show wpAny _ _ (newTuple [x,y] >>= λ_=>_) _ _ _
 show JQ (wpAny_newTuple (?_));have sz:h3.objs.size=s.heap.objs.size:=by rw[s3.1,s2.1,s1.1]
 have a4:∀a o,a≠z->a≠i1->a≠i2->s.heap.get? a=some o->h3.get? a=some o:=λa o I O a3 e=>s3.extBut _ o a3 (a0 a o I O e);have z3:Kv h3 z TI TO T true:=s3.extBut _ _ D.i2z.symm (s2.extBut _ _ D.i1z.symm z1);show JW (Ad rfl (JW ?_))
 show Q (some (.ref h3.objs.size)) _
 rw[sz];show k _ (JU _ z3) (v1.at λo e=>JU _ (s3.extBut _ o D.i12 e)) (v2.at λo e=>JU _ e) ?_ (by rw[MY,sz]) λa o I O a3 e=>JU _ (a4 a o I O a3 e);have:=KW h3 (o:={cls:=.type "tuple",data:=.seq #[x,y]}) rfl;rw[sz]at this;show this
def Ap4 {b c f:Bool}{z TI TO T i1 i2 l1 l2:Addr}{n1 n2:Nat}{xs ys:Array Value}{oT:Obj}{Q:Option Value->Shared->Prop}(hh:A.handled=none)(D:ZipApart z TI TO i1 i2 l1 l2)
  (Y:Kv s.heap z TI TO T f)(hT:s.heap.get? T=some oT)(hI:IsPair s.heap TI (.ref i1) (.ref i2))(u1:SI b s.heap i1 l1 n1)(u2:SI c s.heap i2 l2 n2)(q1:SQ b s.heap l1 xs)(q2:SQ c s.heap l2 ys)(a4:xs[n1]?=none\/ys[n2]?=none)
  (k:∀h',(∀a o,a≠z->a≠i1->a≠i2->s.heap.get? a=some o->h'.get? a=some o)->Q none {s with heap:=h'}):wpAny (model prog w) A (pyNext (.ref z)) Q E s:=by
 have ty:s.TypeIs (.ref z) "zip":=(Ad Y rfl);unfold pyNext;show JQ (QH (LW (name:=Str.ofString "__next__") ty OF (MP OF ty F.entry_zip_next ?_ (F.args_zip_next_1 _))))
 show wpAny _ _ (field (.ref z) 2 >>= λ_=>_) _ _ _
 show JQ (LH Y rfl (x:=.bool false) rfl ?_)
 show wpAny _ _ (field (.ref z) 3 >>= λ_=>_) _ _ _
 show JQ (LH Y rfl (x:=.ref TI) rfl (JQ (NL hI rfl ?_)))
 show wpAny _ _ (Builtin.SmallTypes.ownedTupleIsFree (.ref z) >>= λ_=>_) _ _ _
 show JQ (Ai7 Y hT λh1 z1 s1=>?_);simp only[OK,QY,List.forIn_toArray,List.forIn_cons,List.forIn_nil];show JQ (JQ (JQ (NO ?_)))
 show wpAny _ _ (Builtin.SmallTypes.nextOf (.ref i1) >>= λ_=>_) _ _ _
 cases hx:xs[n1]? with
 | none=>
  show JQ (Hs hh (u1.at λo e=>s1.extBut _ o D.i1z e) (q1.at λo e=>s1.extBut _ o D.l1z e) hx λh2 e s2 he=>JQ (OV (T:="StopIteration") (b:=true) he QZ (JW (k h2 λa o I O a3 y=>s2 _ o O (s1.extBut _ o I y)))))
 | some x=>
  have hy:ys[n2]?=none:=by rcases a4 with h|h;rw[hx]at h;cases h;show h
  show JQ (Ez (u1.at λo e=>s1.extBut _ o D.i1z e) (q1.at λo e=>s1.extBut _ o D.l1z e) hx λh2 v1 s2=>JW (JW ?_));have a0:∀a o,a≠z->a≠i1->s.heap.get? a=some o->h2.get? a=some o:=λa o I O e=>s2.extBut _ o O (s1.extBut _ o I e);show JQ (JQ (NO ?_))
  show wpAny _ _ (Builtin.SmallTypes.nextOf (.ref i2) >>= λ_=>_) _ _ _
  show JQ (Hs hh (u2.at λo e=>a0 _ o D.i2z D.i12.symm e) (q2.at λo e=>a0 _ o D.l2z D.l2i1 e) hy λh3 e s3 he=>JQ (OV (T:="StopIteration") (b:=true) he QZ (JW (k h3 λa o I O a3 y=>s3 _ o a3 (a0 a o I O y)))))
end
def Mz:entryFor table "dict.update.loop"=some Builtin.«dict.update.loop»:=entryFor_of_tree (by kernel_rfl)
structure ZSt (b c:Bool)(d z TI TO i1 i2 l1 l2:Addr)(i:Nat)(h:Heap):Prop where
 zip:(IsZip h z TI TO .none/\∃u v,IsPair h TO u v)\/∃(T:Addr) (f:Bool) (oT:Obj),Kv h z TI TO T f/\h.get? T=some oT/\T≠z/\T≠i1/\T≠i2/\T≠d
 ins:IsPair h TI (.ref i1) (.ref i2)
 fst:SI b h i1 l1 i
 snd:SI c h i2 l2 i
def F8:plainId "dict.update.loop"=true:=by decide +kernel
section
variable {prog:Program}{w:World}{A:Around}{κ:Type}[DecidableEq κ]{knd:KeyKind prog w κ}{R:Result->Shared->Prop}
def Ap8 {b c:Bool}{d z TI TO i1 i2 l1 l2:Addr}{xs ys:Array Value}{ps:List (κ×Value)}(hh:A.handled=none)(D:ZipApart z TI TO i1 i2 l1 l2)(O:d∉[z,TI,TO,i1,i2,l1,l2])
  (aG:∀(j:Nat) (k:κ) (v:Value),ps[j]?=some (k,v)->∃x,xs[j]?=some x/\ys[j]?=some v/\knd.is k x=true)(a9:xs[ps.length]?=none\/ys[ps.length]?=none) :
  ∀(m i:Nat) (s:Shared) (kvs:List (κ×Value)),ps.length-i=m->i<=ps.length->ZSt b c d z TI TO i1 i2 l1 l2 i s.heap->s.heap.DictOf knd d kvs->SQ b s.heap l1 xs->SQ c s.heap l2 ys->kvs.length+ps.length<=sizeLine+i ->
   (∀h' tk,h'.DictOf knd d (merged kvs (ps.drop i))->(∀a o,a∉[z,TO,i1,i2,d]->s.heap.get? a=some o->h'.get? a=some o)->R (.ok (.ret .none)) {s with heap:=h',toks:=tk}) ->
   codeAny (model prog w) A (.builtin "dict.update.loop" ⟨[.ref d,.ref z,rawInt i,.none],[]⟩) R s:=by
 have dz:d≠z:=λe=>O (by simp[e]);have aA:d≠TI:=λe=>O (by simp[e]);have a8:d≠TO:=λe=>O (by simp[e]);have a6:d≠i1:=λe=>O (by simp[e]);have a7:d≠i2:=λe=>O (by simp[e]);have aB:d≠l1:=λe=>O (by simp[e]);have aC:d≠l2:=λe=>O (by simp[e]);intro m
 induction m with
 | zero=>
  intro i s kvs hm hi Z hd q1 q2 hsz k;have e:i=ps.length:=by omega
  subst e;show codeAny_builtin Mz ?_;rw[Around.under_plainId F8 _]
  show wpAny _ A.in1 (pyNext (.ref z) >>= λ_=>_) _ _ s
  have fin:∀h',(∀a o,a≠z->a≠TO->a≠i1->a≠i2->s.heap.get? a=some o->h'.get? a=some o) ->
    wpAny (model prog w) A.in1 (do Builtin.Dict.addKeywords d [];ret .none) (λfin s'=>match fin with|.done f=>R (.ok f) s'|.again c'=>c'.quiet=true/\codeAny (model prog w) A c' R s') (λe s'=>R (.error e) s') {s with heap:=h'}:=λh' up=>by
   show JQ (JW (JW (k h' s.toks ?_ λa o ha e=>?_)))
   .rw [List.drop_length];show Gh hd λo es ep ho r=>Nm o es ep (up _ _ dz a8 a6 a7 ho) r
   .simp only[JT,KU,MB,QR]at ha;show up a o ha.1 ha.2.1 ha.2.2.1 ha.2.2.2.1 e
  rcases Z.zip with⟨I,u,v,hO⟩|⟨T,f,oT,I,hT,n1,n2,n3,n4⟩
  .show JQ (Xw hh D I Z.ins hO Z.fst Z.snd q1 q2 a9 λh' up=>fin h' up)
  .show JQ (Ap4 hh D I hT Z.ins Z.fst Z.snd q1 q2 a9 λh' up=>fin h' λa o a1 _ a3 a4 e=>up a o a1 a3 a4 e)
 | succ m ih=>
  intro i s kvs hm hi Z hd q1 q2 hsz k;have lt:i<ps.length:=by omega
  obtain⟨kk,v,hk⟩:∃kk v,ps[i]?=some (kk,v):=(Jn (LC lt));show Bg (aG i kk v hk) λx hx hy aE=>codeAny_builtin Mz ?_;rw[Around.under_plainId F8 _]
  show wpAny _ A.in1 (pyNext (.ref z) >>= λ_=>_) _ _ s
  have nT:∀{a:Addr} {o:Obj},s.heap.get? a=some o->s.heap.objs.size≠a:=λe=>MK (JZ e);have nz:s.heap.objs.size≠z:=by
   rcases Z.zip with⟨I,_⟩|⟨_,_,_,I,_⟩
   .show nT I
   .show nT I
  have n1:s.heap.objs.size≠i1:=by show Am Z.fst.obj λo e _=>?_;show nT e
  have n2:s.heap.objs.size≠i2:=by show Am Z.snd.obj λo e _=>?_;show nT e
  have nd:s.heap.objs.size≠d:=by show Gh (id hd) λo es ep e _=>?_;show nT e
  have step:∀h',(Kv h' z TI TO s.heap.objs.size false\/∃(T:Addr) (oT:Obj),Kv h' z TI TO T true/\h'.get? T=some oT/\T≠z/\T≠i1/\T≠i2/\T≠d)->SI b h' i1 l1 (i+1)->SI c h' i2 l2 (i+1)->IsPair h' s.heap.objs.size x v ->
    (∀a o,a≠z->a≠TO->a≠i1->a≠i2->s.heap.get? a=some o->h'.get? a=some o) ->
    wpAny (model prog w) A.in1 (do
     holding [.ref s.heap.objs.size] do
      let aI ← (Builtin.Dict.pairItems (.ref s.heap.objs.size)).tryCatch λe=>do
       if !(← isInstance e (.type "TypeError"))then throw e
       rule "dict.update.element-no-sequence"
       raiseError "TypeError" s!"cannot convert dictionary update sequence element #{(i : Int)} to a sequence"
      match aI with
      | [k,v]=>holding [k,v] (dictSet d k v)
      | l=>
       rule "dict.update.element-length"
       raiseError "ValueError" s!"dictionary update sequence element #{(i : Int)} has length {l.length}; 2 is required"
     again (.builtin "dict.update.loop" ⟨[.ref d,.ref z,rawInt ((i:Int)+1),.none],[]⟩)) (λfin s'=>match fin with|.done f=>R (.ok f) s'|.again c'=>c'.quiet=true/\codeAny (model prog w) A c' R s') (λe s'=>R (.error e) s') {s with heap:=h'}:=λh' zz u1 u2 Y up=>by
   have aD:h'.DictOf knd d kvs:=by
    show Gh hd λo es ep ho r=>Nm o es ep (up _ _ dz a8 a6 a7 ho) r
   show JQ (NO (JQ (wpAny_tryCatch ?_)))
   delta Builtin.Dict.pairItems
   show JQ (PY (s:={s with heap:=h'}) (T:="tuple") (Ad Y rfl) (?_));rw[KJ (by decide)];show JQ (NL (s:={s with heap:=h'}) Y rfl (JW ?_))
   show wpAny _ _ (holding [x,v] (dictSet d x v)) _ _ _
   show NO (wpAny_dictSet_pairs (s:={s with heap:=h'}) (hsz:=by omega) aE aD λh2 d2 sb=>JW ⟨plainId_quiet F8 _,?_⟩);have a0:∀a o,a≠d->h'.get? a=some o->h2.get? a=some o:=λa o ha e=>sb.extBut a o ha e;have keep:∀a o,a≠z->a≠TO->a≠i1->a≠i2->a≠d->s.heap.get? a=some o->h2.get? a=some o:=λa o a1 a2 a3 a4 a5 e=>a0 a o a5 (up a o a1 a2 a3 a4 e);have ee:rawInt ((i:Int)+1)=rawInt ((i+1:Nat):Int):=by simp
   rw[ee];show ih (i+1) {s with heap:=h2,toks:=s.toks+1} (stored kvs kk v) (by omega) lt ⟨?_,keep _ _ D.TIz D.TITO D.TIi1 D.TIi2 aA.symm Z.ins,u1.at λo e=>a0 _ o a6.symm e,u2.at λo e=>a0 _ o a7.symm e⟩ d2 (q1.at λo e=>keep _ o D.l1z D.l1TO D.l1i1 D.l1i2 aB.symm e) (q2.at λo e=>keep _ o D.l2z D.l2TO D.l2i1 D.l2i2 aC.symm e) ?_ ?_
   .show .inr ?_
    rcases zz with zz|⟨T,oT,zz,hT,t1,t2,t3,t4⟩
    .show Lb _ false _ (a0 _ _ dz.symm zz) (a0 _ _ nd Y) nz n1 n2 nd
    .show Lb T true oT (a0 _ _ dz.symm zz) (a0 _ _ t4 hT) t1 t2 t3 t4
   .have:=stored_length_le kvs kk v;omega
   .intro h3 tk aF aH;show k h3 tk ?_ λa o ha e=>aH a o ha ?_
    .have e1:ps.drop i=(kk,v)::ps.drop (i+1):=by
      rw[QB lt];rw[LC lt]at hk;rw[LV hk]
     rw[e1];show aF
    .simp only[JT,KU,MB,QR]at ha;show keep a o ha.1 ha.2.1 ha.2.2.1 ha.2.2.2.1 ha.2.2.2.2 e
  rcases Z.zip with⟨I,u,v',hO⟩|⟨T,f,oT,I,hT,m1,m2,m3,m4⟩
  .show JQ (Ur D I Z.ins hO Z.fst Z.snd q1 q2 hx hy λh' z' _ u1 u2 Y _ up=>step h' (.inl z') u1 u2 Y up)
  .show JQ (Aj8 D I hT Z.ins Z.fst Z.snd q1 q2 hx hy λh' z' u1 u2 Y _ up=>step h' (.inr (Km T oT z' (up _ _ m1 m2 m3 hT) m1 m2 m3 m4)) u1 u2 Y λa o a1 _ a3 a4 e=>up a o a1 a3 a4 e)
end
def Yz {prog:Program}{w:World}{κ:Type}[DecidableEq κ](knd:KeyKind prog w κ){b c:Bool}{d z TI TO i1 i2 l1 l2:Addr}(D:ZipApart z TI TO i1 i2 l1 l2)(dn:d∉[z,TI,TO,i1,i2,l1,l2]) :
  MeetsIn prog w (Builtin.«dict.__init__» ⟨[.ref d,.ref z],[]⟩) (λA R s=>A.handled=none/\∃(xs ys:Array Value) (ps:List (κ×Value)),(∀(j:Nat) (k:κ) (v:Value),ps[j]?=some (k,v)->∃x,xs[j]?=some x/\ys[j]?=some v/\knd.is k x=true)/\(xs[ps.length]?=none\/ys[ps.length]?=none) /\
   zBn b c z TI TO i1 i2 l1 l2 0 s.heap/\s.heap.DictOf knd d []/\SQ b s.heap l1 xs/\SQ c s.heap l2 ys/\ps.length<=sizeLine /\
   ∀h' tk,h'.DictOf knd d (merged [] ps)->(∀a o,a∉[z,TO,i1,i2,d]->s.heap.get? a=some o->h'.get? a=some o)->R (.ok (.ret .none)) {s with heap:=h',toks:=tk}):=
 λA R s hq=>by
  show Fc hq λY z1=>Ri z1 λxs ys ps a2 a3 z2 hd q1 z3=>Ch z3 λq2 hl k=>?_;obtain⟨O,hI,⟨u,v,hO⟩,u1,u2⟩:=z2
  delta Builtin.«dict.__init__»
  show JQ ?_
  delta Builtin.Dict.selfAndRest
  show JQ (wpAny_notOrdered_dict hd.typeIs (?_))
  show wpAny _ _ (pure (d,[Value.ref z])) _ _ s
  show JW ?_
  show wpAny _ _ (Builtin.Dict.updateFrom "dict.__init__" d (.ref z) [] .none) _ _ s
  delta Builtin.Dict.updateFrom
  show JQ (PY (T:="zip") (Ad O rfl) (?_));rw[KJ (by decide)];show JQ (Ap3 O Y λh1 a0 k1=>?_);rw[KJ (show(none:Option Value).isNone=true from rfl)];have I:∀{a:Addr},∀o,s.heap.get? a=some o->h1.get? a=some o:=λo e=>k1 _ o e;show JQ (wpAny_rule (JQ (wpAny_pyIter_zip (s:={s with heap:=h1,toks:=a0}) (I _ O) (JW ⟨plainId_quiet F8 _,?_⟩))));have a1:h1.DictOf knd d []:=by
   show Gh hd λo es ep ho r=>Nm o es ep (I _ ho) r
  show Ap8 (knd:=knd) (b:=b) (c:=c) Y D dn a2 a3 ps.length 0 {s with heap:=h1,toks:=a0} [] (by simp) (LN _) ⟨.inl ⟨I _ O,(Uj u v (I _ hO))⟩,I _ hI,u1.at I,u2.at I⟩ a1 (q1.at I) (q2.at I) (by simpa using hl) λh' tk hm up=>k h' tk (by simpa using hm) λa o ha e=>up a o ha (I _ e)
def Inv.turnedO {X:Cx}{pins:Ej}{σ:St}{H:Hp}{s:Shared}{h':Heap}{t':Nat}{fp:List Addr}{T:Addr}{ob:HO}(I:Inv X pins σ H s)(f:∀b∈fp,Le X pins H b)
  (k:∀b o,b∉fp->s.heap.get? b=some o->h'.get? b=some o)(Y:s.heap.objs.size<=T)(new:AV X.prog X.w (upd H T ob) h' T ob):Inv X pins σ (upd H T ob) {s with heap:=h',toks:=t'}:=by
 have hn:H T=none:=I.AU.fresh Y;have nL:X.env.locals∉fp:=λz=>(f _ z).2.1 rfl;show I.step (g':=s.gens) (d':=s.drawn) (ch:=fp) (λb hb=>(C7 ((f b hb).2.2.2.1) ((f b hb).2.1) ((f b hb).2.2.2.2.1) ((f b hb).2.2.2.2.2))) (λb o _ _ O e _=>k b o O e) (λb o _ _ O e _=>⟨o.slots,k b o O e⟩)
  (λb o _ e n=>by rw[Aj (LF (LD (JZ e) Y))];show n) (λb o O e=>⟨o,k b o O e⟩)
  (λb ys e=>by rw[Aj (Af e hn)];show e) (λb o u e=>by rw[Aj (Af e hn)];show e) (λb ps e=>⟨#[],by rw[Aj (Af e hn),e];simp⟩) (λm hm=>?_) (λb u e=>?_) I.bare
 .show Gh hm λo es ep ho r=>Nm o es ep (k _ o nL ho) r
 .by_cases hb:b=T
  .subst hb;rw[Ah]at e;cases e;show new
  .rw [Aj hb]at e;have nf:∀c v,H c=some v->c∉fp:=λc v q z=>by rw[(f c z).1]at q;cases q
   show(I.AU b u e).FD (λc v O q=>k c v ?_ q) (λc q=>by rw[Aj (Af q hn)];show q) λc ys q=>by rw[Aj (Af q hn)];show q
   rcases O with z|z
   .rw [z];show nf b u e
   .show nf c _ z
theorem Uq:∀{ks:List Key} {ys:List V} {us vs:List Value},AK (ks.map kV) us->AK ys vs->KV (ks.zip ys) (ks.zip vs)/\(∀(P:Program) (w:World) (j:Nat) (k:Key) (v:Value),(ks.zip vs)[j]?=some (k,v)->∃x,us[j]?=some x/\vs[j]?=some v/\(Cu P w).is k x=true)
 | [],ys,us,vs,O,I=>⟨.nil,λP w j k v e=>by simp at e⟩
 | k::ks,[],us,vs,O,I=>by
  cases I;show⟨.nil,λP w j k v e=>by simp at e⟩
 | k::ks,y::ys,us,vs,O,I=>by
  cases O with
  | cons h1 t1=>
   cases I with
   | cons h2 t2=>
    obtain⟨a,b⟩:=Uq t1 t2;show⟨.cons ⟨rfl,h2⟩ a,λP w j k' v e=>?_⟩
    cases j with
    | zero=>
     simp at e;obtain⟨rfl,rfl⟩:=e;show Bh (by simp) (by simp) (Os h1)
    | succ j=>
     show Bg (b P w j k' v (by simpa using e)) λx e1 e2 Y=>Bx x (by simpa using e1) (by simpa using e2) Y
def tDZip (b c:Bool)(K:Av)(ta:TA):TE:=λσ H Q=>ta σ H λvs H1=>∃(l1 l2:Addr),vs=[.ref l1,.ref l2]/\(∃xs,DG b K H1 l1 xs)/\(∃ys,DG c K H1 l2 ys)/\∃(ks:List Key) (ys:List V),DG b K H1 l1 (ks.map kV)/\DG c K H1 l2 ys/\∀d,H1 d=none->Q (.ref d) (upd H1 d (.dK (Ev [] (ks.zip ys))))
def pe_dzip (hc:X.calm=true)(hg:Gl X "dict")(hm:X.mg "dict"=none)(a5:Gl X "zip")(a7:X.mg "zip"=none)(ha:PA X [x,y] ta)
  (h0:starEach [.Call (.Name "zip" p') [x,y] [] a2] X.env=[(false,eval (.Call (.Name "zip" p') [x,y] [] a2) X.env)]:=by rfl)(hs:starEach [x,y] X.env=[(false,eval x X.env),(false,eval y X.env)]:=by rfl)(a8:starEach [y] X.env=[(false,eval y X.env)]:=by rfl) :
  PE X (.Call (.Name "dict" p) [.Call (.Name "zip" p') [x,y] [] a2] [] pos) (tDZip b c X.K ta):=by
 intro pins s σ H Q I h;show Call_ (Ly I hg hm boot_dict (MV ?_ h0 rfl));rw[h0];show QQ (AT (Va (b:=b) (c:=c) (R:=λl1 l2 H1=>∃(ks:List Key) (ys:List V),DG b X.K H1 l1 (ks.map kV)/\DG c X.K H1 l2 ys/\∀d,H1 d=none->Q (.ref d) (upd H1 d (.dK (Ev [] (ks.zip ys))))) a5 a7 ha hs a8 I h) λv s1 hq=>?_);show Dc hq λz TI TO i1 i2 l1 z1=>Kq z1 λl2 H1 e O D st f z2=>?_;obtain⟨fl,ks,ys,qa,qb,q⟩:=z2;subst e;show Calls.spliced_nil (Bg (O.sq qa) λus ra pa za=>Bg (O.sq qb) λvs rb pb zb=>?_);obtain⟨a0,aG⟩:=Uq ra rb;have hh:X.A.handled=none:=O.ok.hd hc;show Ma (id st) λhz Y z1 u1 u2=>?_;obtain⟨u0,v0,hO⟩:=z1;have a1:∀{b:Bool} {l:Addr} {xs:Array Value},SQ b s1.heap l xs->@LT.lt Nat _ l s1.heap.objs.size:=fun {b l xs} q=>by
  cases b
  .show Am ((show s1.heap.IsTuple l xs from q)) λo e _=>JZ e
  .show Am ((show s1.heap.IsList l xs from q)) λo e _=>JZ e
 have aB:@LT.lt Nat _ i1 s1.heap.objs.size:=by show Am u1.obj λo e _=>?_;show JZ e
 have aC:@LT.lt Nat _ i2 s1.heap.objs.size:=by show Am u2.obj λo e _=>?_;show JZ e
 have aF:@LT.lt Nat _ z s1.heap.objs.size:=JZ hz;have aD:@LT.lt Nat _ TI s1.heap.objs.size:=JZ Y;have aE:@LT.lt Nat _ TO s1.heap.objs.size:=JZ hO;have dn:s1.heap.objs.size∉[z,TI,TO,i1,i2,l1,l2]:=λhd=>by
  have a9:=a1 pa;have aA:=a1 pb;simp only[JT,KU,MB]at hd;have key:∀{a:Addr},@LT.lt Nat _ a s1.heap.objs.size->s1.heap.objs.size≠a:=λh=>MK h
  rcases hd with hd|hd|hd|hd|hd|hd|hd
  .show key aF hd
  .show key aD hd
  .show key aE hd
  .show key aB hd
  .show key aC hd
  .show key a9 hd
  .show key aA hd
 have up:∀{a:Addr},∀o,s1.heap.get? a=some o->(s1.heap.push {cls:=.type "dict",data:=.dict #[]}).get? a=some o:=λo e=>JU _ e;have aJ:=a0.length;have aH:us.length=ks.length:=by have:=ra.length;simpa using this.symm
 have aI:vs.length=ys.length:=rb.length.symm;have a3:ks.length<=sizeLine:=by simpa using za
 show Ty (Yz (Cu X.prog X.w) (b:=b) (c:=c) D dn) ⟨hh,(Lb us.toArray vs.toArray (ks.zip vs) (λj k v e=>?_) ?_ (Fb (up _ hz) (up _ Y) (Uj u0 v0 (up _ hO)) (u1.at up) (u2.at up)) (Heap.DictOf.new _) (pa.at up) (Az (pb.at up) ?_ λh' tk a4 k=>⟨rfl,?_⟩))⟩
 .show Bg (aG X.prog X.w j k v e) λx e1 e2 e3=>Bx x (by simpa using e1) (by simpa using e2) e3
 .rw [List.length_zip]
  rcases Nat.le_total ks.length vs.length with hl|hl
  .show .inl (by simp;omega)
  .show .inr (by simp;omega)
 .rw [List.length_zip];show KN (Nat.min_le_left ..) a3
 .have big:(s1.heap.objs.size==sysModules)=false:=MS.mpr (OO (LF O.big));have a6:(Ev [] (ks.zip ys)).length<=sizeLine:=by
   have e1:=Jg (ks.zip ys) [];have e2:(ks.zip ys).length<=ks.length:=by rw[List.length_zip];show Nat.min_le_left ..
   simp at e1;omega
  have I2:Inv X pins σ (upd H1 s1.heap.objs.size (.dK (Ev [] (ks.zip ys)))) {s1 with heap:=h',toks:=tk}:=by
   show O.turnedO (fp:=[i1,i2,TI,TO,z]) f (λa o ha e=>k a o (λhb=>?_) (up _ e)) (JV _) (Ts a6 big (a0.merge .nil) a4);simp only[JT,KU,MB]at ha hb
   rcases hb with hb|hb|hb|hb|hb
   .show ha (by simp[hb])
   .show ha (by simp[hb])
   .show ha (by simp[hb])
   .show ha (by simp[hb])
   .show LF (JZ e) hb
  show Al (.ref s1.heap.objs.size) _ I2 rfl (q _ (O.AU.fresh (JV _)))
def qe_dzip (Y:X.calm=true)(hg:Gl X "dict")(hm:X.mg "dict"=none)(a0:Gl X "zip")(a1:X.mg "zip"=none)(ha:QA X [x,y] ta)
  (h0:starEach [.Call (.Name "zip" I) [x,y] [] O] X.env=[(false,eval (.Call (.Name "zip" I) [x,y] [] O) X.env)]:=by rfl)(hs:starEach [x,y] X.env=[(false,eval x X.env),(false,eval y X.env)]:=by rfl)(a2:starEach [y] X.env=[(false,eval y X.env)]:=by rfl) :
  QE X (.Call (.Name "dict" p) [.Call (.Name "zip" I) [x,y] [] O] [] pos) (tDZip b c X.K ta):=⟨pe_dzip Y hg hm a0 a1 ha.go h0 hs a2⟩
def Np:BD X (.type "dict") (λxs H Q=>∃(a:Addr) (kvs:List (Key×V)),xs=[.ref a]/\Rd H a (.dK kvs)/\∀d,H d=none->Q (.ref d) (upd H d (.dK kvs))):=by
 intro pins s σ H xs us Q I r h;show A0 h λa kvs z1 ha q=>?_;subst z1;show Am (Jj r) λu z1 ru=>?_;subst z1;cases ru;show Ch (M0 I.AU ha) λz hS z1=>Am z1 λvs Y dd=>?_;have a0:@LT.lt Nat _ a s.heap.objs.size:=by show Gh (id dd) λo es ep e _=>?_;show JZ e
 have big:(s.heap.objs.size==sysModules)=false:=MS.mpr (OO (LF I.big));have O:(s.heap.push {cls:=.type "dict",data:=.dict #[]}).DictOf (Cu X.prog X.w) a vs:=by
  show Gh dd λo es ep ho r=>Nm o es ep (JU _ ho) r
 have a1:(vs.map (·.1)).Nodup:=by
  show Ri O λ_ _ _ _ _ _ _ _ hn=>hn
 show Ty (Y0 (Cu X.prog X.w) s.heap.objs.size a (MK a0) hS) (Co [] vs (Heap.DictOf.new _) O (by have:=Y.length;simp;omega) λh' d' sb=>⟨rfl,?_⟩);rw[merged_nil_of_nodup vs a1]at d';show Al (.ref s.heap.objs.size) _ (I.laid (a:=s.heap.objs.size) (o:=.dK kvs) (t':=s.toks) (λb o e=>((sb.2 b (LF (JZ e))).trans (JU _ e))) (JV _) (Ts z big Y d')) rfl (q _ (I.AU.fresh (JV _)))
structure GD (K:Av)(w:World)(a:Addr)(kvs:List (Str×V)):Prop where
 lk:∃es n,K.lookup a=some ⟨.type "dict",none,.dict es n,#[]⟩/\PySem.W.KeysLit w.params es.toList
 lo:(a==sysModules)=false
 at_:∀x v,(x,v)∈kvs->∃u,RelV v u/\PySem.W.nsIn K a x=some (some u)
def tKGet (a:Addr)(kvs:List (Str×V))(ty:TE):TE:=λσ H Q=>ty σ H λy H1=>∃x v,y=.str x/\(x,v)∈kvs/\Q v H1
def tKIn (a:Addr)(kvs:List (Str×V))(ty:TE):TE:=λσ H Q=>ty σ H λy H1=>∃x v,y=.str x/\(x,v)∈kvs/\Q (.bl true) H1
section
def pe_kget (T:GD X.K X.w a kvs)(hg:Gl X x)(hm:X.mg x=some (.ref a))(hi:PE X i ty)(hs:Ap0 i)(a0:Eg x:=by decide):PE X (.Subscript (.Name x p) i pos) (tKGet a kvs ty):=by
 intro pins s σ H Q I h;show Ae9 PySem.F.slot_dict_getitem.lookup hs (G0 I hg hm (AT (hi pins s σ H _ I h) λiv s2 ⟨y,H2,O,ry,z,v,ez,hz,q⟩=>?_) a0);subst ez;obtain⟨t,rfl⟩:=(show ∃t,iv=Value.str z t from ry);show C8 T.lk λes n lk kl=>Am (T.at_ z v hz) λu ru hu=>?_;have Y:=PySem.W.mapOf_K (prog:=X.prog) O.EE lk kl;show⟨Y.typeIs,wpAny_getItem_of (strKind_is X.prog X.w z t) Y (PySem.W.find_K lk hu) (Al v H2 (O.tok _) ru q)⟩
def pc_kin (T:GD X.K X.w a kvs)(hg:Gl X x)(hm:X.mg x=some (.ref a))(hi:PE X i ty)(a0:Eg x:=by decide):PC X .In i (.Name x p) (tKIn a kvs ty):=by
 intro pins s σ H Q I h;show AT (hi pins s σ H _ I h) λiv s1 ⟨y,H1,O,ry,z,v,Y,hz,q⟩=>G0 O hg hm ?_ a0;subst Y;obtain⟨t,rfl⟩:=(show ∃t,iv=Value.str z t from ry);show C8 T.lk λes n lk kl=>Am (T.at_ z v hz) λu ru hu=>wpAny_in_of (strKind_is X.prog X.w z t) T.lo (PySem.W.mapOf_K (prog:=X.prog) O.EE lk kl) ?_;rw[PySem.W.find_K lk hu];show Al (.bl true) H1 (O.tok _) rfl q
def Oa (T:GD X.K X.w a kvs)(hg:Gl X x)(hm:X.mg x=some (.ref a))(hi:QE X i ty)(hs:Ap0 i)(I:Eg x:=by decide):QE X (.Subscript (.Name x p) i pos) (tKGet a kvs ty):=⟨pe_kget T hg hm hi.go hs I⟩
end
def tCallL (i:Nat)(M:Addr->Prop)(R:Addr->Sp)(E:XK)(t:TA):TE:=λσ H Q=>∃f,σ[i]?=some (some (.ref f))/\M f/\t σ H λvs H1=>R f vs H1 Q E
def pe_callL {M:Addr->Prop}(F:∀f,M f->∃fd,AH X.prog X.w X.K X.mg X.base CX k f fd ps (R f)/\PySem.W.keepIn X.K (.ref f)=true/\Binds X.K fd ps [])
  (hx:Gm CX X E)(hr:BC k X.A)(hN:X.N[i]?=some x)(hv:Vis X.env.scope x)(ha:PA X (e::es) t)(a1:Eg x:=by decide)(a0:(x==("__classdict__":Str))=false:=by decide)
  (he:Gi X e es:=by rfl)(a2:Hf X pos es:=by rfl):PE X (.Call (.Name x p) (e::es) [] pos) (tCallL i M R E t):=by
 intro pins s σ H Q I h;obtain⟨f,hf,m,h⟩:=h;obtain⟨fd,Fo,hk,hb⟩:=F f m;show NZ (AT (pe_var hN hv a1 a0 pins s σ H (λv H1=>v=.ref f/\H1=H) I ⟨_,hf,rfl,rfl⟩) λu s1 ⟨v,H1,O,rv,ev,eH⟩=>?_);subst ev eH;cases(show u=Value.ref f from rv);show PB (h₀:=X.base) O.ok.mod.kin hk (AT (ha pos pins s1 σ _ _ O h) λus s2 ⟨vs,H2,Y,r,q⟩=>⟨Y.EE,As8 (dvs:=[]) (ds:=[]) Fo hr hb .nil hx Y r (by simpa using q)⟩) he a2
inductive Th where
 | num (i:Int)|wd (x:Str)|tup (l:List Th)
mutual
def AQ (H:Hp):V->Th->Prop
 | v,.num i=>v=.int i
 | v,.wd x=>v=.str x
 | v,.tup l=>∃a vs,v=.ref a/\H a=some (.tup vs)/\AI H vs l
def AI (H:Hp):List V->List Th->Prop
 | vs,[]=>vs=[]
 | vs,t::r=>∃v vr,vs=v::vr/\AQ H v t/\AI H vr r
end
mutual
theorem AQ.mono {H H':Hp}(s:∀b xs,H b=some (.tup xs)->H' b=some (.tup xs)):∀{th:Th} {v:V},AQ H v th->AQ H' v th
 | .num i,v,h=>h
 | .wd x,v,h=>h
 | .tup l,v,h=>by
  show A0 h λa vs e ha hl=>Al a vs e (s _ _ ha) (AI.mono s hl)
theorem AI.mono {H H':Hp}(s:∀b xs,H b=some (.tup xs)->H' b=some (.tup xs)):∀{l:List Th} {vs:List V},AI H vs l->AI H' vs l
 | [],vs,h=>h
 | t::r,vs,h=>by
  show A0 h λv vr e h1 h2=>Al v vr e (AQ.mono s h1) (AI.mono s h2)
end
def CA (H H':Hp):Prop:=∀b xs,H b=some (.tup xs)->H' b=some (.tup xs)
def AA.AF (s:AA H H'):CA H H':=λb xs h=>s b _ h
def CA.trans (a:CA H H1)(b:CA H1 H2):CA H H2:=λc xs h=>b c xs (a c xs h)
theorem AI.len:∀{l:List Th} {vs:List V},AI H vs l->vs.length=l.length
 | [],vs,h=>by rw[show vs=[] from h];rfl
 | t::r,vs,h=>by
  show A0 h λv vr z1 _ h2=>?_;subst z1;simp[AI.len h2]
theorem AI.get:∀{l:List Th} {vs:List V} {i:Nat} {v:V},AI H vs l->vs[i]?=some v->∃t,l[i]?=some t/\AQ H v t
 | [],vs,i,v,h,e=>by rw[show vs=[] from h]at e;simp at e
 | t::r,vs,0,v,h,e=>by
  show A0 h λO vr z1 h1 _=>?_;subst z1;simp at e;subst e;show Aq t rfl h1
 | t::r,vs,i+1,v,h,e=>by
  show A0 h λO vr z1 _ h2=>?_;subst z1;show Am (AI.get h2 (by simpa using e)) λt' I h'=>Aq t' (by simpa using I) h'
theorem AI.at:∀{l:List Th} {vs:List V} {i:Nat} {t:Th},AI H vs l->l[i]?=some t->∃v,vs[i]?=some v/\AQ H v t
 | [],vs,i,t,h,e=>by simp at e
 | t'::r,vs,0,t,h,e=>by
  show A0 h λI vr z1 h1 _=>?_;subst z1;simp at e;subst e;show Aq I rfl h1
 | t'::r,vs,i+1,t,h,e=>by
  show A0 h λI vr z1 _ h2=>?_;subst z1;show Am (AI.at (i:=i) h2 (by simpa using e)) λv O h'=>Aq v (by simpa using O) h'
theorem AI.append:∀{l m:List Th} {vs us:List V},AI H vs l->AI H us m->AI H (vs++us) (l++m)
 | [],m,vs,us,h1,h2=>by rw[show vs=[] from h1];show h2
 | t::r,m,vs,us,h1,h2=>by
  show A0 h1 λv vr z1 a b=>?_;subst z1;show Al v (vr++us) rfl a (AI.append b h2)
theorem AI.take:∀{l:List Th} {vs:List V} (n:Nat),AI H vs l->AI H (vs.take n) (l.take n)
 | l,vs,0,h=>by simp;rfl
 | [],vs,n+1,h=>by rw[show vs=[] from h];rfl
 | t::r,vs,n+1,h=>by
  show A0 h λv vr z1 a b=>?_;subst z1;show Al v (vr.take n) rfl a (AI.take n b)
section
variable {X:Cx}
end
section
def Nf (O:X.A.units+1<cLine)(hi:QE X i ty)(I:QE X o Y)(hm:behindInMarks .In o=false:=by rfl):QE X (.Compare i [.In] [o] pos) (tDIn ty Y):=⟨Ab7 (pc_din O hi.go I.go) hm⟩
def At2 (O:X.A.units+1<cLine)(hi:QE X i ty)(I:QE X o Y)(hm:behindInMarks .In o=false:=by rfl):QT X (.Compare i [.In] [o] pos) (tB (tDIn ty Y)):=⟨pt_cmp (pc_din O hi.go I.go) hm⟩
def Al9 (O:X.A.units+1<cLine)(hi:QE X i ty)(I:QE X o Y)(hm:behindInMarks .NotIn o=false:=by rfl):QE X (.Compare i [.NotIn] [o] pos) (Ae4 ty Y):=⟨Ab7 (Am5 O hi.go I.go) hm⟩
def Ab4 (T:GD X.K X.w a kvs)(hg:Gl X x)(hm:X.mg x=some (.ref a))(hi:QE X i ty)(hk:behindInMarks .In (.Name x p)=false:=by rfl)(I:Eg x:=by decide):QE X (.Compare i [.In] [.Name x p] pos) (tKIn a kvs ty):=⟨Ab7 (pc_kin T hg hm hi.go I) hk⟩
end
def comp_str {z:Str}{D:Addr}{g:TG}{tt:TT}{te:TE}{σ0:St}{H1:Hp}{Q:Hp->Prop}(Pv:Nat->List V->St->Hp->Prop)(hx:z.cps.size<=sizeLine)(h0:Pv 0 [] σ0 (upd H1 D (.lst [])))
   (hl:∀i ys σ H,i<=z.cps.size->Pv i ys σ H->H D=some (.lst ys)/\ys.length<=i)
   (hs:∀(i:Nat) c ys σ H,z.cps[i]?=some c->Pv i ys σ H->g (.str ⟨#[c]⟩) σ H λσ3 H3=>tt σ3 H3 λok O=>if ok=true then te σ3 O λy I=>I D=some (.lst ys)/\Pv (i+1) (ys++[y]) σ3 (upd I D (.lst (ys++[y])))else Pv (i+1) ys σ3 O)
   (hd:∀ys σ H,Pv z.cps.size ys σ H->Q H) :
   ∃W:Nat->Nat->St->Hp->Prop,(∃m,W 0 m σ0 (upd H1 D (.lst [])))/\∀i m σ' H',W i m σ' H' ->
     ((Its z).stop i H'/\Q H')\/((Its z).go i H'/\∃(Ay:V->St->Hp->Prop) (An:St->Hp->Prop),(∀y σ3 I,Ay y σ3 I->∃ys,I D=some (.lst ys)/\ys.length<sizeLine/\∃Y,Y<m/\W (i+1) Y σ3 (upd I D (.lst (ys++[y])))) /\
       (∀σ3 O,An σ3 O->∃Y,Y<m/\W (i+1) Y σ3 O) /\
       ∀x H2,(Its z).GF i H' x H2->g x σ' H2 λσ3 H3=>tt σ3 H3 λok O=>if ok=true then te σ3 O (λy I=>Ay y σ3 I)else An σ3 O):=by
 show Aq (λi m σ H=>m=z.cps.size-i/\i<=z.cps.size/\∃ys,Pv i ys σ H) (Bx z.cps.size (by simp) (LN _) ⟨[],h0⟩) ?_;rintro i m σ H ⟨rfl,hi,ys,p⟩;obtain⟨hy,a1⟩:=hl i ys σ H hi p;by_cases a0:i<z.cps.size
 . show .inr ⟨a0,(Al (λy σ3 I=>I D=some (.lst ys)/\Pv (i+1) (ys++[y]) σ3 (upd I D (.lst (ys++[y])))) (λσ3 O=>Pv (i+1) ys σ3 O)
     (λy σ3 I ⟨e,p'⟩=>(Bx ys e (by omega) (Dh (z.cps.size-(i+1)) (by omega) rfl a0 ⟨_,p'⟩))) (λσ3 O p'=>(Dh (z.cps.size-(i+1)) (by omega) rfl a0 ⟨_,p'⟩)) λx H' y=>?_)⟩
   show Fc y λe z1=>Am z1 λc hc ex=>?_;subst e;subst ex;show hs i c ys σ H' hc p
 . have:i=z.cps.size:=by omega
   subst this;show .inl ⟨JV _,hd ys σ H p⟩
section
def Jl:QE X (.Dict [] [] pos) Aq6:=⟨pe_dnewK⟩
def D9 (Y:X.A.units+1<cLine)(O:QE X o td)(hi:QE X i ty)(hv:QE X I tv)(hs:swapsWith I (some (.Subscript o i a0)) pos.line X.env=pure false):QS X (.Assign [.Subscript o i a0] I pos) (sDPut td ty tv):=⟨ps_dput Y O.go hi.go hv.go hs⟩
def Lr (he:QE X e ta)(hb:attributeBase e f X.env (eval e X.env)=eval e X.env):QE X (.Attribute e f pos) (tFld X.K ta f):=⟨pe_fld he.go hb⟩
def Wi (ha:QE X o ta)(O:QE X I Y)(hs:swapsWith I (some (.Attribute o f a0)) pos.line X.env=pure false):QS X (.Assign [.Attribute o f a0] I pos) (sFld X.K ta Y f):=⟨ps_fld ha.go O.go hs⟩
def qe_make (M:Mk X.K C g)(F:AH X.prog X.w X.K X.mg X.base CX k g fd ps sp)(hr:BC (k+1) X.A)(hg:Gl X x)(hm:X.mg x=some (.ref C))(hb:Binds X.K fd ps ds)(hd:AK dvs ds)(hx:Gm CX X E)
  (ha:QA X (e::es) t)(I:Eg x:=by decide)(he:Gi X e es:=by rfl)(O:Hf X pos es:=by rfl):QE X (.Call (.Name x p) (e::es) [] pos) (tMake C sp dvs E t):=⟨pe_make M F hr hg hm hb hd hx ha.go I he O⟩
end
def tCallH (i:Nat)(M:Str->Addr->Prop)(R:Str->Sp)(E:XK)(t:TA):TE:=λσ H Q=>∃h f,σ[i]?=some (some (.ref f))/\M h f/\t σ H λvs H1=>R h vs H1 Q E
def At7 {M:Str->Addr->Prop}(F:∀h f,M h f->∃fd,AH X.prog X.w X.K X.mg X.base CX k f fd ps (R h)/\PySem.W.keepIn X.K (.ref f)=true/\Binds X.K fd ps [])
  (hx:Gm CX X E)(hr:BC k X.A)(O:X.N[i]?=some x)(Y:Vis X.env.scope x)(ha:QA X (e::es) t)(a1:Eg x:=by decide)(a0:(x==("__classdict__":Str))=false:=by decide)
  (he:Gi X e es:=by rfl)(a2:Hf X pos es:=by rfl):QE X (.Call (.Name x p) (e::es) [] pos) (tCallH i M R E t):=by
 show⟨λpins s σ H Q I h=>?_⟩;obtain⟨g,f,hf,m,h⟩:=h;show pe_callL (M:=λb=>b=f) (R:=λ_=>R g) (λb hb=>by subst hb;show F g _ m) hx hr O Y ha.go a1 a0 he a2 pins s σ H Q I ⟨f,hf,rfl,h⟩
def Sr (O:X.A.units+1<cLine)(I:QE X o Y)(he:QE X e ty)(hf:QE X f tx)(m:M2 X o "get" apos e f cpos):QE X (.Call (.Attribute o "get" apos) [e,f] [] cpos) (Aq7 Y ty tx):=⟨pe_dget2 O I.go he.go hf.go m⟩
end L2
namespace L2
open PySem PySem.Spec PyProof.Rows PySem.W
section
variable {M:Model}{A:Around}{E:Bo}{s:Shared}{env:Env}{outer:List Env}{L e:Addr}{cls:Value}
end
end L2
namespace L2
open PySem PySem.Spec PyProof.Rows PySem.W Builtin Builtin.ObjectAttr
section
variable {prog:Program}{w:World}{A:Around}{E:Bo}{s:Shared}{K:Frag}{x C:Addr}{name:Str}{v:Value}{o:Obj}{vs:Array Value}
end
end L2
namespace L2
open PySem PySem.Spec PyProof.Rows PySem.W
section
variable {E:Bo}
end
section
end
section
variable {prog:Program}{w:World}{A:Around}{E:Bo}{h:Heap}{g:Array GenState}{d:Drawn}{t:Nat}{os:OsState}
variable {nm q:Str}{C N:Addr}{bs bm bmB:List Value}{hdct:Bool}{sn:List Str}{sub:List Value}{ab:Bool}{col:Option Bool}{dd:Option Addr}{k0 k1 k2 k3 k5:Option Value}{B newId initId:String}
end
section
variable {prog:Program}{w:World}{A:Around}{E:Bo}{s:Shared}{env:Env}
variable {nm q:Str}{C N:Addr}{bs bm:List Value}{hdct:Bool}{sn:List Str}{sub:List Value}{ab:Bool}{col:Option Bool}{dd:Option Addr}{k0 k1 k2 k3 k5:Option Value}{newId:String}
end
section
variable {P:Program}{w:World}{K:Av}{mg:Cb}{base:Heap}
end
section
end
section
end
section
end
section
end
def rEqT (K:Av):R2:=λx y H Q=>(scal x y=true/\Q (.bl (decide (x=y))) H)\/∃a us z,x=.ref a/\y=.str z/\BJ K H a us/\Q (.bl false) H
def op_eqTS (hu:X.A.units<cLine):CO X (compareOp .Eq) (rEqT X.K):=by
 intro pins s σ H x y v u Q I O Y h
 rcases h with h|⟨a,us,z,rfl,rfl,ha,q⟩
 .show Cf pins s σ H x y v u Q I O Y h
 .cases O;obtain⟨t,rfl⟩:=Y;show Bg (I.tuple ha) λits r ht _=>PySem.SeqAt.RcAt.tuple_str z t ht hu _ _ _ _ (Al (.bl false) H I rfl q)
section
variable {E:Bo}
end
def Inv.froze (I:Inv X pins σ H s)(hd:H d=some u)(O:∀xs,u≠.tup xs)(nf:∀o' u',u≠.EB o' u')(nb:∀ps,u≠.tbl ps)(Y:∀x,u≠.own x)(e:s.heap.get? d=some o) :
  Inv X pins σ (upd H d (.EB o u)) {s with heap:=s.heap,toks:=t'}:=by
 have keep:∀b o',H b=some o'->b≠d->upd H d (.EB o u) b=some o':=λb o' q n=>by rw[Aj n];show q
 have ok:AV X.prog X.w (upd H d (.EB o u)) s.heap d u:=(I.AU d u hd).FD (λ_ _ _ q=>q) (λb q=>keep b _ q λz=>by rw[z,hd]at q;cases q;show Y _ rfl) λb xs q=>keep b _ q λz=>by rw[z,hd]at q;cases q;show O _ rfl
 show I.un (t':=t') ⟨λb o' q n _ _=>q,λb o' q n _ _=>⟨o'.slots,q⟩,λb o' q n _=>by rw[Aj (λz=>by rw[z,hd]at n;cases n)];show n,λb o' q _=>⟨o',q⟩,λb xs q=>keep b _ q λz=>by rw[z,hd]at q;cases q;show O _ rfl,
  λb o' u' q=>keep b _ q λz=>by rw[z,hd]at q;cases q;show nf _ _ rfl,λb ps q=>⟨#[],by rw[Array.append_empty];show keep b _ q λz=>by rw[z,hd]at q;cases q;show nb _ rfl⟩⟩ λa o' q=>?_
 by_cases ha:a=d
 .subst ha;rw[Ah]at q;cases q;show⟨e,ok⟩
 .rw [Aj ha]at q;show(I.AU a o' q).FD (λ_ _ _ q=>q) (λb q=>keep b _ q λz=>by rw[z,hd]at q;cases q;show Y _ rfl) λb xs q=>keep b _ q λz=>by rw[z,hd]at q;cases q;show O _ rfl
def Ai2 (h:Qz k u=true):RelV (kV k) u:=by
 rcases Dl h with⟨i,t,rfl,rfl⟩|⟨x,t,rfl,rfl⟩
 .show⟨t,rfl⟩
 .show⟨t,rfl⟩
def Xh:∀{vs:List (Key×Value)},KV kvs vs->kvs.length=vs.length:=λr=>by
 induction r with
 | nil=>rfl
 | cons _ _ I=>rw[KC,KC,I]
theorem kv_get:∀{kvs:List (Key×V)} {vs:List (Key×Value)} {i:Nat} {k:Key} {v:V},KV kvs vs->kvs[i]?=some (k,v)->∃u,vs[i]?=some (k,u)/\RelV v u
 | _,_,i,k,v,.nil,e=>by simp at e
 | _,_,0,k,v,.cons (a:=a) (b:=b) h _,e=>by
  have e:a=(k,v):=by simpa using e
  obtain⟨b1,I⟩:=b;subst e;obtain⟨h1,h2⟩:=h;have h1:k=b1:=h1;subst h1;show Aq I rfl h2
 | _,_,i+1,k,v,.cons _ r,e=>by
  show Am (kv_get (i:=i) r (by simpa using e)) λu O Y=>Aq u (by simpa using O) Y
def frz_at (I:Inv X pins σ H s)(h:H d=some (.EB o (.dK kvs)))(hd:o.data=.dict es ep):∃vs,KV kvs vs/\s.heap.DictAt (Cu X.prog X.w) d vs ep:=by
 show Qi (I.AU d _ h) λg _ _ z1=>Am z1 λvs r z2=>Ri z2 λo' Y O g' ex dd kk pp nn=>?_;rw[g]at g';cases g';rw[hd]at dd;cases dd;show Aq vs r (Km o es g ex hd kk pp nn)
end L2
namespace PySem.SeqAt
open PySem PySem.Spec
end PySem.SeqAt
namespace L2
open PySem PySem.Spec PyProof.Rows
def AH.up {P:Program}{w:World}{K:Av}{mg:Cb}{base:Heap}{CX:IY}{k:Nat}{f:Addr}{fd:FuncData}{ps:List Str}{sp:Sp}(F:AH P w K mg base BE k f fd ps sp):AH P w K mg base CX k f fd ps sp:=
 ⟨F.len,λA outer s H args us vs Q E hr he hb I hs=>OI (F.run A outer s H args us vs Q E hr he hb I hs) λr s' h=>by
  cases r with
  | error e=>show False.elim h
  | ok fl=>cases fl<;>show h⟩
section
end
theorem Zj (u:Value):∀(k:Nat) (I:List Value),List.foldl (λO Y=>O++Y) I.toArray (List.replicate k #[u])=(I++List.replicate k u).toArray
 | 0,I=>by simp
 | k+1,I=>by
  rw[QC,List.foldl_cons,show I.toArray++#[u]=(I++[u]).toArray from by simp,Zj u k (I++[u])];simp[QC]
theorem Xz (r:RelV v u):∀k:Nat,AK (List.replicate k v) (List.replicate k u)
 | 0=>.nil
 | k+1=>by rw[QC,QC];show .cons r (Xz r k)
def rRepL:R2:=λx y H Q=>∃(a:Addr) (k:Int) (v:V),x=.ref a/\y=.int k/\H a=some (.lst [v])/\0<=k/\k<=1000/\∀p,H p=none->Q (.ref p) (upd H p (.lst (List.replicate k.toNat v)))
def op_repL:CO X (binaryOp .Mult) rRepL:=by
 intro pins s σ H x y u1 u2 Q I rx ry h;show Ri h λa k v z1 z2 ha h0 h3 q=>?_;subst z1 z2;cases rx;obtain⟨t,rfl⟩:=ry;show Fc (I.IG ha) λzl z1=>A0 z1 λits n r hl e=>?_
 cases r with
 | @cons v' u _ _ Y r2=>
   cases r2;show wpAny_binaryOp_repeat_ref (T:="list") (U:="int") (by decide) (Ad e rfl) (λs'=>typeIs_int s' k t) noFill_list_mul F.fills_int_mul F.slot_int_rmul repeat_list F.slot_int_index.lookup
     (OQ F.slot_int_rmul (typeIs_int s k t) F.entry_int_rmul (F.args_int_rmul_2 _ _) (int___rmul___int_list k t a #[u] n)
       (C7 e rfl (Ad e rfl) (OQ F.slot_list_mul (Ad e rfl) F.entry_list_mul (F.args_list_mul_2 _ _)
         (AutoListH.list___mul___list_int_3 a #[u] n k t (by simp[Builtin.List.listFitsIndex];omega) (by show ¬1*k.toNat>_;omega) (by show ¬Builtin.List.listTooLong (1*k.toNat)=true;simp[Builtin.List.listTooLong,sizeLine];omega))
         ⟨e,?_⟩)))
   have O:List.foldl (λx1 x2=>x1++x2) #[] (List.replicate (if(#[u]:Array Value).isEmpty=true then 0 else k.toNat) #[u])=(List.replicate k.toNat u).toArray:=by
     rw[KH (by simp)];have:=Zj u k.toNat [];simpa using this
   rw[O];show Al (.ref s.heap.objs.size) _ (I.laid (t':=s.toks) (o:=.lst (List.replicate k.toNat v)) (λb ob q=>JU _ q) (JV _) ?_) rfl (q _ (I.AU.fresh (JV _)));show⟨by rw[MT];show KN (by omega:k.toNat<=1000) (by decide),(Xk (Xz Y _) (KW _ rfl))⟩
section
end
def qe_bm0K (K:Av){r:V->List V->Hp->VK->Prop}(pa:PlainAttrs T)(a4:Slot T O I)(a0:typeOf (.builtin I)=pure (.type "method_descriptor"))(hm:MtR X I r)(ho:QE X o a1)(a2:attributeBase o O X.env (eval o X.env)=eval o X.env:=by rfl)(a3:(apos.endLine==cpos.line)=true:=by rfl)(Y:X.K=K:=by rfl):QE X (.Call (.Attribute o O apos) [] [] cpos) (tBM0 K T r a1):=by
 subst Y;show Kc pa a4 a0 hm ho a2 a3
def Mr {E:Bo}{I:Array Value}{O:Value}{lo:Option Int}{Q:Bo}(ht:IsTup s.heap t I)(hs:s.heap.IsSliceOf sl O vu .none)(Y:IsPart O lo)(pu:IsPart vu hi)
  (hw:HT.BA I.size 0 lo=0/\HT.BA I.size I.size hi=I.size)
  (h:Q (.ref t) s):wpAny (model prog w) A (getItem (.ref t) (.ref sl)) Q E s:=by
 show Bg (id hs) λos a2 a1 a4=>?_;have a0:s.TypeIs (.ref sl) "slice":=(Aq os a2 a1);unfold getItem
 try with_reducible show NO ?_
 first|show JQ (JW ?_)|skip
 show JQ (wpAny_sequenceKey ht.typeIs (by decide) ?_)
 show JQ (LW (name:=Str.ofString "__getitem__") ht.typeIs LO
  (MP LO ht.typeIs entry_tuple_getitem ?_ (args_tuple_getitem _ _)))
 show wpAny _ _ (Builtin.Tuple.tupleItemsOf (.ref t) >>= _) _ _ s
 show JQ (tupleItemsOf_ ht (JQ (PY a0 ?_)));rw[KJ (by decide)];show JQ (HT.DE hs Y pu ?_);have a3:((((HT.BA I.size 0 lo:Nat):Int)==0&&(1:Int)==1&&(HT.BA I.size I.size hi-HT.BA I.size 0 lo)==I.size)=true):=by
  rw[hw.1,hw.2];simp
 show wpAny _ _ (if(((HT.BA I.size 0 lo:Nat):Int)==0&&(1:Int)==1&&(HT.BA I.size I.size hi-HT.BA I.size 0 lo)==I.size)=true then _ else _) _ _ s
 rw[KJ a3];unfold Builtin.Tuple.tupleIsExact;show JQ (JQ (PY ht.typeIs (JW ?_)));rw[KJ (by decide)];show JQ (wpAny_rule (JW (Ad rfl (JW h))))
def rSlB (K:Av):V->Option Int->Option Int->Hp->VK->Prop:=λx lo hi H Q=>∃a xs,x=.ref a/\BJ K H a xs /\
 ((HT.BA xs.length 0 lo=0/\HT.BA xs.length xs.length hi=xs.length)->Q (.ref a) H)/\(¬(HT.BA xs.length 0 lo=0/\HT.BA xs.length xs.length hi=xs.length)->∀p,H p=none->Q (.ref p) (upd H p (.tup (Ef xs lo hi))))
def Jz:SlR X (rSlB X.K):=by
 intro pins s σ H x v vl vu lo hi sl Q I rx hs O Y h;show Ia h λa xs z1 hx q1 q2=>?_;subst z1;by_cases hw:HT.BA xs.length 0 lo=0/\HT.BA xs.length xs.length hi=xs.length
 .cases rx;show Bg (I.tuple hx) λits r ht hz=>?_;have a0:its.toArray.size=xs.length:=by rw[KS];show r.length.symm
  show Al "tuple" _ LO.lookup ht.typeIs ?_;show Mr ht hs O Y (by rw[a0];show hw) (Al (.ref a) H I rfl (q1 hw))
 .show E9 pins s σ H _ v vl vu lo hi sl Q I rx hs O Y (Co a xs rfl hx hw (q2 hw))
def At1 (K:Av):R2:=λx y H Q=>∃a b xs ys,x=.ref a/\y=.ref b/\BJ K H a xs/\BJ K H b ys/\xs.length+ys.length<=sizeLine/\(xs=[]->Q (.ref b) H)/\(xs≠[]->ys=[]->Q (.ref a) H)/\(xs≠[]->ys≠[]->∀p,H p=none->Q (.ref p) (upd H p (.tup (xs++ys))))
def Ao6 {E:Bo}{ws:List Value}{Q:Bo}(ht:IsTup s.heap t us.toArray)(hb:IsTup s.heap b ws.toArray)(hv:us=[])(h:Q (.ref b) s):wpAny (model prog w) A (binaryOp .Add (.ref t) (.ref b)) Q E s:=by
 show Bg (id ht) λz1 I k1 z2=>?_;obtain⟨c1,d1,a1,z1⟩:=z1;obtain⟨n1,Y⟩:=z2;show Bg (id hb) λz1 O k2 z2=>?_;obtain⟨c2,d2,a2,z2⟩:=z1;obtain⟨n2,m2⟩:=z2;simp only at k1 Y k2 m2;subst k1 Y k2 m2;show concat_meets (Ad I rfl) (Ad O rfl) noFill_tuple_add seq_tuple_add PySem.F.slot_tuple_add QU (QF _ _) (tuple_addW0 t b us.toArray ws.toArray n1 n2 d1 d2 z1 z2 (by simp[hv])) (Az I O h)
def F9:CO X (binaryOp .Add) (At1 X.K):=by
 intro pins s σ H x y v u Q I O Y h;show Ox h λa b xs ys z1 z2 ha hb hz z3=>Ch z3 λq0 q1 q2=>?_;subst z1 z2;by_cases hx:xs=[]
 .cases O;cases Y;show Bg (I.tuple ha) λits r1 p1 _=>Bg (I.tuple hb) λa0 r2 p2 _=>Ao6 p1 p2 (r1.GL.mpr hx) (Al (.ref b) H I rfl (q0 hx))
 .show op_catT pins s σ H _ _ v u Q I O Y (Cm a b xs ys rfl rfl ha hb hx (Az hz (q1 hx) (q2 hx)))
def CI (s:AA H H1)(h:H d=none):AA H (upd H1 d o):=λb u q=>by rw[Aj (Af q h)];show s b u q
def Ct {α:Type}{l:List α}{i:Nat}{x:α}(h:l[i]?=some x):l.take (i+1)=l.take i++[x]:=by
 rw[List.take_succ,h];rfl
def join (J:L2.St->Hp->Prop)(h1:∀σ' H',J σ' H'->u D σ' H')(h2:(∀σ' H',J σ' H'->u D σ' H')->Aa1 t u D σ H):Aa1 t u D σ H:=h2 h1
def AG (dl:Addr)(H H':Hp):Prop:=∀c u,H c=some u->c≠dl->H' c=some u
def AG.trans {dl:Addr}{H H1 H2:Hp}(a:AG dl H H1)(b:AA H1 H2):AG dl H H2:=λc u e n=>b _ _ (a c u e n)
def O1 {K:Av}(ha:H a=some (.tup xs))(hb:H b=some (.tup ys))(O:xs.length+ys.length<=1000)(k:∀p H',AA H H'->H' p=some (.tup (xs++ys))->Q (.ref p) H'):At1 K (.ref a) (.ref b) H Q:=by
 show Cm a b xs ys rfl rfl (.inl (.inl ha)) (.inl (.inl hb)) (KN O (by decide)) (Az (λe=>?_) (λn e=>?_) λ_ _ p I=>k p _ ((AA.refl H).upd I) Ah)
 .subst e;show k b H (AA.refl H) hb
 .subst e;show k a H (AA.refl H) (by rw[MN];show ha)
def norm {D:L2.St->Hp->Prop}(e:σ=σ')(h:D σ' H):D σ H:=e▸h
class ThE (σ:St) (H:Hp) (te:TE) (t:outParam Th):Prop where
 go:∀H1,AA H H1->∀Q:VK,(∀v H',AA H1 H'->AQ H' v t->Q v H')->te σ H1 Q
class ThA (σ:St) (H:Hp) (n:Nat) (ta:TA) (ts:outParam (List Th)):Prop where
 len:ts.length<=n
 go:∀H1,AA H H1->∀Q:List V->Hp->Prop,(∀vs H',AA H1 H'->AI H' vs ts->Q vs H')->ta σ H1 Q
section
instance {i:Int}:ThE σ H (tC (.int i)) (.num i):=⟨λH1 _ Q k=>k _ H1 (AA.refl _) rfl⟩
instance {x:Str}:ThE σ H (tC (.str x)) (.wd x):=⟨λH1 _ Q k=>k _ H1 (AA.refl _) rfl⟩
def ThE.var (h:σ[i]?=some (some v))(th:AQ H v t):ThE σ H (tVar i) t:=⟨λH1 s Q k=>(Aq v h (k _ H1 (AA.refl _) (th.mono s.AF)))⟩
instance:ThA σ H n Yd []:=⟨LN _,λH1 _ Q k=>k _ H1 (AA.refl _) rfl⟩
instance [a:ThE σ H te t] [b:ThA σ H n ta ts]:ThA σ H (n+1) (Go te ta) (t::ts):=
 ⟨Nat.succ_le_succ b.len,λH1 s Q k=>a.go H1 s _ λv H2 s2 th=>b.go H2 (s.trans s2) _ λvs H3 I O=>k _ H3 (s2.trans I) (Al v vs rfl (th.mono I.AF) O)⟩
instance [b:ThA σ H 20 ta ts]:ThE σ H (tTup ta) (.tup ts):=
 ⟨λH1 s Q k=>b.go H1 s _ λvs H2 s2 th=>⟨by rw[th.len];show KN b.len (by decide),λp I=>k _ _ (s2.upd I) (Al p vs rfl Ah (th.mono ((AA.refl H2).upd I).AF))⟩⟩
def thing [h:ThE σ H0 te t](k:∀v H',AA H H'->AQ H' v t->Q v H')(s:AA H0 H:=by show AA.refl _):te σ H Q:=h.go H s Q k
def Qm (ha:H a=some (.lst xs))(hb:H b=some (.lst ys))(O:xs.length+ys.length<=1000)(k:∀p H',H p=none->AA H H'->H' p=some (.lst (xs++ys))->Q (.ref p) H'):rCat (.ref a) (.ref b) H Q:=
 (Cm a b xs ys rfl rfl ha hb (zl _ O) λp I=>k p _ I ((AA.refl H).upd I) Ah)
def Dt (h:te σ H λx H1=>u D (σ.set i (some x)) H1):Aa1 (Ye te (BH i)) u D σ H:=h
def Q1 (h:ta σ H λxs H1=>xs.length<=sizeLine/\∀p,H1 p=none->Q (.ref p) (upd H1 p (.tup xs))):tTup ta σ H Q:=h
def consN {Q:List V->Hp->Prop}(h:te σ H λx H1=>ta σ H1 λxs H2=>Q (x::xs) H2):Go te ta σ H Q:=h
def M1 {Q:List V->Hp->Prop}(h:ta σ H λxs H2=>Q (v::xs) H2):Go (tC v) ta σ H Q:=h
def opN (h:te σ H λx H1=>tb σ H1 λy H2=>r x y H2 Q):JM r te tb σ H Q:=h
def Bz (h:H p=none)(e:upd H p o=X):AA H X/\X p=some o:=by subst e;show⟨(AA.refl H).upd h,Ah⟩
def Hw (h:AQ H v t):AI H [v] [t]:=(Aw rfl h rfl)
def Jd (h:te σ H D.rt):tRet te D σ H:=h
end
end L2
namespace T
open PySem PySem.Spec PyProof.Rows L2
def AW {c:Prop}[Decidable c]{α:Type}{t e:α}(h:¬c:=by decide):(if c then t else e)=e:=KH h
structure CE where
 R:Str->Option (List Str)
 F:Str->Option (List Str×Str)
 κ:Str->Option Str
abbrev Oc:List Str:=["number","number"]
noncomputable def nn:List Str:=Oc
noncomputable def tt:List Str:=["truth","truth"]
noncomputable def takes:List (Str×List Str):=[("+",nn),("-",nn),("*",nn),("/",nn),("rest",nn),("<",nn),("and",tt),("or",tt),("not",["truth"]),("list",["number"]),("long",["list"]),("at",["list","number"]),("out",["number"]),("store",["list","number","number"])]
noncomputable def gives:List (Str×Str):=[("+","number"),("-","number"),("*","number"),("/","number"),("rest","number"),("<","truth"),("=","truth"),("and","truth"),("or","truth"),("not","truth"),("get","number"),("list","list"),("long","number"),("at","number")]
noncomputable def opK (E:CE)(op:Str)(r:List Th)(ks:List (Option Str)):Option Str:=
 if op="call" then(match r,ks with
  | .wd f::_,_::I=>(match E.F f with|some (ws,k)=>if I=ws.map some then some k else none|none=>none)
  | _,_=>none)
 else if op="new" then(match r with|[.wd n]=>(match E.R n with|some _=>some n|none=>none)|_=>none)
 else if op="get" then(match r,ks with
  | [_,.wd f],[some k,_]=>(match E.R k with|some fl=>if f∈fl then some "number" else none|none=>none)
  | _,_=>none)
 else if op="=" then(match ks with|[some k,k2]=>if(k="number"\/k="truth")/\k2=some k then some "truth" else none|_=>none)
 else(match takes.lookup op,gives.lookup op with|some ws,some k=>if ks=ws.map some then some k else none|_,_=>none)
mutual
noncomputable def kE (E:CE):Th->Option Str
 | .num n=>if -32768<=n/\n<=32767 then some "number" else none
 | .wd x=>if x="yes"\/x="no" then some "truth" else E.κ x
 | .tup []=>none
 | .tup (.num _::_)=>none
 | .tup (.tup _::_)=>none
 | .tup (.wd op::r)=>opK E op r (kL E r)
noncomputable def kL (E:CE):List Th->List (Option Str)
 | []=>[]
 | t::r=>kE E t::kL E r
end
noncomputable def sgn (c:Nat):Bool:=decide (97<=c)&&decide (c<=122)
noncomputable def Ae1 (x:Str):Bool:=decide (1<=x.length)&&decide (x.length<=8)&&x.cps.toList.all sgn
noncomputable def Dd (x:Str):Bool:=Ae1 x&&!(decide (x="yes")||decide (x="no"))
abbrev Kd:=Str->Option Str
noncomputable def putK (κ:Kd)(x k:Str):Kd:=λy=>if y=x then some k else κ y
structure SE where
 R:Str->Option (List Str)
 F:Str->Option (List Str×Str)
 g:Str
noncomputable def SE.e (s:SE)(κ:Kd):CE:=⟨s.R,s.F,κ⟩
abbrev SR:=Option (Kd×List Str×Bool)
noncomputable def GC (c:Bool)(κ:Kd)(kn:List Str)(e:Bool):SR:=if c then some (κ,kn,e)else none
noncomputable def FZ (s:SE)(op:Str)(r:List Th)(O:List (Kd->List Str->SR))(κ:Kd)(kn:List Str):SR:=
 if op="let" then(match r with|[.wd x,u]=>(match kE (s.e κ) u with|some k=>GC (Dd x&&!decide (x∈kn)) (putK κ x k) (x::kn) false|none=>none)|_=>none)
 else if op="put" then(match r with|[.wd x,u]=>(match κ x with|some k=>GC (decide (kE (s.e κ) u=some k)) κ kn false|none=>none)|_=>none)
 else if op="if" then(match r,O with
  | [t,_,_],[_,I,Y]=>if kE (s.e κ) t=some ("truth":Str)then(match I κ kn with
   | some (_,kn1,e1)=>(match Y κ kn1 with|some (_,kn2,e2)=>some (κ,kn2,e1&&e2)|none=>none)
   | none=>none)else none
  | _,_=>none)
 else if op="while" then(match r,O with
  | [t,_],[_,I]=>if kE (s.e κ) t=some ("truth":Str)then(match I κ kn with|some (_,kn1,_)=>some (κ,kn1,false)|none=>none)else none
  | _,_=>none)
 else if op="give" then GC (decide (kL (s.e κ) r=[some s.g])) κ kn true
 else if op="fail" then(match r with|[.num n]=>GC (decide (-32768<=n/\n<=32767)) κ kn true|_=>none)
 else if op="set" then(match r with
  | [t,.wd f,v]=>(match kE (s.e κ) t with
   | some k=>(match s.R k with|some fl=>GC (decide (f∈fl)&&decide (kE (s.e κ) v=some ("number":Str))) κ kn false|none=>none)
   | none=>none)
  | _=>none)
 else if op="out" then GC (decide (kL (s.e κ) r=[some ("number":Str)])) κ kn false
 else if op="store" then GC (decide (kL (s.e κ) r=[some ("list":Str),some ("number":Str),some ("number":Str)])) κ kn false
 else if op="do" then(match r with|[t]=>GC (kE (s.e κ) t).isSome κ kn false|_=>none)
 else none
mutual
noncomputable def BX (s:SE):Th->Kd->List Str->SR
 | .tup (.wd op::r)=>FZ s op r (Cs s r)
 | .tup []=>λ_ _=>none
 | .tup (.num _::_)=>λ_ _=>none
 | .tup (.tup _::_)=>λ_ _=>none
 | .num _=>λ_ _=>none
 | .wd _=>λ_ _=>none
noncomputable def Cs (s:SE):List Th->List (Kd->List Str->SR)
 | []=>[]
 | .tup a::r=>D7 s a::Cs s r
 | .num _::r=>(λ_ _=>none)::Cs s r
 | .wd _::r=>(λ_ _=>none)::Cs s r
noncomputable def D7 (s:SE):List Th->Kd->List Str->SR
 | []=>λκ kn=>some (κ,kn,false)
 | t::r=>λκ kn=>(match BX s t κ kn with
  | some (κ1,kn1,e)=>if e then(if r.isEmpty then some (κ1,kn1,true)else none)else D7 s r κ1 kn1
  | none=>none)
end
def BF:Nat->Th->Prop
 | _,.num _=>True
 | _,.wd _=>True
 | 0,.tup _=>False
 | n+1,.tup l=>∀t∈l,BF n t
def Dv:BF n (.wd x):=by unfold BF;trivial
def Rs:BF n (.num x):=by unfold BF;trivial
def Dy (h:∀t∈l,BF n t):BF (n+1) (.tup l):=by unfold BF;show h
def Ee (h:BF (n+1) (.tup l)):∀t∈l,BF n t:=by unfold BF at h;show h
def Cq (h:BF n a)(h':∀t∈l,BF n t):∀t∈a::l,BF n t:=λt ht=>by
 rcases JT.mp ht with rfl|ht
 .show h
 .show h' t ht
def Ow:∀t∈([]:List Th),BF n t:=λt ht=>by cases ht
def Zo (h':∀t∈l,BF n t)(h:BF n a):∀t∈l++[a],BF n t:=λt ht=>(KQ.mp ht).elim (h' t) λz=>by rw[KD.mp z];show h
theorem BF.mono:∀{n m:Nat} {t:Th},BF n t->n<=m->BF m t
 | _,_,.num _,_,_=>Rs
 | _,_,.wd _,_,_=>Dv
 | 0,_,.tup _,h,_=>by unfold BF at h;cases h
 | n+1,0,.tup _,_,h=>by omega
 | n+1,m+1,.tup l,h,hm=>Dy λt ht=>(Ee h t ht).mono (by omega)
def dle1 (h:BF n a):BF (n+1) (.tup [.wd op,a]):=Dy (Cq Dv (Cq h Ow))
def dle2 (h:BF n a)(h2:BF n b):BF (n+1) (.tup [.wd op,a,b]):=Dy (Cq Dv (Cq h (Cq h2 Ow)))
def dle3 (h:BF n a)(h2:BF n b)(h3:BF n c):BF (n+1) (.tup [.wd op,a,b,c]):=Dy (Cq Dv (Cq h (Cq h2 (Cq h3 Ow))))
def Qe:kE E (.tup (.wd op::r))=opK E op r (kL E r):=by rw[kE]
def C5:BX s (.tup (.wd op::r))=FZ s op r (Cs s r):=by rw[BX]
end T
namespace L2
open PySem PySem.Spec PyProof.Rows
noncomputable def Itk (d:Addr)(o:Obj)(kvs:List (Key×V)):It:=
 ⟨λi H=>H d=some (.EB o (.dK kvs))/\i<kvs.length,
  λi H v H'=>H'=H/\∃k x,v=kV k/\kvs[i]?=some (k,x),
  λi H=>H d=some (.EB o (.dK kvs))/\kvs.length<=i⟩
theorem Ak7 {P:Program}{w:World}{K:Av}(hd:o.data=.dict es ep) :
  Turn P w K tg (Itk d o kvs) [it] it (λi h=>h.IsKeyIter it d i kvs.length ep) where
 mem:=by simp
 obj:=λi h st b hb=>by
  have e:b=it:=by simpa using hb
  subst e;show Bg st λo e c d=>?_;show Aq o e λv z=>by rw[d]at z;cases z
 keep:=λi h h' st k=>by
  show Bg st λo e c d=>Bx o (k it (by simp) o e) c d
 item:=by
  intro X hP hw hK hc i pins s σ H E I hf st hg;subst hP hw hK;obtain⟨hz,hi⟩:=hg;show Am (frz_at I hz hd) λvs r Y=>?_;obtain⟨⟨k,v⟩,hv⟩:∃p,kvs[i]?=some p:=⟨_,LC hi⟩;show Am (kv_get r hv) λu hu ru=>?_;have len:=Xh r;have O:=st;rw[len]at O;show Ib (hf it (by simp)) λf0 f1 f2 f3 f4 f5=>wpAny_pyNext_dict_item O Y hu λkey h' a1 a0 sb=>?_;have I1:Inv X pins σ H {s with heap:=h'}:=I.turned (t':=s.toks) (λb o hb e=>(sb.2 b hb).trans e) f0 f1 f3 f4 f5;show Bg (id a0) λo' e c d'=>?_;show Aq key rfl (Ai6 (s:={s with heap:=h'}) e c d' (by decide) (Jr (kV k) H I1 (Ai2 a1) ⟨rfl,(C6 k v rfl hv)⟩ (by rw[len];show a0) λb hb=>(hf b hb).1))
 done:=by
  intro X hP hw hK hc i pins s σ H E I hf st hg;subst hP hw hK;obtain⟨hz,hl⟩:=hg;show Am (frz_at I hz hd) λvs r Y=>?_;have len:=Xh r;have O:=st;rw[len]at O;show Ib (hf it (by simp)) λf0 f1 f2 f3 f4 f5=>wpAny_pyNext_dict_end (I.ok.hd hc) O Y (List.getElem?_eq_none (by omega)) λh' eb=>⟨rfl,I.turned (t':=s.toks) (λb o hb e=>eb b o hb e) f0 f1 f3 f4 f5⟩
 self:=λ_ _ _ _ _ st h=>wpAny_pyIter_keyiter st h
def iKeys (I:TE):TI:=λσ H R=>I σ H λx H1=>∃d kvs,x=.ref d/\H1 d=some (.dK kvs)/\∀o,R (Itk d o kvs) (upd H1 d (.EB o (.dK kvs)))
def Wj (ho:QE X e td):QI X tg e (iKeys td):=by
 show⟨λpins s σ H R I h=>AT (ho.go pins s σ H _ I h) λv s1 ⟨x,H1,O,r1,d,kvs,ex,hd,q⟩=>?_⟩;subst ex;cases r1;show Ch (O.AU d _ hd) λzl hs z1=>Am z1 λvs r z2=>Ri z2 λob es ep g ex dd a1 pp nn=>?_;have len:=Xh r;show wpAny_pyIter_dict (knd:=Cu X.prog X.w) (kvs:=vs) (ep:=ep) hs (Km ob es g ex dd a1 pp nn) ?_;have I3:=O.froze (o:=ob) (t':=s1.toks) hd (λ_ z=>nomatch z) (λ_ _ z=>nomatch z) (λ_ z=>nomatch z) (λ_ z=>nomatch z) g;have I4:=I3.kept (t':=s1.toks) (h':=s1.heap.push {cls:=.type "dict_keyiterator",data:=.fields #[.ref d,.int 0 0,.int vs.length 0,.int ep 0]}) λb o q=>JU _ q;have a0:@LT.lt Nat _ d s1.heap.objs.size:=JZ g;show F5 _ [s1.heap.objs.size] _ (Itk d ob kvs) _ rfl I4 (Ak7 dd) (Bh (KW _ rfl) rfl (by rw[len];rfl)) (λc Y=>?_) (q ob);have Y:c=s1.heap.objs.size:=by simpa using Y
 subst Y;show O.IM (JV _) ?_;rw[Aj (MK a0)];show O.AU.fresh (JV _)
def Qk {d D:Addr}{o:Obj}{kvs:List (Key×V)}{g:TG}{tt:TT}{te:TE}{σ0:St}{H1:Hp}{Q:Hp->Prop}(Pv:Nat->List V->St->Hp->Prop)(hx:kvs.length<=sizeLine)(hD:H1 D=none)(h0:Pv 0 [] σ0 (upd H1 D (.lst [])))
   (hl:∀i ys σ H,i<=kvs.length->Pv i ys σ H->H d=some (.EB o (.dK kvs))/\H D=some (.lst ys)/\ys.length<=i)
   (hs:∀i k x ys σ H,kvs[i]?=some (k,x)->Pv i ys σ H->g (kV k) σ H λσ3 H3=>tt σ3 H3 λok O=>if ok=true then te σ3 O λy I=>I D=some (.lst ys)/\Pv (i+1) (ys++[y]) σ3 (upd I D (.lst (ys++[y])))else Pv (i+1) ys σ3 O)
   (hd:∀ys σ H,Pv kvs.length ys σ H->Q H) :
   ∃W:Nat->Nat->St->Hp->Prop,(∃m,W 0 m σ0 (upd H1 D (.lst [])))/\∀i m σ' H',W i m σ' H' ->
     ((Itk d o kvs).stop i H'/\Q H')\/((Itk d o kvs).go i H'/\∃(Ay:V->St->Hp->Prop) (An:St->Hp->Prop),(∀y σ3 I,Ay y σ3 I->∃ys,I D=some (.lst ys)/\ys.length<sizeLine/\∃Y,Y<m/\W (i+1) Y σ3 (upd I D (.lst (ys++[y])))) /\
       (∀σ3 O,An σ3 O->∃Y,Y<m/\W (i+1) Y σ3 O) /\
       ∀x H2,(Itk d o kvs).GF i H' x H2->g x σ' H2 λσ3 H3=>tt σ3 H3 λok O=>if ok=true then te σ3 O (λy I=>Ay y σ3 I)else An σ3 O):=by
 show Aq (λi m σ H=>m=kvs.length-i/\i<=kvs.length/\∃ys,Pv i ys σ H) (Bx kvs.length (by simp) (LN _) ⟨[],h0⟩) ?_;rintro i m σ H ⟨rfl,hi,ys,p⟩;show Ch (hl i ys σ H hi p) λz1 z2 z3=>?_
 rcases Nat.lt_or_ge i kvs.length with lt|ge
 . show .inr ⟨⟨z1,lt⟩,(Al (λy σ3 I=>I D=some (.lst ys)/\Pv (i+1) (ys++[y]) σ3 (upd I D (.lst (ys++[y])))) (λσ3 O=>Pv (i+1) ys σ3 O) (λy σ3 I q=>(Bx ys q.1 (by omega) (Dh (kvs.length-(i+1)) (by omega) rfl lt ⟨_,q.2⟩))) (λσ3 O q=>(Dh (kvs.length-(i+1)) (by omega) rfl lt ⟨_,q⟩)) λx H2 y=>?_)⟩;show Fc y λz1 z2=>C8 z2 λk x' z3 e=>?_;subst z1 z3;show hs i k x' ys σ _ e p
 . obtain rfl:i=kvs.length:=Nat.le_antisymm hi ge;show .inl ⟨⟨z1,JV _⟩,hd ys σ H p⟩
def Inv.thaw (I:Inv X pins σ H s)(hd:H d=some (.EB o u))(nt:∀xs,u≠.tup xs)(nb:∀ps,u≠.tbl ps)(h0:∀o' O,X.H₀ d≠some (.EB o' O)):Inv X pins σ (upd H d u) s:=by
 have keep:∀b o',H b=some o'->b≠d->upd H d u b=some o':=λb o' q n=>by rw[Aj n];show q
 have Y:∀b,H b=none->upd H d u b=none:=λb q=>by rw[Aj λz=>by rw[z,hd]at q;cases q];show q
 show⟨I.ok,I.os,I.bare,⟨I.base.keep,I.base.slot,λb o' q n x=>Y b (I.base.free b o' q n x),I.base.there,λb xs q=>keep b _ (I.base.AF b xs q) λz=>?_,λb o' O q=>keep b _ (I.base.DX b o' O q) λz=>h0 o' O (z▸q),λb ps q=>?_⟩,I.loc,I.cell,Y _ I.free,λx c q=>Y c (I.CC x c q),λp hp=>?_,λa o' q=>?_,I.len⟩
 .have:=I.base.AF b xs q;rw[z,hd]at this;cases this
 .obtain⟨more,q'⟩:=I.base.FN b ps q;show⟨more,keep b _ q' λz=>by rw[z,hd]at q';cases q'⟩
 .show Ch (I.pin p hp) λa1 a2 a3=>Az a1 (Y _ a2) a3
 .by_cases ha:a=d
  .subst ha;rw[Ah]at q;cases q;obtain⟨_,ok⟩:=I.AU a _ hd;show ok.FD (λ_ _ _ q=>q) (λb q=>keep b _ q λz=>by rw[z,hd]at q;cases q) λb xs q=>keep b _ q λz=>by rw[z,hd]at q;cases q
  .rw [Aj ha]at q;show(I.AU a o' q).FD (λ_ _ _ q=>q) (λb q=>keep b _ q λz=>by rw[z,hd]at q;cases q) λb xs q=>keep b _ q λz=>by rw[z,hd]at q;cases q
def Inv.nofrz (I:Inv X pins σ H s)(hd:H d=some (.dK kvs)):∀o' O,X.H₀ d≠some (.EB o' O):=λo' O z=>by
 have:=I.base.DX d o' O z;rw[hd]at this;cases this
def tThwS (ts:TS):TS:=λD σ H=>∃d kvs,H d=some (.dK kvs)/\ts {D with nx:=λσ' H1=>∃o,H1 d=some (.EB o (.dK kvs))/\D.nx σ' (upd H1 d (.dK kvs))} σ H
def Ab3 {X:Cx}{st:Stmt}{ts:TS}(h:QS X st ts):QS X st (tThwS ts):=⟨λpins s σ H D I q=>by
 obtain⟨d,kvs,hd,q⟩:=q;show AT (h.go pins s σ H _ I q) λf s1 z=>?_
 cases f with
 | next=>
  show C8 z λσ' H' O z1=>Am z1 λo hf Y=>C6 σ' _ (O.thaw hf (λ_ z=>nomatch z) (λ_ z=>nomatch z) (I.nofrz hd)) Y
 | brk=>show z
 | cont=>show z
 | ret u=>show z⟩
theorem U3:∀{kvs:List (Key×V)} {vs:List (Key×Value)} {its:List Value},KV kvs vs->its.length=vs.length->(∀(j:Nat) v,its[j]?=some v->∃k x,vs[j]?=some (k,x)/\Qz k v=true)->AK (kvs.map λp=>kV p.1) its
 | _,_,[],.nil,_,_=>.nil
 | _,_,u::us,.nil,h,_=>by cases h
 | _,_,[],.cons _ _,h,_=>by cases h
 | _,_,u::us,.cons (a:=a) (b:=b) h r,hl,I=>by
  show C8 (I 0 u rfl) λk x e1 e2=>?_;have e1:b=(k,x):=by simpa using e1
  have O:a.1=k:=by rw[h.1,e1]
  show .cons (by show RelV (kV a.1) u;rw[O];show Ai2 e2) (U3 r (by simpa using hl) λj v e=>by
   show C8 (I (j+1) v (by simpa using e)) λk x e1 e2=>(C6 k x (by simpa using e1) e2))
def Ic (hc:X.calm=true):BD X (.type "list") (λxs H Q=>∃(a:Addr) (kvs:List (Key×V)),xs=[.ref a]/\Rd H a (.dK kvs)/\∀l,H l=none->Q (.ref l) (upd H l (.lst (kvs.map λp=>kV p.1)))):=by
 intro pins s σ H xs us Q I r h;show A0 h λa kvs z1 ha q=>?_;subst z1;show Am (Jj r) λu z1 ru=>?_;subst z1;cases ru;show Ch (M0 I.AU ha) λz hS z1=>Am z1 λvs O dd=>?_;obtain⟨ep,da⟩:=dd.dictAt;have len:=Xh O;show PySem.W.kdl_call (PySem.W.kdl_dict (knd:=Cu X.prog X.w) (kvs:=vs) (ep:=ep) hS) (I.ok.hd hc) da (by rw[← len];show z) λh' tk Y c' hk hD a0=>?_;have rv:AK (kvs.map λp=>kV p.1) Y.toList:=U3 O (by rw[OS];show a0.1) λj v e=>a0.2 j v (by rw[← Array.getElem?_toList];show e);show Al (.ref s.heap.objs.size) _ (I.laid (t':=tk) hk (JV _) (show AV X.prog X.w _ h' _ (.lst _)from⟨by rw[JR];show z,(C6 Y.toList c' rv (by rw[Array.toArray_toList];show hD))⟩)) rfl (q _ (I.AU.fresh (JV _)))
section
def qf (F:AJ X.prog X.w X.K X.mg X.base k x ps sp)(hr:BC m X.A)(ha:QA X (e::es) t)(hk:k<=m:=by omega)(hg:Gl X x:=by rfl)(I:Eg x:=by decide)(he:Gi X e es:=by rfl)(O:Hf X pos es:=by rfl):QE X (.Call (.Name x p) (e::es) [] pos) (Nu sp [] E0 t):=qe_fn F (hr.mono hk) hg ha I he O
def JI (F:CN X.prog X.w X.K X.mg X.base k x ps sp)(I:Gm (HD X.prog X.w) X E)(hr:BC m X.A)(ha:QA X (e::es) t)(hk:k<=m:=by omega)(hg:Gl X x:=by rfl)(O:Eg x:=by decide)(he:Gi X e es:=by rfl)(Y:Hf X pos es:=by rfl):QE X (.Call (.Name x p) (e::es) [] pos) (Nu sp [] E t):=qe_fn1 F I (hr.mono hk) hg ha O he Y
def Cl (i:Nat)(I:X.N.Nodup)(he:QE X e te)(hi:X.N[i]?=some x:=by rfl)(hx:Loc X.env.scope x:=by show Or.inl rfl)(hs:swapsWith e (some (.Name x O)) pos.line X.env=pure false:=by rfl)(hf:Xv X x:=by first|show .inl rfl|show .inr rfl|assumption):QS X (.Assign [.Name x O] e pos) (Ye te (BH i)):=Wh I hi hx he hs hf
def GV (i:Nat)(I:X.N.Nodup)(hi:X.N[i]?=some x:=by rfl)(hx:Loc X.env.scope x:=by show Or.inl rfl)(hf:Xv X x:=by first|show .inl rfl|show .inr rfl|assumption):QG X (.Name x pos) (BH i):=Ag5 I hi hx hf
def FX (i:Nat)(I:X.N.Nodup:=by show List.Nodup (_:List Str);dsimp only[CG];decide +kernel)(hi:X.N[i]?=some x:=by rfl)(hx:Loc X.env.scope x:=by show Or.inl rfl)(hf:Xv X x:=by first|show .inl rfl|show .inr rfl|assumption):QG X (.Name x pos) (BH i):=Ag5 I hi hx hf
def BY (ha:QE X a ta)(hb:QE X b tb)(hs:Xu b:=by show λ_ _=>rfl):QE X (.Subscript a b pos) (JM (Q5 X.K) ta tb):=Da Hu ha hb hs
def BU (hr:BC m X.A)(ha:QE X a ta)(hb:QE X b tb)(hs:Ap0 b:=by show λ_ _=>rfl):QE X (.Subscript a b pos) (Aq8 ta tb):=qe_dget (Ds hr) ha hb hs
def BM (I:CO X (compareOp op) r)(ha:QE X a ta)(hb:QE X b tb)(hm:behindInMarks op b=false:=by show nomark _):QT X (.Compare a [op] [b] pos) (Yc (JM r ta tb)):=Rk I ha hb hm
def ER (I:CO X (compareOp op) r)(ha:QE X a ta)(hb:QE X b tb)(hm:behindInMarks op b=false:=by show nomark _):QE X (.Compare a [op] [b] pos) (JM r ta tb):=Io I ha hb hm
end
section
def AM (ha:QE X a ta)(s1:starEach [a] X.env=(false,eval a X.env)::starEach [] X.env:=by rfl):QA X [a] (Go ta Yd):=Di ha Fa s1
def AS (ha:QE X a ta)(hb:QE X b tb)(s1:starEach [a,b] X.env=(false,eval a X.env)::starEach [b] X.env:=by rfl)(s2:starEach [b] X.env=(false,eval b X.env)::starEach [] X.env:=by rfl):QA X [a,b] (Go ta (Go tb Yd)):=Di ha (AM hb s2) s1
def BV (ha:QE X a ta)(hb:QE X b tb)(I:QE X c Y)(s1:starEach [a,b,c] X.env=(false,eval a X.env)::starEach [b,c] X.env:=by rfl)(s2:starEach [b,c] X.env=(false,eval b X.env)::starEach [c] X.env:=by rfl)(O:starEach [c] X.env=(false,eval c X.env)::starEach [] X.env:=by rfl):QA X [a,b,c] (Go ta (Go tb (Go Y Yd))):=Di ha (AS hb I s2 O) s1
def EW (ha:QE X a ta)(hb:QE X b tb)(I:QE X c tc)(hd:QE X d td)(s1:starEach [a,b,c,d] X.env=(false,eval a X.env)::starEach [b,c,d] X.env:=by rfl)(s2:starEach [b,c,d] X.env=(false,eval b X.env)::starEach [c,d] X.env:=by rfl)(O:starEach [c,d] X.env=(false,eval c X.env)::starEach [d] X.env:=by rfl)(Y:starEach [d] X.env=(false,eval d X.env)::starEach [] X.env:=by rfl):QA X [a,b,c,d] (Go ta (Go tb (Go tc (Go td Yd)))):=Di ha (BV hb I hd s2 O Y) s1
def Eh (hm:X.mg x=none)(ha:QE X a ta)(I:bootBuiltins x=some (.builtin "len"):=by show OL)(hg:Gl X x:=by rfl)(hn:x≠"__name__":=by decide)(O:Eg x:=by decide)(s1:starEach [a] X.env=(false,eval a X.env)::starEach [] X.env:=by rfl):QE X (.Call (.Name x p) [a] [] pos) (tCB (λxs H Q=>∃p ys,xs=[V.ref p]/\(AO X.K H p ys\/BJ X.K H p ys)/\Q (.int ys.length) H) (Go ta Yd)):=Bc Ks hg hm I (AM ha s1) hn O s1 rfl
end
def map_c {a:V}{l:List V}:List.map some (a::l)=some a::List.map some l:=rfl
def map_n:List.map some ([]:List V)=[]:=rfl
def app_c {a:Option V}{l r:List (Option V)}:a::l++r=a::(l++r):=rfl
def app_n {r:List (Option V)}:[]++r=r:=rfl
def FS (nd:N.Nodup:=by decide +kernel)(par:∀x∈P,sc.names.lookup x=some .local\/sc.names.lookup x=some .cell:=by decide +kernel)(IF:∀y∈sc.names,y.2≠.free:=by decide +kernel)(pre:N.take P.length=P:=by rfl)(k:sc.kind=.function:=by rfl)(c:sc.isCoroutine=false:=by rfl)(g:sc.isGenerator=false:=by rfl):AD N P sc:=⟨k,c,g,nd,pre,par,IF⟩
def AY.o (I:List Str)(HZ:closureFor scope X.env=pure cl:=by rfl)(k:scope.kind=.function:=by rfl)(O:∀y∈scope.names,y.2≠.cell:=by decide)
  (hn:∀y∈scope.names,y.2=.local->scope.names.lookup y.1=some .local:=by decide)(hl:N'.length=n+js.length:=by rfl)(a2:∀p∈cl,X.env.cells.lookup p.1=some p.2:=by repeat (first|show List.forall_mem_nil _|show List.forall_mem_cons.mpr ⟨rfl,?_⟩))(Y:cl.map (·.1)=I:=by rfl)(a1:∀y∈scope.names,y.2=.free->y.1∈I:=by decide +kernel)
  (a0:∀q∈js.zip (N'.drop n),X.N[q.1]?=some q.2/\scope.names.lookup q.2=some .free/\(X.env.kindOf q.2=some .cell\/X.env.kindOf q.2=some .free):=by repeat (first|show List.forall_mem_nil _|show List.forall_mem_cons.mpr ⟨⟨rfl,rfl,Or.inl rfl⟩,?_⟩|show List.forall_mem_cons.mpr ⟨⟨rfl,rfl,Or.inr rfl⟩,?_⟩)):AY X scope cl N' n js:=AY.of HZ k O hn hl a2 I Y a1 a0
def AY.n {X:Cx}{scope:Scope}{N':List Str}{n:Nat}(k:scope.kind=.function:=by rfl)(I:∀y∈scope.names,y.2≠.cell:=by decide)(hf:∀y∈scope.names,y.2≠.free:=by decide)(hn:∀y∈scope.names,y.2=.local->scope.names.lookup y.1=some .local:=by decide)(hl:N'.length=n:=by rfl):AY X scope [] N' n []:=AY.nil k I hf hn hl
section
variable {P:Program}{w:World}{K:Av}{mg:Cb}{base:Heap}{x qual:Str}{st:Stmt}{f:Addr}{fd:FuncData}{N ps:List Str}{k:Nat}{sp:Sp}
def As.By (F:As K x qual st f fd)(S:AD N ps (Ao st)) (I:∀(cdv:Value) (A:Around) (outer:List Env) (s:Shared) (H:Hp) (vs:List V) (Q:VK) (E:XK),BC k (A.deeper (envOfC qual (Ao st) s.heap.objs.size f cdv))->sp vs H Q E ->
   ∃t,IX (FK BE P w K mg base N qual (Ao st) f cdv A outer s H E).nox (Ew st) t/\t {nx:=λ_ H'=>Q .BI H',rt:=Q} (start N vs) H) (len:∀vs H Q E,sp vs H Q E->vs.length=ps.length:=by intro vs H Q E h;repeat (first|(obtain⟨rfl,_⟩:=h;rfl)|(obtain⟨_,h⟩:=h))):AH P w K mg base BE (k+1) f fd ps sp:=F.okQ S len I
def As.JK (F:As K x qual st f fd)(S:AD N ps (Ao st)) (I:∀(cdv:Value) (A:Around) (outer:List Env) (s:Shared) (H:Hp) (vs:List V) (Q:VK) (E:XK),BC k (A.deeper (envOfC qual (Ao st) s.heap.objs.size f cdv))->sp vs H Q E ->
   ∃t,IX (FK (HD P w) P w K mg base N qual (Ao st) f cdv A outer s H E) (Ew st) t/\t {nx:=λ_ H'=>Q .BI H',rt:=Q} (start N vs) H) (len:∀vs H Q E,sp vs H Q E->vs.length=ps.length:=by intro vs H Q E h;repeat (first|(obtain⟨rfl,_⟩:=h;rfl)|(obtain⟨_,h⟩:=h))):AH P w K mg base (HD P w) (k+1) f fd ps sp:=F.ok1 S len I
end
end L2
local macro_rules|`(tactic| walk_at "n")=>`(tactic| try dsimp only[L2.start,L2.BH,List.set_cons_succ,List.set_cons_zero,L2.map_c,L2.map_n,L2.app_c,L2.app_n,List.length_cons,List.length_nil,Nat.reduceSub,Nat.reduceAdd,List.replicate_succ,List.replicate_zero])|`(tactic| walk_at "k")=>`(tactic| try dsimp only[L2.FK,L2.Cx.nox,L2.Cx.GQ])|`(tactic|exists $e)=>`(tactic|(refine L2.Ad $e ?_;try dsimp only[L2.FK,L2.Cx.nox,L2.Cx.GQ]))
namespace T
open PySem PySem.Spec PyProof.Rows L2
def top (i:Nat):Stmt:=PySem.Challenge.pw_passpapers_k05_trees_read.main.body.getD i (.Pass ⟨0,0,0,0⟩)
abbrev Py:Stmt:=top 10
abbrev Jb:Stmt:=top 11
abbrev Hl:Stmt:=top 15
abbrev M8:Stmt:=top 16
abbrev Jc:Stmt:=top 17
abbrev Hn:Stmt:=top 18
abbrev Il:Stmt:=top 21
abbrev J9:Stmt:=top 22
abbrev Wc:Stmt:=top 24
abbrev Ag0:Stmt:=top 32
abbrev Wd:Stmt:=top 33
abbrev Me:Stmt:=top 34
abbrev Lh:Stmt:=top 35
abbrev F6:Stmt:=top 36
abbrev We:Stmt:=top 37
abbrev Lj:Stmt:=top 38
abbrev Li:Stmt:=top 39
abbrev Ln:Stmt:=top 40
abbrev Fs:Stmt:=top 41
abbrev Nb:Stmt:=top 42
abbrev Na:Stmt:=top 43
abbrev Pl:Stmt:=top 44
abbrev J0:Stmt:=top 45
abbrev Ll:Stmt:=top 46
abbrev Lm:Stmt:=top 47
abbrev M9:Stmt:=top 48
abbrev J3:Stmt:=top 49
abbrev Pm:Stmt:=top 50
abbrev Lp:Stmt:=top 52
abbrev J8:Stmt:=top 53
abbrev J2:Stmt:=top 54
abbrev J6:Stmt:=top 55
abbrev Pj:Stmt:=top 57
abbrev M7:Stmt:=top 58
abbrev Sl:Stmt:=top 60
abbrev Pw:Stmt:=top 61
abbrev Sh:Stmt:=top 62
abbrev Px:Stmt:=top 63
abbrev Po:Stmt:=top 64
abbrev Pq:Stmt:=top 65
abbrev Sn:Stmt:=top 66
abbrev Hm:Stmt:=top 67
abbrev I0:Stmt:=top 68
abbrev Pp:Stmt:=top 69
abbrev Pr:Stmt:=top 70
abbrev Sj:Stmt:=top 71
abbrev Wb:Stmt:=top 72
abbrev Wa:Stmt:=top 73
abbrev Sk:Stmt:=top 74
abbrev Ja:Stmt:=top 75
abbrev Sg:Stmt:=top 76
abbrev Nc:Stmt:=top 77
abbrev J7:Stmt:=top 78
abbrev Se:Stmt:=top 79
abbrev Sf:Stmt:=top 80
abbrev Ps:Stmt:=top 81
abbrev Lo:Stmt:=top 82
abbrev Pn:Stmt:=top 83
abbrev sLaw:Stmt:=top 84
abbrev Pk:Stmt:=inClass (top 31) 0
structure At (K:Av)(mg:Cb):Prop where
 AR:mg "len"=none
 AE:mg "isinstance"=none
 HH:mg "int"=none
 IJ:mg "bool"=none
 DK:mg "str"=none
 AZ:mg "tuple"=none
 FU:mg "list"=none
 HR:mg "dict"=none
 n_zip:mg "zip"=none
 n_max:mg "max"=none
 BK:mg "range"=none
 HF:mg "all"=none
 GA:mg "enumerate"=none
def Tab {α:Type}(R:V->α->Prop):List (Key×V)->List (Str×α)->Prop:=Paired λp q=>p.1=Sum.inr q.1/\R p.2 q.2
def CT (H:Hp)(ad:Addr)(v:V)(xs:List Str):Prop:=∃a,v=.ref a/\a≠ad/\H a=some (.lst (xs.map V.str))/\xs.length<=100
structure FH where
 ks:List Str
 k:Str
 ps:List Str
def Fns (H:Hp)(ad:Addr)(v:V)(f:FH):Prop:=∃t v1 v3,v=.ref t/\H t=some (.tup [v1,.str f.k,v3])/\CT H ad v1 f.ks/\CT H ad v3 f.ps
structure GS where
 AB:List (Str×List Str)
 AC:List (Str×FH)
 seen:List (Str×List Str)
 given:Str
 ar:Addr
 af:Addr×Option V
 bs:List Addr
structure Drw (H:Hp)(d ad:Addr):Prop where
 hd:∃kvs,H d=some (.dK kvs)/\Bm kvs (Sum.inr "draws")=some (.ref ad)
 dr:∃ds:List Int,H ad=some (.lst (ds.map V.int))
structure NowAt (H:Hp)(d ad:Addr)(S:GS)(kvs:List (Key×V))(ar af as:Addr)(kr kf ks:List (Key×V)):Prop where
 hd:H d=some (.dK kvs)
 vd:Bm kvs (Sum.inr "draws")=some (.ref ad)
 vr:Bm kvs (Sum.inr "records")=some (.ref ar)
 vf:Bm kvs (Sum.inr "functions")=some (.ref af)
 vs:Bm kvs (Sum.inr "seen")=some (.ref as)
 vg:Bm kvs (Sum.inr "given")=some (.str S.given)
 hr:H ar=some (.dK kr)
 hf:H af=some (.dK kf)
 hs:H as=some (.dK ks)
 tr:Tab (CT H ad) kr S.AB
 tf:Tab (Fns H ad) kf S.AC
 ts:Tab (CT H ad) ks S.seen
 ap:(as≠d/\af≠d/\ar≠d)/\as≠ar/\as≠af
 ea:ar=S.ar
 eb:af=S.af.1/\Bm kvs (Sum.inr "stock")=S.af.2
 kl:kvs.length<=7
structure GY (H:Hp)(d ad:Addr)(S:GS):Prop where
 dr:Drw H d ad
 ex:∃kvs ar af as kr kf ks,NowAt H d ad S kvs ar af as kr kf ks
def GY.re {H:Hp}{d ad:Addr}{S:GS}(N:GY H d ad S):∃kvs ar kr,H d=some (.dK kvs)/\Bm kvs (Sum.inr "records")=some (.ref ar)/\H ar=some (.dK kr)/\Tab (CT H ad) kr S.AB:=
 let ⟨kvs,ar,_,_,kr,_,_,n⟩:=N.ex;(Ei kvs ar kr n.hd n.vr n.hr n.tr)
def GY.fu {H:Hp}{d ad:Addr}{S:GS}(N:GY H d ad S):∃kvs af kf,H d=some (.dK kvs)/\Bm kvs (Sum.inr "functions")=some (.ref af)/\H af=some (.dK kf)/\Tab (Fns H ad) kf S.AC/\d≠af:=
 let ⟨kvs,_,af,_,_,kf,_,n⟩:=N.ex;(Ep kvs af kf n.hd n.vf n.hf n.tf n.ap.1.2.1.symm)
def GY.se {H:Hp}{d ad:Addr}{S:GS}(N:GY H d ad S):∃kvs as ks,H d=some (.dK kvs)/\Bm kvs (Sum.inr "seen")=some (.ref as)/\H as=some (.dK ks)/\Tab (CT H ad) ks S.seen:=
 let ⟨kvs,_,_,as,_,_,ks,n⟩:=N.ex;(Ei kvs as ks n.hd n.vs n.hs n.ts)
section
variable {H H':Hp}{d ad:Addr}{S:GS}
def CT.keep (k:AG ad H H')(h:CT H ad v xs):CT H' ad v xs:=by
 show Oz h λa e n g l=>Dh a e n (k _ _ g n) l
def Fns.keep (dr:Drw H d ad)(k:AG ad H H')(h:Fns H ad v f):Fns H' ad v f:=by
 show Ig h λt v1 v3 e g a b=>?_;obtain⟨ds,hd⟩:=dr.dr;show Ei t v1 v3 e (k _ _ g (Bd g hd (by simp))) (a.keep k) (b.keep k)
def Tab.imp {α:Type}{R I:V->α->Prop}(i:∀v x,R v x->I v x):∀{kvs:List (Key×V)} {tab:List (Str×α)},Tab R kvs tab->Tab I kvs tab:=λh=>by
 unfold Tab at *
 induction h with
 | nil=>show .nil
 | cons a _ O=>show .cons ⟨a.1,i _ _ a.2⟩ O
def GY.keep (N:GY H d ad S)(k:AG ad H H')(dr:∃ds:List Int,H' ad=some (.lst (ds.map V.int))):GY H' d ad S:=by
 have nd:∀{a:Addr} {kvs:List (Key×V)},H a=some (.dK kvs)->H' a=some (.dK kvs):=λg=>by
  obtain⟨ds,hd⟩:=N.dr.dr;show k _ _ g (Bd g hd (by simp))
 show Am N.dr.hd λY I O=>?_;show Dc N.ex λkvs ar af as kr kf z1=>?_;obtain⟨ks,n⟩:=z1;show⟨⟨(Aq Y (nd I) O),dr⟩,kvs,ar,af,as,kr,kf,ks,nd n.hd,n.vd,n.vr,n.vf,n.vs,n.vg,nd n.hr,nd n.hf,nd n.hs,n.tr.imp λv x=>CT.keep k,n.tf.imp λv x=>Fns.keep N.dr k,n.ts.imp λv x=>CT.keep k,n.ap,n.ea,n.eb,n.kl⟩
end
def DQ (ad:Addr)(H:Hp)(Q:Hp->Prop):Prop:=∀H',AG ad H H'->(∃ds:List Int,H' ad=some (.lst (ds.map V.int)))->Q H'
def M6:Sp:=λvs H Q _=>∃d ad,vs=[.ref d]/\Drw H d ad/\∀n:Int,DQ ad H λH'=>Q (.int n) H'
def Er (S:GS)(k:Str):Prop:=k="number"\/k="truth"\/k="list"\/k∈S.AB.map (·.1)
structure Rec0 (H:Hp)(d ad:Addr)(S:GS):Prop where
 dr:Drw H d ad
 re:∃kvs ar kr,H d=some (.dK kvs)/\Bm kvs (Sum.inr "records")=some (.ref ar)/\H ar=some (.dK kr)/\Tab (CT H ad) kr S.AB
def GY.r0 {H:Hp}{d ad:Addr}{S:GS}(N:GY H d ad S):Rec0 H d ad S:=⟨N.dr,N.re⟩
def V6:Sp:=λvs H Q _=>∃d ad S,vs=[.ref d]/\Rec0 H d ad S/\S.AB.length<=10/\∀k,Er S k->DQ ad H λH'=>Q (.str k) H'
def Tab.len {α:Type}{R:V->α->Prop}{kvs:List (Key×V)}{tab:List (Str×α)}(h:Tab R kvs tab):kvs.length=tab.length:=by
 unfold Tab at h
 induction h with
 | nil=>rfl
 | cons _ _ I=>rw[KC,KC,I]
def Tab.key {α:Type}{R:V->α->Prop}{kvs:List (Key×V)}{tab:List (Str×α)}(h:Tab R kvs tab)(I:p∈kvs):∃n,n∈tab.map (·.1)/\kV p.1=.str n:=by
 unfold Tab at h
 induction h with
 | nil=>cases I
 | @cons a b _ _ h1 _ O=>
  rcases JT.mp I with rfl|I
  .show Aq b.1 JY (by rw[h1.1];rfl)
  .show Am (O I) λn hn e=>Aq n (JS _ hn) e
def Uw:Sp:=λvs H Q _=>∃d ad l xs,vs=[.ref d,.ref l]/\Drw H d ad/\l≠ad/\H l=some (.lst xs)/\xs≠[]/\∀x∈xs,DQ ad H λH'=>Q x H'
section
variable {P:Program}{w:World}{K:Av}{mg:Cb}{base:Heap}
abbrev Mu:List Str:=["_law_state"]
def FP:AD Mu Mu (Ao Sh):=FS
def Ys (F:As K "_law_next" "_law_next" Sh f fd)(T:At K mg):AH P w K mg base BE 1 f fd Mu M6:=by
 show F.By FP λcdv A outer s H vs Q E hr h=>?_
 .show A0 h λd ad z1 D k=>?_;subst z1;have nd:=FP.nd;show Am D.hd λkvs hd I=>?_;obtain⟨ds,ha⟩:=D.dr;have hg:AL H d (.str "draws") (some (.ref ad)):=by rw[← I];show AL.k (k:=Sum.inr "draws") hd
  exists Ae (Bj (BM E8 (Eh T.AR (BU hr (qv 0) Ai)) Ag) (Ak (Ar (Kc KY NI NJ Nj (BU hr (qv 0) Ai)))) Ax) (Ak (Ar Ag))
  show Ad rfl (Al d _ rfl hg (Al ad _ rfl (.inl (AO.of ha)) (Aw rfl rfl (Ad rfl (B5 (λc=>?_) (λc=>k 0 H (λ_ _ e _=>e) ⟨ds,ha⟩))))));obtain⟨zs,x,rfl⟩:∃zs x,ds=zs++[x]:=by
   rcases List.eq_nil_or_concat ds with rfl|⟨zs,x,rfl⟩
   .cases c
   .show Uj zs x (by simp)
  show Ad rfl (Co d _ rfl hg (.inl ⟨rfl,_,AO.of ha⟩) (Ep ad _ (.int x) rfl rfl ha (by simp) ?_));show k x _ (λq u e n=>by rw[Aj n];show e) ⟨zs,by rw[Ah];simp⟩
abbrev Od:List Str:=["_law_now","_law_some"]
def DS:AD Od Od (Ao Pr):=FS
def Ug (F:As K "_law_one_of" "_law_one_of" Pr f fd)(T:At K mg)(a0:AJ P w K mg base 1 "_law_next" Mu M6):AH P w K mg base BE 2 f fd Od Uw:=by
 show F.By DS λcdv A outer s H vs Q E hr h=>?_
 .show Ox h λd ad l xs z1 D nl hl ne k=>?_;subst z1;have nd:=DS.nd;exists Ak (Ar (Da Cy (qv 1) (Ap Bl (qf a0 hr (AM (qv 0))) (Eh T.AR (qv 1))) (λ_ _=>rfl)))
  show Ad rfl (Ad rfl (Al d ad rfl D λn H1 k1 O=>?_));have hp:0<xs.length:=List.length_pos_iff.mpr ne;have h0:0<=n%(xs.length:Int):=Int.emod_nonneg _ (by omega);have h1:n%(xs.length:Int)<xs.length:=Int.emod_lt_of_pos _ (by omega);obtain⟨j,Y,I⟩:∃j:Nat,n%(xs.length:Int)=j/\j<xs.length:=(Aq ((n%(xs.length:Int)).toNat) (by omega) (by omega));show Ad rfl (Al l _ rfl (.inl (AO.of (k1 _ _ hl nl))) (Cd rfl rfl (by show(0:Int)<(xs.length:Int);omega) (B0 l _ _ (xs[j]) rfl rfl (AO.of (k1 _ _ hl nl)) (by show DY xs (n%(xs.length:Int))=_;rw[Y];show Be (LC I)) ?_)));show k _ (RD I) H1 k1 O
abbrev Fm:List Str:=["_law_now"]
def FQ:AD Fm Fm (Ao Sj):=FS
def Yt (F:As K "_law_kind" "_law_kind" Sj f fd)(T:At K mg)(a0:AJ P w K mg base 2 "_law_one_of" Od Uw):AH P w K mg base BE 3 f fd Fm V6:=by
 show F.By FQ λcdv A outer s H vs Q E hr h=>?_
 .show Ig h λd ad S z1 N hl k=>?_;subst z1;have nd:=FQ.nd;show Ig N.re λkvs ar kr h1 h2 h3 h4=>?_;obtain⟨ds,ha⟩:=N.dr.dr;exists Ak (Ar (qf a0 hr (AS (qv 0) (Ap Fe (B2 (EW Ai Ai Ai Ai)) (B4 (Ic rfl) rfl T.FU boot_list (AM (BU hr (qv 0) Ai)))))))
  show Bh rfl (zl 4) λl1 q1=>?_;generalize z1:upd _ l1 _=H1;obtain⟨s1,g1⟩:=Bz q1 z1;show Ad rfl (Al d _ rfl (by rw[← h2];show AL.k (k:=Sum.inr "records") (s1 _ _ h1)) (Al ar kr rfl (.of (s1 _ _ h3)) λl2 q2=>?_));generalize z2:upd _ l2 _=H2;obtain⟨s2,g2⟩:=Bz q2 z2;have lk:=h4.len;show Qm (s2 _ _ g1) g2 (by rw[JR,lk];show 4+_<=1000;omega) λl3 H3 f3 s3 g3=>?_;have sa:=s1.trans (s2.trans s3);have N3:Drw H3 d ad:=by
   show Am N.dr.hd λkv m1 m2=>⟨(Aq kv (sa _ _ m1) m2),ds,sa _ _ ha⟩
  show Cm d ad l3 _ rfl N3 ((Af (s1.trans s2 _ _ ha) f3).symm) g3 (by simp) λx hx=>?_;intro I Y O
  rcases KQ.mp hx with hx|hx
  .simp only[JT,KU,MB]at hx;have hk:∃k,x=.str k/\Er S k:=by
    rcases hx with rfl|rfl|rfl|rfl
    .show Ad rfl (.inl rfl)
    .show Ad rfl (.inl rfl)
    .show Ad rfl (.inr (.inl rfl))
    .show Ad rfl (.inr (.inr (.inl rfl)))
   show Am hk λkk z1 ok=>?_;subst z1;show k kk ok I (λq u e n=>Y _ _ (sa _ _ e) n) O
  .show Am (KI.mp hx) λp hp z1=>?_;subst z1;show Am (h4.key hp) λn hn e=>?_;rw[e];show k n (.inr (.inr (.inr hn))) I (λq u e n=>Y _ _ (sa _ _ e) n) O
end
mutual
noncomputable def BL:Th->Nat
 | .num _=>1
 | .wd _=>1
 | .tup l=>2+Cg l
noncomputable def Cg:List Th->Nat
 | []=>0
 | t::r=>BL t+Cg r
end
theorem Ek:∀(l m:List Th),Cg (l++m)=Cg l+Cg m
 | [],m=>by rw[Cg];simp
 | t::r,m=>by rw[PZ,Cg,Cg,Ek r m];omega
theorem Jv:∀(l:List Th),(∀t∈l,BL t<=B)->Cg l<=l.length*B
 | [],_=>by rw[Cg];omega
 | t::r,h=>by
  have h1:=h t JY;have h2:=Jv r λu I=>h u (JS _ I);rw[Cg,KC,Nat.succ_mul];omega
noncomputable def CL:Nat->Nat
 | 0=>1
 | 1=>4
 | 2=>20
 | 3=>84
 | 4=>340
 | 5=>1364
 | 6=>4095
 | n+7=>if n%2=0 then 3*CL (n+6)+2 else 2*CL (n+6)+1367
def szB_p (h:n%2=0):CL (n+7)=3*CL (n+6)+2:=by rw[CL];simp[h]
def szB_s (h:n%2=0):CL (n+8)=2*CL (n+7)+1367:=by
 show CL (n+1+7)=_
 rw[CL,KH (by omega)]
theorem szB_1:∀n,CL n+3<=CL (n+1)
 | 0|1|2|3|4|5=>by decide
 | n+6=>by
  show CL (n+6)+3<=CL (n+7)
  have:1<=CL (n+6):=DW _;rw[CL];split<;>omega
where DW:∀n,1<=CL n
 | 0|1|2|3|4|5|6=>by decide
 | n+7=>by rw[CL];split<;>omega
def DW (n:Nat):1<=CL n:=szB_1.DW n
theorem szB_2:∀{n:Nat},1<=n->2*CL n+3<=CL (n+1)
 | 0,h=>by omega
 | 1,_|2,_|3,_|4,_|5,_=>by decide
 | n+6,_=>by
  show 2*CL (n+6)+3<=CL (n+7)
  have:=DW (n+6);rw[CL];split<;>omega
theorem szB_4:∀{n:Nat},1<=n->n<=4->4*CL n+4<=CL (n+1)
 | 0,h,_=>by omega
 | 1,_,_|2,_,_|3,_,_|4,_,_=>by decide
 | n+5,_,h=>by omega
def Aq9 (h:n<=m):CL n<=CL m:=by
 induction h with
 | refl=>show JV _
 | @step m _ I=>show KN I (KN (Nat.le_add_right _ 3) (szB_1 m))
noncomputable def eB:Nat->Nat
 | 0=>1367
 | d+1=>25941+2*eB d
theorem eB_le:∀d,1367<=eB d
 | 0=>JV _
 | d+1=>by rw[eB];omega
def CD (n:Nat)(t:Th):Prop:=BF n t/\BL t<=CL n
section
def Nn:CD n (.wd x):=⟨Dv,by rw[BL];show DW n⟩
def Hd:CD n (.num x):=⟨Rs,by rw[BL];show DW n⟩
def dlz_cons (h:CD n a)(h':∀t∈l,CD n t):∀t∈a::l,CD n t:=λt ht=>by
 rcases JT.mp ht with rfl|ht
 .show h
 .show h' t ht
def Ov:∀t∈([]:List Th),CD n t:=λt ht=>by cases ht
def Zn (h':∀t∈l,CD n t)(h:CD n a):∀t∈l++[a],CD n t:=λt ht=>(KQ.mp ht).elim (h' t) λz=>by rw[KD.mp z];show h
def CD.mono (h:CD n t)(hm:n<=m):CD m t:=⟨h.1.mono hm,KN h.2 (Aq9 hm)⟩
def dlz1 (h:CD n a):CD (n+1) (.tup [.wd op,a]):=⟨dle1 h.1,by have:=szB_1 n;have:=h.2;simp only[BL,Cg];omega⟩
def dlz2 (hn:1<=n)(h:CD n a)(h2:CD n b):CD (n+1) (.tup [.wd op,a,b]):=⟨dle2 h.1 h2.1,by have:=szB_2 hn;have:=h.2;have:=h2.2;simp only[BL,Cg];omega⟩
def dlz3 (h:CD 5 a)(h2:CD 5 b)(h3:CD 5 c):CD 6 (.tup [.wd op,a,b,c]):=⟨dle3 h.1 h2.1 h3.1,by have e1:CL 5=1364:=rfl;have e2:CL 6=4095:=rfl;have:=h.2;have:=h2.2;have:=h3.2;simp only[BL,Cg];omega⟩
def dlz_call (h1:1<=n)(h4:n<=4)(hl:l.length<=4)(h:∀t∈l,CD n t):CD (n+1) (.tup (.wd x::.wd y::l)):=
 ⟨Dy (Cq Dv (Cq Dv λt ht=>(h t ht).1)),by
  have a:=szB_4 h1 h4;have b:=Jv l λt ht=>(h t ht).2;have c:l.length*CL n<=4*CL n:=PU _ hl
  simp only[BL,Cg];omega⟩
def Tp (hl:l.length<=3)(h:∀t∈l,CD (6+2*d) t):CD (7+2*d) (.tup l):=
 ⟨by rw[show 7+2*d=6+2*d+1 by omega];show Dy λt ht=>(h t ht).1,by
  have b:=Jv l λt ht=>(h t ht).2;have c:l.length*CL (6+2*d)<=3*CL (6+2*d):=PU _ hl;have e:CL (7+2*d)=3*CL (6+2*d)+2:=by rw[show 7+2*d=2*d+7 by omega,show 6+2*d=2*d+6 by omega];show szB_p (by omega)
  rw[BL];omega⟩
def dlz_if (h:CD 5 a)(h2:CD (7+2*d) b)(h3:CD (7+2*d) c):CD (8+2*d) (.tup [.wd op,a,b,c]):=
 ⟨by rw[show 8+2*d=7+2*d+1 by omega];show dle3 (h.1.mono (by omega)) h2.1 h3.1,by
  have e:CL (8+2*d)=2*CL (7+2*d)+1367:=by rw[show 8+2*d=2*d+8 by omega,show 7+2*d=2*d+7 by omega];show szB_s (by omega)
  have e1:CL 5=1364:=rfl;have:=h.2;have:=h2.2;have:=h3.2
  simp only[BL,Cg]at *;omega⟩
def An9 (h:CD 5 a)(h2:CD (7+2*d) b):CD (8+2*d) (.tup [.wd op,a,b]):=by
 rw[show 8+2*d=7+2*d+1 by omega];show dlz2 (by omega) (h.mono (by omega)) h2
end
structure DU (S:GS)(E:CE):Prop where
 re:∀n fl,(n,fl)∈S.AB->E.R n=some fl/\fl≠[]
 fu:∀f h,(f,h)∈S.AC->E.F f=some (h.ks,h.k)/\∀k∈h.ks,Er S k
 se:∀k xs x,(k,xs)∈S.seen->x∈xs->E.κ x=some k/\x≠"yes"/\x≠"no"
 rl:S.AB.length<=10
 ff:S.AC.length<=10
 rn:∀n:Str,n∈S.AB.map (·.1)->n≠"number"/\n≠"truth"/\n≠"list"
 fk:∀f h,(f,h)∈S.AC->h.ks.length<=4
section
def Ki (h:-32768<=n/\n<=32767):kE E (.num n)=some ("number":Str):=by rw[kE,KJ h]
def kE_yn {x:Str}(h:x="yes"\/x="no"):kE E (.wd x)=some ("truth":Str):=by rw[kE,KJ h]
def kE_var (h:DU S E)(hk:(k,xs)∈S.seen)(hx:x∈xs):kE E (.wd x)=some k:=by
 show Ch (h.se k xs x hk hx) λa b c=>?_;rw[kE,KH (QR.mpr ⟨b,c⟩)];show a
def Q0 (h1:takes.lookup op=some ws)(h2:gives.lookup op=some k)(h:kL E r=ws.map some)(hs:¬(op="call"\/op="new"\/op="get"\/op="=")):kE E (.tup (.wd op::r))=some k:=by
 rw[QR,QR,QR]at hs;rw[Qe];unfold opK;rw[KH hs.1,KH hs.2.1,KH hs.2.2.1,KH hs.2.2.2,h1,h2];show KJ h
def Ed:kL E []=[]:=by unfold kL;rfl
def B3:kL E (a::r)=kE E a::kL E r:=by rw[kL]
def kL1 (h:kE E a=some x):kL E [a]=([x]:List Str).map some:=by rw[B3,Ed,h];rfl
def kL2 (h:kE E a=some x)(h':kE E b=some y):kL E [a,b]=([x,y]:List Str).map some:=by rw[B3,kL1 h',h];rfl
def kE_eq {a b:Th}{x:Str}(hx:x="number"\/x="truth")(h:kE E a=some x)(h':kE E b=some x):kE E (.tup [.wd "=",a,b])=some ("truth":Str):=by
 rw[Qe];unfold opK;rw[AW,AW,AW,KJ rfl,kL2 h h'];show KJ ⟨hx,rfl⟩
def kE_new (h:DU S E)(hn:n∈S.AB.map (·.1)):kE E (.tup [.wd "new",.wd n])=some n:=by
 show Am (KI.mp hn) λp I z1=>?_;subst z1;rw[Qe];unfold opK;rw[AW,KJ rfl];simp only[(h.re p.1 p.2 I).1]
def kE_get (h:DU S E)(hn:(n,fl)∈S.AB)(hf:f∈fl)(he:kE E e=some n):kE E (.tup [.wd "get",e,.wd f])=some ("number":Str):=by
 rw[Qe];unfold opK;rw[AW,AW,KJ rfl,B3,B3,Ed,he];simp only[(h.re n fl hn).1];show KJ hf
def kE_call (h:DU S E)(hf:(f,fh)∈S.AC)(he:kL E es=fh.ks.map some):kE E (.tup (.wd "call"::.wd f::es))=some fh.k:=by
 rw[Qe];unfold opK;rw[KJ rfl,B3,he];simp only[(h.fu f fh hf).1];simp
end
def BS (H:Hp)(ad:Addr):Prop:=∃ds:List Int,H ad=some (.lst (ds.map V.int))
def VQ (E:CE)(ad:Addr)(k:Str)(m:Nat)(H:Hp)(Q:VK):Prop:=∀v t H',AG ad H H'->BS H' ad->AQ H' v t->kE E t=some k->CD m t->Q v H'
noncomputable def plV (k:Str):Nat:=if k="number" then 0 else 1
def plV_le:plV k<=1:=by unfold plV;split<;>omega
def Jy (b:Bool):Sp:=λvs H Q _=>∃d ad S E k,vs=[.ref d,.str k]/\GY H d ad S/\DU S E/\Er S k/\(b=false->k≠"list")/\VQ E ad k (plV k) H Q
def AA.AN (s:AA H H'):AG a H H':=λ_ _ e _=>s _ _ e
def DZ (x:AG a H H1)(y:AG a H1 H2):AG a H H2:=λ_ _ e n=>y _ _ (x _ _ e n) n
def Tab.get {α:Type}{R:V->α->Prop}{kvs:List (Key×V)}{tab:List (Str×α)}(h:Tab R kvs tab)(e:Bm kvs (Sum.inr n)=some v):∃x,(n,x)∈tab/\R v x:=by
 unfold Tab at h
 induction h with
 | nil=>cases e
 | @cons a b _ _ h1 _ O=>
  obtain⟨k,u⟩:=a;have I:k=Sum.inr b.1:=h1.1;by_cases c:b.1=n
  .rw [Dn (by rw[I,c])]at e;cases e;show Aq b.2 (by rw[← c];show JY) h1.2
  .rw [Dp (by rw[I];show λz=>c (MX z))]at e;show Am (O e) λx hx r=>Aq x (JS _ hx) r
def La (c:Int)(m:Nat)(hm:0<m):∃k:Nat,c%(m:Int)=k/\k<m:=by
 have h0:0<=c%(m:Int):=Int.emod_nonneg _ (by omega);have h1:c%(m:Int)<m:=Int.emod_lt_of_pos _ (by omega);show Aq ((c%(m:Int)).toNat) (by omega) (by omega)
def ifJ (rest:u D σ H)(h:u D σ H->Aa1 (tIfS I a Lf) u D σ H):Aa1 (tIfS I a Lf) u D σ H:=h rest
def IB (c:decide (V.str k=V.str x)=true):k=x:=V.str.inj (KP c)
def seN (c:¬decide (V.str k=V.str x)=true):k≠x:=λz=>c (by rw[z];show KA rfl)
def GY.seenOf {H:Hp}{d ad:Addr}{S:GS}(N:GY H d ad S)(k:Str):∃kvs as ks o,H d=some (.dK kvs)/\Bm kvs (Sum.inr "seen")=some (.ref as)/\H as=some (.dK ks)/\Bm ks (Sum.inr k)=o/\∀v,o=some v->∃xs,(k,xs)∈S.seen/\CT H ad v xs:=by
 show Ig N.se λkvs as ks h1 h2 h3 h4=>B0 kvs as ks _ h1 h2 h3 rfl λv e=>h4.get e
section
variable {P:Program}{w:World}{K:Av}{mg:Cb}{base:Heap}
abbrev Qq:List Str:=["_law_now","_law_kind_here"]
def Do:AD ["_law_now","_law_kind_here","_law_draw","_law_some","_law_far"] Qq (Ao Pq):=FS
def Oi (hm:1<=m)(F:As K "_law_plain" "_law_plain" Pq f fd)(T:At K mg)(a4:AJ P w K mg base 1 "_law_next" Mu M6)(a5:AJ P w K mg base m "_law_plain" Qq (λvs H Q E=>b=true/\Jy false vs H Q E)):AH P w K mg base BE (m+1) f fd Qq (Jy b):=by
 show F.By Do λcdv A outer s H vs Q E hr h=>?_
 .show Tu h λd ad S En kd z1 N EO KO hb k=>?_;subst z1;have nd:=Do.nd;exists Ae (Cl 2 nd (qf a4 hr (AM (qv 0)))) (Ae (Cl 3 nd (Sr (Ds hr) (BU hr (qv 0) Ai) (qv 1) (B2 Fa) ⟨rfl,rfl,rfl,rfl⟩)) (Ae (Bj (QW.pt (Je (BM E8 (Eh T.AR (qv 3)) Ag) (F7 (BM E8 (Ap Bl (qv 2) Ag) Ag)))) (Ak (Ar (Da Cy (qv 3) (Ap Bl (Ap Cr (qv 2) Ag) (Eh T.AR (qv 3))) (λ_ _=>rfl)))) Ax) (Ae (Bj (BM Cf (qv 1) Ai) (Ae (Cl 4 nd (Ap Gj (Ap Bl (Ap Cr (qv 2) Ag) Ag) Ag)) (Ak (Ar (Da Cy (B2 (Di Ag (Di Ag (Di Ag (Di Ag (EW (Ag6 Vp Ag) Ag (qv 4) (Ap Bl (Ap Cr (qv 2) Ag) Ag))))))) (Ap Bl (Ap Cr (qv 2) Ag) Ag) (λ_ _=>rfl))))) Ax) (Ae (Bj (BM Cf (qv 1) Ai) (Ak (Ar (Da Cy (B2 (AS Ai Ai)) (Ap Bl (Ap Cr (qv 2) Ag) Ag) (λ_ _=>rfl)))) Ax) (Ae (Bj (BM Cf (qv 1) Ai) (Ak (Ar (Bk (AS Ai (Da Cy (B2 (Di (qf a5 hr (AS (qv 0) Ai)) (Di Ag (Di Ag (Di Ag (Di Ag (EW Ag Ag Ag (Ag6 Vp Ag)))))))) (Ap Bl (Ap Cr (qv 2) Ag) Ag) (λ_ _=>rfl)))))) Ax) (Ak (Ar (Bk (AS Ai (qv 1))))))))))
  show Dt (Ad rfl (Al d ad rfl N.dr λn H1 k1 d1=>?_));have N:=N.keep k1 d1;show Zq (N.seenOf kd) λkvs as ks o h1 h2 h3 h4 h5=>?_
  walk_at "n"
  show Dt (Ad rfl (Al d _ rfl (by rw[← h2];show AL.k (k:=Sum.inr "seen") h1) (Bx as rfl (.inl ⟨ks,.of h3⟩) (Bh rfl (zl 0) λl q=>?_))));generalize z:upd _ l _=H2;obtain⟨s2,g2⟩:=Bz q z;show Aq o (by rw[← h4];show AL.k (k:=Sum.inr kd) (s2 _ _ h3)) ?_;have N2:GY H2 d ad S:=N.keep (AA.AN s2) (let ⟨ds,e⟩:=d1;⟨ds,s2 _ _ e⟩);obtain⟨ls,xs,el,gl,hx⟩:∃(ls:Addr) (xs:List Str),o.getD (.ref l)=.ref ls/\H2 ls=some (.lst (xs.map V.str))/\∀x∈xs,∃ys,(kd,ys)∈S.seen/\x∈ys:=by
   cases o with
   | none=>show Al l [] rfl g2 λx hx=>by cases hx
   | some v=>
    show Am (h5 v rfl) λxs hs z1=>Oz z1 λa e n' g _=>Al a xs e (s2 _ _ g) λx hx=>(Aq xs hs hx)
  rw[el];have k2:AG ad H H2:=k1.trans s2;have d2:BS H2 ad:=let ⟨ds,e⟩:=d1;⟨ds,s2 _ _ e⟩
  walk_at "n"
  show ifJ ?_ λrest=>?_
  .show Bh rfl rfl (Ad rfl (B5 (λc=>?_) (λc=>?_)))
   .cases IB c;show Am (show ∃j:Nat,n/4%8=j/\j<8 from La (n/4) 8 (by decide)) λj Y I=>?_;show Dt (Ad rfl (Cd rfl rfl ⟨by decide,by decide⟩ (Cd rfl rfl (by show(0:Int)<65536;decide) (Aw rfl rfl ?_))))
    walk_at "n"
    show Jd (Ad rfl (Ad rfl (Ad rfl (Cd rfl rfl ⟨by decide,by decide⟩ (Nl rfl rfl (by show(0:Int)<10;decide) (zl 8) λp hp=>?_)))));have O:=(AA.refl H2).upd (o:=.lst [.int 0,.int 1,.int 2,.int 3,.int (-1),.int 16,.int (n/32%65536-32768),.int (n/32%10)]) hp;obtain⟨y,hy,ly⟩:∃y:Int,DY [V.int 0,.int 1,.int 2,.int 3,.int (-1),.int 16,.int (n/32%65536-32768),.int (n/32%10)] (n/4%8)=some (.int y)/\(-32768<=y/\y<=32767):=by
     rw[Y]
     match j,I with
     | 0,_=>show Ad rfl (by decide)
     | 1,_=>show Ad rfl (by decide)
     | 2,_=>show Ad rfl (by decide)
     | 3,_=>show Ad rfl (by decide)
     | 4,_=>show Ad rfl (by decide)
     | 5,_=>show Ad rfl (by decide)
     | 6,_=>show Ad rfl (by omega)
     | 7,_=>show Ad rfl (by omega)
    show Ad rfl (Cd rfl rfl ⟨by decide,by decide⟩ (Cd rfl rfl (by show(0:Int)<8;decide) (B0 p _ _ _ rfl rfl (AO.of Ah) hy ?_)));show k _ (.num y) _ (k2.trans O) (let ⟨ds,e⟩:=d2;⟨ds,O _ _ e⟩) rfl (Ki ly) Hd
   have nk:=seN c;show Bh rfl rfl (Ad rfl (B5 (λc=>?_) (λc=>?_)))
   .cases IB c;show Am (show ∃j:Nat,n/4%2=j/\j<2 from La (n/4) 2 (by decide)) λj Y I=>Jd ⟨zl 2,λp hp=>?_⟩;have O:=(AA.refl H2).upd (o:=.lst [.str "yes",.str "no"]) hp;obtain⟨y,hy,ly⟩:∃y:Str,DY [V.str "yes",.str "no"] (n/4%2)=some (.str y)/\(y="yes"\/y="no"):=by
     rw[Y]
     match j,I with
     | 0,_=>show Ad rfl (.inl rfl)
     | 1,_=>show Ad rfl (.inr rfl)
    show Ad rfl (Cd rfl rfl ⟨by decide,by decide⟩ (Cd rfl rfl (by show(0:Int)<2;decide) (B0 p _ _ _ rfl rfl (AO.of Ah) hy ?_)));show k _ (.wd y) _ (k2.trans O) (let ⟨ds,e⟩:=d2;⟨ds,O _ _ e⟩) rfl (kE_yn ly) Nn
   have a2:=seN c;show Bh rfl rfl (Ad rfl (B5 (λc=>?_) (λc=>?_)))
   .cases IB c;have hb:b=true:=by
     cases b with
     | true=>rfl
     | false=>show absurd rfl (hb rfl)
    show Am (show ∃j:Nat,n/4%9=j/\j<9 from La (n/4) 9 (by decide)) λj Y I=>Jd (Q1 (M1 (consN (opN (Bh rfl hb (F5 d ad S En "number" rfl N2 EO (.inl rfl) (λ_=>by decide) λv t H3 k3 d3 tv kv yv=>(Bh rfl (zl 9) λp hp=>?_)))))));generalize z:upd _ p _=H4;obtain⟨s4,g4⟩:=Bz hp z;have g4:H4 p=some (.lst [v,.int 0,.int 1,.int 2,.int 3,.int 5,.int 16,.int 17,.int (-1)]):=g4;obtain⟨y,u,hy,ty,ly,yy⟩:∃y u,DY [v,.int 0,.int 1,.int 2,.int 3,.int 5,.int 16,.int 17,.int (-1)] (n/4%9)=some y/\AQ H4 y u/\kE En u=some ("number":Str)/\CD 0 u:=by
     rw[Y]
     match j,I with
     | 0,_=>show Cd rfl (tv.mono s4.AF) kv yv
     | 1,_=>show Co _ (.num 0) rfl rfl (Ki (by decide)) Hd
     | 2,_=>show Co _ (.num 1) rfl rfl (Ki (by decide)) Hd
     | 3,_=>show Co _ (.num 2) rfl rfl (Ki (by decide)) Hd
     | 4,_=>show Co _ (.num 3) rfl rfl (Ki (by decide)) Hd
     | 5,_=>show Co _ (.num 5) rfl rfl (Ki (by decide)) Hd
     | 6,_=>show Co _ (.num 16) rfl rfl (Ki (by decide)) Hd
     | 7,_=>show Co _ (.num 17) rfl rfl (Ki (by decide)) Hd
     | 8,_=>show Co _ (.num (-1)) rfl rfl (Ki (by decide)) Hd
    show Ad rfl (Cd rfl rfl ⟨by decide,by decide⟩ (Cd rfl rfl (by show(0:Int)<9;decide) (Cm p _ _ y rfl rfl (AO.of g4) hy (zl 2) λq hq=>?_)));have s5:=(AA.refl H4).upd (o:=.tup [.str "list",y]) hq;show k _ (.tup [.wd "list",u]) _ ((DZ k2 k3).trans (s4.trans s5)) (let ⟨ds,e⟩:=d3;⟨ds,s5 _ _ (s4 _ _ e)⟩) (Aw rfl Ah (Aw rfl rfl (Aw rfl (ty.mono s5.AF) rfl))) (Q0 (ws:=["number"]) rfl rfl (kL1 ly) (by decide)) (show CD 1 _ from dlz1 yy)
   have a3:=seN c;have hr:kd∈S.AB.map (·.1):=by
    rcases KO with z|z|z|z
    .show absurd z nk
    .show absurd z a2
    .show absurd z a3
    .show z
   haveI:=ThE.var (σ:=[some (.ref d),some (.str kd),some (.int n),some (.ref ls),none]) (H:=H2) (i:=1) (t:=.wd kd) rfl rfl;dsimp only[Lf];show Jd (thing (H0:=H2) λv H3 O tv=>?_);show k v _ H3 (k2.trans O) (let ⟨ds,e⟩:=d2;⟨ds,O _ _ e⟩) tv (kE_new EO hr) (by rw[plV,KH nk];show dlz1 (n:=0) Nn)
  .show Ad rfl (Al ls _ rfl (.inl (AO.of gl)) (Aw rfl rfl (Ad rfl (B5 (λc1=>?_) (λc1=>?_)))))
   .show Ad rfl (Cd rfl rfl (by show(0:Int)<4;decide) (Aw rfl rfl (Ad rfl (B5 (λc2=>?_) (λc2=>rest)))));have hl:0<xs.length:=by have c1:(0:Int)<((xs.map V.str).length:Nat):=KP c1;rw[JR]at c1;omega
    show Am (show ∃j:Nat,n/4%(xs.length:Int)=j/\j<xs.length from La (n/4) xs.length hl) λj Y I=>?_;show Jd (Ad rfl (Ad rfl (Cd rfl rfl ⟨by decide,by decide⟩ (Ad rfl (Al ls _ rfl (.inl (AO.of gl)) (Cd rfl rfl (by show(0:Int)<((xs.map V.str).length:Nat);rw[JR];omega) (B0 ls _ _ (.str xs[j]) rfl rfl (AO.of gl) (by show DY _ (n/4%((xs.map V.str).length:Nat))=_;rw[JR,Y];show Be (by rw[LG,LC I];rfl)) ?_)))))));show Am (hx xs[j] (RD I)) λys a0 a1=>k _ (.wd xs[j]) H2 k2 d2 rfl (kE_var EO a0 a1) Nn
   .show B5 (λz=>by cases z) (λ_=>rest)
end
noncomputable def Ky (k:Str)(deep:Nat):Nat:=if deep=0 then 0 else if k="number"\/k="truth" then 2*deep else 2*deep-1
def VQ.of {E:CE}{ad:Addr}{k:Str}{m:Nat}{H H1:Hp}{Q:VK}(h:VQ E ad k m H Q)(k1:AG ad H H1):VQ E ad k m H1 Q:=λv t H' I d th e y=>h v t H' (DZ k1 I) d th e y
def VQ.le {E:CE}{ad:Addr}{k:Str}{m I:Nat}{H:Hp}{Q:VK}(h:VQ E ad k m H Q)(hm:I<=m):VQ E ad k I H Q:=λv t H' O d th e y=>h v t H' O d th e (y.mono hm)
def Gp (n:Nat):Sp:=λvs H Q _=>∃d ad S E k,∃deep:Nat,vs=[.ref d,.str k,.int deep]/\GY H d ad S/\DU S E/\Er S k/\deep<=2/\n<=5/\Ky k deep<n/\VQ E ad k n H Q
def Aa6 (n:Nat):Sp:=λvs H Q _=>∃d ad S E k,∃deep:Nat,vs=[.ref d,.str k,.int deep]/\GY H d ad S/\DU S E/\Er S k/\deep<=2/\n<=4/\2*(deep-1)<n/\VQ E ad k (n+1) H Q
def R4 (n:Nat):Sp:=λvs H Q _=>∃d ad S E,∃way deep:Nat,vs=[.ref d,.int way,.int deep]/\GY H d ad S/\DU S E/\way<9/\deep<=1/\n<=4/\2*deep<n/\1<n/\VQ E ad "number" (n+1) H Q
def R3 (n:Nat):Sp:=λvs H Q _=>∃d ad S E,∃way deep:Nat,vs=[.ref d,.int way,.int deep]/\GY H d ad S/\DU S E/\way<8/\deep<=1/\n<=4/\2*deep<n/\VQ E ad "truth" (n+1) H Q
def Gv:Ky k deep<=2*deep:=by
 unfold Ky;split
 .omega
 .split<;>omega
def So (h:Ky k deep<n+1)(hd:deep≠0)(hk:k="number"\/k="truth"):2*deep<n+1:=by
 unfold Ky at h;rw[KH hd,KJ hk]at h;show h
def As9 (h:Ky k deep<n+1)(hd:deep≠0):2*(deep-1)<n:=by
 unfold Ky at h;rw[KH hd]at h;split at h<;>omega
section
variable {P:Program}{w:World}{K:Av}{mg:Cb}{base:Heap}
abbrev Mq:List Str:=["_law_now","_law_kind_here","_law_deep"]
def EC:AD ["_law_now","_law_kind_here","_law_deep","_law_draw"] Mq (Ao Pp):=FS
abbrev Yn:List Str:=["_law_now","_law_way","_law_deep"]
def Fv (hm:3<=m)(F:As K "_law_value" "_law_value" Pp f fd)(a3:AJ P w K mg base 1 "_law_next" Mu M6)(a0:AJ P w K mg base 3 "_law_plain" Qq (Jy true))(a5:AJ P w K mg base m "_law_number_deed" Yn (R4 n))
  (a4:AJ P w K mg base m "_law_truth_deed" Yn (R3 n))(a2:AJ P w K mg base m "_law_call" Mq (Aa6 n)):AH P w K mg base BE (m+1) f fd Mq (Gp (n+1)):=by
 show F.By EC λcdv A outer s H vs Q E hr h=>?_
 .show Ao1 h λd ad S O kd deep z1 N I KO a1 z2=>Ch z2 λa6 Y k=>?_;subst z1;have nd:=EC.nd;exists Ae (Cl 3 nd (qf a3 hr (AM (qv 0)))) (Ae (Bj (QW.pt (N0 (BM Cf (qv 2) Ag) (Ka (BM Cf (Ap Bl (qv 3) Ag) Ag)))) (Ak (Ar (qf a0 hr (AS (qv 0) (qv 1))))) Ax) (Ae (Bj (BM Cf (qv 1) Ai) (Ak (Ar (qf a5 hr (BV (qv 0) (Ap Bl (Ap Cr (qv 3) Ag) Ag) (Ap Gj (qv 2) Ag))))) Ax) (Ae (Bj (QW.pt (Je (BM Cf (qv 1) Ai) (F7 (BM E8 (Ap Bl (Ap Cr (qv 3) Ag) Ag) Ag)))) (Ak (Ar (qf a4 hr (BV (qv 0) (Ap Gj (Ap Bl (Ap Cr (qv 3) Ag) Ag) Ag) (Ap Gj (qv 2) Ag))))) Ax) (Ae (Bj (BM Cf (Ap Bl (Ap Cr (qv 3) Ag) Ag) Ag) (Ak (Ar (qf a2 hr (BV (qv 0) (qv 1) (qv 2))))) Ax) (Ak (Ar (qf a0 hr (AS (qv 0) (qv 1)))))))))
  show Dt (Ad rfl (Al d ad rfl N.dr λx H1 k1 d1=>?_));have N:=N.keep k1 d1;have k:=k.of k1
  walk_at "n"
  show Am (show ∃j:Nat,x/4%9=j/\j<9 from La (x/4) 9 (by decide)) λj ej lj=>?_;have plain:Jy true [.ref d,.str kd] H1 Q E0:=(F5 d ad S O kd rfl N I KO (λz=>by cases z) (k.le (KN plV_le (by omega))));show Bh rfl rfl (Ad rfl ?_);by_cases h0:deep=0
  .subst h0;show E7 (Ad rfl (Ad rfl plain))
  .rw [LU λz=>h0 (by have:=V.int.inj z;omega)];show Jo (Ad rfl (Nl rfl rfl (by show(0:Int)<4;decide) rfl (Ad rfl (B5 (λc=>(Ad rfl (Ad rfl plain))) (λc=>Bh rfl rfl (Ad rfl (B5 (λc=>?_) (λc=>?_))))))))
   .cases IB c;show Ad rfl (Ad rfl (Cd rfl rfl ⟨by decide,by decide⟩ (Cd rfl rfl (by show(0:Int)<9;decide) (Ad rfl (Aw rfl rfl (Kk d ad S O j (deep-1) ?_ N I lj (by omega) (C7 (by omega) ?_ ?_ k)))))))
    .show [V.ref d,V.int (x/4%9),V.int ((deep:Int)-1)]=_
     rw[ej,show((deep:Int)-1)=((deep-1:Nat):Int)by omega]
    .have:=So Y h0 (.inl rfl);omega
    .have:=So Y h0 (.inl rfl);omega
   dsimp only[Lf];show ifJ ?_ λrest=>?_
   .show Ad rfl (Cd rfl rfl ⟨by decide,by decide⟩ (Nl rfl rfl (by show(0:Int)<3;decide) rfl (Ad rfl (B5 (λc=>(Ad rfl (Ad rfl (Ad rfl (Kk d ad S O kd deep rfl N I KO a1 (Az (by omega) (As9 Y h0) k)))))) (λc=>(Ad rfl (Ad rfl plain)))))))
   .show Bh rfl rfl (Ad rfl (B5 (λc2=>?_) (λc2=>?_)))
    .cases IB c2;show Ad rfl (Cd rfl rfl ⟨by decide,by decide⟩ (Cd rfl rfl (by show(0:Int)<9;decide) (Aw rfl rfl (Ad rfl (B5 (λc3=>?_) (λc3=>rest))))));have c3:0<x/4%9:=KP c3;show Ad rfl (Ad rfl (Cd rfl rfl ⟨by decide,by decide⟩ (Cd rfl rfl (by show(0:Int)<9;decide) (Aw rfl rfl (Ad rfl (Aw rfl rfl (Kk d ad S O (j-1) (deep-1) ?_ N I (by omega) (by omega) (Az (by omega) ?_ k))))))))
     .show [V.ref d,V.int (x/4%9-1),V.int ((deep:Int)-1)]=_
      rw[ej,show((deep:Int)-1)=((deep-1:Nat):Int)by omega,show((j:Int)-1)=((j-1:Nat):Int)by omega]
     .have:=So Y h0 (.inr rfl);omega
    .show B5 (λz=>by cases z) (λ_=>rest)
end
section
variable {E:CE}{S:GS}{d ad q:Addr}{k op:Str}{H H1 H3:Hp}{Q:VK}{v1 v2:V}{t1 t2:Th}{n m deep:Nat}
def GI (N:GY H d ad S)(I:DU S E)(O:Er S k)(hd:deep<=2)(Y:n<=5)(hr:Ky k deep<n)(q:VQ E ad k n H Q):Gp n [.ref d,.str k,.int deep] H Q E0:=(Kk d ad S E k deep rfl N I O hd (Az Y hr q))
def BS.up (dr:BS H ad)(s:AA H H1):BS H1 ad:=let ⟨ds,e⟩:=dr;⟨ds,s _ _ e⟩
def IL (Y:VQ E ad k (m+1) H Q)(O:AG ad H H3)(dr:BS H3 ad)(h1:AQ H3 v1 t1)(h2:AQ H3 v2 t2)(I:H3 q=none)(e:kE E (.tup [.wd op,t1,t2])=some k)(a0:1<=m)(y1:CD m t1)(y2:CD m t2):Q (.ref q) (upd H3 q (.tup [.str op,v1,v2])):=by
 have s:=(AA.refl H3).upd (o:=.tup [.str op,v1,v2]) I;show Y _ (.tup [.wd op,t1,t2]) _ (O.trans s) (BS.up dr s) (Aw rfl Ah (Aw rfl rfl (Aw rfl (h1.mono s.AF) (Aw rfl (h2.mono s.AF) rfl)))) e (dlz2 a0 y1 y2)
def JJ (Y:VQ E ad k (m+1) H Q)(O:AG ad H H3)(dr:BS H3 ad)(h1:AQ H3 v1 t1)(I:H3 q=none)(e:kE E (.tup [.wd op,t1])=some k)(y1:CD m t1):Q (.ref q) (upd H3 q (.tup [.str op,v1])):=by
 have s:=(AA.refl H3).upd (o:=.tup [.str op,v1]) I;show Y _ (.tup [.wd op,t1]) _ (O.trans s) (BS.up dr s) (Aw rfl Ah (Aw rfl rfl (Aw rfl (h1.mono s.AF) rfl))) e (dlz1 y1)
def AG.AF (k:AG ad H H')(dr:BS H ad):CA H H':=λb xs e=>by
 obtain⟨ds,h⟩:=dr;show k _ _ e (Bd e h (by simp))
def tru_op {way:Nat}(h:way<4):∃o:Str,DY [V.str "<",.str "<",.str "<",.str "="] (way:Int)=some (.str o)/\∀t1 t2,kE E t1=some ("number":Str)->kE E t2=some ("number":Str)->kE E (.tup [.wd o,t1,t2])=some ("truth":Str):=by
 have lt:∀t1 t2,kE E t1=some ("number":Str)->kE E t2=some ("number":Str)->kE E (.tup [.wd "<",t1,t2])=some ("truth":Str):=λt1 t2 e1 e2=>Q0 (ws:=Oc) rfl rfl (kL2 e1 e2) (by decide)
 match way,h with
 | 0,_=>show Ad rfl lt
 | 1,_=>show Ad rfl lt
 | 2,_=>show Ad rfl lt
 | 3,_=>show Ad rfl λt1 t2 e1 e2=>kE_eq (.inl rfl) e1 e2
def kE_ar (I:o∈(["+","-","*","/","rest"]:List Str))(h1:kE E t1=some ("number":Str))(h2:kE E t2=some ("number":Str)):kE E (.tup [.wd o,t1,t2])=some ("number":Str):=by
 simp only[JT,KU,MB]at I
 rcases I with rfl|rfl|rfl|rfl|rfl<;>show Q0 (ws:=Oc) rfl rfl (kL2 h1 h2) (by decide)
end
section
variable {P:Program}{w:World}{K:Av}{mg:Cb}{base:Heap}
def CK:AD ["_law_now","_law_way","_law_deep","_law_op"] Yn (Ao I0):=FS
def Dx (F:As K "_law_truth_deed" "_law_truth_deed" I0 f fd)(a2:AJ P w K mg base m "_law_value" Mq (Gp n)):AH P w K mg base BE (m+1) f fd Yn (R3 n):=by
 show F.By CK λcdv A outer s H vs Q E hr h=>?_
 .show Ao1 h λd ad S En way deep z1 N EO hw hd z2=>Ch z2 λa6 hn k=>?_;subst z1;have nd:=CK.nd;exists Ae (Bj (BM Yq (qv 1) Ag) (Ak (Ar (Bk (BV (Da Cy (B2 (EW Ai Ai Ai Ai)) (qv 1) (λ_ _=>rfl)) (qf a2 hr (BV (qv 0) Ai (qv 2))) (qf a2 hr (BV (qv 0) Ai (qv 2))))))) Ax) (Ae (Bj (BM Cf (qv 1) Ag) (Ak (Ar (Bk (AS Ai (qf a2 hr (BV (qv 0) Ai (qv 2))))))) Ax) (Ae (Cl 3 nd (Da Cy (B2 (BV Ai Ai Ai)) (Ap Bl (qv 1) Ag) (λ_ _=>rfl))) (Ak (Ar (Bk (BV (qv 3) (qf a2 hr (BV (qv 0) Ai (qv 2))) (qf a2 hr (BV (qv 0) Ai (qv 2)))))))))
  have a3:∀{kd:Str},Ky kd deep<n:=LS Gv hn;show Ad rfl (Aw rfl rfl (Ad rfl (B5 (λc=>?_) (λc=>?_))))
  .have c:(way:Int)<4:=KP c;show⟨zl 4,λp I=>?_⟩;generalize z:upd _ p _=H1;obtain⟨s1,g1⟩:=Bz I z;show Am (tru_op (E:=En) (way:=way) (by omega)) λo ho ty=>?_;have N1:=N.keep (AA.AN s1) (BS.up N.dr.dr s1);show Ad rfl (B0 p _ _ _ rfl rfl (AO.of g1) ho (Ad rfl (Ad rfl (GI N1 EO (.inl rfl) (by omega) (by omega) a3 λv1 t1 H2 Y O a1 e1 y1=>(Ad rfl (Ad rfl (GI ((N1).keep Y O) EO (.inl rfl) (by omega) (by omega) a3 λv2 t2 H3 a0 a4 a5 e2 y2=>⟨zl 3,λp I=>IL k (DZ (AA.AN s1) (DZ Y a0)) a4 (a1.mono (AG.AF a0 O)) a5 I (ty t1 t2 e1 e2) (by omega) y1 y2⟩)))))))
  have c:¬(way:Int)<4:=λz=>c (KA z);show Bh rfl rfl (Ad rfl (B5 (λc2=>?_) (λc2=>?_)))
  .show Ad rfl (Ad rfl (GI N EO (.inr (.inl rfl)) (by omega) (by omega) (LS Gv hn) λv1 t1 H2 Y O a1 e1 y1=>⟨zl 2,λp I=>JJ k Y O a1 I (Q0 (ws:=["truth"]) rfl rfl (kL1 e1) (by decide)) y1⟩))
  .dsimp only[Lf];show Dt ⟨zl 3,λp I=>?_⟩;generalize z:upd _ p _=H1;obtain⟨s1,g1⟩:=Bz I z;show Am (show ∃j:Nat,(way:Int)%3=j/\j<3 from La way 3 (by decide)) λj ej lj=>?_;obtain⟨o,ho,ty⟩:∃o:Str,DY [V.str "and",.str "or",.str "="] ((way:Int)%3)=some (.str o)/\∀t1 t2,kE En t1=some ("truth":Str)->kE En t2=some ("truth":Str)->kE En (.tup [.wd o,t1,t2])=some ("truth":Str):=by
    rw[ej]
    match j,lj with
    | 0,_=>show Ad rfl λt1 t2 e1 e2=>Q0 (ws:=["truth","truth"]) rfl rfl (kL2 e1 e2) (by decide)
    | 1,_=>show Ad rfl λt1 t2 e1 e2=>Q0 (ws:=["truth","truth"]) rfl rfl (kL2 e1 e2) (by decide)
    | 2,_=>show Ad rfl λt1 t2 e1 e2=>kE_eq (.inr rfl) e1 e2
   have N1:=N.keep (AA.AN s1) (BS.up N.dr.dr s1);show Ad rfl (Cd rfl rfl (by show(0:Int)<3;decide) (B0 p _ _ _ rfl rfl (AO.of g1) ho ?_))
   walk_at "n"
   show Jd (Q1 (Ad rfl (Ad rfl (Ad rfl (GI N1 EO (.inr (.inl rfl)) (by omega) (by omega) a3 λv1 t1 H2 Y O a1 e1 y1=>(Ad rfl (Ad rfl (GI ((N1).keep Y O) EO (.inr (.inl rfl)) (by omega) (by omega) a3 λv2 t2 H3 a0 a4 a5 e2 y2=>⟨zl 3,λp I=>IL k (DZ (AA.AN s1) (DZ Y a0)) a4 (a1.mono (AG.AF a0 O)) a5 I (ty t1 t2 e1 e2) (by omega) y1 y2⟩))))))))
end
theorem num_op:∀{way:Nat},way<5->∃o:Str,DY [V.str "+",.str "-",.str "*",.str "/",.str "rest"] (way:Int)=some (.str o)/\o∈(["+","-","*","/","rest"]:List Str)
 | 0,_=>(Ad rfl (by decide))
 | 1,_=>(Ad rfl (by decide))
 | 2,_=>(Ad rfl (by decide))
 | 3,_=>(Ad rfl (by decide))
 | 4,_=>(Ad rfl (by decide))
def Tab.has {α:Type}{R:V->α->Prop}{kvs:List (Key×V)}{tab:List (Str×α)}(h:Tab R kvs tab)(hn:n∈tab.map (·.1)):∃v x,Bm kvs (Sum.inr n)=some v/\(n,x)∈tab/\R v x:=by
 cases e:Bm kvs (Sum.inr n)with
 | some v=>
  show Am (h.get e) λx h1 h2=>Al v x rfl h1 h2
 | none=>
  exfalso;unfold Tab at h
  induction h with
  | nil=>cases hn
  | @cons a b _ _ h1 _ O=>
   obtain⟨k,u⟩:=a;have I:k=Sum.inr b.1:=h1.1;by_cases c:b.1=n
   .rw [Dn (by rw[I,c])]at e;cases e
   .rw [Dp (by rw[I];show λz=>c (MX z))]at e
    rcases JT.mp hn with z|z
    .show c z.symm
    .show O z e
section
variable {P:Program}{w:World}{K:Av}{mg:Cb}{base:Heap}
def CH:AD ["_law_now","_law_way","_law_deep","_law_op","_law_name"] Yn (Ao Hm):=FS
def Dq (hm:2<=m)(F:As K "_law_number_deed" "_law_number_deed" Hm f fd)(T:At K mg)(a4:AJ P w K mg base m "_law_value" Mq (Gp n))(aA:AJ P w K mg base 2 "_law_one_of" Od Uw)
  (aI:AJ P w K mg base m "_law_call" Mq (Aa6 n)):AH P w K mg base BE (m+1) f fd Yn (R4 n):=by
 show F.By CH λcdv A outer s H vs Q E hr h=>?_
 .show Ao1 h λd ad S En way deep z1 N I hw hd z2=>Qi z2 λaG hn aF k=>?_;subst z1;have nd:=CH.nd;exists Ae (Bj (BM Yq (qv 1) Ag) (Ae (Cl 3 nd (Da Cy (B2 (Di Ai (EW Ai Ai Ai Ai))) (qv 1) (λ_ _=>rfl))) (Ak (Ar (Bk (BV (qv 3) (qf a4 hr (BV (qv 0) Ai (qv 2))) (qf a4 hr (BV (qv 0) Ai (qv 2)))))))) Ax) (Ae (Bj (QW.pt (Je (BM Cf (qv 1) Ag) (F7 (BM E8 (Bc Vh rfl T.AR OL (AM (BU hr (qv 0) Ai))) Ag)))) (Ae (Cl 4 nd (qf aA hr (AS (qv 0) (B4 (Ic rfl) rfl T.FU boot_list (AM (BU hr (qv 0) Ai)))))) (Ak (Ar (Bk (BV Ai (qf a4 hr (BV (qv 0) (qv 4) Ag)) (qf aA hr (AS (qv 0) (BU hr (BU hr (qv 0) Ai) (qv 4))))))))) Ax) (Ae (Bj (BM Cf (qv 1) Ag) (Ak (Ar (Bk (AS Ai (qf a4 hr (BV (qv 0) Ai Ag)))))) Ax) (Ae (Bj (BM Cf (qv 1) Ag) (Ak (Ar (Bk (BV Ai (qf a4 hr (BV (qv 0) Ai Ag)) (qf a4 hr (BV (qv 0) Ai (qv 2))))))) Ax) (Ak (Ar (qf aI hr (BV (qv 0) Ai (qv 2))))))))
  have a6:∀{kd:Str},Ky kd deep<n:=LS Gv hn;have a8:Ky "list" 1<n:=by
   have:Ky "list" 1=1:=by decide
   omega
  show Ad rfl (Aw rfl rfl (Ad rfl (B5 (λc=>?_) (λc=>?_))))
  .have c:(way:Int)<5:=KP c;show Dt ⟨zl 5,λp Y=>?_⟩;generalize z:upd _ p _=H1;obtain⟨s1,g1⟩:=Bz Y z;show Am (num_op (way:=way) (by omega)) λo ho mo=>?_;have N1:=N.keep (AA.AN s1) (BS.up N.dr.dr s1);show Ad rfl (B0 p _ _ _ rfl rfl (AO.of g1) ho ?_)
   walk_at "n"
   show Jd (Q1 (Ad rfl (Ad rfl (Ad rfl (GI N1 I (.inl rfl) (by omega) (by omega) a6 λv1 t1 H2 O a0 a2 e1 y1=>(Ad rfl (Ad rfl (GI (N1.keep O a0) I (.inl rfl) (by omega) (by omega) a6 λv2 t2 H3 a1 a3 a7 e2 y2=>⟨zl 3,λp Y=>IL k (DZ (AA.AN s1) (DZ O a1)) a3 (a2.mono (AG.AF a1 a0)) a7 Y (kE_ar mo e1 e2) (by omega) y1 y2⟩))))))))
  dsimp only[Lf];show ifJ ?_ λrest=>?_
  .show Bh rfl rfl (Ad rfl (B5 (λc=>?_) (λc=>?_)))
   .show Ad rfl (GI N I (.inr (.inr (.inl rfl))) (by decide) (by omega) a8 λv1 t1 H2 O a0 a2 e1 y1=>⟨zl 2,λp Y=>JJ k O a0 a2 Y (Q0 (ws:=["list"]) rfl rfl (kL1 e1) (by decide)) y1⟩)
   show Bh rfl rfl (Ad rfl (B5 (λc=>?_) (λc=>?_)))
   .show Ad rfl (GI N I (.inr (.inr (.inl rfl))) (by decide) (by omega) a8 λv1 t1 H2 O a0 a2 e1 y1=>(Ad rfl (Ad rfl (GI (N.keep O a0) I (.inl rfl) (by omega) (by omega) a6 λv2 t2 H3 a1 a3 a7 e2 y2=>⟨zl 3,λp Y=>IL k (DZ O a1) a3 (a2.mono (AG.AF a1 a0)) a7 Y (Q0 (ws:=["list","number"]) rfl rfl (kL2 e1 e2) (by decide)) (by omega) y1 y2⟩))))
   .show Ad rfl (Ad rfl (Kk d ad S En "number" deep rfl N I (.inl rfl) (by omega) (Az aG (by omega) k)))
  .show Bh rfl rfl (Ad rfl (B5 (λc=>?_) (λc=>?_)))
   .show Ig N.re λkvs ar kr h1 h2 h3 h4=>?_;have hg:AL H d (.str "records") (some (.ref ar)):=by rw[← h2];show AL.k (k:=Sum.inr "records") h1
    show Ad rfl (Al d _ rfl hg (Al ar kr rfl h3 (Aw rfl rfl (Ad rfl (B5 (λc2=>?_) (λc2=>rest))))));have c2:(0:Int)<(kr.length:Nat):=KP c2;show Dt (Ad rfl (Ad rfl (Al d _ rfl hg (Al ar kr rfl (.of h3) λl q=>?_))));generalize z:upd _ l _=H1;obtain⟨s1,g1⟩:=Bz q z;obtain⟨ds,ha⟩:=N.dr.dr;have N1:=N.keep (AA.AN s1) (BS.up N.dr.dr s1);show Cm d ad l _ rfl N1.dr ((Af ha q).symm) g1 (λz=>by have:=LM List.length z;rw[JR,OE]at this;omega) λx hx H2 O a0=>?_;show Am (KI.mp hx) λp Y z1=>?_;subst z1;show Am (h4.key Y) λnm a5 e=>?_;rw[e];have N2:=N1.keep O a0
    walk_at "n"
    show Ch (I.rn nm a5) λr1 r2 r3=>?_;have aH:Ky nm 1<n:=by
     unfold Ky;rw[AW,KH (QR.mpr ⟨r1,r2⟩)];show aF
    show Jd (Q1 (M1 (Ad rfl (Ad rfl (GI N2 I (.inr (.inr (.inr a5))) (by decide) (by omega) aH λv1 t1 H3 a1 a3 a2 e1 y1=>?_)))));have N3:=N2.keep a1 a3;show Ig N3.re λaK aB aJ i1 i2 i3 i4=>?_;show A0 (i4.has a5) λvf fl j1 j2 z1=>Oz z1 λaf z2 j4 j5 j6=>?_;subst z2;have aE:=(I.re nm fl j2).2;show Ad rfl (Ad rfl (Al d _ rfl (by rw[← i2];show AL.k (k:=Sum.inr "records") i1) (Ad rfl (Al aB _ rfl (by rw[← j1];show AL.k (k:=Sum.inr nm) i3) (Cm d ad af _ rfl N3.dr j4 j5 (λz=>aE (by simpa using z)) λx hx H4 a9 aC=>⟨zl 3,λq hq=>?_⟩)))));show Am (KI.mp hx) λaD hf z1=>?_;subst z1;show IL (t2:=.wd aD) k (DZ (AA.AN s1) (DZ O (DZ a1 a9))) aC (a2.mono (AG.AF a9 a3)) rfl hq (kE_get I j2 hf e1) (by omega) y1 Nn
   .show B5 (λz=>by cases z) (λ_=>rest)
end
def Fd (h:H D=some (.lst ys)):CA H (upd H D o):=λb xs e=>by rw[Aj (Bd e h (by simp))];show e
section
variable {P:Program}{w:World}{K:Av}{mg:Cb}{base:Heap}
def EZ:AD ["_law_now","_law_kind_here","_law_deep","_law_some","_law_name","_law_args"] Mq (Ao Sn):=FS
abbrev P3:List Str:=["_law_now","_law_deep"]
def Ge (hm:3<=m)(F:As K "_law_call" "_law_call" Sn f fd)(T:At K mg)(aN:AJ P w K mg base m "_law_value" Mq (Gp n))(aP:AJ P w K mg base 2 "_law_one_of" Od Uw)
  (aM:AJ P w K mg base 3 "_law_plain" Qq (Jy true)):AH P w K mg base BE (m+1) f fd Mq (Aa6 n):=by
 show F.By EZ λcdv A outer s H vs Q E hr h=>?_
 .show Ao1 h λd ad S En kd deep z1 N Y KO hd z2=>Ch z2 λaH hn k=>?_;subst z1;have nd:=EZ.nd;exists Ae (Ab3 (Gw (i0:=3) nd rfl rfl rfl (N':=["_law_name","_law_now","_law_kind_here"]) (n:=1) (js:=[0,1]) (AY.o Qq) rfl (Wj (BU hr (qv 0) Ai)) (λ_ _ _=>(Az (FX 0) (Mf (BM Cf (Da (show IH _ (Q5 K)from Hu) (BU hr (BU hr (qv 1) Ai) (qv 0)) Ag (λ_ _=>rfl)) (qv 2))) (qv 0))))) (Ae (Bj (BM Cf (Eh T.AR (qv 3)) Ag) (Ak (Ar (qf aM hr (AS (qv 0) (qv 1))))) Ax) (Ae (Cl 4 nd (qf aP hr (AS (qv 0) (qv 3)))) (Ae (Gw (i0:=5) nd rfl rfl rfl (N':=["_law_one","_law_now","_law_deep"]) (n:=1) (js:=[0,2]) (AY.o P3) rfl (Gx (BY (BU hr (BU hr (qv 0) Ai) (qv 4)) Ag)) (λ_ _ _=>(Az (FX 0) Db (qf aN hr (BV (qv 1) (qv 0) (Bc (Vg rfl) rfl T.n_max boot_max (AS Ag (Ap Gj (qv 2) Ag)))))))) (Ak (Ar (B4 D6 rfl T.AZ NA (AM (Ap Fe (B2 (AS Ai (qv 4))) (qv 5)))))))))
  show L9 N.fu λkvs af kf h1 h2 h3 h4 aK=>?_;have aQ:(2000000:Nat)<=sizeLine:=by rw[LJ];omega
  show C6 af kf h3 (Ad rfl (Al d _ rfl (by rw[← h2];show AL.k (k:=Sum.inr "functions") h1) (Al af kf rfl h3 λo D hD=>?_)));have aC:af≠D:=λz=>by rw[← z,Ah]at hD;cases hD
  have fD:H D=none:=by rw[Aj aC.symm]at hD;show hD
  show Qk (λi ys σ G=>(∃o0,σ=[o0,some (.ref d),some (.str kd)])/\G D=some (.lst ys)/\AA (upd H af (.EB o (.dK kf))) G/\(∀y∈ys,∃nm fh,y=.str nm/\(nm,fh)∈S.AC/\fh.k=kd)/\ys.length<=i) (by rw[h4.len];have:=Y.ff;omega) hD (Fb ⟨_,rfl⟩ Ah ((AA.refl _).upd hD) (λy O=>by cases O) (JV _)) (λi ys σ G hi ⟨_,hd,I,_,e⟩=>(Az (I _ _ Ah) hd e)) ?_ ?_
  .rintro i ky x ys σ G hx ⟨⟨o0,rfl⟩,a4,I,O,le⟩;show Am (h4.key (KR hx)) λnm a5 e=>?_;have e:kV ky=.str nm:=e;rw[e];show A0 (h4.has a5) λv fh e1 e2 z1=>He z1 λt v1 v3 z2 ht _=>?_;subst z2;have a1:G d=some (.dK kvs):=I _ _ (by rw[Aj aK];show h1);have aI:G t=some (.tup [v1,.str fh.k,v3]):=I _ _ (by rw[Aj (Bd ht h3 (by simp))];show ht);show Ad rfl (Al d _ rfl (by rw[← h2];show AL.k (k:=Sum.inr "functions") a1) (Ad rfl (Al af _ rfl (.inl (Al kf (Sum.inr nm) (.inr ⟨o,I _ _ Ah⟩) rfl e1.symm)) (B0 t _ 1 _ rfl rfl (BJ.of aI) rfl (Bh rfl rfl (Ad rfl (B5 (λc=>?_) (λc=>?_))))))))
   .show Ad3 rfl a4 ⟨_,rfl⟩ Ah (CI I hD) ⟨λy aJ=>?_,by rw[JX,LI];omega⟩
    rcases KQ.mp aJ with z|z
    .show O y z
    .rw [KD.mp z];show Al nm fh rfl e2 (IB c)
   .show Fb ⟨_,rfl⟩ a4 I O (by omega)
  .rintro ys σ G ⟨_,a4,I,O,le⟩;show Aq o (I _ _ Ah) ?_;generalize z:upd G af _=H1;have s1:AA H H1:=λq u e=>by
    rw[← z];by_cases c:q=af
    .rw [c,Ah];rw[c,h3]at e;show e
    .rw [Aj c];show I _ _ (by rw[Aj c];show e)
   have gD:H1 D=some (.lst ys):=by rw[← z,Aj aC.symm];show a4
   have N1:=N.keep (AA.AN s1) (BS.up N.dr.dr s1);have k:=k.of (AA.AN s1);have nD:D≠ad:=by
    obtain⟨ds,ha⟩:=N.dr.dr;show(Af ha fD).symm
   walk_at "n"
   show Ad rfl (Co D _ rfl (.inl (AO.of gD)) rfl (Ad rfl (B5 (λc=>?_) (λc=>?_))))
   .show Ad rfl (Ad rfl (F5 d ad S En kd rfl N1 Y KO (λz=>by cases z) (k.le (KN plV_le (by omega)))))
   have ne:ys≠[]:=λz=>c (by rw[z];show KA rfl);dsimp only[Lf];show Dt (Ad rfl (Ad rfl (Cm d ad D ys rfl N1.dr nD gD ne λx hx H2 aA aE=>?_)));show A0 (O x hx) λnm fh z1 a5 aF=>?_;subst z1;have N2:=N1.keep aA aE;have k:=k.of aA
   walk_at "n"
   show L9 N2.fu λaV aD aU i1 i2 i3 i4 _=>?_;show A0 (i4.has (KI.mpr (Ad a5 rfl))) λv a0 e1 e2 z1=>Ig z1 λt v1 v3 z2 ht z3 _=>?_;subst z2;obtain⟨l1,rfl,n1,g1,aW⟩:=z3;have es:=(Y.fu nm fh a5).1;obtain⟨a7,aG⟩:=Y.fu nm a0 e2;have ek:a0.k=kd:=by rw[es]at a7;rw[← aF];show(LM (λp=>p.2) (LV a7)).symm
   show Ad rfl (Al d _ rfl (by rw[← i2];show AL.k (k:=Sum.inr "functions") i1) (Ad rfl (Al aD _ rfl (by rw[← e1];show AL.k (k:=Sum.inr nm) i3) (B0 t _ 0 _ rfl rfl (BJ.of ht) rfl (Bx l1 rfl ⟨_,AO.of g1⟩ λD2 a3=>?_)))));have aB:D2≠ad:=by
    obtain⟨ds,ha⟩:=N2.dr.dr;show(Af ha a3).symm
   have s0:=(AA.refl H2).upd (o:=.lst []) a3;show Qj (xs:=a0.ks.map V.str) (λi ys σ G=>(∃o0,σ=[o0,some (.ref d),some (.int deep)])/\G D2=some (.lst ys)/\AG ad H2 G/\BS G ad/\ys.length=i/\∃ts,AI G ys ts/\kL En ts=(a0.ks.take i).map some/\∀t∈ts,CD n t) (by rw[JR];omega) a3 (D8 ⟨_,rfl⟩ Ah (AA.AN s0) (BS.up N2.dr.dr s0) rfl (Bx [] rfl Ed Ov)) (λi ys σ G hi ⟨_,hd,kb,_,e,_⟩=>(Az (AO.of (kb _ _ g1 n1)) hd (Of e))) ?_ ?_
   .rintro i y ys σ G O ⟨⟨o0,rfl⟩,a1,a6,a2,le,ts,th,kl,yl⟩;rw[LG]at O;show Am (Option.map_eq_some_iff.mp O) λkk a9 z1=>?_;subst z1;have em:(if(deep:Int)-1>0 then(deep:Int)-1 else 0)=((deep-1:Nat):Int):=by split<;>omega
    show Ad rfl (Ad rfl (Ad rfl (Aw rfl rfl (C6 0 ((deep:Int)-1) rfl (Kk d ad S En kk (deep-1) (by show[V.ref d,V.str kk,V.int (if(deep:Int)-1>0 then(deep:Int)-1 else 0)]=_;rw[em]) (N2.keep a6 a2) Y (aG kk (KR a9)) (by omega) (Az (by omega) (LS Gv hn) λv t H' kb dr tv ev yv=>?_))))));have a8:=kb _ _ a1 aB;show D8 a8 ⟨_,rfl⟩ Ah (λq u e nq=>?_) ?_ ⟨by rw[JX,le];rfl,(Bx (ts++[t]) ?_ ?_ λu hu=>(KQ.mp hu).elim (yl u) λz=>by rw[KD.mp z];show yv)⟩
    .rw [Aj (Af e a3)];show kb _ _ (a6 _ _ e nq) nq
    .obtain⟨ds,e⟩:=dr;show⟨ds,by rw[Aj aB.symm];show e⟩
    .show ((th.mono (AG.AF kb a2)).append (Hw tv)).mono (Fd a8)
    .rw [Ct a9,KZ];have ap:∀a b:List Th,kL En (a++b)=kL En a++kL En b:=λa b=>by
      induction a with
      | nil=>rw[QM,Ed,QM]
      | cons x r ih=>rw[PZ,B3,B3,ih,PZ]
     rw[ap,kl,B3,Ed,ev];rfl
   .rintro us σ G ⟨_,a1,a6,a2,le,ts,th,kl,yl⟩;rw[JR]at le;rw[JR,LY]at kl;have k:=k.of a6;dsimp only[BH]
    walk_at "n"
    show Jd (Bh rfl (zl 2) λl q=>?_);generalize z:upd _ l _=H4;obtain⟨s4,g4⟩:=Bz q z;show Ad rfl (Qm g4 (s4 _ _ a1) (by rw[le];show 2+_<=1000;omega) λp H5 _ s5 g5=>(C6 p _ rfl (.inl ⟨AO.of g5,λtl q=>?_⟩)));have s6:=(AA.refl H5).upd (o:=.tup ([.str "call",.str nm]++us)) q;have sx:=s4.trans (s5.trans s6);have ty:=kE_call Y e2 kl;rw[ek]at ty;show k _ (.tup (.wd "call"::.wd nm::ts)) _ (AA.AN sx) (BS.up a2 sx) (Aw rfl Ah (Aw rfl rfl (Aw rfl rfl (th.mono sx.AF)))) ty (dlz_call (by omega) aH (by rw[← th.len,le];show Y.fk nm a0 e2) yl)
end
structure AX (H:Hp)(d ad aw as:Addr)(S:GS)(W:List Str):Prop where
 dr:Drw H d ad
 ex:∃kvs ar af kr kf ks,NowAt H d ad S kvs ar af as kr kf ks/\Bm kvs (Sum.inr "words")=some (.ref aw)/\(∀p∈kr,∀b∈aw::S.bs,p.2≠.ref b)/\(∀p∈ks,∀b∈aw::S.bs,p.2≠.ref b)/\(∀p∈kf,∀t v1 x v3,p.2=.ref t->H t=some (.tup [v1,x,v3])->∀b∈aw::S.bs,v1≠.ref b/\v3≠.ref b)
 hw:H aw=some (.lst (W.map V.str))
 nw:aw≠ad
 nl:W.length<=100
 bl:∀b∈S.bs,H b≠none
def AX.now {H:Hp}{d ad aw as:Addr}{S:GS}{W:List Str}(N:AX H d ad aw as S W):GY H d ad S:=⟨N.dr,let ⟨kvs,ar,af,kr,kf,ks,n,_⟩:=N.ex;(Cw kvs ar af as kr kf ⟨ks,n⟩)⟩
def Tab.GW {α:Type}{R I:V->α->Prop}:∀{kvs:List (Key×V)} {tab:List (Str×α)},(∀p∈kvs,∀x,R p.2 x->I p.2 x)->Tab R kvs tab->Tab I kvs tab:=fun {kvs tab} i h=>by
 unfold Tab at *
 induction h with
 | nil=>show .nil
 | cons a _ Y=>show .cons ⟨a.1,i _ JY _ a.2⟩ (Y λp O=>i p (JS _ O))
def Tab.mem {α:Type}{R:V->α->Prop}{kvs:List (Key×V)}{tab:List (Str×α)}(h:Tab R kvs tab)(I:p∈kvs):∃x,R p.2 x:=by
 unfold Tab at h
 induction h with
 | nil=>cases I
 | @cons a b _ _ h1 _ O=>
  rcases JT.mp I with rfl|I
  .show⟨b.2,h1.2⟩
  .show O I
section
variable {H H':Hp}{d ad aw as:Addr}{S:GS}{W:List Str}
def AX.keep (N:AX H d ad aw as S W)(k:AG ad H H')(dr:BS H' ad):AX H' d ad aw as S W:=by
 have nd:∀{a:Addr} {kvs:List (Key×V)},H a=some (.dK kvs)->H' a=some (.dK kvs):=λg=>by
  obtain⟨ds,hd⟩:=N.dr.dr;show k _ _ g (Bd g hd (by simp))
 show Am N.dr.hd λa0 m1 m2=>Uk N.ex λkvs ar af kr kf ks n Y w1 w2 w3=>⟨⟨(Aq a0 (nd m1) m2),dr⟩,(Ad4 kvs ar af kr kf ks ⟨nd n.hd,n.vd,n.vr,n.vf,n.vs,n.vg,nd n.hr,nd n.hf,nd n.hs,n.tr.imp λv x=>CT.keep k,n.tf.imp λv x=>Fns.keep N.dr k,n.ts.imp λv x=>CT.keep k,n.ap,n.ea,n.eb,n.kl⟩ Y w1 w2 λp O t v1 x v3 e g=>?_),k _ _ N.hw N.nw,N.nw,N.nl,λb hb z=>?_⟩
 rotate_left
 .by_cases c:b=ad
  .obtain⟨ds,h⟩:=dr;rw[c,h]at z;cases z
  .cases h:H b with
   | none=>show N.bl b hb h
   | some u=>rw[k _ _ h c]at z;cases z
 show Zs (n.tf.mem O) λfh t' u1 u3 I g' _=>?_;rw[e]at I;cases I;have:=Fns.keep N.dr k (Kl t u1 u3 rfl g' (‹_›));show He this λ_ _ _ e2 g2 _=>?_;cases e2;have:=k _ _ g' (by obtain⟨ds,hd⟩:=N.dr.dr;show Bd g' hd (by simp));rw[g]at this;cases this;show w3 p O t v1 _ v3 e g'
def AX.pop (N:AX H d ad aw as S (W++[x])):AX (upd H aw (.lst (W.map V.str))) d ad aw as S W:=by
 have up:∀{a:Addr} {u:HO},H a=some u->a≠aw->upd H aw (.lst (W.map V.str)) a=some u:=λg n=>by rw[Aj n];show g
 have nd:∀{a:Addr} {kvs:List (Key×V)},H a=some (.dK kvs)->upd H aw (.lst (W.map V.str)) a=some (.dK kvs):=λg=>up g (Bd g N.hw (by simp));have Y:∀{a:Addr} {xs:List V},H a=some (.tup xs)->upd H aw (.lst (W.map V.str)) a=some (.tup xs):=λg=>up g (Bd g N.hw (by simp));have nx:∀{v:V} {xs:List Str},v≠.ref aw->CT H ad v xs->CT (upd H aw (.lst (W.map V.str))) ad v xs:=λnv ⟨a,e,n,g,l⟩=>(Dh a e n (up g λz=>nv (by rw[e,z])) l);show Am N.dr.hd λa0 m1 m2=>?_;obtain⟨ds,hd⟩:=N.dr.dr;show Uk N.ex λkvs ar af kr kf ks n hv w1 w2 w3=>?_;show⟨⟨(Aq a0 (nd m1) m2),ds,up hd N.nw.symm⟩,(Ad4 kvs ar af kr kf ks ⟨nd n.hd,n.vd,n.vr,n.vf,n.vs,n.vg,nd n.hr,nd n.hf,nd n.hs,n.tr.GW λp I x=>nx (w1 p I aw JY),n.tf.GW λp I x=>?_,n.ts.GW λp I x=>nx (w2 p I aw JY),n.ap,n.ea,n.eb,n.kl⟩ hv w1 w2 λp I t v1 x v3 e g=>?_),Ah,N.nw,(by have:=N.nl;rw[JX]at this;omega),λb hb z=>?_⟩
 .rintro ⟨t,v1,v3,e,g,a,b⟩;obtain⟨c1,c3⟩:=w3 p I t v1 _ v3 e g aw JY;show Ei t v1 v3 e (Y g) (nx c1 a) (nx c3 b)
 .show Zs (n.tf.mem I) λfh t' u1 u3 O g' _=>?_;rw[e]at O;cases O;rw[Y g']at g;cases g;show w3 p I t _ _ _ e g'
 .by_cases c:b=aw
  .rw [c,Ah]at z;cases z
  .rw [Aj c]at z;show N.bl b hb z
end
noncomputable def F1 {α:Type}(tab:List (Str×α))(n:Str)(x:α):List (Str×α):=if tab.any (λp=>decide (p.1=n))=true then tab.map (λp=>if p.1=n then(p.1,x)else p)else tab++[(n,x)]
def Tab.put {α:Type}{R:V->α->Prop}{tab:List (Str×α)}(h:Tab R kvs tab){n:Str}{x:α}(hx:R v x):Tab R (L2.putK kvs (Sum.inr n) v) (F1 tab n x):=by
 have ha:(kvs.any λY=>decide (Y.1=Sum.inr n))=tab.any λp=>decide (p.1=n):=by
  unfold Tab at h
  induction h with
  | nil=>rfl
  | @cons a b _ _ h1 _ I=>
   rw[OP,OP,I,h1.1]
   congr 1
   show decide_eq_decide.mpr ⟨MX,LM Sum.inr⟩
 unfold L2.putK F1;rw[ha];split
 .rename_i O;clear ha O;unfold Tab at *
  induction h with
  | nil=>show .nil
  | @cons a b _ _ h1 _ I=>
   rw[KE,KE];show .cons ?_ I;by_cases c:b.1=n
   .rw [KJ (by rw[h1.1,c]),KJ c];show⟨h1.1,hx⟩
   .rw [KH (by rw[h1.1];show λz=>c (MX z)),KH c];show h1
 .rename_i O;clear ha O;unfold Tab at *
  induction h with
  | nil=>show .cons ⟨rfl,hx⟩ .nil
  | cons h1 _ I=>show .cons h1 I
def Ey {α:Type}{tab:List (Str×α)}{n k:Str}{x y:α}(h:(k,y)∈F1 tab n x):(k=n/\y=x)\/((k,y)∈tab/\k≠n):=by
 unfold F1 at h;split at h
 .show Am (KI.mp h) λp I e=>?_;by_cases c:p.1=n
  .rw [KJ c]at e;cases e;show .inl ⟨c,rfl⟩
  .rw [KH c]at e;subst e;show .inr ⟨I,c⟩
 .rename_i hn
  rcases KQ.mp h with z|z
  .show .inr ⟨z,λc=>hn (RE.mpr (Ad z (KA c)))⟩
  .cases KD.mp z;show .inl ⟨rfl,rfl⟩
section
variable {H H':Hp}{d ad aw as:Addr}{S:GS}{W:List Str}
def AX.see (N:AX H d ad aw as S W)(hs:H as=some (.dK ks))(hl:H l=some (.lst (xs.map V.str)))(n1:l≠ad)(n2:∀b∈aw::S.bs,l≠b)(len:xs.length<=100) :
  AX (upd H as (.dK (L2.putK ks (Sum.inr kd) (.ref l)))) d ad aw as {S with seen:=F1 S.seen kd xs} W:=by
 show Uk N.ex λkvs ar af kr kf a1 n hv w1 w2 w3=>?_;obtain rfl:ks=a1:=by have:=n.hs;rw[hs]at this;cases this;rfl
 have up:∀{a:Addr} {u:HO},H a=some u->a≠as->upd H as (.dK (L2.putK ks (Sum.inr kd) (.ref l))) a=some u:=λg n=>by rw[Aj n];show g
 have Y:∀{a:Addr} {ys:List V},H a=some (.tup ys)->upd H as (.dK (L2.putK ks (Sum.inr kd) (.ref l))) a=some (.tup ys):=λg=>up g (Bd g hs (by simp));have nl:∀{a:Addr} {ys:List V},H a=some (.lst ys)->upd H as (.dK (L2.putK ks (Sum.inr kd) (.ref l))) a=some (.lst ys):=λg=>up g (Bd g hs (by simp));have nx:∀v ys,CT H ad v ys->CT (upd H as (.dK (L2.putK ks (Sum.inr kd) (.ref l)))) ad v ys:=λv ys ⟨a,e,m,g,q⟩=>(Dh a e m (nl g) q);show Am N.dr.hd λa2 m1 m2=>?_;obtain⟨ds,hd⟩:=N.dr.dr;have a0:=up n.hd n.ap.1.1.symm;show⟨⟨(Aq a2 (up m1 n.ap.1.1.symm) m2),ds,nl hd⟩,(Ad4 kvs ar af kr kf _ ⟨a0,n.vd,n.vr,n.vf,n.vs,n.vg,up n.hr n.ap.2.1.symm,up n.hf n.ap.2.2.symm,Ah,n.tr.imp nx,n.tf.imp λv x ⟨t,v1,v3,e,g,a,b⟩=>(Ei t v1 v3 e (Y g) (nx _ _ a) (nx _ _ b)),Tab.put (n.ts.imp nx) (Dh l rfl n1 (nl hl) len),n.ap,n.ea,n.eb,n.kl⟩ hv w1 (λp I b hb=>?_) λp I t v1 x v3 e g=>?_),nl N.hw,N.nw,N.nl,λb hb z=>?_⟩
 .unfold L2.putK at I;split at I
  .show Am (KI.mp I) λq hq e=>?_;split at e
   .rw [← e];show λz=>n2 b hb (V.ref.inj z)
   .rw [← e];show w2 q hq b hb
  .rcases KQ.mp I with z|z
   .show w2 p z b hb
   .rw [KD.mp z];show λz=>n2 b hb (V.ref.inj z)
 .show Zs (n.tf.mem I) λfh t' u1 u3 O g' _=>?_;rw[e]at O;cases O;rw[Y g']at g;cases g;show w3 p I t _ _ _ e g'
 .by_cases c:b=as
  .rw [c,Ah]at z;cases z
  .rw [Aj c]at z;show N.bl b hb z
end
structure BG (S:GS)(W:List Str)(κ:Kd)(kn:List Str)(s:SE):Prop where
 eo:DU S (s.e κ)
 gi:s.g=S.given
 ok:∀x∈W,Dd x=true/\x∉kn
 nd:W.Nodup
 se:∀k xs x,(k,xs)∈S.seen->x∈xs->x∈kn
 ln:∀k xs,(k,xs)∈S.seen->xs.length+W.length<=60
 wl:W.length<=50
 sl:S.seen.length+W.length<=70
 sk:∀k xs,(k,xs)∈S.seen->Er S k
 gk:Er S S.given
def Jm {α:Type}(tab:List (Str×α))(n:Str)(x:α):(F1 tab n x).length<=tab.length+1:=by
 unfold F1;split
 .rw [JR];omega
 .rw [JX];show JV _
def BG.letS (h:BG S (W++[x]) κ kn s)(hx:∀y∈xs,y=x\/∃ys,(kd,ys)∈S.seen/\y∈ys)(hl:xs.length+W.length<=60)(hk:Er S kd):BG {S with seen:=F1 S.seen kd xs} W (putK κ x kd) (x::kn) s:=by
 have a0:=(h.ok x (by simp)).2;have O:=(h.ok x (by simp)).1;have a1:x≠"yes"/\x≠"no":=by
  unfold Dd at O;simp only[MA,NP,PV,MW]at O;show O.2
 have Y:∀k ys y,(k,ys)∈S.seen->y∈ys->putK κ x kd y=some k/\y≠"yes"/\y≠"no":=λk ys y a b=>by
  obtain⟨c1,c2⟩:=h.eo.se k ys y a b;have ne:y≠x:=λz=>a0 (z▸h.se k ys y a b);show⟨by unfold putK;rw[KH ne];show c1,c2⟩
 show⟨⟨h.eo.re,h.eo.fu,λk ys y a b=>?_,h.eo.rl,h.eo.ff,h.eo.rn,h.eo.fk⟩,h.gi,λy I=>⟨(h.ok y (MD _ I)).1,λz=>?_⟩,(LX.mp h.nd).1,λk ys y a b=>?_,λk ys a=>?_,?_,?_,λk ys a=>(Ey a).elim (λz=>z.1▸hk) λz=>h.sk k ys z.1,h.gk⟩
 .rcases Ey a with⟨rfl,rfl⟩|⟨a,_⟩
  .rcases hx y b with rfl|⟨zs,c1,c2⟩
   .show⟨by show putK κ y k y=_;unfold putK;rw[KJ rfl],a1⟩
   .show Y _ zs y c1 c2
  .show Y k ys y a b
 .rcases JT.mp z with rfl|z
  .show (LX.mp h.nd).2.2 y I y (by simp) rfl
  .show (h.ok y (MD _ I)).2 z
 .rcases Ey a with⟨rfl,rfl⟩|⟨a,_⟩
  .rcases hx y b with rfl|⟨zs,c1,c2⟩
   .show JY
   .show JS _ (h.se _ zs y c1 c2)
  .show JS _ (h.se k ys y a b)
 .rcases Ey a with⟨rfl,rfl⟩|⟨a,_⟩
  .show hl
  .have:=h.ln k ys a;rw[JX]at this;omega
 .have:=h.wl;rw[JX]at this;omega
 .have:=h.sl;have:=Jm S.seen kd xs;rw[JX,LI]at *
  show(F1 S.seen kd xs).length+_<=70
  omega
def FR (d ad aw as:Addr)(H H':Hp):Prop:=∀q u,H q=some u->q≠d->q≠ad->q≠aw->q≠as->H' q=some u
def BR (S S':GS)(W I kn kn':List Str):Prop:=(S'.AB=S.AB/\S'.AC=S.AC/\S'.given=S.given/\S'.ar=S.ar/\S'.af=S.af/\S'.bs=S.bs)/\(I.length<=W.length/\I.length+kn'.length<=W.length+kn.length)/\∀x∈kn,x∈kn'
def SQ (m:Nat)(e:Bool)(s:SE)(d ad aw as:Addr)(S:GS)(W:List Str)(κ:Kd)(kn:List Str)(H:Hp)(Q:VK):Prop:=∀v t H' O S' I κ' kn',AQ H' v t->BX s t κ kn=some (κ',kn',e)->AX H' d ad aw O S' I->BG S' I κ' kn' s->FR d ad aw as H H'->(O=as\/H O=none)->BR S S' W I kn kn'->CD m t->Q v H'
def Af2 (c:List Str->Prop)(e:Bool):Sp:=λvs H Q _=>∃d ad aw as S W κ kn s,vs=[.ref d]/\AX H d ad aw as S W/\BG S W κ kn s/\c W/\SQ 6 e s d ad aw as S W κ kn H Q
section
variable {H H1 H2:Hp}{d ad aw as:Addr}{S:GS}{W:List Str}
def AG.GX (k:AG ad H H1):FR d ad aw as H H1:=λq u e _ n _ _=>k q u e n
def FR.trans (a:FR d ad aw as H H1)(b:FR d ad aw as H1 H2):FR d ad aw as H H2:=λq u e n1 n2 n3 n4=>b q u (a q u e n1 n2 n3 n4) n1 n2 n3 n4
def AX.HY (N:AX H d ad aw as S W):∃kvs ks,H d=some (.dK kvs)/\H as=some (.dK ks)/\Bm kvs (Sum.inr "seen")=some (.ref as)/\Bm kvs (Sum.inr "words")=some (.ref aw)/\as≠d/\Tab (CT H ad) ks S.seen:=
 let ⟨kvs,_,_,_,_,ks,n,I,_⟩:=N.ex;(Km kvs ks n.hd n.hs n.vs I n.ap.1.1 n.ts)
def AX.kl (N:AX H d ad aw as S W)(h:H d=some (.dK kvs)):kvs.length<=7:=by
 show dd61 N.ex λI _ _ _ _ _ n _=>?_;have:=n.hd;rw[h]at this;cases this;show n.kl
def AX.AF (N:AX H d ad aw as S W)(f:FR d ad aw as H H1):CA H H1:=λb xs e=>by
 show A0 N.HY λkvs ks h1 h2 _=>?_;obtain⟨ds,h3⟩:=N.dr.dr;show f b _ e (Bd e h1 (by simp)) (Bd e h3 (by simp)) (Bd e N.hw (by simp)) (Bd e h2 (by simp))
end
def stE_let (hn:Dd x=true)(hx:x∉kn)(ht:kE (s.e κ) t=some kd):BX s (.tup [.wd "let",.wd x,t]) κ kn=some (putK κ x kd,x::kn,false):=by
 rw[C5];unfold FZ;rw[KJ rfl];simp only[ht];unfold GC;rw[KJ (by rw[hn];simp[hx])]
section
variable {P:Program}{w:World}{K:Av}{mg:Cb}{base:Heap}
def Fn:AD ["_law_now","_law_kind_here","_law_value_here","_law_name"] Fm (Ao Wb):=FS
def Ac1 (hm:3<=m)(F:As K "_law_let" "_law_let" Wb f fd)(aB:AJ P w K mg base 3 "_law_kind" Fm V6)(aC:AJ P w K mg base m "_law_value" Mq (Gp 5)):AH P w K mg base BE (m+1) f fd Fm (Af2 (λW=>W≠[]) false):=by
 show F.By Fn λcdv A outer s H vs Q E hr h=>?_
 .show Dc h λd ad aw as S W z1=>L9 z1 λκ kn se z2 N O hw k=>?_;subst z2;have nd:=Fn.nd;have aD:(2000000:Nat)<=sizeLine:=by rw[LJ];omega
  exists Ae (Cl 1 nd (qf aB hr (AM (qv 0)))) (Ae (Cl 2 nd (qf aC hr (BV (qv 0) (qv 1) Ag))) (Ae (Cl 3 nd (Kc KY NI NJ Nj (BU hr (qv 0) Ai))) (Ae (D9 (Ds hr) (BU hr (qv 0) Ai) (qv 1) (Ap Fe (Sr (Ds hr) (BU hr (qv 0) Ai) (qv 1) (B2 Fa) ⟨rfl,rfl,rfl,rfl⟩) (B2 (AM (qv 3)))) rfl) (Ak (Ar (Bk (BV Ai (qv 3) (qv 2))))))))
  show Dt (Ad rfl (Ei d ad S rfl N.now.r0 O.eo.rl λkd CU H1 a2 a5=>?_));have N1:=N.keep a2 a5
  walk_at "n"
  have a8:Ky kd 2<5:=LS Gv (by decide);show Dt (Ad rfl (Ad rfl (Kk d ad S (se.e κ) kd 2 rfl N1.now O.eo CU (by decide) (Az (by decide) a8 λv t H2 a3 a6 tv ev yv=>?_))));have N2:=N1.keep a3 a6
  walk_at "n"
  obtain⟨I,x,rfl⟩:∃I x,W=I++[x]:=by
   rcases List.eq_nil_or_concat W with rfl|⟨I,x,rfl⟩
   .show absurd rfl hw
   .show Uj I x (by simp)
  show Kq N2.HY λkvs ks h1 h2 h3 h4 aF h5=>?_;have a7:AL H2 d (.str "words") (some (.ref aw)):=by rw[← h4];show AL.k (k:=Sum.inr "words") h1
  show Dt (Ad rfl (Co d _ rfl a7 (.inl ⟨rfl,_,AO.of N2.hw⟩) (Ep aw _ (.str x) rfl rfl N2.hw (by simp) ?_)));have N3:=N2.pop;have eW:((I++[x]).map V.str).dropLast=I.map V.str:=by simp
  rw[eW];have f3:FR d ad aw as H2 (upd H2 aw (.lst (I.map V.str))):=λq u e _ _ n _=>by rw[Aj n];show e
  have t3:=N2.AF f3;generalize upd H2 aw (.lst (I.map V.str))=H3 at *
  walk_at "n"
  show Kq N3.HY λaH a0 i1 i2 i3 i4 _ i5=>?_;have a1:∀{X:Hp},AA H3 X->AL X d (.str "seen") (some (.ref as)):=λs=>by rw[← i3];show AL.k (k:=Sum.inr "seen") (s _ _ i1)
  show Ad rfl (Al d _ rfl (a1 (AA.refl H3)) (Bx as rfl (.inl ⟨a0,.of i2⟩) (Bh rfl (zl 0) λl q=>?_)));generalize z:upd _ l _=H4;obtain⟨s4,g4⟩:=Bz q z;show Aq (Bm a0 (Sum.inr kd)) (AL.k (k:=Sum.inr kd) (s4 _ _ i2)) ?_;obtain⟨lo,xs,el,gl,hx,aG⟩:∃(lo:Addr) (xs:List Str),(Bm a0 (Sum.inr kd)).getD (.ref l)=.ref lo/\H4 lo=some (.lst (xs.map V.str))/\(∀y∈xs,∃ys,(kd,ys)∈S.seen/\y∈ys)/\xs.length+(I.length+1)<=60:=by
   cases o:Bm a0 (Sum.inr kd)with
   | none=>show Co l [] rfl g4 (λy Y=>by cases Y) (by have:=O.wl;rw[JX,LI]at this;show 0+_<=60;omega)
   | some v=>
    show Am (i5.get o) λxs hs z1=>Oz z1 λa e n' g ln=>?_;show Co a xs e (s4 _ _ g) (λy Y=>(Aq xs hs Y)) (by have:=O.ln kd xs hs;rw[JX,LI]at this;show this)
  rw[el];show Bh rfl (zl 1) λl2 q2=>?_;generalize z2:upd _ l2 _=H5;obtain⟨s5,g5⟩:=Bz q2 z2;show Qm (s5 _ _ gl) g5 (by rw[JR];show _+1<=1000;omega) λl3 H6 f6 s6 g6=>?_;have sx:=s4.trans (s5.trans s6);have N6:=N3.keep (AA.AN sx) (BS.up N3.dr.dr sx);have g6:H6 l3=some (.lst ((xs++[x]).map V.str)):=by rw[KZ];show g6
  have n1:l3≠ad:=by
   obtain⟨ds,ha⟩:=N3.dr.dr;show(Af (s5 _ _ (s4 _ _ ha)) f6).symm
  have n2:∀b∈aw::S.bs,l3≠b:=λb hb z=>by
   rcases JT.mp hb with rfl|hb
   .show (Af (s5 _ _ (s4 _ _ N3.hw)) f6).symm z
   .cases h:H3 b with
    | none=>show N3.bl b hb h
    | some u=>show(Af (s5 _ _ (s4 _ _ h)) f6).symm z
  have aE:a0.length<=1000:=by rw[i5.len];have:=O.sl;omega
  show Ad rfl (Al d _ rfl (a1 sx) (Ad rfl (Al as _ rfl (DD.k (k:=Sum.inr kd) (sx _ _ i2) (by omega)) ?_)));have N7:=N6.see (kd:=kd) (xs:=xs++[x]) (sx _ _ i2) g6 n1 n2 (by rw[JX,LI];omega);have f7:FR d ad aw as H6 (upd H6 as (.dK (L2.putK a0 (Sum.inr kd) (.ref l3)))):=λq u e _ _ _ n=>by rw[Aj n];show e
  have t7:=N6.AF f7;generalize upd H6 as (.dK (L2.putK a0 (Sum.inr kd) (.ref l3)))=H7 at *
  have a4:=O.letS (kd:=kd) (xs:=xs++[x]) (λy Y=>by
   rcases KQ.mp Y with h|h
   .show .inr (hx y h)
   .show .inl (KD.mp h)) (by rw[JX,LI];omega) CU
  obtain⟨aA,a9⟩:=O.ok x (by simp)
  try dsimp only
  show Jd (Q1 (M1 (Ad rfl (Bh rfl (zl 3) λp hp=>?_))));have s8:=(AA.refl H7).upd (o:=.tup [.str "let",.str x,v]) hp;have fx:FR d ad aw as H (upd H7 p (.tup [.str "let",.str x,v])):=(AG.GX a2).trans ((AG.GX a3).trans (f3.trans ((AG.GX (AA.AN sx)).trans (f7.trans (AG.GX (AA.AN s8))))));show k _ (.tup [.wd "let",.wd x,t]) _ as _ I _ _ (Aw rfl Ah (Aw rfl rfl (Aw rfl rfl (Aw rfl ((((tv.mono t3).mono sx.AF).mono t7).mono s8.AF) rfl)))) (stE_let aA a9 ev) (N7.keep (AA.AN s8) (BS.up N7.dr.dr s8)) a4 fx (.inl rfl) (Az (D8 rfl rfl rfl rfl rfl rfl) (by simp only[JX,KC,OE];omega) λy Y=>JS _ Y) (dlz2 (by decide) Nn yv)
end
section
variable {H:Hp}{d ad aw as:Addr}{S:GS}{W:List Str}{κ:Kd}{kn:List Str}{s:SE}{Q:VK}{op:Str}{q:Addr}{m:Nat}
def SQ.easy (k:SQ m e s d ad aw as S W κ kn H Q)(N:AX H d ad aw as S W)(O:BG S W κ kn s)(I:AG ad H H')(dr:BS H' ad)(th:AQ H' v t)(st:BX s t κ kn=some (κ,kn,e))(y:CD m t):Q v H':=
 k v t H' as S W κ kn th st (N.keep I dr) O (AG.GX I) (.inl rfl) (Az (D8 rfl rfl rfl rfl rfl rfl) ⟨JV _,JV _⟩ λ_ h=>h) y
def SQ.JJ (k:SQ 6 e s d ad aw as S W κ kn H Q)(N:AX H d ad aw as S W)(O:BG S W κ kn s)(kb:AG ad H H3)(dr:BS H3 ad)(h1:AQ H3 v1 t1)(Y:H3 q=none)(st:BX s (.tup [.wd op,t1]) κ kn=some (κ,kn,e))(y1:CD 5 t1):Q (.ref q) (upd H3 q (.tup [.str op,v1])):=by
 have I:=(AA.refl H3).upd (o:=.tup [.str op,v1]) Y;show k.easy N O (t:=.tup [.wd op,t1]) (kb.trans I) (BS.up dr I) (Aw rfl Ah (Aw rfl rfl (Aw rfl (h1.mono I.AF) rfl))) st (dlz1 y1)
def SQ.IL (k:SQ 6 e s d ad aw as S W κ kn H Q)(N:AX H d ad aw as S W)(O:BG S W κ kn s)(kb:AG ad H H3)(dr:BS H3 ad)(h1:AQ H3 v1 t1)(h2:AQ H3 v2 t2)(Y:H3 q=none)(st:BX s (.tup [.wd op,t1,t2]) κ kn=some (κ,kn,e))(y1:CD 5 t1)(y2:CD 5 t2):Q (.ref q) (upd H3 q (.tup [.str op,v1,v2])):=by
 have I:=(AA.refl H3).upd (o:=.tup [.str op,v1,v2]) Y;show k.easy N O (t:=.tup [.wd op,t1,t2]) (kb.trans I) (BS.up dr I) (Aw rfl Ah (Aw rfl rfl (Aw rfl (h1.mono I.AF) (Aw rfl (h2.mono I.AF) rfl)))) st (dlz2 (by decide) y1 y2)
def SQ.tup4 (k:SQ 6 e s d ad aw as S W κ kn H Q)(N:AX H d ad aw as S W)(O:BG S W κ kn s)(kb:AG ad H H3)(dr:BS H3 ad)(h1:AQ H3 v1 t1)(h2:AQ H3 v2 t2)(h3:AQ H3 v3 t3)(Y:H3 q=none)(st:BX s (.tup [.wd op,t1,t2,t3]) κ kn=some (κ,kn,e))(y1:CD 5 t1)(y2:CD 5 t2)(y3:CD 5 t3):Q (.ref q) (upd H3 q (.tup [.str op,v1,v2,v3])):=by
 have I:=(AA.refl H3).upd (o:=.tup [.str op,v1,v2,v3]) Y;show k.easy N O (t:=.tup [.wd op,t1,t2,t3]) (kb.trans I) (BS.up dr I) (Aw rfl Ah (Aw rfl rfl (Aw rfl (h1.mono I.AF) (Aw rfl (h2.mono I.AF) (Aw rfl (h3.mono I.AF) rfl))))) st (dlz3 y1 y2 y3)
def Af0 (h:kE (s.e κ) t=some ("number":Str)):BX s (.tup [.wd "out",t]) κ kn=some (κ,kn,false):=by
 rw[C5];unfold FZ;rw[AW,AW,AW,AW,AW,AW,AW,KJ rfl,kL1 h];unfold GC;show KJ (KA rfl)
def stE_do (h:kE (s.e κ) t=some k):BX s (.tup [.wd "do",t]) κ kn=some (κ,kn,false):=by
 rw[C5];unfold FZ;rw[AW,AW,AW,AW,AW,AW,AW,AW,AW,KJ rfl];simp only[h];rfl
def Al2 (h1:kE (s.e κ) a=some ("list":Str))(h2:kE (s.e κ) b=some ("number":Str))(h3:kE (s.e κ) c=some ("number":Str)):BX s (.tup [.wd "store",a,b,c]) κ kn=some (κ,kn,false):=by
 rw[C5];unfold FZ;rw[AW,AW,AW,AW,AW,AW,AW,AW,KJ rfl,B3,B3,kL1 h3,h1,h2];unfold GC;show KJ (KA rfl)
def stE_set (h1:kE (s.e κ) a=some n)(hr:s.R n=some fl)(hf:f∈fl)(h3:kE (s.e κ) c=some ("number":Str)):BX s (.tup [.wd "set",a,.wd f,c]) κ kn=some (κ,kn,false):=by
 rw[C5];unfold FZ;rw[AW,AW,AW,AW,AW,AW,KJ rfl];simp only[h1,hr,h3];unfold GC;show KJ (by simp[hf])
def stE_put (hx:κ x=some k)(h:kE (s.e κ) t=some k):BX s (.tup [.wd "put",.wd x,t]) κ kn=some (κ,kn,false):=by
 rw[C5];unfold FZ;rw[AW,KJ rfl];simp only[hx,h];unfold GC;show KJ (by simp)
end
def Sq:Ky k 2<5:=LS Gv (by decide)
def Wg:Ky k 1<5:=LS Gv (by decide)
def As3:Sp:=λvs H Q _=>∃d ad aw as S W κ kn s,∃way:Int,vs=[.ref d,.int way]/\AX H d ad aw as S W/\BG S W κ kn s/\SQ 6 false s d ad aw as S W κ kn H Q
section
variable {P:Program}{w:World}{K:Av}{mg:Cb}{base:Heap}
def FJ:AD ["_law_now","_law_way","_law_name","_law_record","_law_row"] ["_law_now","_law_way"] (Ao Sk):=FS
def Yu (hm:3<=m)(F:As K "_law_deed" "_law_deed" Sk f fd)(T:At K mg)(aJ:AJ P w K mg base 3 "_law_kind" Fm V6)(aC:AJ P w K mg base 2 "_law_one_of" Od Uw)(a2:AJ P w K mg base m "_law_value" Mq (Gp 5)):AH P w K mg base BE (m+1) f fd ["_law_now","_law_way"] As3:=by
 show F.By FJ λcdv A outer s H vs Q E hr h=>?_
 .show Dc h λd ad aw as S W z1=>Zr z1 λκ kn se way z2 NS SO k=>?_;subst z2;have nd:=FJ.nd;have N:=NS.now;have O:=SO.eo;exists Ae (Bj (QW.pt (Je (BM Cf (qv 1) Ag) (F7 (BM E8 (Bc Vh rfl T.AR OL (AM (BU hr (qv 0) Ai))) Ag)))) (Ae (Cl 2 nd (qf aC hr (AS (qv 0) (B4 (Ic rfl) rfl T.FU boot_list (AM (BU hr (qv 0) Ai)))))) (Ae (Cl 3 nd (qf a2 hr (BV (qv 0) (qv 2) Ag))) (Ak (Ar (Bk (EW Ai (qv 3) (qf aC hr (AS (qv 0) (BU hr (BU hr (qv 0) Ai) (qv 2)))) (qf a2 hr (BV (qv 0) Ai Ag)))))))) Ax) (Ae (Bj (BM Cf (qv 1) Ag) (Ae (Cl 4 nd (qf a2 hr (BV (qv 0) Ai Ag))) (Ak (Ar (Bk (EW Ai (qv 4) (qf a2 hr (BV (qv 0) Ai Ag)) (qf a2 hr (BV (qv 0) Ai Ag))))))) Ax) (Ae (Bj (BM Cf (qv 1) Ag) (Ak (Ar (Bk (AS Ai (qf a2 hr (BV (qv 0) (qf aJ hr (AM (qv 0))) Ag)))))) Ax) (Ak (Ar (Bk (AS Ai (qf a2 hr (BV (qv 0) Ai Ag))))))))
  show ifJ ?_ λrest=>?_
  .show Bh rfl rfl (Ad rfl (B5 (λc=>?_) (λc=>?_)))
   .show Dt (Ad rfl (GI N O (.inr (.inr (.inl rfl))) (by decide) (by decide) Wg λv1 t1 H1 a4 a5 a1 e1 y1=>?_));have N1:=N.keep a4 a5
    walk_at "n"
    show Jd (Q1 (M1 (Ad rfl (Ad rfl (GI N1 O (.inl rfl) (by decide) (by decide) Wg λv2 t2 H2 I a0 aI e2 y2=>(Ad rfl (GI (N1.keep I a0) O (.inl rfl) (by decide) (by decide) Wg λv3 t3 H3 a3 a6 a8 e3 y3=>⟨zl 4,λp Y=>k.tup4 NS SO (DZ a4 (DZ I a3)) a6 ((a1.mono (AG.AF I a5)).mono (AG.AF a3 a0)) (aI.mono (AG.AF a3 a0)) a8 Y (Al2 e1 e2 e3) y1 y2 y3⟩)))))))
   show Bh rfl rfl (Ad rfl (B5 (λc=>?_) (λc=>?_)))
   .show Ad rfl (Ad rfl (Ei d ad S rfl N.r0 O.rl λkd CU H1 a4 a5=>GI (N.keep a4 a5) O CU (by decide) (by decide) Sq λv1 t1 H2 I a0 a1 e1 y1=>⟨zl 2,λp Y=>k.JJ NS SO (DZ a4 I) a0 a1 Y (stE_do e1) y1⟩))
   .show Ad rfl (GI N O (.inl rfl) (by decide) (by decide) Sq λv1 t1 H2 I a0 a1 e1 y1=>⟨zl 2,λp Y=>k.JJ NS SO I a0 a1 Y (Af0 e1) y1⟩)
  .show Bh rfl rfl (Ad rfl (B5 (λc=>?_) (λc=>?_)))
   .show Ig N.re λkvs ar kr h1 h2 h3 h4=>?_;have hg:AL H d (.str "records") (some (.ref ar)):=by rw[← h2];show AL.k (k:=Sum.inr "records") h1
    show Ad rfl (Al d _ rfl hg (Al ar kr rfl h3 (Aw rfl rfl (Ad rfl (B5 (λc2=>?_) (λc2=>rest))))));have c2:(0:Int)<(kr.length:Nat):=KP c2;show Dt (Ad rfl (Ad rfl (Al d _ rfl hg (Al ar kr rfl (.of h3) λl q=>?_))));generalize z:upd _ l _=H1;obtain⟨s1,g1⟩:=Bz q z;obtain⟨ds,ha⟩:=N.dr.dr;have N1:=N.keep (AA.AN s1) (BS.up N.dr.dr s1);show Cm d ad l _ rfl N1.dr ((Af ha q).symm) g1 (λz=>by have:=LM List.length z;rw[JR,OE]at this;omega) λx hx H2 I a0=>?_;show Am (KI.mp hx) λp Y z1=>?_;subst z1;show Am (h4.key Y) λnm aA e=>?_;rw[e];have N2:=N1.keep I a0
    walk_at "n"
    show Dt (Ad rfl (Ad rfl (GI N2 O (.inr (.inr (.inr aA))) (by decide) (by decide) Wg λv1 t1 H3 a3 a6 a1 e1 y1=>?_)));have N3:=N2.keep a3 a6
    walk_at "n"
    show Ig N3.re λaM aD aK i1 i2 i3 i4=>?_;show A0 (i4.has aA) λvf fl j1 j2 z1=>Oz z1 λaf z2 j4 j5 j6=>?_;subst z2;obtain⟨aG,aH⟩:=O.re nm fl j2;show Jd (Q1 (M1 (Ad rfl (Ad rfl (Ad rfl (Al d _ rfl (by rw[← i2];show AL.k (k:=Sum.inr "records") i1) (Ad rfl (Al aD _ rfl (by rw[← j1];show AL.k (k:=Sum.inr nm) i3) (Cm d ad af _ rfl N3.dr j4 j5 (λz=>aH (by simpa using z)) λx hx H4 a7 a9=>?_)))))))));show Am (KI.mp hx) λaF hf z1=>?_;subst z1;show Ad rfl (GI (N3.keep a7 a9) O (.inl rfl) (by decide) (by decide) Sq λv3 t3 H5 aB aE a8 e3 y3=>⟨zl 4,λp Y=>k.tup4 (t2:=.wd aF) NS SO (DZ (AA.AN s1) (DZ I (DZ a3 (DZ a7 aB)))) aE ((a1.mono (AG.AF a7 a6)).mono (AG.AF aB a9)) rfl a8 Y (stE_set e1 aG hf e3) y1 Nn y3⟩)
   .show B5 (λz=>by cases z) (λ_=>rest)
def GB:AD ["_law_now","_law_some","_law_kind_here"] Fm (Ao Wa):=FS
def Ac0 (hm:3<=m)(F:As K "_law_put" "_law_put" Wa f fd)(T:At K mg)(a7:AJ P w K mg base 2 "_law_one_of" Od Uw)(a6:AJ P w K mg base m "_law_value" Mq (Gp 5)):AH P w K mg base BE (m+1) f fd Fm (Af2 (λ_=>True) false):=by
 show F.By GB λcdv A outer s H vs Q E hr h=>?_
 .show Dc h λd ad aw as S W z1=>L9 z1 λκ kn se z2 NS SO _ k=>?_;subst z2;have nd:=GB.nd;have N:=NS.now;have EO:=SO.eo;have aJ:(2000000:Nat)<=sizeLine:=by rw[LJ];omega
  exists Ae (Ab3 (Gw (i0:=1) nd rfl rfl rfl (N':=["_law_kind_here","_law_now"]) (n:=1) (js:=[0]) (AY.o Fm) rfl (Wj (BU hr (qv 0) Ai)) (λ_ _ _=>(Az (FX 0) (Mf (BM E8 (Bc (show BD _ (.builtin "len") (λxs H Q=>∃p ys,xs=[V.ref p]/\(AO K H p ys\/BJ K H p ys)/\Q (.int ys.length) H)from Ks) rfl T.AR OL (AM (BU hr (BU hr (qv 1) Ai) (qv 0)))) Ag)) (qv 0))))) (Ae (Bj (BM Cf (Bc (show BD _ (.builtin "len") (λxs H Q=>∃p ys,xs=[V.ref p]/\(AO K H p ys\/BJ K H p ys)/\Q (.int ys.length) H)from Ks) rfl T.AR OL (AM (qv 1))) Ag) (Ak (Ar (Bk (AS Ai (qf a6 hr (BV (qv 0) Ai Ag)))))) Ax) (Ae (Cl 2 nd (qf a7 hr (AS (qv 0) (qv 1)))) (Ak (Ar (Bk (BV Ai (qf a7 hr (AS (qv 0) (BU hr (BU hr (qv 0) Ai) (qv 2)))) (qf a6 hr (BV (qv 0) (qv 2) Ag))))))))
  show Kq NS.HY λkvs ks h1 h3 h2 _ aH h4=>?_;show C6 as ks h3 (Ad rfl (Al d _ rfl (by rw[← h2];show AL.k (k:=Sum.inr "seen") h1) (Al as ks rfl h3 λo D O=>?_)));have a5:as≠D:=λz=>by rw[← z,Ah]at O;cases O
  have fD:H D=none:=by rw[Aj a5.symm]at O;show O
  show Qk (λi ys σ G=>(∃o0,σ=[o0,some (.ref d)])/\G D=some (.lst ys)/\AA (upd H as (.EB o (.dK ks))) G/\(∀y∈ys,∃nm l xs,y=.str nm/\Bm ks (Sum.inr nm)=some (.ref l)/\(nm,xs)∈S.seen/\CT H ad (.ref l) xs/\xs≠[])/\ys.length<=i) (by rw[h4.len];have:=SO.sl;omega) O (Fb ⟨_,rfl⟩ Ah ((AA.refl _).upd O) (λy hy=>by cases hy) (JV _)) (λi ys σ G hi ⟨_,hd,I,_,e⟩=>(Az (I _ _ Ah) hd e)) ?_ ?_
  .rintro i ky x ys σ G hx ⟨⟨o0,rfl⟩,a0,I,hy,le⟩;show Am (h4.key (KR hx)) λnm aE e=>?_;have e:kV ky=.str nm:=e;rw[e];show A0 (h4.has aE) λv xs e1 e2 z1=>Oz z1 λl z2 nl hl ll=>?_;subst z2;have aB:G d=some (.dK kvs):=I _ _ (by rw[Aj aH.symm];show h1);have aD:G l=some (.lst (xs.map V.str)):=I _ _ (by rw[Aj (Bd hl h3 (by simp))];show hl);show Ad rfl (Al d _ rfl (by rw[← h2];show AL.k (k:=Sum.inr "seen") aB) (Ad rfl (Al as _ rfl (.inl (Al ks (Sum.inr nm) (.inr ⟨o,I _ _ Ah⟩) rfl e1.symm)) (Al l _ rfl (.inl (AO.of aD)) (Aw rfl rfl (Ad rfl (B5 (λc=>?_) (λc=>?_))))))))
   .show Ad3 rfl a0 ⟨_,rfl⟩ Ah (CI I O) ⟨λy a2=>?_,by rw[JX,LI];omega⟩
    rcases KQ.mp a2 with z|z
    .show hy y z
    .rw [KD.mp z];show Ep nm l xs rfl e1 e2 (Dh l rfl nl hl ll) λz=>?_;rw[z]at c;cases c
   .show Fb ⟨_,rfl⟩ a0 I hy (by omega)
  .rintro ys σ G ⟨_,a0,I,hy,le⟩;show Aq o (I _ _ Ah) ?_;generalize z:upd G as _=H1;have s1:AA H H1:=λq u e=>by
    rw[← z];by_cases c:q=as
    .rw [c,Ah];rw[c,h3]at e;show e
    .rw [Aj c];show I _ _ (by rw[Aj c];show e)
   have gD:H1 D=some (.lst ys):=by rw[← z,Aj a5.symm];show a0
   have N1:=N.keep (AA.AN s1) (BS.up N.dr.dr s1);have nD:D≠ad:=by
    obtain⟨ds,ha⟩:=N.dr.dr;show(Af ha fD).symm
   walk_at "n"
   show Ad rfl (Co D _ rfl (.inl (AO.of gD)) rfl (Ad rfl (B5 (λc=>?_) (λc=>?_))))
   .show Ad rfl (GI N1 EO (.inl rfl) (by decide) (by decide) Sq λv1 t1 H2 Y a1 a3 e1 y1=>⟨zl 2,λp hp=>k.JJ NS SO (DZ (AA.AN s1) Y) a1 a3 hp (Af0 e1) y1⟩)
   have ne:ys≠[]:=λz=>c (by rw[z];show KA rfl);dsimp only[Lf];show Dt (Ad rfl (Ad rfl (Cm d ad D ys rfl N1.dr nD gD ne λx hx H2 Y a1=>?_)));show L9 (hy x hx) λkd l xs z1 e1 CU z2 aI=>?_;subst z1;obtain⟨_,el,nl,hl,_⟩:=z2;cases el;have N2:=N1.keep Y a1
   walk_at "n"
   obtain⟨ds,ha⟩:=N.dr.dr;have aA:=Y _ _ (s1 _ _ h1) (Bd h1 ha (by simp));have aF:=Y _ _ (s1 _ _ h3) (Bd h3 ha (by simp));have aC:=Y _ _ (s1 _ _ hl) nl;show Jd (Q1 (M1 (Ad rfl (Ad rfl (Al d _ rfl (by rw[← h2];show AL.k (k:=Sum.inr "seen") aA) (Ad rfl (Al as _ rfl (by rw[← e1];show AL.k (k:=Sum.inr kd) aF) (Cm d ad l _ rfl N2.dr nl aC (λz=>aI (by simpa using z)) λx hx H3 a4 a8=>?_))))))));show Am (KI.mp hx) λy a2 z1=>?_;subst z1;show Ad rfl (Ad rfl (GI (N2.keep a4 a8) EO (SO.sk kd xs CU) (by decide) (by decide) Sq λv1 t1 H4 aG a9 a3 e1 y1=>⟨zl 3,λp hp=>k.IL (t1:=.wd y) NS SO (DZ (AA.AN s1) (DZ Y (DZ a4 aG))) a9 rfl a3 hp (stE_put (EO.se kd xs y CU a2).1 e1) Nn y1⟩))
end
section
def Lg:D7 s [] κ kn=some (κ,kn,false):=by rw[D7]
def Hh:D7 s (t::r) κ kn=(match BX s t κ kn with|some (κ1,kn1,e)=>if e then(if r.isEmpty then some (κ1,kn1,true)else none)else D7 s r κ1 kn1|none=>none):=by rw[D7]<;>rfl
theorem Hg:∀{ts:List Th} {κ:Kd} {kn:List Str} {t:Th} {κ1 κ2:Kd} {kn1 kn2:List Str} {e:Bool},D7 s ts κ kn=some (κ1,kn1,false)->BX s t κ1 kn1=some (κ2,kn2,e)->D7 s (ts++[t]) κ kn=some (κ2,kn2,e)
 | [],κ,kn,t,κ1,κ2,kn1,kn2,e,h,h'=>by
  rw[Lg]at h;cases h;rw[QM,Hh,h']
  cases e with
  | true=>rfl
  | false=>show Lg (s:=s)
 | a::r,κ,kn,t,κ1,κ2,kn1,kn2,e,h,h'=>by
  rw[Hh]at h;rw[PZ,Hh]
  cases q:BX s a κ kn with
  | none=>rw[q]at h;cases h
  | some p=>
   obtain⟨κ3,O,I⟩:=p;rw[q]at h
   cases I with
   | true=>
    simp only[PD]at h;split at h<;>cases h
   | false=>
    simp only[OK,QY]at h ⊢;show Hg h h'
def Ae7:∃f0,Cs s [t,.tup a,.tup b]=[f0,D7 s a,D7 s b]:=by
 cases t<;>(rw[Cs,Cs,Cs,Cs];show⟨_,rfl⟩)
def Ae8:∃f0,Cs s [t,.tup a]=[f0,D7 s a]:=by
 cases t<;>(rw[Cs,Cs,Cs];show⟨_,rfl⟩)
def Ar2 (ht:kE (s.e κ) t=some ("truth":Str))(ha:D7 s a κ kn=some (κ1,kn1,e1))(hb:D7 s b κ kn1=some (κ2,kn2,e2)):BX s (.tup [.wd "if",t,.tup a,.tup b]) κ kn=some (κ,kn2,e1&&e2):=by
 obtain⟨f0,e⟩:=Ae7 (s:=s) (t:=t) (a:=a) (b:=b);rw[C5,e];unfold FZ;rw[AW,AW,KJ rfl];simp only[ht,PD,ha,hb]
def Al1 (ht:kE (s.e κ) t=some ("truth":Str))(ha:D7 s a κ kn=some (κ1,kn1,e1)):BX s (.tup [.wd "while",t,.tup a]) κ kn=some (κ,kn1,false):=by
 obtain⟨f0,e⟩:=Ae8 (s:=s) (t:=t) (a:=a);rw[C5,e];unfold FZ;rw[AW,AW,AW,KJ rfl];simp only[ht,PD,ha]
def Ar3 (ht:kE (s.e κ) t=some s.g):BX s (.tup [.wd "give",t]) κ kn=some (κ,kn,true):=by
 rw[C5];unfold FZ;rw[AW,AW,AW,AW,KJ rfl,kL1 ht];unfold GC;show KJ (KA rfl)
def Ar4 (hn:-32768<=n/\n<=32767):BX s (.tup [.wd "fail",.num n]) κ kn=some (κ,kn,true):=by
 rw[C5];unfold FZ;rw[AW,AW,AW,AW,AW,KJ rfl];unfold GC;show KJ (KA hn)
end
def BG.back (h:BG S W κ kn s)(h':BG S' I κ' kn' s)(hw:I.length<=W.length)(sub:∀x∈kn,x∈kn'):BG S I κ kn' s:=
 ⟨h.eo,h.gi,h'.ok,h'.nd,λk xs x a b=>sub x (h.se k xs x a b),λk xs a=>by have:=h.ln k xs a;omega,h'.wl,by have:=h.sl;omega,h.sk,h.gk⟩
def U0 {kvs:List (Key×V)}{k:Key}{v u:V}(h:Bm kvs k=some u):(L2.putK kvs k v).length=kvs.length:=by
 unfold L2.putK;rw[Jk,h,KJ (show(some u).isSome=true from rfl),JR]
def BR.refl:BR S S W W kn kn:=(Az (D8 rfl rfl rfl rfl rfl rfl) ⟨JV _,JV _⟩ λ_ h=>h)
def BR.trans (a:BR S I W W1 kn kn1)(b:BR I O W1 W2 kn1 kn2):BR S O W W2 kn kn2:=
 (Az (D8 (b.1.1.trans a.1.1) (b.1.2.1.trans a.1.2.1) (b.1.2.2.1.trans a.1.2.2.1) (b.1.2.2.2.1.trans a.1.2.2.2.1) (b.1.2.2.2.2.1.trans a.1.2.2.2.2.1) (b.1.2.2.2.2.2.trans a.1.2.2.2.2.2)) ⟨KN b.2.1.1 a.2.1.1,KN b.2.1.2 a.2.1.2⟩ λx h=>b.2.2 x (a.2.2 x h))
section
variable {G:Hp}{d ad aw as ao:Addr}{S S':GS}{W:List Str}
def AX.back (N:AX G d ad aw as S' W)(I:S'.AB=S.AB/\S'.AC=S.AC/\S'.given=S.given/\S'.ar=S.ar/\S'.af=S.af/\∀b∈S.bs,b∈S'.bs)(hd:G d=some (.dK kvs))(ho:G ao=some (.dK ks))(tb:Tab (CT G ad) ks S.seen)(nw:∀p∈ks,∀b∈aw::S.bs,p.2≠.ref b)(nd:ao≠d)(nr:ao≠S.ar)(nf:ao≠S.af.1) :
  AX (upd G d (.dK (L2.putK kvs (Sum.inr "seen") (.ref ao)))) d ad aw ao S W:=by
 show Uk N.ex λa1 ar af kr kf a2 n hv w1 w2 w3=>?_;obtain rfl:kvs=a1:=by have:=n.hd;rw[hd]at this;cases this;rfl
 have up:∀{a:Addr} {u:HO},G a=some u->a≠d->upd G d (.dK (L2.putK kvs (Sum.inr "seen") (.ref ao))) a=some u:=λg n=>by rw[Aj n];show g
 have nt:∀{a:Addr} {ys:List V},G a=some (.tup ys)->upd G d (.dK (L2.putK kvs (Sum.inr "seen") (.ref ao))) a=some (.tup ys):=λg=>up g (Bd g hd (by simp));have nl:∀{a:Addr} {ys:List V},G a=some (.lst ys)->upd G d (.dK (L2.putK kvs (Sum.inr "seen") (.ref ao))) a=some (.lst ys):=λg=>up g (Bd g hd (by simp));have nx:∀v ys,CT G ad v ys->CT (upd G d (.dK (L2.putK kvs (Sum.inr "seen") (.ref ao)))) ad v ys:=λv ys ⟨a,e,m,g,q⟩=>(Dh a e m (nl g) q);have pv:∀{x:Str},x≠"seen"->Bm (L2.putK kvs (Sum.inr "seen") (.ref ao)) (Sum.inr x)=Bm kvs (Sum.inr x):=λhx=>by rw[Ci,KH λz=>hx (MX z)]
 have mm:∀b∈aw::S.bs,b∈aw::S'.bs:=λb hb=>by
  rcases JT.mp hb with rfl|hb
  .show JY
  .show JS _ (I.2.2.2.2.2 b hb)
 obtain⟨ds,a0⟩:=N.dr.dr;show⟨⟨(Ad Ah (by rw[pv (by decide)];show n.vd)),ds,nl a0⟩,(Ad4 _ ar af kr kf ks ⟨Ah,by rw[pv (by decide)];show n.vd,by rw[pv (by decide)];show n.vr,by rw[pv (by decide)];show n.vf,by rw[Ci,KJ rfl],by rw[pv (by decide),← I.2.2.1];show n.vg,up n.hr n.ap.1.2.2,up n.hf n.ap.1.2.1,up ho nd,by rw[← I.1];show n.tr.imp nx,by rw[← I.2.1];show n.tf.imp λv x ⟨t,v1,v3,e,g,a,b⟩=>(Ei t v1 v3 e (nt g) (nx _ _ a) (nx _ _ b)),tb.imp nx,(Az (Az nd n.ap.1.2.1 n.ap.1.2.2) (by rw[n.ea,I.2.2.2.1];show nr) (by rw[n.eb.1,I.2.2.2.2.1];show nf)),n.ea.trans I.2.2.2.1,⟨by rw[← I.2.2.2.2.1];show n.eb.1,by rw[pv (by decide),← I.2.2.2.2.1];show n.eb.2⟩,by rw[U0 n.vs];show n.kl⟩ (by rw[pv (by decide)];show hv) (λp O b hb=>w1 p O b (mm b hb)) nw λp O t v1 x v3 e g=>?_),nl N.hw,N.nw,N.nl,λb hb z=>?_⟩
 .show Zs (n.tf.mem O) λfh t' u1 u3 Y g' _=>?_;rw[e]at Y;cases Y;rw[nt g']at g;cases g;show λb hb=>w3 p O t _ _ _ e g' b (mm b hb)
 .by_cases c:b=d
  .rw [c,Ah]at z;cases z
  .rw [Aj c]at z;show N.bl b (I.2.2.2.2.2 b hb) z
end
def PQ (m:Nat)(e:Bool)(s:SE)(d ad aw as:Addr)(S:GS)(W:List Str)(κ:Kd)(kn:List Str)(H:Hp)(Q:VK):Prop:=∀v ts H' O I κ' kn',AQ H' v (.tup ts)->ts.length<=3->D7 s ts κ kn=some (κ',kn',e)->AX H' d ad aw O S I->BG S I κ kn' s->FR d ad aw as H H'->(O=as\/H O=none)->BR S S W I kn kn'->(∀t∈ts,CD m t)->Q v H'
def M5 (n:Nat):Sp:=λvs H Q _=>∃d ad aw as S W κ kn s,∃deep I:Nat,∃e:Bool,vs=[.ref d,.int deep,.int I,.bl e]/\AX H d ad aw as S W/\BG S W κ kn s/\deep<n/\I<=2/\PQ (6+2*deep) e s d ad aw as S W κ kn H Q
def Al5 (n:Nat):Sp:=λvs H Q _=>∃d ad aw as S W κ kn s,∃deep:Nat,vs=[.ref d,.int deep]/\AX H d ad aw as S W/\BG S W κ kn s/\deep<n/\SQ (6+2*deep) false s d ad aw as S W κ kn H Q
def EQ (m z:Nat)(s:SE)(d ad aw as:Addr)(S:GS)(W:List Str)(κ:Kd)(kn:List Str)(H:Hp)(Q:VK):Prop:=∀v t H' O I kn',AQ H' v t->BX s t κ kn=some (κ,kn',true)->AX H' d ad aw O S I->BG S I κ kn' s->FR d ad aw as H H'->(O=as\/H O=none)->BR S S W I kn kn'->BF m t/\BL t<=z->Q v H'
def R7 (n:Nat):Sp:=λvs H Q _=>∃d ad aw as S W κ kn s,∃deep:Nat,vs=[.ref d,.int deep]/\AX H d ad aw as S W/\BG S W κ kn s/\deep<n/\EQ (6+2*deep) (eB deep) s d ad aw as S W κ kn H Q
section
variable {H:Hp}{d ad aw as D:Addr}{S:GS}{W:List Str}{κ:Kd}{kn:List Str}{s:SE}
abbrev GS.bar (S:GS)(D:Addr):GS:={S with bs:=D::S.bs}
def BG.bar (h:BG S W κ kn s):BG (S.bar D) W κ kn s:=⟨⟨h.eo.re,h.eo.fu,h.eo.se,h.eo.rl,h.eo.ff,h.eo.rn,h.eo.fk⟩,h.gi,h.ok,h.nd,h.se,h.ln,h.wl,h.sl,h.sk,h.gk⟩
def AX.fresh (N:AX H d ad aw as S W)(hD:H D=none)(ys:List V):AX (upd H D (.lst ys)) d ad aw as (S.bar D) W:=by
 have Y:=(AA.refl H).upd (o:=.lst ys) hD;have M:=N.keep (AA.AN Y) (BS.up N.dr.dr Y);show Uk M.ex λkvs ar af kr kf ks n hv w1 w2 w3=>?_;have na:∀{v:V} {xs:List Str},CT H ad v xs->v≠.ref D:=λ⟨a,e,_,g,_⟩ z=>Af g hD (V.ref.inj (e.symm.trans z));show Uk N.ex λa7 a2 a0 a5 a4 a6 I _ u1 u2 u3=>?_;have e1:kvs=a7:=by have:=Y _ _ I.hd;rw[n.hd]at this;cases this;rfl
 subst e1;have e2:kr=a5:=by have:=Y _ _ I.hr;rw[show a2=ar from by have:=I.vr;rw[n.vr]at this;cases this;rfl,n.hr]at this;cases this;rfl
 have e3:ks=a6:=by have:=Y _ _ I.hs;rw[n.hs]at this;cases this;rfl
 have e4:kf=a4:=by have:=Y _ _ I.hf;rw[show a0=af from by have:=I.vf;rw[n.vf]at this;cases this;rfl,n.hf]at this;cases this;rfl
 subst e2 e3 e4;have two:∀{v:V},(∀b∈aw::S.bs,v≠.ref b)->v≠.ref D->∀b∈aw::D::S.bs,v≠.ref b:=λh1 h2 b hb=>by
  rcases JT.mp hb with rfl|hb
  .show h1 _ JY
  .rcases JT.mp hb with rfl|hb
   .show h2
   .show h1 _ (JS _ hb)
 show⟨M.dr,(Ad4 kvs ar af kr kf ks ⟨n.hd,n.vd,n.vr,n.vf,n.vs,n.vg,n.hr,n.hf,n.hs,n.tr,n.tf,n.ts,n.ap,n.ea,n.eb,n.kl⟩ hv (λp O=>two (w1 p O) ?_) (λp O=>two (w2 p O) ?_) λp O t v1 x v3 e g=>?_),M.hw,M.nw,M.nl,λb hb z=>?_⟩
 .obtain⟨xs,h⟩:=I.tr.mem O;show na h
 .obtain⟨xs,h⟩:=I.ts.mem O;show na h
 .show Zr (I.tf.mem O) λfh t' c1 c3 e' g' a1 a3=>?_;rw[e]at e';cases e';rw[Y _ _ g']at g;cases g;have h:=u3 p O t _ _ _ e g';show λb hb=>⟨two (λb hb=>(h b hb).1) (na a1) b hb,two (λb hb=>(h b hb).2) (na a3) b hb⟩
 .rcases JT.mp hb with rfl|hb
  .rw [Ah]at z;cases z
  .show M.bl b hb z
def AX.wr (N:AX H d ad aw as S W)(hb:D∈S.bs)(n1:D≠ad)(n2:D≠aw)(hD:H D=some (.lst ys)):AX (upd H D (.lst zs)) d ad aw as S W:=by
 have up:∀{a:Addr} {u:HO},H a=some u->a≠D->upd H D (.lst zs) a=some u:=λg n=>by rw[Aj n];show g
 have nd:∀{a:Addr} {kvs:List (Key×V)},H a=some (.dK kvs)->upd H D (.lst zs) a=some (.dK kvs):=λg=>up g (Bd g hD (by simp));have nt:∀{a:Addr} {xs:List V},H a=some (.tup xs)->upd H D (.lst zs) a=some (.tup xs):=λg=>up g (Bd g hD (by simp));have nx:∀{v:V} {xs:List Str},v≠.ref D->CT H ad v xs->CT (upd H D (.lst zs)) ad v xs:=λnv ⟨a,e,n,g,l⟩=>(Dh a e n (up g λz=>nv (by rw[e,z])) l);have O:D∈aw::S.bs:=JS _ hb;show Am N.dr.hd λa0 m1 m2=>?_;obtain⟨ds,hd⟩:=N.dr.dr;show Uk N.ex λkvs ar af kr kf ks n hv w1 w2 w3=>⟨⟨(Aq a0 (nd m1) m2),ds,up hd n1.symm⟩,(Ad4 kvs ar af kr kf ks ⟨nd n.hd,n.vd,n.vr,n.vf,n.vs,n.vg,nd n.hr,nd n.hf,nd n.hs,n.tr.GW λp I x=>nx (w1 p I D O),n.tf.GW λp I x=>?_,n.ts.GW λp I x=>nx (w2 p I D O),n.ap,n.ea,n.eb,n.kl⟩ hv w1 w2 λp I t v1 x v3 e g=>?_),up N.hw n2.symm,N.nw,N.nl,λb hb z=>?_⟩
 .rintro ⟨t,v1,v3,e,g,a,b⟩;obtain⟨c1,c3⟩:=w3 p I t v1 _ v3 e g D O;show Ei t v1 v3 e (nt g) (nx c1 a) (nx c3 b)
 .show Zs (n.tf.mem I) λfh t' u1 u3 Y g' _=>?_;rw[e]at Y;cases Y;rw[nt g']at g;cases g;show w3 p I t _ _ _ e g'
 .by_cases c:b=D
  .rw [c,Ah]at z;cases z
  .rw [Aj c]at z;show N.bl b hb z
def AX.asT (N:AX G d ad aw I S' W')(O:FR d ad aw as H G)(ha:I=as\/H I=none)(h2:as2=I\/G as2=none):as2=as\/H as2=none:=by
 rcases h2 with rfl|h2
 .show ha
 .by_cases c:as2=as
  .show .inl c
  .cases h:H as2 with
   | none=>show .inr rfl
   | some u=>
    exfalso;show C8 N.HY λkvs ks Y _=>?_;obtain⟨ds,j4⟩:=N.dr.dr;rw[O _ _ h (λz=>by rw[z,Y]at h2;cases h2) (λz=>by rw[z,j4]at h2;cases h2) (λz=>by rw[z,N.hw]at h2;cases h2) c]at h2;cases h2
def FR.step (Y:FR d ad aw as H G)(ha:I=as\/H I=none)(O:FR d ad aw I G H'):FR d ad aw as H H':=λq u e n1 n2 n3 n4=>O q u (Y q u e n1 n2 n3 n4) n1 n2 n3 (by
 rcases ha with rfl|ha
 .show n4
 .show Af e ha)
end
section
variable {P:Program}{w:World}{K:Av}{mg:Cb}{base:Heap}
abbrev Ab5:List Str:=["_law_now","_law_deep","_law_many","_law_ends"]
def FF:AD ["_law_now","_law_deep","_law_many","_law_ends","_law_outer","_law_some"] Ab5 (Ao Sg):=FS
def Qu (F:As K "_law_part" "_law_part" Sg f fd)(T:At K mg)(b3:AJ P w K mg base m "_law_statement" P3 (Al5 n))(b2:AJ P w K mg base m "_law_ending" P3 (R7 1)):AH P w K mg base BE (m+1) f fd Ab5 (M5 n):=by
 show F.By FF λcdv A outer s H vs Q E hr h=>?_
 .show Dc h λd ad aw as S W z1=>Ao1 z1 λκ kn se deep aY I z2 NS SO hd bJ k=>?_;clear z1;clear h;subst z2;have nd:=FF.nd;have b6:(2000000:Nat)<=sizeLine:=by rw[LJ];omega
  exists Ae (Cl 4 nd (B4 Np rfl T.HR boot_dict (AM (BU hr (qv 0) Ai)))) (Ae (Gw (i0:=5) nd rfl rfl rfl (N':=["_law_turn","_law_now","_law_deep"]) (n:=1) (js:=[0,1]) (AY.o P3) rfl (Dw rfl T.BK (AM (qv 2))) (λ_ _ _=>(Az (FX 0) Db (qf b3 hr (AS (qv 1) (qv 2)))))) (Ae (Cl 5 nd (Ap Fe (qv 5) (El (N':=["_law_turn","_law_now"]) (n:=1) (js:=[0]) (AY.o Fm) rfl (Dw rfl T.BK (AM (B4 Qn rfl T.HH boot_int (AM (qv 3))))) (λ_ _ _=>(Az (FX 0) Db (qf b2 hr (AS (qv 1) Ag))))))) (Ae (D9 (Ds hr) (qv 0) Ai (qv 4) rfl) (Ak (Ar (B4 D6 rfl T.AZ NA (AM (qv 5))))))))
  show Kq NS.HY λkvs ks h1 h3 h2 _ bD h4=>?_;show Dt (Ad rfl (Al d _ rfl (by rw[← h2];show AL.k (k:=Sum.inr "seen") h1) (Al as ks rfl (.of h3) λao qo=>?_)));generalize z:upd _ ao _=Hc;obtain⟨s1,go⟩:=Bz qo z;have NC:=NS.keep (AA.AN s1) (BS.up NS.dr.dr s1)
  walk_at "n"
  show Ad rfl (Dh aY rfl (by omega) (by omega) λD hD=>?_);have sD:=(AA.refl Hc).upd (o:=.lst []) hD;have b0:=NC.fresh hD [];have aM:D≠ad:=by
   obtain⟨ds,h⟩:=NC.dr.dr;show(Af h hD).symm
  have aN:D≠aw:=(Af NC.hw hD).symm;show E5 (n:=aY) (λi ys σ G=>(∃o0,σ=[o0,some (.ref d),some (.int deep)])/\G D=some (.lst ys)/\ys.length=i/\∃a1 S' Y κ' kn' ts,AX G d ad aw a1 S' Y/\BG S' Y κ' kn' se/\D7 se ts κ kn=some (κ',kn',false)/\AI G ys ts/\(∀t∈ts,CD (6+2*deep) t)/\FR d ad aw as Hc G/\(a1=as\/Hc a1=none)/\BR (S.bar D) S' W Y kn kn') (by omega)
   (C7 ⟨_,rfl⟩ Ah rfl (Kk as (S.bar D) W κ kn [] b0 SO.bar Lg rfl Ov (Az (AG.GX (AA.AN sD)) (.inl rfl) BR.refl))) (λi ys σ G hi ⟨_,hd,e,_⟩=>⟨hd,Of e⟩) ?_ ?_
  .rintro i ys σ G hi ⟨⟨o0,rfl⟩,a5,le,a1,S',Y,κ',kn',ts,N',aF,st,th,yl,fr,ha,sm⟩;show Ad rfl (Ad rfl (Cw d ad aw a1 S' Y (B0 κ' kn' se deep rfl N' aF hd λv t H' as2 S2 W2 κ2 kn2 tv av N2 aa aH ah aX yv=>A0 N'.HY λbE b9 j1 j3 _=>?_)));have aJ:=aH _ _ a5 (Bd a5 j1 (by simp)) aM aN (Bd a5 j3 (by simp));have aj:D∈S2.bs:=by rw[aX.1.2.2.2.2.2,sm.1.2.2.2.2.2];show JY
   show Fb aJ ⟨_,rfl⟩ Ah (by rw[JX,le];rfl) (Kk as2 S2 W2 κ2 kn2 (ts++[t]) (N2.wr aj aM aN aJ) aa (Hg st av) (((th.mono (N'.AF aH)).append (Hw tv)).mono (Fd aJ)) (Zn yl yv) (Az (λq u e n1 n2 n3 n4=>?_) (N'.asT fr ha ah) (sm.trans aX)));rw[Aj (Af e hD)];show(fr.step ha aH) q u e n1 n2 n3 n4
  .rintro ys σ G ⟨_,a5,aV,a1,S',Y,κ',kn',ts,N',aF,st,th,yl,fr,ha,sm⟩;dsimp only[BH]
   walk_at "n"
   show Dt (Ad rfl (Ad rfl (.inr (Aq I rfl (Dh (if I then 1 else 0:Int) rfl (by cases I<;>decide) (by cases I<;>simp) λD2 a4=>?_)))));have aW:D2≠ad:=by
    obtain⟨ds,h⟩:=N'.dr.dr;show(Af h a4).symm
   have aZ:D2≠aw:=(Af N'.hw a4).symm;have aq:D≠D2:=Af a5 a4;have s2:=(AA.refl G).upd (o:=.lst []) a4;show A0 N'.HY λbG bA j1 j3 _=>?_;show E5 (n:=(if I then 1 else 0:Int).toNat) (λi zs σ X=>(∃o0,σ=[o0,some (.ref d)])/\X D2=some (.lst zs)/\zs.length=i/\X D=some (.lst ys)/\∃a3 W3 a2 us,AX X d ad aw a3 (S'.bar D2) W3/\BG (S'.bar D2) W3 κ' a2 se/\D7 se (ts++us) κ kn=some (κ',a2,decide (0<i))/\AI X ys ts/\AI X zs us/\(∀t∈us,CD (6+2*deep) t)/\FR d ad aw as Hc X/\(a3=as\/Hc a3=none)/\BR S' S' Y W3 kn' a2) (by cases I<;>simp<;>omega)
    (Fb ⟨_,rfl⟩ Ah rfl (s2 _ _ a5) (Cm a1 Y kn' [] (N'.fresh a4 []) aF.bar (by rw[MN];show st) (th.mono s2.AF) rfl (C7 Ov (fr.trans (AG.GX (AA.AN s2))) ha BR.refl))) (λi ys σ G hi ⟨_,hd,e,_⟩=>⟨hd,Of e⟩) ?_ ?_
   .rintro i zs σ X hi ⟨⟨o0,rfl⟩,hX,le,a6,a3,W3,a2,us,N3,aG,a8,aC,aD,yu,a9,aI,aK⟩;have i0:i=0:=by
     cases I with
     | true=>simp at hi;show hi
     | false=>simp at hi
    subst i0;obtain rfl:zs=[]:=List.length_eq_zero_iff.mp le;obtain rfl:us=[]:=by have:=aD.len;show List.length_eq_zero_iff.mp this.symm
    rw[MN]at a8;show Ad rfl (Cw d ad aw a3 (S'.bar D2) W3 (B0 κ' a2 se 0 rfl N3 aG (by decide) λv t H' ae W4 am tv ax N4 ac aA ai au yv=>A0 N3.HY λbI bB l1 l3 _=>?_));have aB:=aA _ _ hX (Bd hX l1 (by simp)) aW aZ (Bd hX l3 (by simp));have al:=aA _ _ a6 (Bd a6 l1 (by simp)) aM aN (Bd a6 l3 (by simp));have tp:=N3.AF aA;show D8 aB ⟨_,rfl⟩ Ah rfl (by rw[Aj aq];show al) (Cm ae W4 am [t] (N4.wr JY aW aZ aB) ac (Hg a8 ax) ((aC.mono tp).mono (Fd aB)) ((Hw tv).mono (Fd aB)) (C7 (dlz_cons ((show CD 6 t from⟨yv.1,KN yv.2 (by decide)⟩).mono (by omega)) Ov) (λq u e n1 n2 n3 n4=>?_) (N3.asT a9 aI ai) (aK.trans ⟨(D8 rfl rfl rfl rfl rfl rfl),au.2⟩)));rw[Aj]
    .show (a9.step aI aA) q u e n1 n2 n3 n4
    .intro c;subst c;have:=fr q u e n1 n2 n3 n4;rw[a4]at this;cases this
   .rintro zs σ X ⟨_,hX,le,a6,a3,W3,a2,us,N3,aG,a8,aC,aD,yu,a9,aI,aK⟩;have ag:decide (0<(if I then 1 else 0:Int).toNat)=I:=by cases I<;>rfl
    rw[ag]at a8;show Qm a6 hX (by rw[aV,le];cases I<;>simp<;>omega) λp O f5 s5 g5=>?_
    walk_at "n"
    have N5:=N3.keep (AA.AN s5) (BS.up N3.dr.dr s5);show A0 N5.HY λaE bC l1 l3 _=>?_;have a7:ao≠d/\ao≠ad/\ao≠aw/\ao≠as:=by
     obtain⟨ds,h⟩:=NS.dr.dr;show C7 ((Af h1 qo).symm) ((Af h qo).symm) ((Af NS.hw qo).symm) ((Af h3 qo).symm)
    have aQ:FR d ad aw as Hc O:=a9.trans (AG.GX (AA.AN s5));have aP:FR d ad aw as H O:=λq u e=>aQ q u (s1 _ _ e);show Ad rfl (Ad rfl (Al d _ rfl (DD.k (k:=Sum.inr "seen") l1 (by have:=N5.kl l1;omega)) ?_));have a0:=sm.trans aK;show Uk NS.ex λbF b5 b4 b8 b7 aU n0 _ u1 u2 u3=>?_;obtain rfl:aU=ks:=by have:=n0.hs;rw[h3]at this;cases this;rfl
    have ay:Tab (CT O ad) aU S.seen:=h4.GW λq hq x ⟨a,e,m,g,l⟩=>(Dh a e m (aP _ _ g (Bd g h1 (by simp)) m (λz=>u2 q hq aw JY (by rw[e,z])) (Bd g h3 (by simp))) l);have N6:=N5.back (S:=S) (D8 a0.1.1 a0.1.2.1 a0.1.2.2.1 a0.1.2.2.2.1 a0.1.2.2.2.2.1 λb hb=>JS _ (by rw[sm.1.2.2.2.2.2];show JS _ hb)) l1 (aQ _ _ go a7.1 a7.2.1 a7.2.2.1 a7.2.2.2) ay u2 a7.1 (by rw[← n0.ea];show(Af n0.hr qo).symm) (by rw[← n0.eb.1];show(Af n0.hf qo).symm);have f6:FR d ad aw as O (upd O d (.dK (L2.putK aE (Sum.inr "seen") (.ref ao)))):=λq u e n _ _ _=>by rw[Aj n];show e
    have t6:CA O (upd O d (.dK (L2.putK aE (Sum.inr "seen") (.ref ao)))):=λb xs e=>by rw[Aj (Bd e l1 (by simp))];show e
    have g6:(upd O d (.dK (L2.putK aE (Sum.inr "seen") (.ref ao)))) p=some (.lst (ys++zs)):=by rw[Aj (Bd g5 l1 (by simp))];show g5
    generalize upd O d (.dK (L2.putK aE (Sum.inr "seen") (.ref ao)))=H6 at *
    try dsimp only
    show Jd (Ad rfl (C6 p _ rfl (.inl ⟨AO.of g6,λtl q=>?_⟩)));have s7:=(AA.refl H6).upd (o:=.tup (ys++zs)) q;have az:=((((aC.append aD).mono s5.AF).mono t6).mono s7.AF);show k _ (ts++us) _ ao W3 κ' a2 (Aw rfl Ah az) (by rw[JX,← aC.len,← aD.len,aV,le];cases I<;>simp<;>omega) a8 (N6.keep (AA.AN s7) (BS.up N6.dr.dr s7)) (SO.back aG a0.2.1.1 a0.2.2) (aP.trans (f6.trans (AG.GX (AA.AN s7)))) (.inr qo) ⟨(D8 rfl rfl rfl rfl rfl rfl),a0.2⟩ (λt ht=>(KQ.mp ht).elim (yl t) (yu t))
end
section
variable {H H1:Hp}{d ad aw as:Addr}{S:GS}{W:List Str}{κ:Kd}{kn:List Str}{s:SE}{Q:VK}{e:Bool}
def SQ.le (k:SQ m e s d ad aw as S W κ kn H Q)(hm:m'<=m):SQ m' e s d ad aw as S W κ kn H Q:=λv t H' a0 S' O κ' kn' th st N I Y ha sm y=>k v t H' a0 S' O κ' kn' th st N I Y ha sm (y.mono hm)
def SQ.of (k:SQ m e s d ad aw as S W κ kn H Q)(O:AX H1 d ad aw as S W)(I:AG ad H H1):SQ m e s d ad aw as S W κ kn H1 Q:=λv t H' a0 S' W' κ' kn' th st N Y fr ha sm y=>
 k v t H' a0 S' W' κ' kn' th st N Y ((AG.GX I).trans fr) (O.asT (AG.GX I) (.inl rfl) ha) sm y
def not12:(decide (v=V.int 1)&&decide (v=V.int 2))=false:=by
 by_cases c:v=V.int 1
 .subst c;rfl
 .rw [LU c];rfl
end
section
variable {P:Program}{w:World}{K:Av}{mg:Cb}{base:Heap}
def CQ:AD ["_law_now","_law_deep","_law_draw","_law_way","_law_test","_law_first"] P3 (Ao Ja):=FS
def F2 (hm:1<=m)(F:As K "_law_statement" "_law_statement" Ja f fd)(T:At K mg)(ac:AJ P w K mg base 1 "_law_next" Mu M6)(aY:AJ P w K mg base m "_law_let" Fm (Af2 (λW=>W≠[]) false))(aZ:AJ P w K mg base m "_law_put" Fm (Af2 (λ_=>True) false))
  (aa:AJ P w K mg base m "_law_deed" ["_law_now","_law_way"] As3)(aH:AJ P w K mg base m "_law_value" Mq (Gp 5))(aE:AJ P w K mg base m "_law_part" Ab5 (M5 n)):AH P w K mg base BE (m+1) f fd P3 (Al5 (n+1)):=by
 show F.By CQ λcdv A outer s H vs Q E hr h=>?_
 .show Dc h λd ad aw as S W z1=>Zq z1 λκ kn se deep z2 NS SO hd k=>?_;clear z1;clear h;subst z2;have nd:=CQ.nd;exists Ae (Cl 2 nd (qf ac hr (AM (qv 0)))) (Ae (Cl 3 nd (Ap Bl (qv 2) Ag)) (Ae (Bj (QW.pt (Je (BM E8 (Eh T.AR (BU hr (qv 0) Ai)) Ag) (F7 (BM Yq (qv 3) Ag)))) (Ak (Ar (qf aY hr (AM (qv 0))))) Ax) (Ae (Bj (BM Yq (qv 3) Ag) (Ak (Ar (qf aZ hr (AM (qv 0))))) Ax) (Ae (Bj (QW.pt (Je (BM Cf (qv 3) Ag) (F7 (BM E8 (qv 1) Ag)))) (Ae (Cl 4 nd (qf aH hr (BV (qv 0) Ai Ag))) (Ae (Cl 5 nd (qf aE hr (EW (qv 0) (Ap Gj (qv 1) Ag) (Ap Bl (Ap Cr (qv 2) Ag) Ag) (ER Cf (Ap Bl (Ap Cr (qv 2) Ag) Ag) Ag)))) (Ak (Ar (Bk (EW Ai (qv 4) (qv 5) (qf aE hr (EW (qv 0) (Ap Gj (qv 1) Ag) (Ap Bl (Ap Cr (qv 2) Ag) Ag) (ER Cf (Ap Bl (Ap Cr (qv 2) Ag) Ag) Ag))))))))) Ax) (Ae (Bj (QW.pt (Je (BM Cf (qv 3) Ag) (F7 (BM E8 (qv 1) Ag)))) (Ak (Ar (Bk (BV Ai (qf aH hr (BV (qv 0) Ai Ag)) (qf aE hr (EW (qv 0) (Ap Gj (qv 1) Ag) (Ap Bl (Ap Cr (qv 2) Ag) Ag) (ER Cf (Ap Bl (Ap Cr (qv 2) Ag) Ag) Ag))))))) Ax) (Ak (Ar (qf aa hr (AS (qv 0) (Ap Bl (Ap Cr (qv 2) Ag) Ag))))))))))
  show Dt (Ad rfl (Al d ad rfl NS.dr λx H1 aG aK=>?_));have O:=NS.keep aG aK;have k:=k.of O aG
  walk_at "n"
  show Dt (Ad rfl (Cd rfl rfl (by show(0:Int)<10;decide) ?_))
  walk_at "n"
  show Kq O.HY λkvs ks h1 h3 h2 h5 ah h4=>?_;have EO:=SO.eo;show Am (show ∃j:Nat,x/10%3=j/\j<3 from La (x/10) 3 (by decide)) λj1 aF ae=>Am (show ∃j:Nat,x/30%3=j/\j<3 from La (x/30) 3 (by decide)) λj2 aM ag=>ifJ ?_ λrest=>?_
  .show Ad rfl (Aw rfl rfl (Ad rfl (B5 (λc=>?_) (λc=>?_))))
   .show Ad rfl (Cw d ad aw as S W (Ep κ kn se rfl O SO trivial (k.le (by omega))))
   dsimp only[Lf];show ifJ ?_ λrest=>?_
   .show ifJ ?_ λrest=>?_
    .show Ad rfl (Ad rfl (Cd rfl rfl ⟨by decide,by decide⟩ (Cd rfl rfl (by show(0:Int)<5;decide) (Cw d ad aw as S W (ii43 κ kn se _ rfl O SO (k.le (by omega)))))))
    .show Bh rfl rfl (Ad rfl (B5 (λc=>(Ad rfl (Aw rfl rfl (Ad rfl (B5 (λc2=>?_) (λc2=>rest)))))) (λc=>B5 (λz=>by cases z) (λ_=>rest))));have c2:(0:Int)<deep:=KP c2;show Ad rfl (GI O.now EO (.inr (.inl rfl)) (by decide) (by decide) Sq λv1 t1 H2 a1 a5 aB e1 y1=>?_);have Y:=O.keep a1 a5;have k:=k.of Y a1;show Ad rfl (Ad rfl (Aw rfl rfl (Ad rfl (Cd rfl rfl ⟨by decide,by decide⟩ (Cd rfl rfl (by show(0:Int)<3;decide) (Ad rfl (Cd rfl rfl ⟨by decide,by decide⟩ (Nl rfl rfl (by show(0:Int)<4;decide) rfl (Cw d ad aw as S W (Kk κ kn se (deep-1) j1 _ (by show[V.ref d,V.int ((deep:Int)-1),V.int (x/10%3),V.bl _]=_;rw[aF,show((deep:Int)-1)=((deep-1:Nat):Int)by omega]) Y SO (by omega) (by omega) λv2 ts H3 a4 W3 κ3 a7 aC a8 aA N3 a3 a0 a2 a9 aD=>⟨zl 3,λp hp=>?_⟩))))))))));have I:=(AA.refl H3).upd (o:=.tup [.str "while",v1,v2]) hp;show k _ (.tup [.wd "while",t1,.tup ts]) _ a4 S W3 κ a7 (Aw rfl Ah (Aw rfl rfl (Aw rfl ((aB.mono (Y.AF a0)).mono I.AF) (Aw rfl (aC.mono I.AF) rfl)))) (Al1 e1 aA) (N3.keep (AA.AN I) (BS.up N3.dr.dr I)) a3 (a0.trans (AG.GX (AA.AN I))) a2 a9 (by rw[show 6+2*deep=8+2*(deep-1)by omega];show An9 y1 (Tp a8 aD))
   .show Bh rfl rfl (Ad rfl (B5 (λc=>(Ad rfl (Aw rfl rfl (Ad rfl (B5 (λc2=>?_) (λc2=>rest)))))) (λc=>B5 (λz=>by cases z) (λ_=>rest))));have c2:(0:Int)<deep:=KP c2;show Dt (Ad rfl (GI O.now EO (.inr (.inl rfl)) (by decide) (by decide) Sq λv1 t1 H2 a1 a5 aB e1 y1=>?_));have Y:=O.keep a1 a5;have k:=k.of Y a1
    walk_at "n"
    show Dt (Ad rfl (Ad rfl (Aw rfl rfl (Ad rfl (Cd rfl rfl ⟨by decide,by decide⟩ (Cd rfl rfl (by show(0:Int)<3;decide) (Ad rfl (Cd rfl rfl ⟨by decide,by decide⟩ (Nl rfl rfl (by show(0:Int)<4;decide) rfl (Cw d ad aw as S W (Kk κ kn se (deep-1) j1 _ (by show[V.ref d,V.int ((deep:Int)-1),V.int (x/10%3),V.bl _]=_;rw[aF,show((deep:Int)-1)=((deep-1:Nat):Int)by omega]) Y SO (by omega) (by omega) λv2 ts H3 a4 W3 κ3 a7 aC a8 aA N3 a3 a0 a2 a9 aD=>?_)))))))))))
    walk_at "n"
    show Jd (Q1 (M1 (Ad rfl (Ad rfl (Ad rfl (Ad rfl (Aw rfl rfl (Ad rfl (Cd rfl rfl ⟨by decide,by decide⟩ (Cd rfl rfl (by show(0:Int)<3;decide) (Ad rfl (Cd rfl rfl ⟨by decide,by decide⟩ (Nl rfl rfl (by show(0:Int)<4;decide) rfl (Cw d ad aw a4 S W3 (Kk κ a7 se (deep-1) j2 _ (by show[V.ref d,V.int ((deep:Int)-1),V.int (x/30%3),V.bl _]=_;rw[aM,show((deep:Int)-1)=((deep-1:Nat):Int)by omega]) N3 a3 (by omega) (by omega) λv3 us H4 aJ W4 κ4 aP aW aQ aV N4 aI a6 aN aU aX=>⟨zl 4,λp hp=>?_⟩)))))))))))))));have I:=(AA.refl H4).upd (o:=.tup [.str "if",v1,v2,v3]) hp;have st:=Ar2 e1 aA aV;rw[not12]at st;show k _ (.tup [.wd "if",t1,.tup ts,.tup us]) _ aJ S W4 κ aP (Aw rfl Ah (Aw rfl rfl (Aw rfl (((aB.mono (Y.AF a0)).mono (N3.AF a6)).mono I.AF) (Aw rfl ((aC.mono (N3.AF a6)).mono I.AF) (Aw rfl (aW.mono I.AF) rfl))))) st (N4.keep (AA.AN I) (BS.up N4.dr.dr I)) aI ((a0.step a2 a6).trans (AG.GX (AA.AN I))) (N3.asT a0 a2 aN) (a9.trans aU) (by rw[show 6+2*deep=8+2*(deep-1)by omega];show dlz_if y1 (Tp a8 aD) (Tp aQ aX))
  .show Ad rfl (Al d _ rfl (by rw[← h5];show AL.k (k:=Sum.inr "words") h1) (Al aw _ rfl (.inl (AO.of O.hw)) (Aw rfl rfl (Ad rfl (B5 (λc=>?_) (λc=>B5 (λz=>by cases z) (λ_=>rest)))))));have ne:W≠[]:=λz=>by rw[z]at c;cases c
   show Ad rfl (Aw rfl rfl (Ad rfl (B5 (λc2=>(Ad rfl (Cw d ad aw as S W (Ep κ kn se rfl O SO ne (k.le (by omega)))))) (λc2=>rest))))
end
def Vm (f:Kd->List Str->SR):Prop:=∀κ kn κ' kn' e,f κ kn=some (κ',kn',e)->∀x∈kn,κ' x=κ x/\x∈kn'
section
def Fh:Vm (λ_ _=>none):=λ_ _ _ _ _ h=>by cases h
def Dk {α:Type}{c:Prop}[Decidable c]{a b z:α}(h:(if c then a else b)=z):(c/\a=z)\/b=z:=by
 by_cases q:c
 .rw [KJ q]at h;show .inl ⟨q,h⟩
 .rw [KH q]at h;show .inr h
def ofK_eq (h:GC b κ kn e=some (κ',kn',I)):b=true/\κ=κ'/\kn=kn':=by
 unfold GC at h;rcases Dk h with⟨c,h⟩|h
 .cases h;show Az c rfl rfl
 .cases h
def Hr (h:GC b κ kn e=some (κ',kn',I)):∀x∈kn,κ' x=κ x/\x∈kn':=by
 show Ch (ofK_eq h) λ_ z1 z2=>?_;subst z1 z2;show λx hx=>⟨rfl,hx⟩
def Am6 (hs:∀f∈su,Vm f):Vm (FZ s op r su):=by
 intro κ kn κ' kn' e h;unfold FZ at h;replace h:=Dk h;rcases h with⟨_,h⟩|h
 .split at h
  .split at h
   .show Ch (ofK_eq h) λc z1 z2=>?_;subst z1 z2;intro y hy;show⟨?_,JS _ hy⟩;unfold putK;rw[KH];intro z;subst z;simp[hy]at c
   .cases h
  .cases h
 replace h:=Dk h;rcases h with⟨_,h⟩|h
 .split at h
  .split at h
   .show Hr h
   .cases h
  .cases h
 replace h:=Dk h;rcases h with⟨_,h⟩|h
 .split at h
  .rename_i f0 O fb;replace h:=Dk h;rcases h with⟨_,h⟩|h
   .cases I:O κ kn with
    | none=>rw[I]at h;cases h
    | some Y=>
     obtain⟨κ1,kn1,e1⟩:=Y;rw[I]at h;dsimp only at h
     cases q2:fb κ kn1 with
     | none=>rw[q2]at h;cases h
     | some p2=>
      obtain⟨κ2,kn2,e2⟩:=p2;rw[q2]at h;cases h;show λx hx=>⟨rfl,(hs fb (by simp) _ _ _ _ _ q2 x (hs O (by simp) _ _ _ _ _ I x hx).2).2⟩
   .cases h
  .cases h
 replace h:=Dk h;rcases h with⟨_,h⟩|h
 .split at h
  .rename_i f0 O;replace h:=Dk h;rcases h with⟨_,h⟩|h
   .cases I:O κ kn with
    | none=>rw[I]at h;cases h
    | some Y=>
     obtain⟨κ1,kn1,e1⟩:=Y;rw[I]at h;cases h;show λx hx=>⟨rfl,(hs O (by simp) _ _ _ _ _ I x hx).2⟩
   .cases h
  .cases h
 replace h:=Dk h;rcases h with⟨_,h⟩|h
 .show Hr h
 replace h:=Dk h;rcases h with⟨_,h⟩|h
 .split at h
  .show Hr h
  .cases h
 replace h:=Dk h;rcases h with⟨_,h⟩|h
 .split at h
  .split at h
   .split at h
    .show Hr h
    .cases h
   .cases h
  .cases h
 replace h:=Dk h;rcases h with⟨_,h⟩|h
 .show Hr h
 replace h:=Dk h;rcases h with⟨_,h⟩|h
 .show Hr h
 replace h:=Dk h;rcases h with⟨_,h⟩|h
 .split at h
  .show Hr h
  .cases h
 cases h
mutual
theorem Al3:∀t:Th,Vm (BX s t)
 | .tup (.wd op::r)=>by rw[BX];show Am6 (Gs r)
 | .tup []=>by rw[BX];show Fh
 | .tup (.num _::_)=>by rw[BX];show Fh
 | .tup (.tup _::_)=>by rw[BX];show Fh
 | .num _=>by rw[BX];show Fh
 | .wd _=>by rw[BX];show Fh
theorem Gs:∀r:List Th,∀f∈Cs s r,Vm f
 | []=>by rw[Cs];show λf h=>by cases h
 | .tup a::r=>by
  rw[Cs];intro f h
  rcases JT.mp h with rfl|h
  .show Jx a
  .show Gs r f h
 | .num _::r=>by
  rw[Cs];intro f h
  rcases JT.mp h with rfl|h
  .show Fh
  .show Gs r f h
 | .wd _::r=>by
  rw[Cs];intro f h
  rcases JT.mp h with rfl|h
  .show Fh
  .show Gs r f h
theorem Jx:∀ts:List Th,Vm (D7 s ts)
 | []=>by
  intro κ kn κ' kn' e h;rw[D7]at h;cases h;show λx hx=>⟨rfl,hx⟩
 | t::r=>by
  intro κ kn κ' kn' e h;rw[Hh]at h
  cases q:BX s t κ kn with
  | none=>rw[q]at h;cases h
  | some p=>
   obtain⟨κ1,kn1,e1⟩:=p;rw[q]at h;have k1:=Al3 t _ _ _ _ _ q
   cases e1 with
   | true=>
    simp only[PD]at h;split at h
    .cases h;show k1
    .cases h
   | false=>
    simp only[OK,QY]at h;have k2:=Jx r _ _ _ _ _ h;show λx hx=>⟨(k2 x (k1 x hx).2).1.trans (k1 x hx).1,(k2 x (k1 x hx).2).2⟩
end
def BG.kinds (h:BG S W κ kn s)(h1:BG S W1 κ kn1 s)(e:∀x∈kn,κ1 x=κ x):BG S W1 κ1 kn1 s:=
 ⟨⟨h1.eo.re,h1.eo.fu,λk xs x a b=>⟨(e x (h.se k xs x a b)).trans (h1.eo.se k xs x a b).1,(h1.eo.se k xs x a b).2⟩,h1.eo.rl,h1.eo.ff,h1.eo.rn,h1.eo.fk⟩,h1.gi,h1.ok,h1.nd,h1.se,h1.ln,h1.wl,h1.sl,h1.sk,h1.gk⟩
end
def BQ (m z:Nat)(s:SE)(d ad aw as:Addr)(S:GS)(W:List Str)(κ:Kd)(kn:List Str)(H:Hp)(Q:VK):Prop:=∀p ts H' O I κ' kn',AQ H' (.ref p) (.tup ts)->D7 s ts κ kn=some (κ',kn',true)->AX H' d ad aw O S I->BG S I κ kn' s->FR d ad aw as H H'->(O=as\/H O=none)->BR S S W I kn kn'->(∀t∈ts,BF m t)/\Cg ts<=z->Q (.ref p) H'
section
variable {K:Av}{H H1 H2:Hp}{d ad aw as as1 as2 q:Addr}{S:GS}{W W1 W2:List Str}{κ κ1:Kd}{kn kn1 kn2:List Str}{s:SE}{Q:VK}{v1 v2:V}{ts:List Th}{t:Th}{m z:Nat}
def EQ.of (k:EQ m z s d ad aw as S W κ kn H Q)(O:AX H1 d ad aw as S W)(I:AG ad H H1):EQ m z s d ad aw as S W κ kn H1 Q:=λv t H' a0 W' kn' th st N Y fr ha sm y=>
 k v t H' a0 W' kn' th st N Y ((AG.GX I).trans fr) (O.asT (AG.GX I) (.inl rfl) ha) sm y
def BQ.cat (k:BQ m (12285+z) s d ad aw as S W κ kn H Q)(SO:BG S W κ kn s)(th:AQ H1 v1 (.tup ts))(ln:ts.length<=3)(st:D7 s ts κ kn=some (κ1,kn1,false))(N1:AX H1 d ad aw as1 S W1)(a0:FR d ad aw as H H1)(a2:as1=as\/H as1=none)(a6:BR S S W W1 kn kn1)
  (a9:AQ H2 v2 t)(a8:BX s t κ1 kn1=some (κ1,kn2,true))(N2:AX H2 d ad aw as2 S W2)(a4:BG S W2 κ1 kn2 s)(a1:FR d ad aw as1 H1 H2)(a5:as2=as1\/H1 as2=none)(a7:BR S S W1 W2 kn1 kn2)(hq:H2 q=none)(h6:6<=m)(yl:∀t∈ts,CD 6 t)(y:BF m t/\BL t<=z):At1 K v1 (.ref q) (upd H2 q (.tup [v2])) Q:=by
 show A0 th λa xs z1 ga a3=>?_;clear th;subst z1;have I:=(AA.refl H2).upd (o:=.tup [v2]) hq;have tp:=N1.AF a1;have l:=a3.len;show O1 (I _ _ (tp _ _ ga)) Ah (by rw[l];show _+1<=1000;omega) λp H' s4 g4=>?_;have O:=I.trans s4;have Y:=a6.trans a7
 show k p (ts++[t]) H' as2 W2 κ1 kn2 (Aw rfl g4 ((((a3.mono tp).mono I.AF).append (Hw (a9.mono I.AF))).mono s4.AF)) (Hg st a8) (N2.keep (AA.AN O) (BS.up N2.dr.dr O)) (SO.back a4 Y.2.1.1 Y.2.2) ((a0.step a2 a1).trans (AG.GX (AA.AN O))) (N1.asT a0 a2 a5) Y ⟨Zo (λt ht=>(yl t ht).1.mono h6) y.1,by
  have b:=Jv ts λt ht=>(yl t ht).2;have c:ts.length*CL 6<=3*CL 6:=PU _ ln;have e6:CL 6=4095:=rfl;have:=y.2
  rw[Ek,Cg,Cg];omega⟩
end
section
variable {P:Program}{w:World}{K:Av}{mg:Cb}{base:Heap}
def DV:AD ["_law_now","_law_deep","_law_draw","_law_test","_law_outer","_law_first"] P3 (Ao Nc):=FS
def Jf (hm:1<=m)(F:As K "_law_ending" "_law_ending" Nc f fd)(T:At K mg)(bN:AJ P w K mg base 1 "_law_next" Mu M6)(aH:AJ P w K mg base m "_law_value" Mq (Gp 5))(aG:AJ P w K mg base m "_law_part" Ab5 (λvs H Q E=>0<n/\M5 1 vs H Q E))(aI:AJ P w K mg base m "_law_ending" P3 (R7 n)):AH P w K mg base BE (m+1) f fd P3 (R7 (n+1)):=by
 show F.By DV λcdv A outer s H vs Q E hr h=>?_
 .show Dc h λd ad aw as S W z1=>Zq z1 λκ kn se deep z2 NS SO hd k=>?_;clear z1;clear h;subst z2;have nd:=DV.nd;exists Ae (Cl 2 nd (qf bN hr (AM (qv 0)))) (Ae (Bj (QW.pt (Je (BM Cf (Ap Bl (qv 2) Ag) Ag) (F7 (BM E8 (qv 1) Ag)))) (Ae (Cl 3 nd (qf aH hr (BV (qv 0) Ai Ag))) (Ae (Cl 4 nd (B4 Np rfl T.HR boot_dict (AM (BU hr (qv 0) Ai)))) (Ae (Cl 5 nd (Ap F9 (qf aG hr (EW (qv 0) Ag (Ap Bl (Ap Cr (qv 2) Ag) Ag) Es)) (Bk (AM (qf aI hr (AS (qv 0) (Ap Gj (qv 1) Ag))))))) (Ae (D9 (Ds hr) (qv 0) Ai (qv 4) rfl) (Ak (Ar (Bk (EW Ai (qv 3) (qv 5) (Ap F9 (qf aG hr (EW (qv 0) Ag (Ap Bl (Ap Cr (qv 2) Ag) Ag) Es)) (Bk (AM (qf aI hr (AS (qv 0) (Ap Gj (qv 1) Ag)))))))))))))) Ax) (Ae (Bj (BM Cf (Ap Bl (qv 2) Ag) Ag) (Ak (Ar (Bk (AS Ai (Ap Bl (Ap Cr (qv 2) Ag) Ag))))) Ax) (Ak (Ar (Bk (AS Ai (qf aH hr (BV (qv 0) (BU hr (qv 0) Ai) Ag))))))))
  show Dt (Ad rfl (Al d ad rfl NS.dr λx H1 aA aW=>?_));have N1:=NS.keep aA aW;have k:=k.of N1 aA
  walk_at "n"
  show dd61 N1.ex λkvs ar af kr kf ks n1 _=>?_;have EO:=SO.eo;show ifJ ?_ λrest=>?_
  .show ifJ ?_ λrest=>?_
   .have gg:AL H1 d (.str "given") (some (.str S.given)):=by rw[← n1.vg];show AL.k (k:=Sum.inr "given") n1.hd
    show Jd (Q1 (M1 (Ad rfl (Ad rfl (Al d _ rfl gg (GI (deep:=2) N1.now EO SO.gk (by decide) (by decide) (LS Gv (by decide)) λv1 t1 H2 a0 a3 a5 e1 y1=>⟨zl 2,λp hp=>?_⟩))))));have I:=(AA.refl H2).upd (o:=.tup [.str "give",v1]) hp;have O:=N1.keep a0 a3;show k _ (.tup [.wd "give",t1]) _ as W kn (Aw rfl Ah (Aw rfl rfl (Aw rfl (a5.mono I.AF) rfl))) (Ar3 (by rw[SO.gi];show e1)) (O.keep (AA.AN I) (BS.up O.dr.dr I)) SO ((AG.GX a0).trans (AG.GX (AA.AN I))) (.inl rfl) BR.refl ⟨(dle1 y1.1).mono (by omega),by have:=y1.2;have e5:CL 5=1364:=rfl;have:=eB_le deep;simp only[BL,Cg];omega⟩
   .show Ad rfl (Nl rfl rfl (by show(0:Int)<5;decide) rfl (Ad rfl (B5 (λc=>?_) (λc=>rest))));show Jd (Q1 (M1 (Ad rfl (Cd rfl rfl ⟨by decide,by decide⟩ (Nl rfl rfl (by show(0:Int)<7;decide) (zl 2) λp hp=>?_)))));have I:=(AA.refl H1).upd (o:=.tup [.str "fail",.int (x/5%7)]) hp;show k _ (.tup [.wd "fail",.num (x/5%7)]) _ as W kn (Aw rfl Ah (Aw rfl rfl (Aw rfl rfl rfl))) (Ar4 (by omega)) (N1.keep (AA.AN I) (BS.up N1.dr.dr I)) SO (AG.GX (AA.AN I)) (.inl rfl) BR.refl ⟨(dle1 (n:=0) Rs).mono (by omega),by have:=eB_le deep;simp only[BL,Cg];omega⟩
  .show Ad rfl (Nl rfl rfl (by show(0:Int)<5;decide) rfl (Ad rfl (B5 (λc=>(Ad rfl (Aw rfl rfl (Ad rfl (B5 (λc2=>?_) (λc2=>rest)))))) (λc=>B5 (λz=>by cases z) (λ_=>rest)))));have c2:(0:Int)<deep:=KP c2;have rk:Ky ("truth":Str) 1<5:=LS Gv (by decide);show Dt (Ad rfl (GI (deep:=1) N1.now EO (.inr (.inl rfl)) (by decide) (by decide) rk λv1 t1 H2 a0 a3 a5 e1 y1=>?_));have O:=N1.keep a0 a3;have k:=k.of O a0
   walk_at "n"
   show Kq O.HY λbg aC h1 h3 h2 _ be h4=>?_;show Dt (Ad rfl (Al d _ rfl (by rw[← h2];show AL.k (k:=Sum.inr "seen") h1) (Al as aC rfl (.of h3) λao Y=>?_)));generalize z:upd _ ao _=Hc;obtain⟨s1,go⟩:=Bz Y z;have NC:=O.keep (AA.AN s1) (BS.up O.dr.dr s1)
   walk_at "n"
   show Am (show ∃j:Nat,x/5%2=j/\j<2 from La (x/5) 2 (by decide)) λj1 aX bc=>Am (show ∃j:Nat,x/10%2=j/\j<2 from La (x/10) 2 (by decide)) λj2 aY bd=>?_;show Dt (Ad rfl (Ad rfl (Cd rfl rfl ⟨by decide,by decide⟩ (Nl rfl rfl (by show(0:Int)<2;decide) (by omega) (Cw d ad aw as S W (Kk κ kn se 0 j1 false (by show[V.ref d,V.int 0,V.int (x/5%2),V.bl _]=_;rw[aX];rfl) NC SO (by decide) (by omega) λv2 ts H3 aQ W3 κ3 am bB ax aD N3 aJ aZ ag az bK=>?_))))));have ke:=Jx ts _ _ _ _ _ aD;have bM:=SO.kinds aJ λx hx=>(ke x hx).1;have ed:[V.ref d,V.int ((deep:Int)-1)]=[V.ref d,V.int ((deep-1:Nat):Int)]:=by rw[show((deep:Int)-1)=((deep-1:Nat):Int)by omega]
   show Ad rfl (Ad rfl (Aw rfl rfl (Cw d ad aw aQ S W3 (B0 κ3 am se (deep-1) ed N3 bM (by omega) λv3 t3 H4 bQ W4 bY bC b6 N4 aK aa ah b0 y3=>⟨zl 1,λq hq=>BQ.cat (λp us H5 bS W5 κ5 aq bG b9 N5 a2 a8 bV b2 yp=>?_) SO bB ax aD N3 aZ ag az bC b6 N4 aK aa ah b0 hq (by omega) bK y3⟩))))
   walk_at "n"
   show A0 N5.HY λa6 bb l1 l3 _=>?_;have a1:ao≠d/\ao≠ad/\ao≠aw/\ao≠as:=by
    obtain⟨ds,h⟩:=O.dr.dr;show C7 ((Af h1 Y).symm) ((Af h Y).symm) ((Af O.hw Y).symm) ((Af h3 Y).symm)
   have a7:FR d ad aw as H2 H5:=λq u e=>a8 q u (s1 _ _ e);have bW:(2000000:Nat)<=sizeLine:=by rw[LJ];omega
   show Ad rfl (Ad rfl (Al d _ rfl (DD.k (k:=Sum.inr "seen") l1 (by have:=N5.kl l1;omega)) (Uk O.ex λbf bP bO ba bX aB n0 _ u1 u2 u3=>?_)));obtain rfl:aB=aC:=by have:=n0.hs;rw[h3]at this;cases this;rfl
   have bA:Tab (CT H5 ad) aB S.seen:=h4.GW λq hq x ⟨a,e,m,g,l⟩=>(Dh a e m (a7 _ _ g (Bd g h1 (by simp)) m (λz=>u2 q hq aw JY (by rw[e,z])) (Bd g h3 (by simp))) l);have N6:=N5.back (S:=S) (D8 rfl rfl rfl rfl rfl λb hb=>hb) l1 (a8 _ _ go a1.1 a1.2.1 a1.2.2.1 a1.2.2.2) bA u2 a1.1 (by rw[← n0.ea];show(Af n0.hr Y).symm) (by rw[← n0.eb.1];show(Af n0.hf Y).symm);have f6:FR d ad aw as H5 (upd H5 d (.dK (L2.putK a6 (Sum.inr "seen") (.ref ao)))):=λq u e n _ _ _=>by rw[Aj n];show e
   have t6:CA H5 (upd H5 d (.dK (L2.putK a6 (Sum.inr "seen") (.ref ao)))):=λb xs e=>by rw[Aj (Bd e l1 (by simp))];show e
   generalize upd H5 d (.dK (L2.putK a6 (Sum.inr "seen") (.ref ao)))=H6 at *;have a4:=a7.trans f6
   try dsimp only
   show Jd (Q1 (M1 (Ad rfl (Ad rfl (Ad rfl (Ad rfl (Cd rfl rfl ⟨by decide,by decide⟩ (Nl rfl rfl (by show(0:Int)<2;decide) (by omega) (Cw d ad aw ao S W5 (Kk κ aq se 0 j2 false (by show[V.ref d,V.int 0,V.int (x/10%2),V.bl _]=_;rw[aY];rfl) N6 a2 (by decide) (by omega) λv7 bI H7 aU W7 κ7 au bD ay aE N7 aM ac ai b3 bL=>(Ad rfl (Ad rfl (Aw rfl rfl (Cw d ad aw aU S W7 (B0 κ7 au se (deep-1) ed N7 (a2.kinds aM (λx hx=>(Jx bI _ _ _ _ _ aE x hx).1)) (by omega) λv8 t8 H8 bU W8 bZ bE b7 N8 aN ae aj b4 y8=>⟨zl 1,λq hq=>BQ.cat (λp2 bJ H9 aV W9 κ9 av bF b8 N9 aP a9 al b5 y9=>⟨zl 4,λr hr=>?_⟩) a2 bD ay aE N7 ac ai b3 bE b7 N8 aN ae aj b4 hq (by omega) bL y8⟩)))))))))))))));have I:=(AA.refl H9).upd (o:=.tup [.str "if",v1,.ref p,.ref p2]) hr;have aF:=N6.AF a9
   show k _ (.tup [.wd "if",t1,.tup us,.tup bJ]) _ aV W9 av (Aw rfl Ah (Aw rfl rfl (Aw rfl (((a5.mono (O.AF a4)).mono aF).mono I.AF) (Aw rfl (((bG.mono t6).mono aF).mono I.AF) (Aw rfl (bF.mono I.AF) rfl))))) (Ar2 e1 b9 b8) (N9.keep (AA.AN I) (BS.up N9.dr.dr I)) aP ((a4.step (.inr Y) a9).trans (AG.GX (AA.AN I))) (N6.asT a4 (.inr Y) al) (b2.trans b5) ⟨(dle3 (y1.1.mono (by omega)) (Dy yp.1) (Dy y9.1)).mono (by omega),by
    have:=y1.2;have e5:CL 5=1364:=rfl;have:=yp.2;have:=y9.2;obtain⟨d0,rfl⟩:∃d0,deep=d0+1:=⟨deep-1,by omega⟩
    simp only[BL,Cg,eB,Nat.add_sub_cancel]at *;omega⟩
end
end T
namespace T
open PySem PySem.Spec PySem.Builtin PySem.Builtin.Str PyProof.Rows PyProof L2
noncomputable def GR:Str:="etaoinshrdlucmfwypvbgkqjxz"
noncomputable def six:List Str:=["yes","no","main","list","truth","number"]
noncomputable def L8:List Str:=["yes","no","main","list","truth"]
def Vn (ws:List Str):Prop:=ws.length=26/\ws.Nodup/\(∀x∈ws,Dd x=true/\x∉six)/\∀x∈ws,x.length<=6
noncomputable def lt (i:Nat):Nat:=GR.cps.toList.getD i 0
def lt_inj:∀i<26,∀j<26,lt i=lt j->i=j:=by decide +kernel
def lt_ok:∀i<26,sgn (lt i)=true:=by decide +kernel
def lt_at:∀i<26,GR.cps.toList[i]?=some (lt i):=by decide +kernel
noncomputable def mkW (a b:Str)(c:Nat):Str:=a++⟨#[c]⟩++b
noncomputable def wq (x:Str):Str:=x++Txt.mul "q" (if x∈L8 then 1 else 0)
def mul0:Txt.mul "q" 0="":=by decide +kernel
def mul1:Txt.mul "q" 1="q":=by decide +kernel
def app_e (x:Str):x++("":Str)=x:=Str.ext' (by rw[OW];show Array.append_empty)
def Kg (x y:Str):(x++y).length=x.length+y.length:=by unfold Str.length;rw[OW,Array.size_append]
def Mi (a b:Str)(c:Nat):(mkW a b c).length=a.length+1+b.length:=by unfold mkW;rw[Kg,Kg];rfl
def mkW_inj (h:mkW a b c=mkW a b d):c=d:=by
 unfold mkW at h;have h:=LM (λs:Str=>s.cps.toList) h;simp only[OW,QD]at h;have h:=OA h;have h:=List.append_cancel_left h;simpa using h
def Pa (h:x∈L8):wq x=x++"q":=by unfold wq;rw[KJ h,mul1]
def Pb (h:x∉L8):wq x=x:=by unfold wq;rw[KH h,mul0,app_e]
def app_q (h:x++("q":Str)=y++"q"):x=y:=by
 have h:=LM (λs:Str=>s.cps.toList) h;simp only[OW,QD]at h;show Str.ext' (by rw[← Array.toList_inj];show OA h)
def wq_inj (hl:x.length=y.length)(h:wq x=wq y):x=y:=by
 by_cases hx:x∈L8
 .by_cases I:y∈L8
  .rw [Pa hx,Pa I]at h;show app_q h
  .rw [Pa hx,Pb I]at h;have:=LM Str.length h;rw[Kg,show("q":Str).length=1 from rfl]at this;omega
 .by_cases I:y∈L8
  .rw [Pb hx,Pa I]at h;have:=LM Str.length h;rw[Kg,show("q":Str).length=1 from rfl]at this;omega
  .rwa [Pb hx,Pb I]at h
def five_q:∀x∈L8,Dd (x++"q")=true/\x++"q"∉six:=by decide +kernel
def wq_ok (h1:1<=x.length)(I:x.length<=5)(hs:∀c∈x.cps.toList,sgn c=true):Dd (wq x)=true/\wq x∉six:=by
 by_cases hx:x∈L8
 .rw [Pa hx];show five_q x hx
 .rw [Pb hx];have O:x∉six:=λz=>by
   have:x∈L8\/x="number":=by
    simp only[six,L8,JT,KU,MB]at z ⊢
    rcases z with z|z|z|z|z|z<;>simp[z]
   rcases this with z|z
   .show hx z
   .rw [z]at I;show absurd I (by decide)
  show⟨?_,O⟩;have n1:x≠"yes":=λz=>hx (by rw[z];simp[L8]);have n2:x≠"no":=λz=>hx (by rw[z];simp[L8]);unfold Dd Ae1;simp only[MA,MJ,NP,PV,MW];show Az ⟨⟨h1,by omega⟩,MQ.mpr hs⟩ n1 n2
def wq_len (x:Str):(wq x).length<=x.length+1:=by
 by_cases h:x∈L8
 .rw [Pa h,Kg];show JV _
 .rw [Pb h];omega
noncomputable def wk (a b:Str)(m:Int)(k:Nat):Str:=wq (mkW a b (lt ((m+5*(k:Int))%26).toNat))
def wk_inj (hi:i<26)(I:j<26)(h:wk a b m i=wk a b m j):i=j:=by
 unfold wk at h;have h:=wq_inj (by rw[Mi,Mi]) h;have h:=lt_inj _ (by omega) _ (by omega) (mkW_inj h);omega
def goodW (hl:a.length+b.length<=4)(ha:∀c∈a.cps.toList,sgn c=true)(hb:∀c∈b.cps.toList,sgn c=true):Vn ((List.range 26).map (wk a b m)):=by
 show C7 (by simp) ?_ (λx hx=>?_) λx hx=>?_
 .show List.pairwise_map.mpr (List.Pairwise.imp_of_mem (fun {i j} hi O Y e=>(Y (wk_inj (List.mem_range.mp hi) (List.mem_range.mp O) e))) List.nodup_range)
 .show Am (KI.mp hx) λk hk z1=>?_;subst z1;unfold wk;show wq_ok (by rw[Mi];omega) (by rw[Mi];omega) λc I=>?_;unfold mkW at I;simp only[OW,QD,KQ]at I;rcases I with(I|I)|I
  .show ha c I
  .simp at I;rw[I];show lt_ok _ (by omega)
  .show hb c I
 .show Am (KI.mp hx) λk hk z1=>?_;subst z1;unfold wk;show KN (wq_len _) ?_;rw[Mi];omega
def Ux (x:Str)(l u:Option Int):∀c∈(Txt.slice x l u).cps.toList,c∈x.cps.toList:=by
 intro c I;unfold Txt.slice at I;split at I
 .show I
 .show Am (List.mem_filterMap.mp (by simpa using I)) λi _ e=>?_;rw[← Array.getElem?_toList]at e;show KR e
def Yh (x:Str)(n:Nat):(Txt.slice x none (some (n:Int))).length<=n:=by
 have h:(strSliceIndices none (some (n:Int)) 1 x.length).length<=n:=by
  unfold strSliceIndices sliceRange;simp only[show(1:Int)>0 by decide,PD,JR,List.length_range];split<;>(try split)<;>(try simp only[Int.ediv_one])<;>omega
 unfold Txt.slice;split
 .rename_i c;simp at c;omega
 .show (List.filterMap _ _).toArray.size<=n
  rw[KS];show KN (List.length_filterMap_le _ _) h
def T5 (x:Str)(n:Nat)(hn:n<=x.length):n+(Txt.slice x (some (n:Int)) none).length<=x.length:=by
 rw[slice_from_eq (b:=(x.length:Int)) (by omega) (by omega) rfl]
 show n+((List.drop _ _).take _).toArray.size<=_
 rw[KS,LL];omega
theorem Ze:∀ts:List Str,(∀t∈ts,t.length=1)->(Str.join "" ts).length<=ts.length
 | [],_=>JV 0
 | [x],h=>Of (h x JY)
 | x::y::r,h=>by
  show(x++("":Str)++Str.join "" (y::r)).length<=_
  rw[Kg,app_e,h x JY];have:=Ze (y::r) λt ht=>h t (JS _ ht);rw[KC];omega
theorem Zd:∀ts:List Str,(∀t∈ts,∀c∈t.cps.toList,sgn c=true)->∀c∈(Str.join "" ts).cps.toList,sgn c=true
 | [],_=>λc I=>by cases I
 | [x],h=>h x JY
 | x::y::r,h=>by
  intro c I;have I:c∈(x++("":Str)++Str.join "" (y::r)).cps.toList:=I;rw[app_e,OW,QD]at I
  rcases KQ.mp I with I|I
  .show h x JY c I
  .show Zd (y::r) (λt ht=>h t (JS _ ht)) c I
end T
namespace T
open PySem PySem.Spec PyProof PyProof.Rows L2
theorem Fw (x:Str):∀xs:List Str,HE (V.str x) (xs.map V.str)=decide (x∈xs)
 | []=>rfl
 | y::r=>by
  have I:=Fw x r;unfold HE at *;rw[KE,OP,I]
  show(y==x||decide (x∈r))=_
  by_cases c:y=x
  .rw [c];simp
  .rw [show(y==x)=false from by simpa using c];rw[Bool.false_or];show decide_eq_decide.mpr ⟨JS _,λh=>(JT.mp h).resolve_left λz=>c z.symm⟩
def U8:∀xs:List Str,(xs.map V.str).all My=true:=λxs=>by simp[My]
def Af1:Sp:=λvs H Q _=>∃n:Int,vs=[.int n,.int 26]/\∀p ws H',Vn ws->H p=none->AA H H'->H' p=some (.lst (ws.map V.str))->Q (.ref p) H'
theorem Ae6:∀xs:List Str,(∀x∈xs,x.length=1)->(xs.map (·.length)).sum=xs.length
 | [],_=>rfl
 | x::r,h=>by
  rw[KE,List.sum_cons,Ae6 r λy I=>h y (JS _ I),h x JY,KC];omega
def bq (b:Bool):-1000<=(if b=true then 1 else 0:Int)/\(if b=true then 1 else 0:Int)<=1000/\(Txt.mul "q" (if b=true then 1 else 0:Int)).length<=1:=by cases b<;>decide +kernel
def wq_b (h:b=decide (x∈L8)):x++Txt.mul "q" (if b=true then 1 else 0:Int)=wq x:=by
 rw[h];unfold wq;by_cases c:x∈L8
 .rw [KJ c,KA c];rfl
 .rw [KH c,LU c];rfl
section
variable {P:Program}{w:World}{K:Av}{mg:Cb}{base:Heap}
abbrev Ag9:List Str:=["_law_draw","_law_many"]
def EH:AD ["_law_draw","_law_many","_law_letters","_law_stem","_law_at","_law_found","_law_k","_law_word"] Ag9 (Ao Po):=FS
def Wt (F:As K "_law_words" "_law_words" Po f fd)(T:At K mg):AH P w K mg base BE 1 f fd Ag9 Af1:=by
 show F.By EH λcdv A outer s H vs Q E hr h=>?_
 .show Am h λn z1 k=>?_;subst z1;have nd:=EH.nd;have a7:(2000000:Nat)<=sizeLine:=by rw[LJ];omega
  have a4:("etaoinshrdlucmfwypvbgkqjxz":Str).length<=sizeLine:=by rw[show("etaoinshrdlucmfwypvbgkqjxz":Str).length=26 from rfl];omega
  exists Ae (Wh (i:=2) nd rfl (Or.inr rfl) Ai) (Ae (Cl 3 nd (Gc NE PySem.F.slot_str_join PySem.F.type_str_join Xa Ai (AM (El (N':=["_law_k","_law_draw","_law_letters"]) (n:=1) (js:=[0,2]) (AY.o ["_law_letters","_law_draw"]) rfl (Dw rfl T.BK (AM (Ap Bl (qv 0) Ag))) (λ_ _ _=>(Az (FX 0) Db (Da ix_str (qv 2) (Ap Bl (Ap Cr (qv 1) (Ap Fg Ag (Ap Gk Ag (qv 0)))) Ag) (λ_ _=>rfl)))))))) (Ae (Cl 4 nd (Ap Bl (Ap Cr (qv 0) Ag) (Ap Fg (Bc Kr rfl T.AR OL (AM (qv 3))) Ag))) (Ae (Cl 5 nd (B2 Fa)) (Ae (Ex MO rfl (Dw rfl T.BK (AM (qv 1))) (GV 6 nd) (Ae (Cl 7 nd (Ap Ff (Ap Ff (Bu Aa7 (qv 3) Cc (Bq (qv 4))) (Da ix_str (qv 2) (Ap Bl (Ap Fg (Ap Cr (qv 0) Ag) (Ap Gk Ag (qv 6))) Ag) (λ_ _=>rfl))) (Bu Aa7 (qv 3) (Bq (qv 4)) Cc))) (Ak (Au (Gc KY LQ LR Ec (qv 5) (AM (Ap Ff (qv 7) (Ap Ab9 Ai (B4 Qn rfl T.HH boot_int (AM (Io Hi (qv 7) (B2 (Di Ai (EW Ai Ai Ai Ai))) (by with_unfolding_all rfl)))))))))))) (Ak (Ar (qv 5)))))))
  show Am (show ∃j:Nat,n%5=j/\j<5 from La n 5 (by decide)) λj ej lj=>Dt ?_;show Dt ⟨rfl,(Ad rfl (Cd rfl rfl (by show(0:Int)<5;decide) (Dh (n%5) rfl (by omega) (by omega) λD hD=>?_)))⟩;show E5 (n:=(n%5).toNat) (λi ys σ G=>(∃o0,σ=[o0,some (.int n),some (.str GR)])/\AA H G/\∃us:List Str,G D=some (.lst ys)/\ys=us.map V.str/\us.length=i/\(∀u∈us,u.length=1)/\∀u∈us,∀c∈u.cps.toList,sgn c=true) (by omega)
   (Az ⟨_,rfl⟩ ((AA.refl H).upd hD) (Rg [] Ah rfl rfl (by simp) (by simp))) (λi ys σ H' hi ⟨_,_,us,hd,e,hl,_⟩=>⟨hd,by rw[e,JR,hl];show JV _⟩) ?_ ?_
  .rintro i ys σ G hi ⟨⟨o0,rfl⟩,sm,us,hd,rfl,hl,h1,h2⟩;show Am (show ∃m:Nat,n/(32+7*((0:Int)+i))%26=m/\m<26 from La (n/(32+7*((0:Int)+i))) 26 (by decide)) λm em lm=>?_;show Ad rfl (Ad rfl (Ad rfl (Cd rfl rfl (.inl ⟨by decide,by decide⟩) (Aw rfl rfl (Cd rfl rfl (by show(0:Int)<32+7*((0:Int)+i)/\32+7*((0:Int)+i)<1073741824;omega) (Cd rfl rfl (by show(0:Int)<26;decide) (Lb GR _ (lt m) rfl rfl a4 (by show DY _ (n/(32+7*((0:Int)+i))%26)=_;rw[em];show Be (lt_at m lm)) hd (Az ⟨_,rfl⟩ ?_ (Rg (us++[⟨#[lt m]⟩]) Ah (by simp) (by simp[hl]) ?_ ?_)))))))))
   .intro b ob e;rw[Aj (Af e hD)];show sm b ob e
   .intro u hu
    rcases KQ.mp hu with z|z
    .show h1 u z
    .rw [KD.mp z];rfl
   .intro u hu
    rcases KQ.mp hu with z|z
    .show h2 u z
    .rw [KD.mp z];intro c O;simp at O;rw[O];show lt_ok m lm
  .rintro ys σ G ⟨⟨o0,rfl⟩,sm,us,hd,rfl,hl,h1,h2⟩;have hz:("":Str).length=0:=by decide +kernel
   show Ep "" D us rfl rfl (AO.of hd) (by rw[hz,Ae6 us h1];omega) ?_;have lst:(Str.join "" us).length<=4:=KN (Ze us h1) (by omega);have a3:=Zd us h2;generalize Str.join "" us=I at *;show Am (show ∃a:Nat,n/5%((I.length:Int)+1)=a/\a<I.length+1 from La (n/5) (I.length+1) (by omega)) λa ea la=>?_;show Dt (Ad rfl (Cd rfl rfl ⟨by decide,by decide⟩ (Ad rfl (Bx I rfl (by omega) (Aw rfl rfl (Cd rfl rfl (by show(0:Int)<(I.length:Int)+1;omega) ?_))))))
   walk_at "n"
   rw[ea];show Dt ⟨zl 0,λl a2=>?_⟩;have s2:=(AA.refl G).upd (o:=.lst []) a2;have g2:upd G l (.lst []) l=some (.lst []):=Ah;generalize upd G l (.lst [])=G1 at *
   walk_at "n"
   have nl:H l=none:=by
    cases e:H l with
    | none=>rfl
    | some u=>have:=sm _ _ e;rw[a2]at this;cases this
   have sH:=sm.trans s2;have a8:(Txt.slice I none (some (a:Int))).length<=a:=Yh I a;have a9:=T5 I a (by omega);have sA:∀c∈(Txt.slice I none (some (a:Int))).cps.toList,sgn c=true:=λc O=>a3 c (Ux _ _ _ c O);have sB:∀c∈(Txt.slice I (some (a:Int)) none).cps.toList,sgn c=true:=λc O=>a3 c (Ux _ _ _ c O);have a5:=goodW (m:=n/25) (by omega) sA sB;have gk:=λH'=>k l _ H' a5 nl;show Ad rfl (Dh 26 rfl (by omega) (by omega) (Js (n:=26) (λi σ Y=>(∃o1 o2,σ=[some (.int n),some (.int 26),some (.str GR),some (.str I),some (.int a),some (.ref l),o1,o2])/\AA H Y/\Y l=some (.lst (((List.range i).map (wk (Txt.slice I none (some (a:Int))) (Txt.slice I (some (a:Int)) none) (n/25))).map V.str))) (Az (Jn rfl) sH g2) ?_ ?_))
   .rintro i σ Y hi ⟨⟨o1,o2,rfl⟩,a1,a0⟩;show Am (show ∃m:Nat,(n/25+5*((0:Int)+i))%26=m/\m<26 from La (n/25+5*((0:Int)+i)) 26 (by decide)) λm em lm=>?_;generalize eA:Txt.slice I none (some (a:Int))=A at *;generalize eB:Txt.slice I (some (a:Int)) none=B at *;have a6:=Mi A B (lt m);have hW:wk A B (n/25) i=wq (mkW A B (lt m)):=by unfold wk;rw[show(n/25+5*(i:Int))%26=(m:Int)by rw[← em,Int.zero_add]];rfl
    show Dt (Ad rfl (Ad rfl (Aq a rfl (Bx I rfl (by omega) (Ad rfl (Ad rfl (Cd rfl rfl ⟨by decide,by decide⟩ (Ad rfl (Cd rfl rfl (.inl ⟨by decide,by decide⟩) (Aw rfl rfl (Cd rfl rfl (by show(0:Int)<26;decide) (Ep GR _ (lt m) rfl rfl a4 (by show DY _ ((n/25+5*((0:Int)+i))%26)=_;rw[em];show Be (lt_at m lm)) (Cd rfl rfl (by rw[eA];show A.length+1<=_;omega) (Ad rfl (Ad rfl (Aq a rfl (Bx I rfl (by omega) (Cd rfl rfl (by rw[eA,eB,Kg];show A.length+1+B.length<=_;omega) ?_))))))))))))))))));rw[eA,eB];show norm (σ':=[some (.int n),some (.int 26),some (.str GR),some (.str I),some (.int a),some (.ref l),some (.int (0+i)),some (.str (mkW A B (lt m)))]) rfl (Bh rfl (.inl ⟨rfl,_,AO.of a0⟩) (Ad rfl (Bh rfl (zl 5) λq hq=>?_)));generalize z:upd _ q _=G2;obtain⟨s3,g3⟩:=Bz hq z;have e5:HE (V.str (mkW A B (lt m))) [V.str "yes",V.str "no",V.str "main",V.str "list",V.str "truth"]=decide (mkW A B (lt m)∈L8):=Fw _ L8;show Jr q _ rfl (.inl (AO.of g3)) rfl rfl (.inr (Ad rfl (Km "q" _ rfl rfl (by decide) ((bq _).1) ((bq _).2.1) (Cd rfl rfl (KN (Nat.add_le_add_left (bq _).2.2 _) (by rw[a6];omega)) (Lb l _ _ rfl rfl (s3 _ _ a0) (by simp;omega) (Jn rfl) ⟨λb u e=>?_,?_⟩)))))
    .rw [Aj (Af e nl)];show s3 _ _ (a1 _ _ e)
    .rw [Ah,List.range_succ,KZ,KZ,List.map_singleton,List.map_singleton,hW];show LM (λx=>some (HO.lst (_++[V.str x]))) (wq_b e5)
   .rintro σ Y ⟨⟨o1,o2,rfl⟩,a1,a0⟩;show Ad rfl (gk _ a1 a0)
end
structure BB (H:Hp)(d ad ak:Addr)(S:GS)(ST:List Str)(kvs kr kf:List (Key×V)):Prop where
 hd:H d=some (.dK kvs)
 vd:Bm kvs (Sum.inr "draws")=some (.ref ad)
 vr:Bm kvs (Sum.inr "records")=some (.ref S.ar)
 vf:Bm kvs (Sum.inr "functions")=some (.ref S.af.1)
 vk:Bm kvs (Sum.inr "stock")=some (.ref ak)
 vs:Bm kvs (Sum.inr "seen")≠none
 vg:Bm kvs (Sum.inr "given")≠none
 kl:kvs.length<=7
 kw:Bm kvs (Sum.inr "words")=none->kvs.length<=6
 hr:H S.ar=some (.dK kr)
 hf:H S.af.1=some (.dK kf)
 tr:Tab (CT H ad) kr S.AB
 tf:Tab (Fns H ad) kf S.AC
 nr:S.ar≠d
 nf:S.af.1≠d
 nrf:S.ar≠S.af.1
 w1:∀p∈kr,∀b∈S.bs,p.2≠.ref b
 w3:∀p∈kf,∀t v1 x v3,p.2=.ref t->H t=some (.tup [v1,x,v3])->∀b∈S.bs,v1≠.ref b/\v3≠.ref b
 bl:∀b∈S.bs,H b≠none
 hk:H ak=some (.lst (ST.map V.str))
 nk:ak≠ad
 sl:S.af.2=some (.ref ak)
 dr:BS H ad
def BO {kvs:List (Key×V)}{k:Key}{v:V}:(L2.putK kvs k v).length<=kvs.length+1/\(Bm kvs k≠none->(L2.putK kvs k v).length=kvs.length):=by
 cases e:Bm kvs k with
 | none=>rw[At8 v e,JX];show⟨JV _,λz=>absurd rfl z⟩
 | some u=>rw[U0 e];show⟨by omega,λ_=>rfl⟩
section
variable {H G:Hp}{d ad aw as ak:Addr}{S:GS}{ST W:List Str}{kvs kr kf:List (Key×V)}{g:Str}
def BB.start (I:BB H d ad ak S ST kvs kr kf)(hG:G d=some (.dK (L2.putK (L2.putK (L2.putK kvs (Sum.inr "given") (.str g)) (Sum.inr "words") (.ref aw)) (Sum.inr "seen") (.ref as))))(Y:∀q u,H q=some u->q≠d->G q=some u)(fa:H aw=none)(fs:H as=none)(nd:as≠d)
  (ga:G aw=some (.lst (W.map V.str)))(gs:G as=some (.dK []))(lw:W.length<=100):AX G d ad aw as {S with seen:=[],given:=g} W:=by
 obtain⟨ds,a0⟩:=I.dr;have a4:ad≠d:=Bd a0 I.hd (by simp);have a2:=Y _ _ a0 a4;have up:∀{v:V} {xs:List Str},CT H ad v xs->CT G ad v xs:=λ⟨a,e,n,g,l⟩=>(Dh a e n (Y _ _ g (Bd g I.hd (by simp))) l);have na:∀{v:V} {xs:List Str},CT H ad v xs->v≠.ref aw:=λ⟨a,e,n,g,l⟩ z=>Af g fa (V.ref.inj (e.symm.trans z));have nt:∀{t:Addr} {xs:List V},H t=some (.tup xs)->G t=some (.tup xs):=λg=>Y _ _ g (Bd g I.hd (by simp));have pv:∀{x:Str},x≠"given"->x≠"words"->x≠"seen"->Bm (L2.putK (L2.putK (L2.putK kvs (Sum.inr "given") (.str g)) (Sum.inr "words") (.ref aw)) (Sum.inr "seen") (.ref as)) (Sum.inr x)=Bm kvs (Sum.inr x):=λh1 h2 h3=>by
  rw[Ci,KH λz=>h3 (MX z),Ci,KH λz=>h2 (MX z),Ci,KH λz=>h1 (MX z)]
 have two:∀{v:V},v≠.ref aw->(∀b∈S.bs,v≠.ref b)->∀b∈aw::S.bs,v≠.ref b:=λh1 h2 b hb=>by
  rcases JT.mp hb with rfl|hb
  .show h1
  .show h2 b hb
 show⟨⟨(Ad hG (by rw[pv (by decide) (by decide) (by decide)];show I.vd)),ds,a2⟩,(Ad4 _ S.ar S.af.1 kr kf [] ⟨hG,by rw[pv (by decide) (by decide) (by decide)];show I.vd,by rw[pv (by decide) (by decide) (by decide)];show I.vr,by rw[pv (by decide) (by decide) (by decide)];show I.vf,by rw[Ci,KJ rfl],?_,Y _ _ I.hr I.nr,Y _ _ I.hf I.nf,gs,I.tr.imp λv x=>up,I.tf.imp λv x ⟨t,v1,v3,e,g,a,b⟩=>(Ei t v1 v3 e (nt g) (up a) (up b)),.nil,(Az (Az nd I.nf I.nr) (λz=>Af I.hr fs z.symm) λz=>Af I.hf fs z.symm),rfl,⟨rfl,by rw[pv (by decide) (by decide) (by decide),I.vk];show I.sl.symm⟩,?_⟩ ?_ ?_ (λp O=>by cases O) ?_),ga,λz=>Af a0 fa z.symm,lw,?_⟩
 .rw [Ci,AW,Ci,AW,Ci,KJ rfl]
 .have e1:(L2.putK kvs (Sum.inr "given") (.str g)).length=kvs.length:=BO.2 I.vg;have e2:(L2.putK (L2.putK kvs (Sum.inr "given") (.str g)) (Sum.inr "words") (.ref aw)).length<=7:=by
   have w:Bm (L2.putK kvs (Sum.inr "given") (.str g)) (Sum.inr "words")=Bm kvs (Sum.inr "words"):=by rw[Ci,AW]
   by_cases c:Bm kvs (Sum.inr "words")=none
   .have:=I.kw c;have:=(BO (kvs:=L2.putK kvs (Sum.inr "given") (.str g)) (k:=Sum.inr "words") (v:=.ref aw)).1;omega
   .have:=(BO (kvs:=L2.putK kvs (Sum.inr "given") (.str g)) (k:=Sum.inr "words") (v:=.ref aw)).2 (by rw[w];show c);have:=I.kl;omega
  rw[BO.2]
  .show e2
  .rw [Ci,AW,Ci,AW];show I.vs
 .rw [Ci,AW,Ci,KJ rfl]
 .intro p O;obtain⟨xs,h⟩:=I.tr.mem O;show two (na h) (I.w1 p O)
 .intro p O t v1 x v3 e g;show Zr (I.tf.mem O) λfh t' u1 u3 e' g' a1 a3=>?_;rw[e]at e';cases e';rw[nt g']at g;cases g;have h:=I.w3 p O t _ _ _ e g';show λb hb=>⟨two (na a1) (λb hb=>(h b hb).1) b hb,two (na a3) (λb hb=>(h b hb).2) b hb⟩
 .intro b hb z
  cases h:H b with
  | none=>show I.bl b hb h
  | some u=>
   by_cases c:b=d
   .rw [c,hG]at z;cases z
   .rw [Y _ _ h c]at z;cases z
def AX.fin (N:AX G d ad aw as S' W)(e:S'.AB=S.AB/\S'.AC=S.AC/\S'.ar=S.ar/\S'.af=S.af)(eb:∀b∈S.bs,b∈S'.bs)(hk:G ak=some (.lst (ST.map V.str)))(nk:ak≠ad)(sl:S.af.2=some (.ref ak))(nrf:S.ar≠S.af.1):∃kvs kr kf,BB G d ad ak S ST kvs kr kf:=by
 show Uk N.ex λkvs ar af kr kf ks n hv w1 w2 w3=>Qi e λe1 e2 e3 O=>?_;obtain⟨ea,a0,a1⟩:ar=S.ar/\af=S.af.1/\Bm kvs (Sum.inr "stock")=S.af.2:=(Az (n.ea.trans e3) (by rw[← O];show n.eb.1) (by rw[← O];show n.eb.2));subst ea a0;have Y:∀b∈S.bs,b∈aw::S'.bs:=λb hb=>JS _ (eb b hb);show Tl kvs kr kf ⟨n.hd,n.vd,n.vr,n.vf,a1.trans sl,by rw[n.vs];simp,by rw[n.vg];simp,n.kl,(λz=>by rw[hv]at z;cases z),n.hr,n.hf,by rw[← e1];show n.tr,by rw[← e2];show n.tf,n.ap.1.2.2,n.ap.1.2.1,nrf,λp I b hb=>w1 p I b (Y b hb),λp I t v1 x v3 e g b hb=>w3 p I t v1 x v3 e g b (Y b hb),λb hb=>N.bl b (eb b hb),hk,nk,sl,N.dr.dr⟩
end
structure HK (S:GS)(s:SE)(ST:List Str):Prop where
 re:∀n fl,(n,fl)∈S.AB->s.R n=some fl/\fl≠[]
 fu:∀f h,(f,h)∈S.AC->s.F f=some (h.ks,h.k)/\(∀k∈h.ks,Er S k)/\Er S h.k/\h.ps.length=h.ks.length/\h.ks.length<=4/\h.ps.Nodup/\∀x∈h.ps,x∈ST
 rl:S.AB.length<=10
 ff:S.AC.length<=10
 rn:∀n:Str,n∈S.AB.map (·.1)->n≠"number"/\n≠"truth"/\n≠"list"
 gw:Vn ST
noncomputable def JA (ps ks:List Str):Kd:=λy=>((ps.zip ks).find? λp=>decide (p.1=y)).map (·.2)
noncomputable def Cj:List Str->List Str->List Str
 | p::ps,k::ks=>p::k::Cj ps ks
 | _,_=>[]
def FunT (s:SE)(name:Str)(fh:FH)(t:Th):Prop:=∃ts κ' kn',t=.tup (.wd "fun"::.wd name::.tup ((Cj fh.ps fh.ks).map .wd)::.wd fh.k::ts)/\D7 {s with g:=fh.k} ts (JA fh.ps fh.ks) fh.ps=some (κ',kn',true)/\ts.length<=4/\(∀t∈ts,BF 11 t)/\Cg ts<=554342/\kn'.length<=100
theorem kdP_at:∀{ps ks:List Str} {i:Nat} {x k:Str},ps.Nodup->ps[i]?=some x->ks[i]?=some k->JA ps ks x=some k
 | [],_,_,_,_,_,h,_=>by simp at h
 | _::_,[],i,x,k,_,_,h=>by simp at h
 | p::ps,q::ks,0,x,k,_,h1,h2=>by
  cases h1;cases h2;unfold JA;simp
 | p::ps,q::ks,i+1,x,k,nd,h1,h2=>by
  rw[OX]at h1 h2;have hx:x∈ps:=KR h1;have ne:p≠x:=λz=>(NR.mp nd).1 (z▸hx);have:=kdP_at (NR.mp nd).2 h1 h2;unfold JA at *;rw[List.zip_cons_cons,List.find?_cons_of_neg (by simpa using ne)];show this
def BG.see (h:BG S W κ kn s)(hx:∀y∈xs,κ y=some kd/\y≠"yes"/\y≠"no"/\y∈kn)(hl:xs.length+W.length<=60)(hk:Er S kd)(hs:S.seen.length+1+W.length<=70):BG {S with seen:=F1 S.seen kd xs} W κ kn s:=by
 show⟨⟨h.eo.re,h.eo.fu,λk ys y a b=>?_,h.eo.rl,h.eo.ff,h.eo.rn,h.eo.fk⟩,h.gi,h.ok,h.nd,λk ys y a b=>?_,λk ys a=>?_,h.wl,?_,λk ys a=>(Ey a).elim (λz=>z.1▸hk) λz=>h.sk k ys z.1,h.gk⟩
 .rcases Ey a with⟨rfl,rfl⟩|⟨a,_⟩
  .show Qi (hx y b) λc1 c2 c3 _=>Az c1 c2 c3
  .show h.eo.se k ys y a b
 .rcases Ey a with⟨rfl,rfl⟩|⟨a,_⟩
  .show (hx y b).2.2.2
  .show h.se k ys y a b
 .rcases Ey a with⟨rfl,rfl⟩|⟨a,_⟩
  .show hl
  .show h.ln k ys a
 .have:=Jm S.seen kd xs
  show(F1 S.seen kd xs).length+_<=70
  omega
def HK.st {S:GS}{s:SE}{ST:List Str}(h:HK S s ST){f:Str}{fh:FH}(hf:(f,fh)∈S.AC){W:List Str}(O:W=ST.filter λx=>decide (x∉fh.ps)):BG {S with seen:=[],given:=fh.k} W (JA fh.ps fh.ks) fh.ps {s with g:=fh.k}:=by
 show Qi h.gw λl nd ok _=>?_;have Y:W.length<=26:=by rw[O,← l];show PL _ _
 show⟨⟨h.re,λf h' I=>⟨(h.fu f h' I).1,(h.fu f h' I).2.1⟩,(λk xs x a=>by cases a),h.rl,h.ff,h.rn,λf h' I=>(h.fu f h' I).2.2.2.2.1⟩,rfl,λx hx=>?_,?_,(λk xs x a=>by cases a),(λk xs a=>by cases a),by omega,by show 0+_<=70;omega,(λk xs a=>by cases a),(h.fu f fh hf).2.2.1⟩
 .rw [O]at hx;obtain⟨h1,h2⟩:=List.mem_filter.mp hx;show⟨(ok x h1).1,KP h2⟩
 .rw [O];show nd.filter _
def spFun:Sp:=λvs H Q _=>∃d ad ak S ST kvs kr kf s name,∃I:Nat,vs=[.ref d,.str name,.int I]/\BB H d ad ak S ST kvs kr kf/\HK S s ST/\name∈S.AC.map (·.1)/\I<=3 /\
 ∀v t H' a0 Y O fh,AQ H' v t->(name,fh)∈S.AC->FunT s name fh t->BB H' d ad ak S ST a0 Y O->(∀q u,H q=some u->q≠d->q≠ad->H' q=some u)->Q v H'
theorem Zg:∀ps ks:List Str,(Cj ps ks).length<=2*ps.length
 | [],_=>by unfold Cj;show LN _
 | _::_,[]=>by unfold Cj;show LN _
 | p::ps,k::ks=>by
  unfold Cj;have:=Zg ps ks;simp only[KC];omega
theorem Tj:∀{ps ks:List Str} {i:Nat} {x k:Str},ps[i]?=some x->ks[i]?=some k->Cj (ps.take (i+1)) (ks.take (i+1))=Cj (ps.take i) (ks.take i)++[x,k]
 | [],_,_,_,_,h,_=>by simp at h
 | _::_,[],_,_,_,_,h=>by simp at h
 | p::ps,q::ks,0,x,k,h1,h2=>by
  cases h1;cases h2;rfl
 | p::ps,q::ks,i+1,x,k,h1,h2=>by
  rw[OX]at h1 h2;rw[OH,OH,OH,OH]
  show p::q::Cj _ _=p::q::(Cj _ _++[x,k])
  rw[Tj h1 h2]
theorem Qf:∀xs:List Str,AI H (xs.map V.str) (xs.map .wd)
 | []=>rfl
 | x::r=>(Aw rfl rfl (Qf r))
section
variable {P:Program}{w:World}{K:Av}{mg:Cb}{base:Heap}
abbrev Ah1:List Str:=["_law_now","_law_name","_law_many"]
def DF:AD ["_law_now","_law_name","_law_many","_law_variables","_law_word","_law_kind_here","_law_some"] Ah1 (Ao J7):=FS
def Q9 (hm:1<=m)(F:As K "_law_function" "_law_function" J7 f fd)(T:At K mg)(cL:AJ P w K mg base m "_law_statement" P3 (Al5 3))(cK:AJ P w K mg base m "_law_ending" P3 (R7 3)):AH P w K mg base BE (m+1) f fd Ah1 spFun:=by
 show F.By DF λcdv A outer s H vs Q E hr h=>?_
 .show Dc h λd ad ak S ST kvs z1=>Tu z1 λkr kf se name ac z2 I TO cJ cu k=>?_;clear z1;clear h;subst z2;have nd:=DF.nd;have cW:(2000000:Nat)<=sizeLine:=by rw[LJ];omega
  exists Ae (D9 (Ds hr) (qv 0) Ai (BY (BU hr (BU hr (qv 0) Ai) (qv 1)) Ag) rfl) (Ae (D9 (Ds hr) (qv 0) Ai (El (N':=["_law_word","_law_now","_law_name"]) (n:=1) (js:=[0,1]) (AY.o ["_law_now","_law_name"]) rfl (Gx (BU hr (qv 0) Ai)) (λ_ _ _=>(Az (FX 0) (Mf (Rk (show CO _ (compareOp .NotIn) (rIn K true)from Gz) (qv 0) (Da (show IH _ (Q5 K)from Hu) (BU hr (BU hr (qv 1) Ai) (qv 2)) Ag (λ_ _=>rfl)) (by with_unfolding_all rfl))) (qv 0)))) rfl) (Ae (D9 (Ds hr) (qv 0) Ai Jl rfl) (Ae (Cl 3 nd (B2 Fa)) (Ae (Ex MO rfl (Ag3 (b:=true) (c:=true) rfl T.n_zip (AS (BY (BU hr (BU hr (qv 0) Ai) (qv 1)) Ag) (BY (BU hr (BU hr (qv 0) Ai) (qv 1)) Ag))) (Wk rfl (Gb (GV 4 nd) (Gb (GV 5 nd) Rl))) (Ae (Cl 3 nd (Ap Fe (qv 3) (B2 (AS (qv 4) (qv 5))))) (Ak (D9 (Ds hr) (BU hr (qv 0) Ai) (qv 5) (Ap Fe (Sr (Ds hr) (BU hr (qv 0) Ai) (qv 5) (B2 Fa) ⟨rfl,rfl,rfl,rfl⟩) (B2 (AM (qv 4)))) rfl)))) (Ae (Gw (i0:=6) nd rfl rfl rfl (N':=["_law_turn","_law_now"]) (n:=1) (js:=[0]) (AY.o Fm) rfl (Dw rfl T.BK (AM (qv 2))) (λ_ _ _=>(Az (FX 0) Db (qf cL hr (AS (qv 1) Ag))))) (Ak (Ar (B4 D6 rfl T.AZ NA (AM (Ap Fe (Ap Fe (B2 (EW Ai (qv 1) (B4 D6 rfl T.AZ NA (AM (qv 3))) (BU hr (qv 0) Ai))) (qv 6)) (B2 (AM (qf cK hr (AS (qv 0) Ag))))))))))))))
  show A0 (I.tf.has cJ) λfv fh bc aW z1=>Ig z1 λft v1 v3 z2 aD z3 z4=>?_;clear z1;subst z2;obtain⟨l1,rfl,cg,aU,cr⟩:=z3;obtain⟨l3,rfl,cj,aF,cs⟩:=z4;show Ib (TO.fu name fh aW) λcU bP cV am ck z1=>?_;obtain⟨cB,cI⟩:=z1;have gF:∀{X:Hp} {kv:List (Key×V)},X d=some (.dK kv)->Bm kv (Sum.inr "functions")=some (.ref S.af.1)->AL X d (.str "functions") (some (.ref S.af.1)):=λh h'=>by rw[← h'];show AL.k (k:=Sum.inr "functions") h
  have gN:∀{X:Hp},X S.af.1=some (.dK kf)->AL X S.af.1 (.str name) (some (.ref ft)):=λh=>by rw[← bc];show AL.k (k:=Sum.inr name) h
  show Ad rfl (Al d _ rfl (gF I.hd I.vf) (Ad rfl (Al S.af.1 _ rfl (gN I.hf) (B0 ft _ 1 _ rfl rfl (BJ.of aD) rfl (Ad rfl (Al d _ rfl (DD.k (k:=Sum.inr "given") I.hd (by have:=I.kl;omega)) ?_))))));have u1:∀q u,H q=some u->q≠d->upd H d (.dK (L2.putK kvs (Sum.inr "given") (.str fh.k))) q=some u:=λq u e n=>by rw[Aj n];show e
  have g1:upd H d (.dK (L2.putK kvs (Sum.inr "given") (.str fh.k))) d=_:=Ah;have f1:∀q,upd H d (.dK (L2.putK kvs (Sum.inr "given") (.str fh.k))) q=none->H q=none:=λq e=>by
   by_cases c:q=d
   .rw [c,Ah]at e;cases e
   .rw [Aj c]at e;show e
  generalize upd H d (.dK (L2.putK kvs (Sum.inr "given") (.str fh.k)))=H1 at *;have b6:∀{q:Addr} {xs:List V},H q=some (.lst xs)->H1 q=some (.lst xs):=λg=>u1 _ _ g (Bd g I.hd (by simp));have cD:=u1 _ _ aD (Bd aD I.hd (by simp));have bb:=u1 _ _ I.hf I.nf;have az:=b6 I.hk;have cC:=b6 aF;have bD:Bm (L2.putK kvs (Sum.inr "given") (.str fh.k)) (Sum.inr "functions")=some (.ref S.af.1):=by rw[Ci,AW];show I.vf
  have c0:Bm (L2.putK kvs (Sum.inr "given") (.str fh.k)) (Sum.inr "stock")=some (.ref ak):=by rw[Ci,AW];show I.vk
  have cY:=(BO (kvs:=kvs) (k:=Sum.inr "given") (v:=.str fh.k)).1;have ca:=I.kl;show Ad rfl (Al d _ rfl (by rw[← c0];show AL.k (k:=Sum.inr "stock") g1) (Bx ak rfl ⟨_,AO.of az⟩ λaw aB=>?_));show Qj (xs:=ST.map V.str) (λi ys σ G=>(∃o0,σ=[o0,some (.ref d),some (.str name)])/\G aw=some (.lst ys)/\AA H1 G/\ys=((ST.take i).filter λx=>decide (x∉fh.ps)).map V.str) (by rw[JR,TO.gw.1];omega) aB (C7 ⟨_,rfl⟩ Ah ((AA.refl H1).upd aB) rfl) (λi ys σ G hi ⟨_,hd,Y,e⟩=>(Az (AO.of (Y _ _ az)) hd (by rw[e,JR];show KN (PL _ _) (by rw[LL];omega)))) ?_ ?_
  .rintro i y ys σ G hy ⟨⟨o0,rfl⟩,a0,Y,rfl⟩;rw[LG]at hy;show Am (Option.map_eq_some_iff.mp hy) λx hx z1=>?_;subst z1;show Ad rfl (Ad rfl (Al d _ rfl (gF (Y _ _ g1) bD) (Ad rfl (Al S.af.1 _ rfl (gN (Y _ _ bb)) (B0 ft _ 2 _ rfl rfl (BJ.of (Y _ _ cD)) rfl (Jr l3 _ rfl (.inl (AO.of (Y _ _ cC))) rfl (U8 _) (Ad rfl ?_)))))));have tk:ST.take (i+1)=ST.take i++[x]:=Ct hx;have ci:HE (V.str x) (fh.ps.map V.str)=decide (x∈fh.ps):=Fw x fh.ps;show B5 (λc=>?_) (λc=>?_)
   .have c:(!HE (V.str x) (fh.ps.map V.str))=true:=c;rw[ci,NP,MW]at c;show Ad3 rfl a0 ⟨_,rfl⟩ Ah (CI Y aB) ?_;rw[tk,OM,QV (by simpa using c),QN,KZ];rfl
   .have c:¬(!HE (V.str x) (fh.ps.map V.str))=true:=c;rw[ci,NP,MW,Classical.not_not]at c;show C7 ⟨_,rfl⟩ a0 Y ?_;rw[tk,OM,NN (by simpa using c),QN,MN]
  .rintro ys σ G ⟨_,a0,Y,rfl⟩;rw[JR,LY]at a0;obtain⟨W,hW⟩:∃W,W=ST.filter λx=>decide (x∉fh.ps):=⟨_,rfl⟩;rw[← hW]at a0;have bM:=TO.st aW hW;have lW:W.length<=26:=by rw[hW,← TO.gw.1];show PL _ _
   have gd:=Y _ _ g1;have b5:aw≠d:=(Af g1 aB).symm;have cZ:=(BO (kvs:=L2.putK kvs (Sum.inr "given") (.str fh.k)) (k:=Sum.inr "words") (v:=.ref aw)).1;show Ad rfl (Al d _ rfl (DD.k (k:=Sum.inr "words") gd (by omega)) ?_);generalize z2:upd G d _=G2;have g2:G2 d=some (.dK (L2.putK (L2.putK kvs (Sum.inr "given") (.str fh.k)) (Sum.inr "words") (.ref aw))):=by rw[← z2,Ah]
   have aq:G2 aw=some (.lst (W.map V.str)):=by rw[← z2,Aj b5];show a0
   have u2:∀q u,H q=some u->q≠d->G2 q=some u:=λq u e n=>by rw[← z2,Aj n];show Y _ _ (u1 q u e n)
   have f2:∀q,G2 q=none->H q=none:=λq e=>by
    by_cases c:q=d
    .rw [c,g2]at e;cases e
    .rw [← z2,Aj c]at e;show f1 q (Y.free e)
   clear z2;show λas has=>?_;have s3:=(AA.refl G2).upd (o:=.dK []) has;show Ad rfl (Al d _ rfl (DD.k (k:=Sum.inr "seen") (s3 _ _ g2) (by omega)) ?_);have b4:as≠d:=(Af g2 has).symm;have cH:aw≠as:=Af aq has;generalize z3:upd (upd G2 as _) d _=G3;have g3:G3 d=some (.dK (L2.putK (L2.putK (L2.putK kvs (Sum.inr "given") (.str fh.k)) (Sum.inr "words") (.ref aw)) (Sum.inr "seen") (.ref as))):=by rw[← z3,Ah]
   have bX:G3 as=some (.dK []):=by rw[← z3,Aj b4,Ah]
   have au:G3 aw=some (.lst (W.map V.str)):=by rw[← z3,Aj b5,Aj cH];show aq
   have u3:∀q u,H q=some u->q≠d->G3 q=some u:=λq u e n=>by rw[← z3,Aj n];show s3 _ _ (u2 q u e n)
   have aj:H aw=none:=f1 aw aB;have aN:H as=none:=f2 as has;have N3:=I.start g3 u3 aj aN b4 au bX (by omega);clear z3 s3
   try dsimp only
   show Dt ⟨zl 0,λvl aY=>?_⟩;generalize z4:upd G3 vl _=G4;obtain⟨s4,bY⟩:=Bz aY z4;clear z4
   walk_at "n"
   have N4:=N3.keep (AA.AN s4) (BS.up N3.dr.dr s4);have u4:∀q u,H q=some u->q≠d->G4 q=some u:=λq u e n=>s4 _ _ (u3 q u e n);have f4:∀q,G4 q=none->H q=none:=λq e=>by
    cases h:H q with
    | none=>rfl
    | some u=>
     by_cases c:q=d
     .rw [c,s4 _ _ g3]at e;cases e
     .rw [u4 q u h c]at e;cases e
   have gd4:=s4 _ _ g3;have aI:∀{q:Addr} {xs:List V},H q=some (.lst xs)->G4 q=some (.lst xs):=λg=>u4 _ _ g (Bd g I.hd (by simp));have bF:=u4 _ _ aD (Bd aD I.hd (by simp));have ax:=u4 _ _ I.hf I.nf;have bE:Bm (L2.putK (L2.putK (L2.putK kvs (Sum.inr "given") (.str fh.k)) (Sum.inr "words") (.ref aw)) (Sum.inr "seen") (.ref as)) (Sum.inr "functions")=some (.ref S.af.1):=by rw[Ci,AW,Ci,AW];show bD
   have bK:∀{q:Addr} {xs:List V},H q=some (.lst xs)->q≠as:=λg=>Af g aN;have bu:vl≠ad/\vl≠aw:=by
    obtain⟨ds,aC⟩:=N3.dr.dr;show⟨(Af aC aY).symm,(Af au aY).symm⟩
   show Ad rfl (Al d _ rfl (gF gd4 bE) (Ad rfl (Al S.af.1 _ rfl (gN ax) (B0 ft _ 2 _ rfl rfl (BJ.of bF) rfl (Ad rfl (Al d _ rfl (gF gd4 bE) (Ad rfl (Al S.af.1 _ rfl (gN ax) (B0 ft _ 0 _ rfl rfl (BJ.of bF) rfl (Co l3 l1 rfl ⟨_,AO.of (aI aF)⟩ ⟨_,AO.of (aI aU)⟩ ?_))))))))));show Zh (xs:=fh.ps.map V.str) (ys:=fh.ks.map V.str) (λi σ X=>∃a3 o1 o2 O,σ=[some (.ref d),some (.str name),some (.int ac),some (.ref a3),o1,o2,none]/\X a3=some (.lst ((Cj (fh.ps.take i) (fh.ks.take i)).map V.str))/\(a3≠ad/\a3≠aw)/\AX X d ad aw as {S with seen:=O,given:=fh.k} W/\BG {S with seen:=O,given:=fh.k} W (JA fh.ps fh.ks) fh.ps {se with g:=fh.k}/\O.length<=i/\(∀k xs,(k,xs)∈O->xs.length<=i)/\∀q u,G4 q=some u->q≠as->X q=some u)
    (Cm vl _ _ [] rfl bY bu N4 bM (Az (JV _) (λk xs h=>by cases h) λq u e _=>e)) ?_ (by rw[JR,JR,am]) ?_ ?_
   .rintro i σ X hi ⟨a3,o1,o2,O,rfl,a6,_,_,_,_,_,fr⟩;show⟨AO.of (fr _ _ (aI aF) (bK aF)),AO.of (fr _ _ (aI aU) (bK aU))⟩
   .rintro i x0 y0 σ X tp b0 b3 ⟨a3,o1,o2,O,rfl,a6,aZ,NX,SX,ls,lx,fr⟩ bi;rw[LG]at b0 b3;show Am (Option.map_eq_some_iff.mp b0) λx hx z1=>?_;subst z1;show Am (Option.map_eq_some_iff.mp b3) λkd CU z1=>?_;subst z1;have hi:i<fh.ks.length:=(List.getElem?_eq_some_iff.mp CU).1;have b2:=KR hx;have bZ:Er S kd:=bP kd (KR CU);have bo:JA fh.ps fh.ks x=some kd:=kdP_at cB hx CU;have aX:Dd x=true:=(TO.gw.2.2.1 x (cI x b2)).1;have b9:x≠"yes"/\x≠"no":=by
     unfold Dd at aX;simp only[MA,NP,PV,MW]at aX;show aX.2
    show Co tp _ rfl (BJ.of Ah) rfl (Xk rfl (Aw rfl rfl ?_));generalize z5:upd X tp _=X1;obtain⟨s5,_⟩:=Bz bi z5;clear z5
    walk_at "n"
    show Dt (Ad rfl (Ad rfl (Bh rfl (zl 2) λl2 q2=>?_)));generalize z6:upd X1 l2 _=X2;obtain⟨s6,g6⟩:=Bz q2 z6;clear z6;show Qm (s6 _ _ (s5 _ _ a6)) g6 ?_ λl4 X3 f7 s7 g7=>?_
    .rw [JR];have:=Zg (fh.ps.take i) (fh.ks.take i);rw[LL]at this
     show _+2<=1000
     omega
    have sa:=s5.trans (s6.trans s7);have a8:=NX.keep (AA.AN sa) (BS.up NX.dr.dr sa);have n4:l4≠ad/\l4≠aw:=by
     obtain⟨ds,aC⟩:=NX.dr.dr;show⟨(Af (s5.trans s6 _ _ aC) f7).symm,(Af (s5.trans s6 _ _ NX.hw) f7).symm⟩
    have g7:X3 l4=some (.lst ((Cj (fh.ps.take (i+1)) (fh.ks.take (i+1))).map V.str)):=by
     rw[g7,Tj hx CU,KZ];rfl
    walk_at "n"
    show Kq a8.HY λbG a7 i1 i2 i3 i4 _ i5=>?_;have ay:∀{ag:Hp},AA X3 ag->AL ag d (.str "seen") (some (.ref as)):=λs=>by rw[← i3];show AL.k (k:=Sum.inr "seen") (s _ _ i1)
    show Ad rfl (Al d _ rfl (ay (AA.refl X3)) (Bx as rfl (.inl ⟨a7,.of i2⟩) (Bh rfl (zl 0) λl q=>?_)));generalize z:upd _ l _=X4;obtain⟨s8,g8⟩:=Bz q z;clear z;show Aq (Bm a7 (Sum.inr kd)) (AL.k (k:=Sum.inr kd) (s8 _ _ i2)) ?_;obtain⟨lo,xs,el,gl,bp,cm⟩:∃(lo:Addr) (xs:List Str),(Bm a7 (Sum.inr kd)).getD (.ref l)=.ref lo/\X4 lo=some (.lst (xs.map V.str))/\(∀y∈xs,∃ys,(kd,ys)∈O/\y∈ys)/\xs.length<=i:=by
     cases o:Bm a7 (Sum.inr kd)with
     | none=>show Co l [] rfl g8 (λy hy=>by cases hy) (LN _)
     | some v=>
      show Am (i5.get o) λxs hs z1=>Oz z1 λa e n' g ln=>?_;clear z1;show Co a xs e (s8 _ _ g) (λy hy=>(Aq xs hs hy)) (lx kd xs hs)
    rw[el];show Bh rfl (zl 1) λl5 q5=>?_;generalize z:upd _ l5 _=X5;obtain⟨s9,g9⟩:=Bz q5 z;clear z;show Qm (s9 _ _ gl) g9 (by rw[JR];show _+1<=1000;omega) λl6 X6 aM bv aP=>?_;have sx:=s8.trans (s9.trans bv);have N6:=a8.keep (AA.AN sx) (BS.up a8.dr.dr sx);have aP:X6 l6=some (.lst ((xs++[x]).map V.str)):=by rw[KZ];show aP
    have n1:l6≠ad:=by
     obtain⟨ds,ha⟩:=a8.dr.dr;show(Af (s9 _ _ (s8 _ _ ha)) aM).symm
    have n2:∀b∈aw::S.bs,l6≠b:=λb hb z=>by
     rcases JT.mp hb with rfl|hb
     .show (Af (s9 _ _ (s8 _ _ a8.hw)) aM).symm z
     .cases h:X3 b with
      | none=>show a8.bl b hb h
      | some u=>show(Af (s9 _ _ (s8 _ _ h)) aM).symm z
    have cf:a7.length<=1000:=by rw[i5.len];show O.length<=1000;omega
    show Ad rfl (Al d _ rfl (ay sx) (Ad rfl (Al as _ rfl (DD.k (k:=Sum.inr kd) (sx _ _ i2) (by omega)) ?_)));have N7:=N6.see (kd:=kd) (xs:=xs++[x]) (sx _ _ i2) aP n1 n2 (by rw[JX,LI];omega);show Cm l4 _ _ (F1 O kd (xs++[x])) rfl ?_ n4 N7 (SX.see (xs:=xs++[x]) (λy hy=>?_) (by rw[JX,LI];omega) bZ (by show O.length+1+_<=70;omega)) (Az ?_ (λk zs hz=>?_) λq u e n=>?_)
    .rw [Aj (Bd g7 i2 (by simp))];show sx _ _ g7
    .rcases KQ.mp hy with h|h
     .show Am (bp y h) λys a b=>Ch (SX.eo.se kd ys y a b) λc1 c2 c3=>C7 c1 c2 c3 (SX.se kd ys y a b)
     .rw [KD.mp h];show C7 bo b9.1 b9.2 b2
    .have:=Jm O kd (xs++[x]);omega
    .rcases Ey hz with⟨rfl,rfl⟩|⟨a,_⟩
     .rw [JX,LI];omega
     .have:=lx k zs a;omega
    .rw [Aj n];show sx _ _ (sa _ _ (fr q u e n))
   .rintro σ X ⟨a3,o1,o2,O,rfl,a6,aZ,NX,SX,ls,lx,fr⟩;rw[JR,LY,am,LY]at a6
    try dsimp only
    have b8:a3≠d/\a3≠as:=by
     show A0 NX.HY λbG a7 i1 i2 _=>⟨Bd a6 i1 (by simp),Bd a6 i2 (by simp)⟩
    show Ad rfl (Dh ac rfl (by omega) (by omega) λD hD=>?_);have sD:=(AA.refl X).upd (o:=.lst []) hD;have cE:=NX.fresh hD [];have bI:D≠ad:=by
     obtain⟨ds,h⟩:=NX.dr.dr;show(Af h hD).symm
    have bJ:D≠aw:=(Af NX.hw hD).symm;show E5 (n:=ac) (λi ys σ G=>(∃o0,σ=[o0,some (.ref d)])/\G D=some (.lst ys)/\ys.length=i/\∃a4 S' W' κ' kn' ts,AX G d ad aw a4 S' W'/\BG S' W' κ' kn' {se with g:=fh.k}/\D7 {se with g:=fh.k} ts (JA fh.ps fh.ks) fh.ps=some (κ',kn',false)/\AI G ys ts/\(∀t∈ts,CD 10 t)/\FR d ad aw as X G/\(a4=as\/X a4=none)/\BR (({S with seen:=O,given:=fh.k}:GS).bar D) S' W W' fh.ps kn') (by omega)
     (C7 ⟨_,rfl⟩ Ah rfl (Kk as (({S with seen:=O,given:=fh.k}:GS).bar D) W _ _ [] cE SX.bar Lg rfl Ov (Az (AG.GX (AA.AN sD)) (.inl rfl) BR.refl))) (λi ys σ G hi ⟨_,hd,e,_⟩=>⟨hd,Of e⟩) ?_ ?_
    .rintro i ys σ G hi ⟨⟨o0,rfl⟩,a0,le,a4,S',W',κ',kn',ts,N',aJ,st,th,yl,aA,ha,a2⟩;show Ad rfl (Cw d ad aw a4 S' W' (B0 κ' kn' _ 2 rfl N' aJ (by decide) λv t H' as2 S2 W2 κ2 kn2 tv aa N2 ah a5 av aH yv=>A0 N'.HY λbG a7 j1 j3 _=>?_));have aV:=a5 _ _ a0 (Bd a0 j1 (by simp)) bI bJ (Bd a0 j3 (by simp));have ba:D∈S2.bs:=by rw[aH.1.2.2.2.2.2,a2.1.2.2.2.2.2];show JY
     show Fb aV ⟨_,rfl⟩ Ah (by rw[JX,le];rfl) (Kk as2 S2 W2 κ2 kn2 (ts++[t]) (N2.wr ba bI bJ aV) ah (Hg st aa) (((th.mono (N'.AF a5)).append (Hw tv)).mono (Fd aV)) (Zn yl yv) (Az (λq u e n1 n2 n3 n4=>?_) (N'.asT aA ha av) (a2.trans aH)));rw[Aj (Af e hD)];show(aA.step ha a5) q u e n1 n2 n3 n4
    .rintro ys σ G ⟨_,a0,aG,a4,S',W',κ',kn',ts,N',aJ,st,th,yl,aA,ha,a2⟩;dsimp only[BH]
     walk_at "n"
     have bj:=aA _ _ a6 b8.1 aZ.1 aZ.2 b8.2;show Jd (Ad rfl (Ad rfl (C6 a3 _ rfl (.inl ⟨AO.of bj,λvt bn=>?_⟩))));generalize z:upd G vt _=Y1;obtain⟨a9,bQ⟩:=Bz bn z;clear z;have bN:=N'.keep (AA.AN a9) (BS.up N'.dr.dr a9);show dd61 bN.ex λcn cO cN cb cX cc n1 _=>?_;have bO:S'.given=fh.k:=a2.1.2.2.1;have bd:AL Y1 d (.str "given") (some (.str fh.k)):=by rw[← bO,← n1.vg];show AL.k (k:=Sum.inr "given") n1.hd
     show Ad rfl (Co d _ rfl bd (zl 4) λp1 be=>?_);generalize z:upd Y1 p1 _=Y2;obtain⟨aE,bS⟩:=Bz be z;clear z;show Ad rfl (Qm bS (aE _ _ (a9 _ _ a0)) (by rw[aG];show 4+_<=1000;omega) λp2 Y3 ai bA aQ=>?_);have sb:=a9.trans (aE.trans bA);have aK:=N'.keep (AA.AN sb) (BS.up N'.dr.dr sb);show Ad rfl (Cw d ad aw a4 S' W' (B0 κ' kn' _ 2 rfl aK aJ (by decide) λv t H' as2 W2 kn2 tv aa N2 ah a5 av aH yv=>⟨zl 1,λp3 bf=>?_⟩));generalize z:upd H' p3 _=Y4;obtain⟨bB,bU⟩:=Bz bf z;clear z;show A0 aK.HY λcq ce j1 j3 _=>?_;have b7:p2≠ad/\p2≠aw:=by
      obtain⟨ds,aC⟩:=N'.dr.dr;show⟨(Af (a9.trans aE _ _ aC) ai).symm,(Af (a9.trans aE _ _ N'.hw) ai).symm⟩
     have bW:=a5 _ _ aQ (Bd aQ j1 (by simp)) b7.1 b7.2 (Bd aQ j3 (by simp));show Qm (bB _ _ bW) bU (by rw[JX,aG];show 4+_+1<=1000;omega) λp4 Y5 cQ bw bV=>(C6 p4 _ rfl (.inl ⟨AO.of bV,λtl bh=>?_⟩));have bx:=(AA.refl Y5).upd (o:=.tup ([V.str "fun",.str name,.ref vt,.str fh.k]++ys++[v])) bh;have sc:=bB.trans (bw.trans bx);have N9:=N2.keep (AA.AN sc) (BS.up N2.dr.dr sc);have bC:=aK.AF a5;have al:∀q u,H q=some u->q≠d->q≠ad->upd Y5 tl (.tup ([V.str "fun",.str name,.ref vt,.str fh.k]++ys++[v])) q=some u:=λq u e n1 n2=>by
      have bL:q≠aw:=Af e aj;have ae:q≠as:=Af e aN;have eX:=fr q u (u4 q u e n1) ae;have eG:=aA q u eX n1 n2 bL ae;have cG:q≠a4:=by
       rcases ha with rfl|ha
       .show ae
       .show Af eX ha
      show sc _ _ (a5 q u (sb _ _ eG) n1 n2 bL cG)
     show Jt (N9.fin (S:=S) (ak:=ak) (ST:=ST) (C7 a2.1.1 a2.1.2.1 a2.1.2.2.2.1 a2.1.2.2.2.2.1) (λb hb=>by rw[a2.1.2.2.2.2.2];show JS _ hb) (al _ _ I.hk (Bd I.hk I.hd (by simp)) I.nk) I.nk I.sl I.nrf) λcF bt br T9=>?_;have bz:AQ Y1 (.ref vt) (.tup ((Cj fh.ps fh.ks).map .wd)):=(Aw rfl bQ (Qf _));have bg:AQ (upd Y5 tl (.tup ([V.str "fun",.str name,.ref vt,.str fh.k]++ys++[v]))) (.ref tl) (.tup (.wd "fun"::.wd name::.tup ((Cj fh.ps fh.ks).map .wd)::.wd fh.k::(ts++[t]))):=by
      show Aw rfl Ah ?_;have a1:AI (upd Y5 tl (.tup ([V.str "fun",.str name,.ref vt,.str fh.k]++ys++[v]))) [V.str "fun",.str name,.ref vt,.str fh.k] [.wd "fun",.wd name,.tup ((Cj fh.ps fh.ks).map .wd),.wd fh.k]:=(Aw rfl rfl (Aw rfl rfl (Aw rfl (((bz.mono (aE.trans bA).AF).mono bC).mono sc.AF) (Aw rfl rfl rfl))));show(a1.append (((th.mono sb.AF).mono bC).mono sc.AF)).append (Hw (tv.mono sc.AF))
     show k _ _ _ cF bt br fh bg aW (Lb (ts++[t]) _ _ rfl (Hg st aa) (by rw[JX,← th.len,aG];show _+1<=4;omega) (Zo (λt ht=>(yl t ht).1.mono (by decide)) (yv.1.mono (by decide))) (by
      have b:=Jv ts λt ht=>(yl t ht).2;have c:ts.length*CL 10<=3*CL 10:=PU _ (by rw[← th.len,aG];omega);have e6:CL 10=157017:=by decide
      have e7:eB 2=83291:=by decide
      have:=yv.2
      rw[Ek,Cg,Cg];omega) (by have h1:=a2.2.1.2;have h2:=aH.2.1.2;omega)) T9 al
end
def Tree (H:Hp)(d ad ak:Addr)(S:GS)(ST:List Str):Prop:=∃kvs kr kf,BB H d ad ak S ST kvs kr kf
section
variable {H H':Hp}{d ad ak D:Addr}{S:GS}{ST:List Str}
def BB.move (I:BB H d ad ak S ST kvs kr kf)(D:Addr)(k:AG D H H')(dr:BS H' ad)(h1:D≠d/\D≠S.ar/\D≠S.af.1/\D≠ak)(h2:∀t xs,H t=some (.tup xs)->t≠D)(h3:D=ad\/D∈S.bs)(h4:∀b∈S.bs,H b≠none->H' b≠none):BB H' d ad ak S ST kvs kr kf:=by
 have up:∀{v:V} {xs:List Str},v≠.ref D\/D=ad->CT H ad v xs->CT H' ad v xs:=λh ⟨a,e,n,g,l⟩=>(Dh a e n (k _ _ g (by
  rcases h with h|h
  .show λz=>h (by rw[e,z])
  .rw [h];show n)) l)
 have nt:∀{t:Addr} {xs:List V},H t=some (.tup xs)->H' t=some (.tup xs):=λg=>k _ _ g (h2 _ _ g);show⟨k _ _ I.hd h1.1.symm,I.vd,I.vr,I.vf,I.vk,I.vs,I.vg,I.kl,I.kw,k _ _ I.hr h1.2.1.symm,k _ _ I.hf h1.2.2.1.symm,I.tr.GW λp O x=>up ?_,I.tf.GW λp O x=>?_,I.nr,I.nf,I.nrf,I.w1,λp O t v1 x v3 e g=>?_,λb hb=>h4 b hb (I.bl b hb),k _ _ I.hk h1.2.2.2.symm,I.nk,I.sl,dr⟩
 .rcases h3 with h|h
  .show .inr h
  .show .inl (I.w1 p O D h)
 .rintro ⟨t,v1,v3,e,g,a,b⟩;show Ei t v1 v3 e (nt g) (up ?_ a) (up ?_ b)
  .rcases h3 with h|h
   .show .inr h
   .show .inl (I.w3 p O t _ _ _ e g D h).1
  .rcases h3 with h|h
   .show .inr h
   .show .inl (I.w3 p O t _ _ _ e g D h).2
 .show Zs (I.tf.mem O) λfh t' u1 u3 Y g' _=>?_;rw[e]at Y;cases Y;rw[nt g']at g;cases g;show I.w3 p O t _ _ _ e g'
def BB.keep (I:BB H d ad ak S ST kvs kr kf)(k:AG ad H H')(dr:BS H' ad):BB H' d ad ak S ST kvs kr kf:=by
 obtain⟨ds,O⟩:=I.dr;show I.move ad k dr (C7 (Bd O I.hd (by simp)) (Bd O I.hr (by simp)) (Bd O I.hf (by simp)) I.nk.symm) (λt xs g=>Bd g O (by simp)) (.inl rfl) λb hb h=>?_;by_cases c:b=ad
 .obtain⟨Y,h'⟩:=dr;rw[c,h'];simp
 .cases e:H b with
  | none=>show absurd e h
  | some u=>rw[k _ _ e c];simp
def BB.same (I:BB H d ad ak S ST kvs kr kf)(s:AA H H'):BB H' d ad ak S ST kvs kr kf:=I.keep (AA.AN s) (BS.up I.dr s)
def Tree.keep (T:Tree H d ad ak S ST)(k:AG ad H H')(dr:BS H' ad):Tree H' d ad ak S ST:=let ⟨kvs,kr,kf,I⟩:=T;(Tl kvs kr kf (I.keep k dr))
def Tree.same (T:Tree H d ad ak S ST)(s:AA H H'):Tree H' d ad ak S ST:=T.keep (AA.AN s) (by show Jt T λkvs kr kf I=>?_;show BS.up I.dr s)
def Tree.wr (T:Tree H d ad ak S ST)(hb:D∈S.bs)(n1:D≠ad)(n2:D≠ak)(O:H D=some (.lst ys)):Tree (upd H D (.lst zs)) d ad ak S ST:=by
 show Jt T λkvs kr kf I=>?_;obtain⟨ds,Y⟩:=I.dr;show Tl kvs kr kf (I.move D (λq u e n=>by rw[Aj n];show e) ⟨ds,by rw[Aj n1.symm];show Y⟩ (C7 (Bd O I.hd (by simp)) (Bd O I.hr (by simp)) (Bd O I.hf (by simp)) n2) (λt xs g=>Bd g O (by simp)) (.inr hb) λb hb h=>?_);by_cases c:b=D
 .rw [c,Ah];simp
 .rw [Aj c];show h
def Tree.bar (T:Tree H d ad ak S ST)(hD:H D=none)(s:AA H H')(h':H' D≠none):Tree H' d ad ak (S.bar D) ST:=by
 have Y:∀{v:V} {xs:List Str},CT H ad v xs->v≠.ref D:=λ⟨a,e,_,g,_⟩ z=>Af g hD (V.ref.inj (e.symm.trans z));show Jt T λkvs kr kf I=>?_;have up:∀{v:V} {xs:List Str},CT H ad v xs->CT H' ad v xs:=λ⟨a,e,n,g,l⟩=>(Dh a e n (s _ _ g) l);show Tl kvs kr kf ⟨s _ _ I.hd,I.vd,I.vr,I.vf,I.vk,I.vs,I.vg,I.kl,I.kw,s _ _ I.hr,s _ _ I.hf,I.tr.imp λv x=>up,I.tf.imp λv x ⟨t,v1,v3,e,g,a,b⟩=>(Ei t v1 v3 e (s _ _ g) (up a) (up b)),I.nr,I.nf,I.nrf,λp O b hb=>?_,λp O t v1 x v3 e g=>?_,λb hb=>?_,s _ _ I.hk,I.nk,I.sl,BS.up I.dr s⟩
 .obtain⟨xs,h⟩:=I.tr.mem O
  rcases JT.mp hb with rfl|hb
  .show Y h
  .show I.w1 p O b hb
 .show Zr (I.tf.mem O) λfh t' u1 u3 e' g' a1 a3=>?_;rw[e]at e';cases e';rw[s _ _ g']at g;cases g;intro b hb
  rcases JT.mp hb with rfl|hb
  .show⟨Y a1,Y a3⟩
  .show I.w3 p O t _ _ _ e g' b hb
 .rcases JT.mp hb with rfl|hb
  .show h'
  .intro z
   cases e:H b with
   | none=>show I.bl b hb e
   | some u=>rw[s _ _ e]at z;cases z
def Ym {kvs:List (Key×V)}{k:Key}{v:V}{p:Key×V}(h:p∈L2.putK kvs k v):p.2=v\/p∈kvs:=by
 unfold L2.putK at h;split at h
 .show Am (KI.mp h) λq I e=>?_;split at e
  .rw [← e];show .inl rfl
  .rw [← e];show .inr I
 .rcases KQ.mp h with z|z
  .show .inr z
  .rw [KD.mp z];show .inl rfl
def BB.wrD (I:BB H d ad ak S ST kvs kr kf)(h0:H a=some (.dK k0)):(∀{v:V} {xs:List Str},CT H ad v xs->CT (upd H a (.dK k1)) ad v xs)/\(∀{v:V} {f:FH},Fns H ad v f->Fns (upd H a (.dK k1)) ad v f)/\(∀{q:Addr} {xs:List V},H q=some (.lst xs)->upd H a (.dK k1) q=some (.lst xs))/\(∀b∈S.bs,upd H a (.dK k1) b≠none)/\BS (upd H a (.dK k1)) ad/\∀{t:Addr} {xs:List V},H t=some (.tup xs)↔upd H a (.dK k1) t=some (.tup xs):=by
 have nl:∀{q:Addr} {xs:List V},H q=some (.lst xs)->upd H a (.dK k1) q=some (.lst xs):=λg=>by rw[Aj (Bd g h0 (by simp))];show g
 have O:∀{q:Addr} {xs:List V},H q=some (.tup xs)->upd H a (.dK k1) q=some (.tup xs):=λg=>by rw[Aj (Bd g h0 (by simp))];show g
 have up:∀{v:V} {xs:List Str},CT H ad v xs->CT (upd H a (.dK k1)) ad v xs:=λ⟨a,e,n,g,l⟩=>(Dh a e n (nl g) l);obtain⟨ds,Y⟩:=I.dr;show D8 up (λ⟨t,v1,v3,e,g,a,b⟩=>(Ei t v1 v3 e (O g) (up a) (up b))) nl (λb hb z=>?_) ⟨ds,nl Y⟩ (@λt' a0=>⟨O,λg=>?_⟩)
 .by_cases c:b=a
  .rw [c,Ah]at z;cases z
  .rw [Aj c]at z;show I.bl b hb z
 .by_cases c:t'=a
  .rw [c,Ah]at g;cases g
  .rw [Aj c]at g;show g
def BB.recP (I:BB H d ad ak S ST kvs kr kf)(hl:H l=some (.lst (fl.map V.str)))(n1:l≠ad)(n2:∀b∈S.bs,l≠b)(Y:fl.length<=100):Tree (upd H S.ar (.dK (L2.putK kr (Sum.inr n) (.ref l)))) d ad ak {S with AB:=F1 S.AB n fl} ST:=by
 show Ib (I.wrD (k1:=L2.putK kr (Sum.inr n) (.ref l)) I.hr) λw1 w2 w3 w4 w5 w6=>?_;show Tl kvs _ kf ⟨by rw[Aj I.nr.symm];show I.hd,I.vd,I.vr,I.vf,I.vk,I.vs,I.vg,I.kl,I.kw,Ah,by rw[Aj I.nrf.symm];show I.hf,Tab.put (I.tr.imp λv x=>w1) (w1 (Dh l rfl n1 hl Y)),I.tf.imp λv x=>w2,I.nr,I.nf,I.nrf,λp O b hb=>?_,λp O t v1 x v3 e g=>I.w3 p O t v1 x v3 e (w6.mpr g),w4,w3 I.hk,I.nk,I.sl,w5⟩
 rcases Ym O with h|h
 .rw [h];show λz=>n2 b hb (V.ref.inj z)
 .show I.w1 p h b hb
def BB.funP (I:BB H d ad ak S ST kvs kr kf)(ht:H t=some (.tup [v1,.str fh.k,v3]))(h1:CT H ad v1 fh.ks)(h3:CT H ad v3 fh.ps)(n2:∀b∈S.bs,v1≠.ref b/\v3≠.ref b):Tree (upd H S.af.1 (.dK (L2.putK kf (Sum.inr n) (.ref t)))) d ad ak {S with AC:=F1 S.AC n fh} ST:=by
 show Ib (I.wrD (k1:=L2.putK kf (Sum.inr n) (.ref t)) I.hf) λw1 O w3 w4 w5 Y=>?_;show Tl kvs kr _ ⟨by rw[Aj I.nf.symm];show I.hd,I.vd,I.vr,I.vf,I.vk,I.vs,I.vg,I.kl,I.kw,by rw[Aj I.nrf];show I.hr,Ah,I.tr.imp λv x=>w1,Tab.put (I.tf.imp λv x=>O) (O (Ei t v1 v3 rfl ht h1 h3)),I.nr,I.nf,I.nrf,I.w1,λp hp t' u1 x u3 e g=>?_,w4,w3 I.hk,I.nk,I.sl,w5⟩
 rcases Ym hp with h|h
 .rw [h]at e;cases e;have g:=Y.mpr g;rw[ht]at g;cases g;show n2
 .show I.w3 p h t' u1 x u3 e (Y.mpr g)
def Tree.DC (T:Tree H d ad ak S ST):Rec0 H d ad S:=by
 show Jt T λkvs kr kf I=>⟨⟨(Aq kvs I.hd I.vd),I.dr⟩,kvs,S.ar,kr,I.hd,I.vr,I.hr,I.tr⟩
end
def Ah7 {ST:List Str}(nd:ST.Nodup){i:Nat}{x:Str}(h:ST[i]?=some x):x∉ST.drop (i+1):=by
 intro z;have e:ST=ST.take (i+1)++ST.drop (i+1):=(List.take_append_drop _ _).symm;rw[e]at nd;have hx:x∈ST.take (i+1):=by rw[Ct h];simp
 show(LX.mp nd).2.2 x hx x z rfl
def W0 {ST:List Str}(nd:ST.Nodup){j:Nat}{x:Str}(h:x∈ST.drop j):x∉ST.take j:=by
 intro z;have e:ST=ST.take j++ST.drop j:=(List.take_append_drop _ _).symm;rw[e]at nd;show(LX.mp nd).2.2 x z x h rfl
def Hy {ST:List Str}{i j:Nat}(h:i<=j){x:Str}(hx:x∈ST.drop j):x∈ST.drop i:=by
 have:ST.drop j=(ST.drop i).drop (j-i):=by rw[List.drop_drop];congr 1;omega
 rw[this]at hx;show MZ hx
def Ru {ST:List Str}(h:ST[i]?=some x):x∈ST.drop i:=by
 have:(ST.drop i)[0]?=some x:=by rw[List.getElem?_drop];show h
 show KR this
def Og {ST:List Str}{j:Nat}(h:j<ST.length):∃x,ST[j]?=some x/\((ST.take (j+1)).map V.str)[((ST.take (j+1)).map V.str).length-1]?=some (.str x)/\((ST.take (j+1)).map V.str).dropLast=(ST.take j).map V.str:=by
 obtain⟨x,hx⟩:∃x,ST[j]?=some x:=⟨_,LC h⟩;show Bx x hx ?_ ?_
 .rw [Ct hx];simp
 .rw [Ct hx];simp
def cut_to (xs:List Str)(n:Nat):Ef (xs.map V.str) none (some (n:Int))=(xs.take n).map V.str:=by
 unfold Ef;rw[JR,HT.FL,HT.CB,List.drop_zero,Nat.sub_zero,List.map_take];by_cases c:n<=xs.length
 .rw [NT c]
 .rw [OY (by omega),LP (by rw[JR];show JV _),LP (by rw[JR];omega)]
def cut_from (xs:List Str)(n:Nat)(h:n<=xs.length):Ef (xs.map V.str) (some (n:Int)) none=(xs.drop n).map V.str:=by
 unfold Ef;rw[JR,HT.FL,HT.CB,NT h,List.map_drop,LP];rw[NB,JR];show JV _
structure CF (ST:List Str)(j:Nat)(AB:List (Str×List Str)):Prop where
 nd:(AB.map (·.1)).Nodup
 ok:∀n fl,(n,fl)∈AB->n∈ST.drop j/\fl≠[]/\fl.length<=4/\fl.Nodup/\∀x∈fl,x∈ST.drop j
def HW {α:Type}{tab:List (Str×α)}{n:Str}:(tab.any λp=>decide (p.1=n))=true↔n∈tab.map (·.1):=by
 rw[RE,KI];show⟨λ⟨p,h1,h2⟩=>(Aq p h1 (KP h2)),λ⟨p,h1,h2⟩=>(Aq p h1 (KA h2))⟩
def FY {α:Type}{tab:List (Str×α)}{n:Str}{x:α}:(n∈tab.map (·.1)->(F1 tab n x).map (·.1)=tab.map (·.1))/\(n∉tab.map (·.1)->F1 tab n x=tab++[(n,x)]):=by
 unfold F1;show⟨λh=>?_,λh=>?_⟩
 .rw [KJ (HW.mpr h),List.map_map];show List.map_congr_left λp _=>?_
  show(if p.1=n then(p.1,x)else p).1=p.1
  split<;>rfl
 .rw [KH λz=>h (HW.mp z)]
def Ag7 {α:Type}{tab:List (Str×α)}{n:Str}{x:α}(h:(tab.map (·.1)).Nodup):((F1 tab n x).map (·.1)).Nodup:=by
 by_cases c:n∈tab.map (·.1)
 .rw [FY.1 c];show h
 .rw [FY.2 c,KZ,List.map_singleton];show LX.mpr (Az h (by simp) λa ha b hb e=>?_);have e:a=n:=e.trans (KD.mp hb);show c (e▸ha)
def CF.mono {ST:List Str}{i j:Nat}{AB:List (Str×List Str)}(h:CF ST j AB)(hi:i<=j):CF ST i AB:=
 ⟨h.nd,λn fl a=>let ⟨b1,I,O,Y,b5⟩:=h.ok n fl a;(Fb (Hy hi b1) I O Y λx hx=>Hy hi (b5 x hx))⟩
def CF.put {ST:List Str}{j:Nat}{AB:List (Str×List Str)}(h:CF ST j AB){n:Str}{fl:List Str}(hn:n∈ST.drop j/\fl≠[]/\fl.length<=4/\fl.Nodup/\∀x∈fl,x∈ST.drop j):CF ST j (F1 AB n fl):=
 ⟨Ag7 h.nd,λm I a=>by
  rcases Ey a with⟨rfl,rfl⟩|⟨a,_⟩
  .show hn
  .show h.ok m I a⟩
structure DR (ST:List Str)(j:Nat)(NM:List Str)(S:GS):Prop where
 nd:(S.AC.map (·.1)).Nodup
 nm:NM.Nodup/\∀x∈NM,x∈ST/\x∉ST.take j
 ks:∀f:Str,f∈S.AC.map (·.1)->(f="main"\/f∈ST)/\f∉ST.take j/\f∉NM
 ok:∀f h,(f,h)∈S.AC->(∀k∈h.ks,Er S k)/\Er S h.k/\h.ps.length=h.ks.length/\h.ks.length<=4/\h.ps.Nodup/\∀x∈h.ps,x∈ST
 mn:∃h:FH,(("main":Str),h)∈S.AC/\h.k="number"/\∀k∈h.ks,k="number"
 ln:S.AC.length<=3
def DR.add {ST:List Str}{j I:Nat}{NM Y:List Str}{S:GS}(h:DR ST j NM S)(gw:Vn ST)(hj:I<=j)(O:Y.Nodup/\∀x∈Y,x∈NM){f:Str}(hf:f∈ST/\f∉S.AC.map (·.1)/\f∉ST.take I/\f∉Y){fh:FH}(ho:(∀k∈fh.ks,Er S k)/\Er S fh.k/\fh.ps.length=fh.ks.length/\fh.ks.length<=4/\fh.ps.Nodup/\∀x∈fh.ps,x∈ST)(hl:S.AC.length<=2):DR ST I Y {S with AC:=F1 S.AC f fh}:=by
 have sub:∀x,x∈ST.take I->x∈ST.take j:=λx hx=>by
  have:ST.take I=(ST.take j).take I:=by rw[List.take_take];congr 1;omega
  rw[this]at hx;show OB hx
 show Bg h.mn λmh m1 m2 m3=>?_;have a0:f≠"main":=λz=>hf.2.1 (z▸KI.mpr (Ad m1 rfl));have e:=(FY (tab:=S.AC) (n:=f) (x:=fh)).2 hf.2.1;show⟨Ag7 h.nd,⟨O.1,λx hx=>⟨(h.nm.2 x (O.2 x hx)).1,λz=>(h.nm.2 x (O.2 x hx)).2 (sub x z)⟩⟩,λg hg=>?_,λg gh hg=>?_,(Bx mh ?_ m2 m3),?_⟩
 .have hg:g∈(F1 S.AC f fh).map (·.1):=hg;rw[e,KZ]at hg
  rcases KQ.mp hg with z|z
  .show Ch (h.ks g z) λa b c=>Az a (λy=>b (sub g y)) λy=>c (O.2 g y)
  .rw [show g=f from KD.mp z];show⟨.inr hf.1,hf.2.2⟩
 .rcases Ey hg with⟨rfl,rfl⟩|⟨a,_⟩
  .show ho
  .show h.ok g gh a
 .show (("main":Str),mh)∈F1 S.AC f fh
  rw[e];show MD _ m1
 .show (F1 S.AC f fh).length<=3
  rw[e,JX];show _+1<=3;omega
def Tab.keys {α:Type}{R:V->α->Prop}{kvs:List (Key×V)}{tab:List (Str×α)}(h:Tab R kvs tab):(kvs.map λp=>kV p.1)=(tab.map (·.1)).map V.str:=by
 unfold Tab at h
 induction h with
 | nil=>rfl
 | cons h1 _ I=>rw[KE,KE,KE,I,h1.1];rfl
def Tab.at {α:Type}{R:V->α->Prop}:∀{kvs:List (Key×V)} {tab:List (Str×α)} {i:Nat} {k:Key} {v:V},Tab R kvs tab->kvs[i]?=some (k,v)->∃n x,tab[i]?=some (n,x)/\k=Sum.inr n:=fun {kvs tab i k v} h=>by
 unfold Tab at h
 induction h generalizing i with
 | nil=>intro e;simp at e
 | @cons a b _ _ h1 _ I=>
  intro e
  cases i with
  | zero=>
   cases e;show C6 b.1 b.2 rfl h1.1
  | succ i=>show I (by simpa using e)
noncomputable def Cv (p:Str×List Str):Th:=.tup (.wd "record"::.wd p.1::p.2.map .wd)
structure HA where
 nm:Str
 fh:FH
 ts:List Th
noncomputable def Ca (f:HA):Th:=.tup (.wd "fun"::.wd f.nm::.tup ((Cj f.fh.ps f.fh.ks).map .wd)::.wd f.fh.k::f.ts)
noncomputable def lkR (AB:List (Str×List Str))(n:Str):Option (List Str):=(AB.find? λp=>decide (p.1=n)).map (·.2)
noncomputable def lkF (AC:List HA)(n:Str):Option (List Str×Str):=(AC.find? λf=>decide (f.nm=n)).map λf=>(f.fh.ks,f.fh.k)
def U2 (AB:List (Str×List Str))(k:Str):Prop:=k="number"\/k="truth"\/k="list"\/k∈AB.map (·.1)
structure CS (AB:List (Str×List Str))(AC:List HA):Prop where
 rn:(AB.map (·.1)).Nodup
 ro:∀n fl,(n,fl)∈AB->Dd n=true/\n≠"number"/\n≠"truth"/\n≠"list"/\fl≠[]/\fl.length<=4/\fl.Nodup/\∀x∈fl,Dd x=true
 fn:(AC.map (·.nm)).Nodup
 fo:∀f∈AC,Dd f.nm=true/\f.fh.ps.length=f.fh.ks.length/\f.fh.ks.length<=4/\f.fh.ps.Nodup/\(∀x∈f.fh.ps,Dd x=true)/\(∀k∈f.fh.ks,U2 AB k)/\U2 AB f.fh.k/\∃κ kn,D7 ⟨lkR AB,lkF AC,f.fh.k⟩ f.ts (JA f.fh.ps f.fh.ks) f.fh.ps=some (κ,kn,true)/\kn.length<=100
 mn:∃f∈AC,f.nm="main"/\f.fh.k="number"/\∀k∈f.fh.ks,k="number"
def Aj7 (t:Th):Prop:=∃AB AC,t=.tup (.wd "program"::(AB.map Cv++AC.map Ca))/\CS AB AC/\(∀p∈AB,p.1.length<=6/\p.1≠"main")/\(∀f∈AC,f.nm.length<=6/\f.ts.length<=4/\(∀t∈f.ts,BF 11 t)/\Cg f.ts<=554342)/\AB.length<=5/\AC.length<=3
noncomputable def lkH (AC:List (Str×FH))(n:Str):Option (List Str×Str):=(AC.find? λp=>decide (p.1=n)).map λp=>(p.2.ks,p.2.k)
theorem Iw {α:Type}{key:α->Str}:∀{l:List α} {x:α},(l.map key).Nodup->x∈l->l.find? (λy=>decide (key y=key x))=some x
 | [],_,_,h=>by cases h
 | y::r,x,nd,h=>by
  rw[KE,NR]at nd
  rcases JT.mp h with rfl|h
  .rw [List.find?_cons_of_pos (by simp)]
  .have ne:key y≠key x:=λz=>nd.1 (z▸KI.mpr (Aq x h rfl));rw[List.find?_cons_of_neg (by simpa using ne)];show Iw nd.2 h
def lkR_mem (nd:(AB.map (·.1)).Nodup)(h:(n,fl)∈AB):lkR AB n=some fl:=by
 unfold lkR;rw[show(λp:Str×List Str=>decide (p.1=n))=λp=>decide (p.1=(n,fl).1)from rfl,Iw nd h];rfl
def Ai0 (nd:(AC.map (·.1)).Nodup)(h:(n,fh)∈AC):lkH AC n=some (fh.ks,fh.k):=by
 unfold lkH;rw[show(λp:Str×FH=>decide (p.1=n))=λp=>decide (p.1=(n,fh).1)from rfl,Iw nd h];rfl
def lkF_mem (nd:(fs.map (·.nm)).Nodup)(h:f∈fs):lkF fs f.nm=some (f.fh.ks,f.fh.k):=by
 unfold lkF;rw[Iw (key:=HA.nm) nd h];rfl
def Zk {α:Type}{key:α->Str}{l:List α}{n:Str}(h:n∉l.map key):l.find? (λy=>decide (key y=n))=none:=by
 rw[List.find?_eq_none];intro y I z;show h (KI.mpr (Aq y I (KP z)))
def lkF_eq (nd:(AC.map (·.1)).Nodup)(I:(fs.map (·.nm)).Nodup)(h1:∀f∈fs,(f.nm,f.fh)∈AC)(h2:∀n:Str,n∈AC.map (·.1)->n∈fs.map (·.nm)):lkF fs=lkH AC:=by
 funext n;by_cases c:n∈fs.map (·.nm)
 .show Am (KI.mp c) λf hf z1=>?_;subst z1;rw[lkF_mem I hf,Ai0 nd (h1 f hf)]
 .have c2:n∉AC.map (·.1):=λz=>c (h2 n z);unfold lkF lkH;rw[Zk (key:=HA.nm) c,Zk (key:=Prod.fst) c2];rfl
def treeOk {S:GS}{ST NM:List Str}{j j':Nat}(O:CF ST j S.AB)(I:DR ST j' NM S)(gw:Vn ST)(hl:S.AB.length<=5):HK S ⟨lkR S.AB,lkH S.AC,""⟩ ST:=
 ⟨λn fl h=>⟨lkR_mem O.nd h,(O.ok n fl h).2.1⟩,λf h hf=>⟨Ai0 I.nd hf,I.ok f h hf⟩,by omega,by have:=I.ln;omega,λn hn=>by
  show Am (KI.mp hn) λp Y z1=>?_;subst z1;have:=(gw.2.2.1 p.1 (MZ (O.ok p.1 p.2 Y).1)).2
  show(Az (λz=>this (by rw[z];decide)) (λz=>this (by rw[z];decide)) λz=>this (by rw[z];decide)),gw⟩
def FncOk (S:GS)(f:HA):Prop:=(f.nm,f.fh)∈S.AC/\(∃κ kn,D7 ⟨lkR S.AB,lkH S.AC,f.fh.k⟩ f.ts (JA f.fh.ps f.fh.ks) f.fh.ps=some (κ,kn,true)/\kn.length<=100)/\f.ts.length<=4/\(∀t∈f.ts,BF 11 t)/\Cg f.ts<=554342
def treeG {S:GS}{ST NM:List Str}{j j':Nat}(Y:CF ST j S.AB)(I:DR ST j' NM S)(gw:Vn ST)(hl:S.AB.length<=5){fs:List HA}(hf:∀f∈fs,FncOk S f)(hn:fs.map (·.nm)=S.AC.map (·.1)\/fs.map (·.nm)=(S.AC.map (·.1)).reverse):Aj7 (.tup (.wd "program"::(S.AB.map Cv++fs.map Ca))):=by
 have a2:(fs.map (·.nm)).Nodup:=by
  rcases hn with h|h
  .rw [h];show I.nd
  .rw [h];show List.pairwise_reverse.mpr (I.nd.imp λh z=>h z.symm)
 have sub:∀n:Str,n∈S.AC.map (·.1)->n∈fs.map (·.nm):=λn h=>by
  rcases hn with e|e
  .rw [e];show h
  .rw [e];show List.mem_reverse.mpr h
 have eF:=lkF_eq I.nd a2 (λf h=>(hf f h).1) sub;have O:∀x,x∈ST->Dd x=true/\x.length<=6:=λx h=>⟨(gw.2.2.1 x h).1,gw.2.2.2 x h⟩;have a0:∀f∈fs,f.nm="main"\/f.nm∈ST:=λf h=>(I.ks f.nm (KI.mpr (Ad ((hf f h).1) rfl))).1;show Km S.AB fs rfl ⟨Y.nd,λn fl h=>?_,a2,λf h=>?_,?_⟩ (λp hp=>?_) (λf h=>⟨?_,(hf f h).2.2⟩) hl ?_
 .show Ma (Y.ok n fl h) λa b c d e=>?_;have g:=gw.2.2.1 n (MZ a);show D8 g.1 (λz=>g.2 (by rw[z];decide)) (λz=>g.2 (by rw[z];decide)) (λz=>g.2 (by rw[z];decide)) b (Az c d λx hx=>(O x (MZ (e x hx))).1)
 .show Ib (I.ok f.nm f.fh (hf f h).1) λa b c d e g=>D8 ?_ c d e (λx hx=>(O x (g x hx)).1) (Az a b ?_)
  .rcases a0 f h with z|z
   .rw [z];decide +kernel
   .show (O _ z).1
  .rw [eF];show(hf f h).2.1
 .show Bg I.mn λh m1 m2 m3=>Am (KI.mp (sub "main" (KI.mpr (Ad m1 rfl)))) λf a1 e=>?_;have h1:=(hf f a1).1;rw[e]at h1;have e2:f.fh=h:=by
   have a:=Iw (key:=Prod.fst) I.nd h1;have b:=Iw (key:=Prod.fst) I.nd m1;rw[a]at b;show LM Prod.snd (LV b)
  show Dh f a1 e (by rw[e2];show m2) (by rw[e2];show m3)
 .have:=MZ (Y.ok p.1 p.2 hp).1;show⟨(O _ this).2,λz=>(gw.2.2.1 _ this).2 (by rw[z];decide)⟩
 .rcases a0 f h with z|z
  .rw [z];decide +kernel
  .show (O _ z).2
 .have e:fs.length=S.AC.length:=by
   rcases hn with h|h
   .have:=LM List.length h;simpa using this
   .have:=LM List.length h;simpa using this
  rw[e];show I.ln
theorem two_of {α:Type}:∀{l:List α},l.length=2->∃a b,l=[a,b]
 | [a,b],_=>(Uj a b rfl)
def Ar7:Sp:=λvs H Q _=>∃ad,∃ds:List Int,vs=[.ref ad]/\H ad=some (.lst (ds.map V.int))/\∀v t H',AQ H' v t->Aj7 t->AG ad H H'->BS H' ad->Q v H'
noncomputable def HC (ad ar af as:Addr):List (Key×V):=[(Sum.inr "draws",.ref ad),(Sum.inr "records",.ref ar),(Sum.inr "functions",.ref af),(Sum.inr "seen",.ref as),(Sum.inr "given",.str "")]
def mk0 {ad ar af as:Addr}:Ev [] [(Sum.inr "draws",V.ref ad),(Sum.inr "records",.ref ar),(Sum.inr "functions",.ref af),(Sum.inr "seen",.ref as),(Sum.inr "given",.str "")]=HC ad ar af as:=by kernel_rfl
def kv5_at {ad ar af as:Addr}:Bm (HC ad ar af as) (Sum.inr "draws")=some (.ref ad)/\Bm (HC ad ar af as) (Sum.inr "records")=some (.ref ar)/\Bm (HC ad ar af as) (Sum.inr "functions")=some (.ref af)/\Bm (HC ad ar af as) (Sum.inr "seen")=some (.ref as)/\Bm (HC ad ar af as) (Sum.inr "given")=some (.str "")/\Bm (HC ad ar af as) (Sum.inr "words")=none/\(HC ad ar af as).length=5:=(D8 (by kernel_rfl) (by kernel_rfl) (by kernel_rfl) (by kernel_rfl) (by kernel_rfl) ⟨by kernel_rfl,rfl⟩)
section
variable {P:Program}{w:World}{K:Av}{mg:Cb}{base:Heap}
def EX:AD ["_law_draws_here","_law_now","_law_words_here","_law_turn","_law_name","_law_names","_law_more","_law_kinds_here","_law_things"] ["_law_draws_here"] (Ao Se):=FS
def Yr (hm:3<=m)(F:As K "_law_tree" "_law_tree" Se f fd)(T:At K mg)(aF:AJ P w K mg base 1 "_law_next" Mu M6)(eM:AJ P w K mg base 1 "_law_words" Ag9 Af1)(cz:AJ P w K mg base 3 "_law_kind" Fm V6)(eO:AJ P w K mg base m "_law_function" Ah1 spFun):AH P w K mg base BE (m+1) f fd ["_law_draws_here"] Ar7:=by
 show F.By EX λcdv A outer s H vs Q E hr h=>?_
 .show A0 h λad ds z1 cL k=>?_;subst z1;have nd:=EX.nd;have eT:(2000000:Nat)<=sizeLine:=by rw[LJ];omega
  exists Ae (Wh (i:=1) nd rfl (Or.inr rfl) (qe_disp (Lq Ai (qv 0) (Lq Ai Jl (Lq Ai Jl (Lq Ai Jl (Lq Ai Ai qps_nil))))) rfl rfl (by simp) (by decide))) (Ae (D9 (Ds hr) (qv 1) Ai (qf eM hr (AS (qf aF hr (AM (qv 1))) Ag)) rfl) (Ae (Wh (i:=2) nd rfl (Or.inr rfl) (B4 Xr rfl T.FU boot_list (AM (BU hr (qv 1) Ai)))) (Ae (Ex MO rfl (Dw rfl T.BK (AM (Ap Bl (qf aF hr (AM (qv 1))) Ag))) (GV 3 nd) (Ae (Cl 4 nd (Kc KY NI NJ Nj (qv 2))) (Ak (D9 (Ds hr) (BU hr (qv 1) Ai) (qv 4) (El (N':=["_law_k","_law_words_here"]) (n:=1) (js:=[2]) (AY.o ["_law_words_here"]) rfl (Dw rfl T.BK (AM (Ap Fg Ag (Ap Bl (qf aF hr (AM (qv 1))) Ag)))) (λ_ _ _=>(Az (FX 0) Db (qe_bm0K K KY NI NJ Nj (qv 1))))) rfl)))) (Ae (Cl 5 nd (B4 (Ic rfl) rfl T.FU boot_list (AM (BU hr (qv 1) Ai)))) (Ae (Bj (QW.pt (Je (BM Cf (Eh T.AR (qv 5)) Ag) (F7 (BM Cf (Ap Bl (qf aF hr (AM (qv 1))) Ag) Ag)))) (Ae (Cl 6 nd (Ap Fe (B2 (AM (Kc KY NI NJ Nj (qv 2)))) (BU hr (BU hr (qv 1) Ai) (Da Cy (qv 5) Ag (λ_ _=>rfl))))) (Ak (D9 (Ds hr) (BU hr (qv 1) Ai) (Da Cy (qv 5) Ag (λ_ _=>rfl)) (Bu Rj (qv 6) Cc (Bq Ag)) rfl))) Ax) (Ae (Cl 7 nd (Ap op_repL (B2 (AM Ai)) (Ap Bl (qf aF hr (AM (qv 1))) Ag))) (Ae (D9 (Ds hr) (BU hr (qv 1) Ai) Ai (Bk (BV (qv 7) Ai (Bu Rj (BU hr (qv 1) Ai) Cc (Bq (Eh T.AR (qv 7)))))) rfl) (Ae (Ex MO rfl (Dw rfl T.BK (AM (Ap Bl (qf aF hr (AM (qv 1))) Ag))) (GV 3 nd) (Ae (Gw (i0:=7) nd rfl rfl rfl (N':=["_law_k","_law_now"]) (n:=1) (js:=[1]) (AY.o Fm) rfl (Dw rfl T.BK (AM (Ap Bl (qf aF hr (AM (qv 1))) Ag))) (λ_ _ _=>(Az (FX 0) Db (qf cz hr (AM (qv 1)))))) (Ae (Cl 4 nd (Kc KY NI NJ Nj (Da Cy (B2 (AS (qv 2) (qv 5))) (B4 Qn rfl T.HH boot_int (AM (Dj (ER E8 (Eh T.AR (qv 5)) Ag) (Du (ER Cf (Ap Bl (qf aF hr (AM (qv 1))) Ag) Ag))))) (λ_ _=>rfl)))) (Ak (D9 (Ds hr) (BU hr (qv 1) Ai) (qv 4) (Bk (BV (qv 7) (qf cz hr (AM (qv 1))) (Bu Rj (BU hr (qv 1) Ai) (Bq (Ap Gj Ag (Eh T.AR (qv 7)))) Cc))) rfl))))) (Ae (Ab3 (Gw (i0:=8) nd rfl rfl rfl (N':=["_law_name","_law_now"]) (n:=1) (js:=[1]) (AY.o Fm) rfl (Wj (BU hr (qv 1) Ai)) (λ_ _ _=>(Az (FX 0) Db (B4 (show BD _ (.type "tuple") (λxs H Q=>∃p ys,xs=[.ref p]/\((AO K H p ys/\∀l,H l=none->Q (.ref l) (upd H l (.tup ys)))\/BJ K H p ys/\Q (.ref p) H))from D6) rfl T.AZ NA (AM (Ap Fe (B2 (AS Ai (qv 0))) (BU hr (BU hr (qv 1) Ai) (qv 0))))))))) (Ae (Cl 5 nd (B4 (Ic rfl) rfl T.FU boot_list (AM (BU hr (qv 1) Ai)))) (Ae (Bj (BM Cf (Ap Bl (qf aF hr (AM (qv 1))) Ag) Ag) (Ak (Au (Kc KY PySem.F.slot_list_reverse PySem.F.type_list_reverse Ac5 (qv 5)))) Ax) (Ae (Ex MO rfl (Gx (qv 5)) (GV 4 nd) (Ak (Au (Gc KY LQ LR Ec (qv 8) (AM (qf eO hr (BV (qv 1) (qv 4) (Ap Bl (qf aF hr (AM (qv 1))) Ag)))))))) (Ak (Ar (B4 D6 rfl T.AZ NA (AM (Ap Fe (B2 (AM Ai)) (qv 8))))))))))))))))))
  show Dt λd hd=>?_;generalize z1:upd H d _=H1;obtain⟨s1,g1⟩:=Bz hd z1;show Ad rfl λar bU=>?_;generalize z2:upd H1 ar _=H2;obtain⟨s2,g2⟩:=Bz bU z2;show λaf b8=>?_;generalize z3:upd H2 af _=H3;obtain⟨s3,g3⟩:=Bz b8 z3;show λas has=>?_;generalize z4:upd H3 as _=H4;obtain⟨s4,g4⟩:=Bz has z4;show⟨s4 _ _ (s3 _ _ (s2 _ _ g1)),(Bx [(Sum.inr "draws",.ref ad),(Sum.inr "records",.ref ar),(Sum.inr "functions",.ref af),(Sum.inr "seen",.ref as),(Sum.inr "given",.str "")] rfl (by show 5<=15;decide) ?_)⟩;rw[mk0];have bg:ar≠d:=(Af g1 bU).symm;have be:af≠d:=(Af (s2 _ _ g1) b8).symm;have dw:ar≠af:=Af g2 b8;have cf:=s1.trans (s2.trans (s3.trans s4));have k5:AG ad H (upd H4 d (.dK (HC ad ar af as))):=λq u e n=>by rw[Aj (Af e hd)];show cf _ _ e
  have d5:upd H4 d (.dK (HC ad ar af as)) ad=some (.lst (ds.map V.int)):=by rw[Aj (Af cL hd)];show cf _ _ cL
  have g5:upd H4 d (.dK (HC ad ar af as)) d=some (.dK (HC ad ar af as)):=Ah;have r5:upd H4 d (.dK (HC ad ar af as)) ar=some (.dK []):=by rw[Aj bg];show s4 _ _ (s3 _ _ g2)
  have f5:upd H4 d (.dK (HC ad ar af as)) af=some (.dK []):=by rw[Aj be];show s4 _ _ g3
  generalize upd H4 d (.dK (HC ad ar af as))=H5 at *;have dI:H ar=none:=s1.free bU;have dF:H af=none:=(s1.trans s2).free b8;show Ib (kv5_at (ad:=ad) (ar:=ar) (af:=af) (as:=as)) λe1 e2 e3 e4 e5 z1=>?_;obtain⟨e6,e7⟩:=z1
  walk_at "n"
  show Ad rfl (Al d ad rfl ⟨(Ad g5 e1),ds,d5⟩ λn6 H6 bG cB=>(Aq n6 rfl λak ST H7 gw cJ s7 gk=>?_));have cc:d≠ad:=Bd g5 d5 (by simp);have g6:=bG _ _ g5 cc;have g7:=s7 _ _ g6;show Ad rfl (Al d _ rfl (DD.k (k:=Sum.inr "stock") g7 (by show 5<sizeLine;omega)) ?_);have eK:ak≠d:=(Af g6 cJ).symm;have eL:ar≠ad:=Bd r5 d5 (by simp);have eJ:af≠ad:=Bd f5 d5 (by simp);have dt:ak≠ad:=by
   obtain⟨a4,h⟩:=cB;show(Af h cJ).symm
  have T8:Tree (upd H7 d (.dK (L2.putK (HC ad ar af as) (Sum.inr "stock") (.ref ak)))) d ad ak ⟨[],[],[],"",ar,(af,some (.ref ak)),[]⟩ ST:=by
   have pv:∀{x:Str},x≠"stock"->Bm (L2.putK (HC ad ar af as) (Sum.inr "stock") (.ref ak)) (Sum.inr x)=Bm (HC ad ar af as) (Sum.inr x):=λh=>by rw[Ci,KH λz=>h (MX z)]
   show Tl _ [] [] ⟨Ah,by rw[pv (by decide)];show e1,by rw[pv (by decide)];show e2,by rw[pv (by decide)];show e3,by rw[Ci,KJ rfl],by rw[pv (by decide),e4];simp,by rw[pv (by decide),e5];simp,KN BO.1 (by show 6<=7;decide),λ_=>KN BO.1 (by show 6<=6;decide),by rw[Aj bg];show s7 _ _ (bG _ _ r5 eL),by rw[Aj be];show s7 _ _ (bG _ _ f5 eJ),.nil,.nil,bg,be,dw,(λp hp=>by cases hp),(λp hp=>by cases hp),(λb hb=>by cases hb),by rw[Aj eK];show gk,dt,rfl,?_⟩;obtain⟨a4,h⟩:=cB;show⟨a4,by rw[Aj cc.symm];show s7 _ _ h⟩
  have k8:AG ad H (upd H7 d (.dK (L2.putK (HC ad ar af as) (Sum.inr "stock") (.ref ak)))):=λq u e n=>by rw[Aj (Af e hd)];show s7 _ _ (bG _ _ (k5 q u e n) n)
  generalize upd H7 d (.dK (L2.putK (HC ad ar af as) (Sum.inr "stock") (.ref ak)))=H8 at *
  try dsimp only
  show Jt (id T8) λel eW eV aq=>?_;show Dt (Ad rfl (Al d _ rfl (by rw[← aq.vk];show AL.k (k:=Sum.inr "stock") aq.hd) (Al ak _ rfl (.inl (AO.of aq.hk)) λI b2=>?_)));generalize z9:upd H8 I _=H9;obtain⟨s9,cH⟩:=Bz b2 z9;have T9:=T8.bar b2 s9 (by rw[cH];simp);have a3:I≠ad/\I≠ak:=by
   obtain⟨a4,h⟩:=aq.dr;show⟨(Af h b2).symm,(Af aq.hk b2).symm⟩
  have k9:AG ad H H9:=k8.trans s9;have b7:H I=none:=by
   cases h:H I with
   | none=>rfl
   | some u=>have:=k8 _ _ h a3.1;rw[b2]at this;cases this
  walk_at "n"
  obtain⟨S1,az⟩:∃S1:GS,S1=({AB:=[],AC:=[],seen:=[],given:="",ar:=ar,af:=(af,some (.ref ak)),bs:=[I]}:GS):=⟨_,rfl⟩;have T9:Tree H9 d ad ak {S1 with AB:=[]} ST:=by rw[az];show T9
  have eb:S1.bs=[I]:=by rw[az]
  have ef:S1.AC=[]:=by rw[az]
  have ea:H S1.ar=none:=by rw[az];show dI
  have d8:H S1.af.1=none:=by rw[az];show dF
  have eS:ST.length=26:=gw.1
  show Ad rfl (Al d ad rfl T9.DC.dr λcV eP bv e9=>(Cd rfl rfl (by show(0:Int)<3;decide) (Dh (cV%3) rfl (by omega) (by omega) (Js (n:=(cV%3).toNat) (λi σ X=>∃j AB o3 o4,σ=[some (.ref ad),some (.ref d),some (.ref I),o3,o4,none,none,none,none]/\Tree X d ad ak {S1 with AB:=AB} ST/\X I=some (.lst ((ST.take j).map V.str))/\CF ST j AB/\26<=j+5*i/\j<=26/\AB.length<=i/\AG ad H X)
   (Cm 26 [] _ _ rfl (T9.keep bv e9) (by rw[LP (by omega)];show bv _ _ cH a3.1) ⟨List.nodup_nil,λn fl h=>by cases h⟩ (by omega) (Az (by omega) (by simp) (DZ k9 bv))) ?_ ?_))))
  .rintro i σ X hi ⟨j,AB,o3,o4,rfl,TX,a7,RO,ac,ae,bY,kX⟩;obtain⟨j,rfl⟩:∃j',j=j'+1:=⟨j-1,by omega⟩;show Bg (Og (ST:=ST) (j:=j) (by omega)) λx hx aI aB=>Dt (Bh rfl (.inl ⟨rfl,_,AO.of a7⟩) (Ep I _ (.str x) rfl rfl a7 aI ?_));rw[aB];have aV:=TX.wr (zs:=(ST.take j).map V.str) (by rw[show({S1 with AB:=AB}:GS).bs=S1.bs from rfl,eb];show KD.mpr rfl) a3.1 a3.2 a7;have dO:upd X I (.lst ((ST.take j).map V.str)) I=some (.lst ((ST.take j).map V.str)):=Ah;have ai:AG ad H (upd X I (.lst ((ST.take j).map V.str))):=λq u e n=>by rw[Aj (Af e b7)];show kX q u e n
   generalize upd X I (.lst ((ST.take j).map V.str))=X1 at *
   walk_at "n"
   show Ad rfl (Al d ad rfl aV.DC.dr λb3 X2 bw ci=>(Cd rfl rfl (by show(0:Int)<4;decide) (Aw rfl rfl (Dh (1+b3%4) rfl (by omega) (by omega) λD hD=>?_))));have d3:=aV.keep bw ci;have aY:=bw _ _ dO a3.1;have bF:=DZ ai bw;have bM:D≠I:=(Af aY hD).symm;have cZ:D≠ad:=by
    obtain⟨a4,h⟩:=ci;show(Af h hD).symm
   have fD:H D=none:=by
    cases h:H D with
    | none=>rfl
    | some u=>have:=bF _ _ h cZ;rw[hD]at this;cases this
   show E5 (n:=(1+b3%4).toNat) (λi ys σ G=>(∃o0,σ=[o0,some (.ref I)])/\∃fl,ys=fl.map V.str/\G D=some (.lst ys)/\G I=some (.lst ((ST.take (j-i)).map V.str))/\fl.length=i/\fl.Nodup/\(∀y∈fl,y∈ST.drop (j-i))/\AG I X2 G) (by omega)
    ⟨⟨_,rfl⟩,[],rfl,Ah,by rw[Aj bM.symm,Nat.sub_zero];show aY,rfl,List.nodup_nil,(λy hy=>by cases hy),λq u e _=>by rw[Aj (Af e hD)];show e⟩ (λi ys σ G hi ⟨_,fl,e,hd,_,l,_⟩=>⟨hd,by rw[e,JR,l];show JV _⟩) ?_ ?_
   .rintro i2 ys σ G dU ⟨⟨o0,rfl⟩,fl,rfl,aC,hG,bJ,bd,aG,kG⟩;obtain⟨j',ej⟩:∃j',j-i2=j'+1:=⟨j-i2-1,by omega⟩;have dB:j-(i2+1)=j':=by omega
    rw[ej]at hG aG;rw[dB];show Bg (Og (ST:=ST) (j:=j') (by omega)) λy hy dy dz=>Bh rfl (.inl ⟨rfl,_,AO.of hG⟩) (Ep I _ (.str y) rfl rfl hG dy ?_);rw[dz];show Az (by rw[Aj bM];show aC) ⟨_,rfl⟩ (Ko (fl++[y]) (by simp) Ah (by rw[Aj bM.symm,Ah]) (by simp[bJ]) ?_ ⟨λz hz=>?_,λq u e n=>?_⟩)
    .show LX.mpr (Az bd (by simp) λa ha b hb e=>?_);have e:a=y:=e.trans (KD.mp hb);show Ah7 gw.2.1 hy (e▸aG a ha)
    .rcases KQ.mp hz with h|h
     .show Hy (RG _) (aG z h)
     .rw [KD.mp h];show Ru hy
    .rw [Aj (Af e hD),Aj n];show kG q u e n
   .rintro ys σ G ⟨_,fl,rfl,aC,hG,bJ,bd,aG,kG⟩;show Jt d3 λek di eU aW=>?_;have dR:I∈({S1 with AB:=AB}:GS).bs:=by rw[show({S1 with AB:=AB}:GS).bs=S1.bs from rfl,eb];show KD.mpr rfl
    have au:=aW.move I kG (by obtain⟨a4,h⟩:=aW.dr;show⟨a4,kG _ _ h a3.1.symm⟩) (C7 (Bd aY aW.hd (by simp)) (Bd aY aW.hr (by simp)) (Bd aY aW.hf (by simp)) a3.2) (λt xs g=>Bd g aY (by simp)) (.inr dR) (λb hb h=>by
     by_cases c:b=I
     .rw [c,hG];simp
     .cases e:X2 b with
      | none=>show absurd e h
      | some u=>rw[kG _ _ e c];simp)
    have dk:di.length<=10:=by rw[aW.tr.len];show AB.length<=10;omega
    show Ad rfl (Al d _ rfl (by rw[← au.vr];show AL.k (k:=Sum.inr "records") au.hd) (Ad rfl (Al S1.ar _ rfl (DD.k (k:=Sum.inr x) au.hr (by omega)) ?_)));have T3:=au.recP (n:=x) aC cZ (by rw[show({S1 with AB:=AB}:GS).bs=S1.bs from rfl,eb];intro b hb;rw[KD.mp hb];show bM) (by omega);have cC:(1+b3%4).toNat<=4/\1<=(1+b3%4).toNat:=by omega
    show Cm (j-(1+b3%4).toNat) (F1 AB x fl) _ _ rfl T3 (by rw[Aj (Bd hG au.hr (by simp))];show hG) ((RO.mono (by omega)).put (Fb (Hy (by omega) (Ru hx)) ?_ (by omega) bd aG)) (by omega) (Az (by omega) ?_ λq u e n=>?_)
    .intro z;rw[z]at bJ;simp at bJ;omega
    .have:=Jm AB x fl;omega
    .have dQ:=bF q u e n;have du:q≠S1.ar:=Af e ea;rw[Aj du];show kG q u dQ (Af e b7)
  .rintro σ X ⟨j,AB,o3,o4,rfl,TX,a7,RO,ac,ae,bY,kX⟩;have ac:16<=j:=by omega
   have bY:AB.length<=2:=by omega
   have ac:16<=j:=by omega
   show Jt (id TX) λkvs kr kf O=>?_;have b9:∀{Y:Hp},AA X Y->AL Y d (.str "records") (some (.ref S1.ar)):=λs=>by rw[← O.vr];show AL.k (k:=Sum.inr "records") (s _ _ O.hd)
   try dsimp only
   show Dt (Ad rfl (Al d _ rfl (b9 (AA.refl X)) (Al S1.ar kr rfl (.of O.hr) λan aa=>?_)));rw[O.tr.keys];generalize z:upd X an _=X1;obtain⟨s1,g1⟩:=Bz aa z;have T1:=TX.bar aa s1 (by rw[g1];simp);have a6:an≠ad/\an≠ak/\an≠I:=by
    obtain⟨a4,h⟩:=O.dr;show Az ((Af h aa).symm) ((Af O.hk aa).symm) ((Af a7 aa).symm)
   have ai:AG ad H X1:=kX.trans s1;have dH:H an=none:=by
    cases h:H an with
    | none=>rfl
    | some u=>have:=kX _ _ h a6.1;rw[aa]at this;cases this
   have aJ:=s1 _ _ a7;obtain⟨NM,bO⟩:∃NM,NM=AB.map (·.1):=⟨_,rfl⟩;have ay:NM.Nodup/\∀x∈NM,x∈ST/\x∈ST.drop j:=by
    rw[bO];show⟨RO.nd,λx hx=>?_⟩;show Am (KI.mp hx) λp hp z1=>?_;subst z1;have:=(RO.ok p.1 p.2 hp).1;show⟨MZ this,this⟩
   rw[← bO]at g1;have dY:∀x∈NM,x∈AB.map (·.1):=λx hx=>by rw[← bO];show hx
   walk_at "n"
   obtain⟨S2,b0⟩:∃S2:GS,S2=S1.bar an:=⟨_,rfl⟩;have T1:Tree X1 d ad ak {S2 with AB:=AB} ST:=by rw[b0];show T1
   have aM:S2.bs=[an,I]:=by rw[b0,← eb]
   have cE:S2.AC=[]:=by rw[b0];show ef
   have d9:H S2.ar=none:=by rw[b0];show ea
   have cD:H S2.af.1=none:=by rw[b0];show d8
   have dn:∀r:List (Str×List Str),I∈({S2 with AB:=r}:GS).bs:=λr=>by show I∈S2.bs;rw[aM];simp
   have ee:∀r:List (Str×List Str),an∈({S2 with AB:=r}:GS).bs:=λr=>by show an∈S2.bs;rw[aM];simp
   show join (λσ' Y=>∃o6 j AB,σ'=[some (.ref ad),some (.ref d),some (.ref I),o3,o4,some (.ref an),o6,none,none]/\Tree Y d ad ak {S2 with AB:=AB} ST/\Y I=some (.lst ((ST.take j).map V.str))/\Y an=some (.lst (NM.map V.str))/\CF ST j AB/\15<=j/\j<=26/\AB.length<=3/\AG ad H Y/\∀x∈NM,x∈ST/\x∉ST.take j) ?_ λrest=>?_
   .rintro σ Y ⟨o6,j,AB,rfl,TY,a7,cr,RO,ac,ae,bY,kY,cm⟩
    try dsimp only
    show Dt ⟨zl 1,λl1 ag=>?_⟩;generalize z:upd Y l1 _=Y1;obtain⟨s1,aN⟩:=Bz ag z;show Ad rfl (Al d ad rfl ((TY.same s1).DC.dr) λbb Y2 a0 aA=>(Cd rfl rfl (by show(0:Int)<3;decide) (Lb l1 _ (.str "number") rfl rfl ?_ (by omega) (by omega) λkl bA=>?_)))
    .show a0 _ _ aN ?_;obtain⟨a4,h⟩:=TY.DC.dr.dr;show(Af h ag).symm
    show Am (show ∃c:Nat,bb%3=c/\c<3 from La bb 3 (by decide)) λc ec lc=>?_;have e1:List.replicate (bb%3).toNat (V.str "number")=(List.replicate c ("number":Str)).map V.str:=by rw[ec,List.map_replicate];rfl
    rw[e1];generalize z:upd Y2 kl _=Y3;obtain⟨s3,g3⟩:=Bz bA z;have T3:=((TY.same s1).keep a0 aA).same s3;have dc:AG ad H Y3:=(DZ (kY.trans s1) a0).trans s3;have bn:=s3 _ _ (a0 _ _ (s1 _ _ a7) a3.1);have bp:=s3 _ _ (a0 _ _ (s1 _ _ cr) a6.1);have bf:kl≠ad/\kl≠I/\kl≠an:=by
     obtain⟨a4,h⟩:=aA;show Az ((Af h bA).symm) ((Af (a0 _ _ (s1 _ _ a7) a3.1) bA).symm) ((Af (a0 _ _ (s1 _ _ cr) a6.1) bA).symm)
    walk_at "n"
    show Jt (id T3) λkvs kr kf O=>?_;show Ad rfl (Ad rfl (Al d _ rfl (by rw[← O.vk];show AL.k (k:=Sum.inr "stock") O.hd) (Ad rfl (Al kl _ rfl (.inl (AO.of g3)) (Ad rfl (Al ak _ rfl (AO.of O.hk) λpl aH=>?_))))));have b6:Ef (ST.map V.str) none (some (((List.replicate c ("number":Str)).map V.str).length:Nat))=(ST.take c).map V.str:=by rw[JR,MT];show cut_to ST c
    rw[b6];generalize z:upd Y3 pl _=Y4;obtain⟨s4,g4⟩:=Bz aH z;show⟨zl 3,λtl aP=>?_⟩;generalize z:upd Y4 tl _=Y5;obtain⟨s5,g5⟩:=Bz aP z;have a8:=(O.same s4).same s5;have aQ:pl≠ad/\pl≠I/\pl≠an:=by
     obtain⟨a4,h⟩:=O.dr;show Az ((Af h aH).symm) ((Af bn aH).symm) ((Af bp aH).symm)
    have dC:kf=[]:=by
     have:=O.tf.len;rw[show({S2 with AB:=AB}:GS).AC=[] from cE]at this;show List.length_eq_zero_iff.mp this
    show Ad rfl (Al d _ rfl (by rw[← a8.vf];show AL.k (k:=Sum.inr "functions") a8.hd) (Al S2.af.1 _ rfl (DD.k (k:=Sum.inr "main") a8.hf (by rw[dC];show 0<sizeLine;omega)) ?_))
    have T6:=a8.funP (n:="main") (v1:=.ref kl) (v3:=.ref pl) (fh:=⟨List.replicate c "number","number",ST.take c⟩) g5 (Dh kl rfl bf.1 (s5 _ _ (s4 _ _ g3)) (by rw[MT];omega)) (Dh pl rfl aQ.1 (s5 _ _ g4) (by rw[LL];omega)) (λb hb=>by
     have hb:b∈[an,I]:=by rw[← aM];show hb
     simp only[JT,KU,MB]at hb
     rcases hb with rfl|rfl
     .show⟨λz=>bf.2.2 (V.ref.inj z),λz=>aQ.2.2 (V.ref.inj z)⟩
     .show⟨λz=>bf.2.1 (V.ref.inj z),λz=>aQ.2.1 (V.ref.inj z)⟩)
    have eA:upd Y5 S2.af.1 (.dK (L2.putK kf (Sum.inr "main") (.ref tl))) I=some (.lst ((ST.take j).map V.str)):=by rw[Aj (Bd (s5 _ _ (s4 _ _ bn)) a8.hf (by simp))];show s5 _ _ (s4 _ _ bn)
    have eD:upd Y5 S2.af.1 (.dK (L2.putK kf (Sum.inr "main") (.ref tl))) an=some (.lst (NM.map V.str)):=by rw[Aj (Bd (s5 _ _ (s4 _ _ bp)) a8.hf (by simp))];show s5 _ _ (s4 _ _ bp)
    have de:AG ad H (upd Y5 S2.af.1 (.dK (L2.putK kf (Sum.inr "main") (.ref tl)))):=λq u e n=>by rw[Aj (Af e cD)];show s5 _ _ (s4 _ _ (dc q u e n))
    generalize upd Y5 S2.af.1 (.dK (L2.putK kf (Sum.inr "main") (.ref tl)))=Y6 at *;have em:F1 ({S2 with AB:=AB}:GS).AC "main" (⟨List.replicate c "number","number",ST.take c⟩:FH)=[(("main":Str),(⟨List.replicate c "number","number",ST.take c⟩:FH))]:=by rw[show({S2 with AB:=AB}:GS).AC=[] from cE];rfl
    rw[em]at T6;have cx:("main":Str)∉ST:=λz=>(gw.2.2.1 _ z).2 (by decide);have d0:DR ST j NM {S2 with AB:=AB,AC:=[(("main":Str),(⟨List.replicate c "number","number",ST.take c⟩:FH))]}:=by
     show⟨by simp,⟨ay.1,λx hx=>cm x hx⟩,λf hf=>?_,λf h hf=>?_,(Bh (KD.mpr rfl) rfl λk hk=>List.eq_of_mem_replicate hk),by show 1<=3;decide⟩
     .have hf:f="main":=by simpa using hf
      rw[hf];show Az (.inl rfl) (λz=>cx (OB z)) λz=>cx (cm _ z).1
     .have hf:h=⟨List.replicate c "number","number",ST.take c⟩:=by
       have:=KD.mp hf;show LM Prod.snd this
      rw[hf];show D8 (λk hk=>.inl (List.eq_of_mem_replicate hk)) (.inl rfl) ?_ ?_ (gw.2.1.sublist (OD _ _)) λx hx=>OB hx
      .show (ST.take c).length=(List.replicate c _).length
       rw[LL,MT];omega
      .show (List.replicate c _).length<=4
       rw[MT];omega
    show Ad rfl (Al d ad rfl T6.DC.dr λcW Y7 bI d7=>(Cd rfl rfl (by show(0:Int)<3;decide) (Dh (cW%3) rfl (by omega) (by omega) (Js (n:=(cW%3).toNat) (λi σ X=>∃j NM AC p3 p4 p7,σ=[some (.ref ad),some (.ref d),some (.ref I),p3,p4,some (.ref an),o6,p7,none]/\Tree X d ad ak {S2 with AB:=AB,AC:=AC} ST/\X I=some (.lst ((ST.take j).map V.str))/\X an=some (.lst (NM.map V.str))/\DR ST j NM {S2 with AB:=AB,AC:=AC}/\15<=j+i/\j<=26/\AC.length<=1+i/\AG ad H X)
     (Kk j NM _ _ _ _ rfl (T6.keep bI d7) (bI _ _ eA a3.1) (bI _ _ eD a6.1) d0 (C7 (by omega) ae (by show 1<=1+0;omega) (DZ de bI))) ?_ ?_))))
    .rintro i σ X hi ⟨j,NM,AC,p3,p4,p7,rfl,TX,cq,cs,FO,ac,ae,aG,kX⟩;show Ad rfl (Al d ad rfl TX.DC.dr λcX X1 a5 aK=>(Cd rfl rfl (by show(0:Int)<5;decide) (Dh (cX%5) rfl (by omega) (by omega) λD hD=>?_)));have aV:=TX.keep a5 aK;have aJ:=a5 _ _ cq a3.1;have aj:=a5 _ _ cs a6.1;have ai:=DZ kX a5;have nD:D≠ad/\D≠I/\D≠an:=by
      obtain⟨a4,h⟩:=aK;show Az ((Af h hD).symm) ((Af aJ hD).symm) ((Af aj hD).symm)
     have sD:=(AA.refl X1).upd (o:=.lst []) hD;show E5 (n:=(cX%5).toNat) (λi ys σ G=>(∃o0,σ=[o0,some (.ref d)])/\G D=some (.lst ys)/\∃ks,ys=ks.map V.str/\ks.length=i/\(∀k∈ks,Er {S2 with AB:=AB,AC:=AC} k)/\AG ad X1 G/\BS G ad) (by omega)
      (Az ⟨_,rfl⟩ Ah (Rg [] rfl rfl (λk hk=>by cases hk) (AA.AN sD) (BS.up aV.DC.dr.dr sD))) (λi ys σ G hi ⟨_,hd,ks,e,l,_⟩=>⟨hd,by rw[e,JR,l];show JV _⟩) ?_ ?_
     .rintro i2 ys σ G dU ⟨⟨o0,rfl⟩,aC,ks,rfl,cU,bX,kG,dG⟩;show Ad rfl (Ei d ad _ rfl ((aV.keep kG dG).DC) (by show AB.length<=10;omega) λkd CU G2 a0 aA=>C7 (a0 _ _ aC nD.1) ⟨_,rfl⟩ Ah (Rg (ks++[kd]) (by simp) (by simp[cU]) (λk hk=>?_) (λq u e n=>?_) ?_))
      .rcases KQ.mp hk with h|h
       .show bX k h
       .rw [KD.mp h];show CU
      .rw [Aj (Af e hD)];show a0 _ _ (kG q u e n) n
      .obtain⟨a4,h⟩:=aA;show⟨a4,by rw[Aj nD.1.symm];show h⟩
     .rintro ys σ G ⟨_,aC,ks,rfl,cU,bX,kG,dG⟩;have TG:=aV.keep kG dG;have cn:=kG _ _ aJ a3.1;have br:=kG _ _ aj a6.1;have cQ:=DZ ai kG;have eG:ks.length<=4:=by omega
      dsimp only[BH]
      walk_at "n"
      have eH:I∈({S2 with AB:=AB,AC:=AC}:GS).bs:=by show I∈S2.bs;rw[aM];simp
      have eI:an∈({S2 with AB:=AB,AC:=AC}:GS).bs:=by show an∈S2.bs;rw[aM];simp
      show join (λσ' Y=>∃(nm:Str) (j':Nat) (a9:List Str),σ'=[some (.ref ad),some (.ref d),some (.ref I),some (.int (0+i)),some (.str nm),some (.ref an),o6,some (.ref D),none]/\Tree Y d ad ak {S2 with AB:=AB,AC:=AC} ST/\Y I=some (.lst ((ST.take j').map V.str))/\Y an=some (.lst (a9.map V.str))/\Y D=some (.lst (ks.map V.str))/\(j'<=j/\j<=j'+1)/\(a9.Nodup/\∀x∈a9,x∈NM)/\(nm∈ST/\nm∉AC.map (·.1)/\nm∉ST.take j'/\nm∉a9)/\AG ad H Y) ?_ λrest=>?_
      .rintro σ Y ⟨nm,j',a9,rfl,TY,eC,eE,bS,dV,dP,bE,kY⟩;have eQ:True:=trivial;show Ad rfl (Ad rfl (Ei d ad _ rfl TY.DC (by show AB.length<=10;omega) λkd CU Y1 a5 aK=>Jt (TY.keep a5 aK) λkvs kr kf O=>?_));have cI:=a5 _ _ bS nD.1;show Ad rfl (Al d _ rfl (by rw[← O.vk];show AL.k (k:=Sum.inr "stock") O.hd) (Ad rfl (Al D _ rfl (.inl (AO.of cI)) (Aw rfl rfl (Ad rfl (Al ak _ rfl (AO.of O.hk) λpl aH=>?_))))));have cC:(26:Int)-((ks.map V.str).length:Nat)=((26-ks.length:Nat):Int):=by rw[JR];omega
       have b6:Ef (ST.map V.str) (some (26-((ks.map V.str).length:Nat))) none=(ST.drop (26-ks.length)).map V.str:=by rw[cC];show cut_from ST _ (by omega)
       rw[b6];generalize z:upd Y1 pl _=Y4;obtain⟨s4,g4⟩:=Bz aH z;show⟨zl 3,λtl aP=>?_⟩;generalize z:upd Y4 tl _=Y5;obtain⟨s5,g5⟩:=Bz aP z;have a8:=(O.same s4).same s5;have aJ:=a5 _ _ eC a3.1;have aj:=a5 _ _ eE a6.1;have aQ:pl≠ad/\pl≠I/\pl≠an:=by
        obtain⟨a4,h⟩:=O.dr;show Az ((Af h aH).symm) ((Af aJ aH).symm) ((Af aj aH).symm)
       have eY:kf.length<=10:=by rw[O.tf.len];show AC.length<=10;omega
       show Ad rfl (Al d _ rfl (by rw[← a8.vf];show AL.k (k:=Sum.inr "functions") a8.hd) (Ad rfl (Al S2.af.1 _ rfl (DD.k (k:=Sum.inr nm) a8.hf (by omega)) ?_)))
       have T6:=a8.funP (n:=nm) (v1:=.ref D) (v3:=.ref pl) (fh:=⟨ks,kd,ST.drop (26-ks.length)⟩) g5 (Dh D rfl nD.1 (s5 _ _ (s4 _ _ cI)) (by show ks.length<=100;omega)) (Dh pl rfl aQ.1 (s5 _ _ g4) (by show(ST.drop _).length<=100;rw[NB];omega)) (λb hb=>by
        have hb:b∈[an,I]:=by rw[← aM];show hb
        simp only[JT,KU,MB]at hb
        rcases hb with rfl|rfl
        .show⟨λz=>nD.2.2 (V.ref.inj z),λz=>aQ.2.2 (V.ref.inj z)⟩
        .show⟨λz=>nD.2.1 (V.ref.inj z),λz=>aQ.2.1 (V.ref.inj z)⟩)
       show Kk j' a9 (F1 AC nm ⟨ks,kd,ST.drop (26-ks.length)⟩) _ _ _ rfl T6 (by rw[Aj (Bd (s5 _ _ (s4 _ _ aJ)) a8.hf (by simp))];show s5 _ _ (s4 _ _ aJ)) (by rw[Aj (Bd (s5 _ _ (s4 _ _ aj)) a8.hf (by simp))];show s5 _ _ (s4 _ _ aj)) (FO.add gw dV.1 dP bE (D8 bX CU (by show(ST.drop _).length=ks.length;rw[NB];omega) eG (gw.2.1.sublist (List.drop_sublist _ _)) λx hx=>MZ hx) (by show AC.length<=2;omega)) (C7 (by omega) (by omega) ?_ λq u e n=>by rw[Aj (Af e cD)];show s5 _ _ (s4 _ _ (a5 _ _ (kY q u e n) n)));have:=Jm AC nm (⟨ks,kd,ST.drop (26-ks.length)⟩:FH);omega
      .show Ad rfl (Bh rfl (zl 2) λl hl=>?_);generalize z:upd G l _=G1;obtain⟨s1,aN⟩:=Bz hl z;have am:=TG.same s1;have nl:l≠ad:=by
        obtain⟨a4,h⟩:=dG;show(Af h hl).symm
       have cy:∀Y,AG ad G1 Y->BS Y ad->Y l=some (.lst [.ref I,.ref an])/\∃x,(∃j',((ST.take j).map V.str)[((ST.take j).map V.str).length-1]?=some (.str x)/\((ST.take j).map V.str).dropLast=(ST.take j').map V.str/\ST[j']?=some x/\j=j'+1)/\Y I=some (.lst ((ST.take j).map V.str)):=λY kb dr=>by
        obtain⟨j',rfl⟩:∃j',j=j'+1:=⟨j-1,by omega⟩;show Bg (Og (ST:=ST) (j:=j') (by omega)) λx hx aI aB=>⟨kb _ _ aN nl,(Aq x (Dh j' aI aB hx rfl) (kb _ _ (s1 _ _ cn) a3.1))⟩
       have ck:∀Y,AG ad G1 Y->BS Y ad->∀x j',((ST.take j).map V.str).dropLast=(ST.take j').map V.str->ST[j']?=some x->j=j'+1->∃(nm:Str) (j':Nat) (a9:List Str),[some (.ref ad),some (.ref d),some (.ref I),some (.int (0+i)),some (.str x),some (.ref an),o6,some (.ref D),none]=[some (.ref ad),some (.ref d),some (.ref I),some (.int (0+i)),some (.str nm),some (.ref an),o6,some (.ref D),none]/\Tree (upd Y I (.lst ((ST.take j).map V.str).dropLast)) d ad ak {S2 with AB:=AB,AC:=AC} ST/\upd Y I (.lst ((ST.take j).map V.str).dropLast) I=some (.lst ((ST.take j').map V.str))/\upd Y I (.lst ((ST.take j).map V.str).dropLast) an=some (.lst (a9.map V.str))/\upd Y I (.lst ((ST.take j).map V.str).dropLast) D=some (.lst (ks.map V.str))/\(j'<=j/\j<=j'+1)/\(a9.Nodup/\∀x∈a9,x∈NM)/\(nm∈ST/\nm∉AC.map (·.1)/\nm∉ST.take j'/\nm∉a9)/\AG ad H (upd Y I (.lst ((ST.take j).map V.str).dropLast)):=λY kb dr x j' aB hx ej=>by
        have bZ:x∈ST.take j:=by rw[ej,Ct hx];simp
        show Lb x j' NM rfl ((am.keep kb dr).wr eH a3.1 a3.2 (kb _ _ (s1 _ _ cn) a3.1)) (by rw[Ah,aB]) (by rw[Aj a6.2.2];show kb _ _ (s1 _ _ br) a6.1) (by rw[Aj nD.2.1];show kb _ _ (s1 _ _ aC) nD.1) (C7 (by omega) ⟨FO.nm.1,λx h=>h⟩ (C7 (OB bZ) (λz=>(FO.ks x z).2.1 bZ) (λz=>W0 gw.2.1 (Ru hx) z) λz=>(FO.nm.2 x z).2 bZ) λq u e n=>by rw[Aj (Af e b7)];show kb _ _ (s1 _ _ (cQ q u e n)) n)
       show Ad rfl (Al an _ rfl (.inl (AO.of (s1 _ _ br))) (Aw rfl rfl (Ad rfl (B5 (λc=>?_) (λc=>?_)))))
       .show Ad rfl (Al d ad rfl am.DC.dr λdq G2 a0 aA=>(Nl rfl rfl (by show(0:Int)<4;decide) rfl (.inr (Ad rfl ?_))));show Fc (cy G2 a0 aA) λbB z1=>Am z1 λx z2 a7=>?_;obtain⟨j',aI,aB,hx,ej⟩:=z2;generalize (decide ((λi j=>V.int (i%j)) dq 4=V.int 0))=cb
        cases cb with
        | false=>show Cm l _ 0 (.ref I) rfl rfl (AO.of bB) rfl (.inl ⟨rfl,_,AO.of a7⟩) (Ep I _ (.str x) rfl rfl a7 aI (rest _ _ (ck G2 a0 aA x j' aB hx ej)))
        | true=>
         obtain⟨aU,y,rfl⟩:∃aU y,NM=aU++[y]:=by
          rcases List.eq_nil_or_concat NM with rfl|⟨zs,y,rfl⟩
          .cases c
          .show Uj zs y (by simp)
         have bo:=a0 _ _ (s1 _ _ br) a6.1;have ba:y∈aU++[y]:=by simp
         have ce:=LX.mp FO.nm.1;have eN:((aU++[y]).map V.str).dropLast=aU.map V.str:=by simp
         show Cm l _ 1 (.ref an) rfl rfl (AO.of bB) rfl (.inl ⟨rfl,_,AO.of bo⟩) (Ep an _ (.str y) rfl rfl bo (by simp) (rest _ _ (Lb y j aU rfl ((am.keep a0 aA).wr eI a6.1 a6.2.1 bo) (by rw[Aj a6.2.2.symm];show a7) (by rw[Ah,eN]) (by rw[Aj nD.2.2];show a0 _ _ (s1 _ _ aC) nD.1) (C7 (by omega) ⟨ce.1,λx h=>MD _ h⟩ (C7 ((FO.nm.2 y ba).1) (λz=>(FO.ks y z).2.2 ba) ((FO.nm.2 y ba).2) λz=>ce.2.2 y z y (by simp) rfl) λq u e n=>by rw[Aj (Af e dH)];show a0 _ _ (s1 _ _ (cQ q u e n)) n))))
       .show Fc (cy G1 (λ_ _ e _=>e) am.DC.dr.dr) λbB z1=>Am z1 λx z2 a7=>?_;obtain⟨j',aI,aB,hx,ej⟩:=z2;show .inr (Aq false rfl (Cm l _ _ (.ref I) rfl rfl (AO.of bB) rfl (.inl ⟨rfl,_,AO.of a7⟩) (Ep I _ (.str x) rfl rfl a7 aI (rest _ _ (ck G1 (λ_ _ e _=>e) am.DC.dr.dr x j' aB hx ej)))))
    .rintro σ X ⟨j3,d1,AC,p3,p4,p7,rfl,TX,cq,cs,FO,ac,ae,aG,kX⟩;show Jt (id TX) λkvs kr kf O=>?_
     try dsimp only
     show C6 S2.ar kr O.hr (Ad rfl (Al d _ rfl (by rw[← O.vr];show AL.k (k:=Sum.inr "records") O.hd) (Al S2.ar kr rfl O.hr λo D hD=>?_)));have ca:S2.ar≠D:=λz=>by rw[← z,Ah]at hD;cases hD
     have fD:X D=none:=by rw[Aj ca.symm]at hD;show hD
     show Qk (λi ys σ G=>(∃o0,σ=[o0,some (.ref d)])/\G D=some (.lst ys)/\AA (upd X S2.ar (.EB o (.dK kr))) G/\AI G ys ((AB.take i).map Cv)/\ys.length<=i) (by rw[O.tr.len];show AB.length<=_;omega) hD (Fb ⟨_,rfl⟩ Ah ((AA.refl _).upd hD) rfl (JV _)) (λi ys σ G hi ⟨_,hd,sm,_,e⟩=>(Az (sm _ _ Ah) hd e)) ?_ ?_
     .rintro i ky x ys σ G hx ⟨⟨o0,rfl⟩,bV,sm,th,le⟩;show C8 (O.tr.at hx) λnm fl cN z1=>?_;subst z1;have bL:=KR cN;show A0 (O.tr.has (n:=nm) (KI.mpr (Ad bL rfl))) λv dJ e1 e2 z1=>Oz z1 λla z2 n1 ga ln=>?_;subst z2;obtain rfl:fl=dJ:=by
       have a1:=Iw (key:=Prod.fst) RO.nd bL;have a2:=Iw (key:=Prod.fst) RO.nd e2;rw[a1]at a2;show LM Prod.snd (LV a2)
      have aC:G d=some (.dK kvs):=sm _ _ (by rw[Aj O.nr.symm];show O.hd);have dW:G la=some (.lst (fl.map V.str)):=sm _ _ (by rw[Aj (Bd ga O.hr (by simp))];show ga);show Bh rfl (zl 2) λl1 ag=>?_;generalize z:upd G l1 _=G1;obtain⟨s1,aN⟩:=Bz ag z;show Ad rfl (Al d _ rfl (by rw[← O.vr];show AL.k (k:=Sum.inr "records") (s1 _ _ aC)) (Ad rfl (Al S2.ar _ rfl (.inl (Al kr (Sum.inr nm) (.inr ⟨o,s1 _ _ (sm _ _ Ah)⟩) rfl e1.symm)) (Qm aN (s1 _ _ dW) (by rw[JR];show 2+_<=1000;omega) λl2 G2 f2 s2 g2=>(C6 l2 _ rfl (.inl ⟨AO.of g2,λtl aP=>?_⟩))))));have s3:=(AA.refl G2).upd (o:=.tup ([V.str "record",.str nm]++fl.map V.str)) aP;have sx:=s1.trans (s2.trans s3);have cK:=sx _ _ bV;show D8 cK ⟨_,rfl⟩ Ah (CI (sm.trans sx) hD) ?_ (by rw[JX,LI];omega);rw[Ct cN,KZ];have tt:AQ (upd G2 tl (.tup ([V.str "record",.str nm]++fl.map V.str))) (.ref tl) (Cv (nm,fl)):=(Aw rfl Ah (Aw rfl rfl (Aw rfl rfl (Qf fl))));show((th.mono sx.AF).append (Hw tt)).mono (Fd cK)
     .rintro ys σ G ⟨_,bV,sm,th,le⟩;show Aq o (sm _ _ Ah) ?_;rw[O.tr.len,show({S2 with AB:=AB,AC:=AC}:GS).AB=AB from rfl,LY]at th;generalize z:upd G S2.ar _=H1;have s1:AA X H1:=λq u e=>by
       rw[← z];by_cases c:q=S2.ar
       .rw [c,Ah];rw[c,O.hr]at e;show e
       .rw [Aj c];show sm _ _ (by rw[Aj c];show e)
      have gD:H1 D=some (.lst ys):=by rw[← z,Aj ca.symm];show bV
      have cg:AI H1 ys (AB.map Cv):=th.mono λb xs e=>by
       rw[← z,Aj];show e;intro z2;have:=sm _ _ (Ah (H:=X) (a:=S2.ar) (o:=.EB o (.dK kr)));rw[← z2,e]at this;cases this
      have bz:=TX.bar fD s1 (by rw[gD];simp);have cv:AG ad H H1:=kX.trans s1;have nD:D≠ad/\D≠ak:=by
       obtain⟨a4,h⟩:=O.dr;show⟨(Af h fD).symm,(Af O.hk fD).symm⟩
      have dE:H D=none:=by
       cases h:H D with
       | none=>rfl
       | some u=>have:=kX _ _ h nD.1;rw[fD]at this;cases this
      have ed:ys.length<=10:=by rw[cg.len,JR];omega
      dsimp only[BH]
      walk_at "n"
      show Jt (id bz) λkvs kr kf O=>?_;show Dt (Ad rfl (Al d _ rfl (by rw[← O.vf];show AL.k (k:=Sum.inr "functions") O.hd) (Al S2.af.1 kf rfl (.of O.hf) λnl ah=>?_)));rw[O.tf.keys];generalize z:upd H1 nl _=H2;obtain⟨s2,g2⟩:=Bz ah z;have T2:=bz.bar ah s2 (by rw[g2];simp);have aE:nl≠ad/\nl≠ak/\nl≠D:=by
       obtain⟨a4,h⟩:=O.dr;show Az ((Af h ah).symm) ((Af O.hk ah).symm) ((Af gD ah).symm)
      have cw:AG ad H H2:=cv.trans s2;have cG:=s2 _ _ gD;have bi:=cg.mono s2.AF;have dL:H nl=none:=by
       cases h:H nl with
       | none=>rfl
       | some u=>have:=cv _ _ h aE.1;rw[ah]at this;cases this
      obtain⟨S4,aZ⟩:∃S4:GS,S4=(({S2 with AB:=AB,AC:=AC}:GS).bar D).bar nl:=⟨_,rfl⟩;have T2:Tree H2 d ad ak S4 ST:=by rw[aZ];show T2
      have bN:DR ST j3 d1 S4:=by rw[aZ];show⟨FO.nd,FO.nm,FO.ks,FO.ok,FO.mn,FO.ln⟩
      have bx:CF ST j S4.AB:=by rw[aZ];show RO
      have cF:S4.AB=AB:=by rw[aZ]
      have g2:H2 nl=some (.lst ((S4.AC.map (·.1)).map V.str)):=by rw[aZ];show g2
      have b4:D∈S4.bs/\nl∈S4.bs:=by rw[aZ];show⟨JS _ JY,JY⟩
      rw[← cF]at bi;have l4:S4.AB.length<=5:=by rw[cF];omega
      have d2:=treeOk bx bN gw l4
      walk_at "n"
      show join (λσ' Y=>∃ord:List Str,σ'=[some (.ref ad),some (.ref d),some (.ref I),p3,p4,some (.ref nl),o6,p7,some (.ref D)]/\(ord=S4.AC.map (·.1)\/ord=(S4.AC.map (·.1)).reverse)/\Tree Y d ad ak S4 ST/\Y nl=some (.lst (ord.map V.str))/\Y D=some (.lst ys)/\AI Y ys (S4.AB.map Cv)/\AG ad H Y) ?_ λrest=>?_
      .rintro σ Y ⟨ord,rfl,bu,TY,cu,bS,e0,kY⟩;have en:ord.length<=3:=by
        have:=bN.ln
        rcases bu with h|h
        .rw [h,JR];show this
        .rw [h,OT,JR];show this
       try dsimp only
       show Ad rfl (Bx nl rfl ⟨_,AO.of cu⟩ (L7 (xs:=ord.map V.str) (λi σ X=>∃q4 us fs,σ=[some (.ref ad),some (.ref d),some (.ref I),p3,q4,some (.ref nl),o6,p7,some (.ref D)]/\X nl=some (.lst (ord.map V.str))/\X D=some (.lst us)/\Tree X d ad ak S4 ST/\AG ad H X/\fs.map (·.nm)=ord.take i/\(∀f∈fs,FncOk S4 f)/\AI X us (S4.AB.map Cv++fs.map Ca))
        (Lb _ ys [] rfl cu bS TY kY (Az rfl (λf hf=>by cases hf) (by rw[No,MN];show e0))) (λi σ X hi ⟨_,_,_,_,h,_⟩=>AO.of h) ?_ ?_))
       .rintro i x0 σ X cO ⟨q4,us,fs,rfl,bt,ax,TX,kX,aX,bW,b5⟩;rw[LG]at cO;show Am (Option.map_eq_some_iff.mp cO) λnm bE z1=>?_;subst z1;have bL:nm∈S4.AC.map (·.1):=by
         have:=KR bE
         rcases bu with h|h
         .rw [h]at this;show this
         .rw [h]at this;show List.mem_reverse.mp this
        have dm:us.length<=20:=by
         rw[b5.len,JX,JR,JR];have:=LM List.length aX;rw[JR,LL]at this;omega
        show Bh rfl (.inl ⟨rfl,_,AO.of ax⟩) (Ad rfl (Ad rfl (Ad rfl (Al d ad rfl TX.DC.dr λbc X1 a5 aK=>(Cd rfl rfl (by show(0:Int)<4;decide) (Am (show ∃c:Nat,bc%4=c/\c<4 from La bc 4 (by decide)) λc4 dA eX=>Jt (TX.keep a5 aK) λkvs kr kf O=>?_))))));show Cw d ad ak S4 ST kvs (F5 kr kf _ nm c4 (by show[V.ref d,V.str nm,V.int (bc%4)]=_;rw[dA]) O d2 bL (by omega) λv t H' eF dh df fh tv dS FT d4 fr=>?_);show He FT λts κ' kn' z1 da bK=>?_;subst z1;have dD:D≠d/\nl≠d:=⟨Bd (a5 _ _ ax nD.1) O.hd (by simp),Bd (a5 _ _ bt aE.1) O.hd (by simp)⟩;have bQ:=fr _ _ (a5 _ _ ax nD.1) dD.1 nD.1;have dX:=fr _ _ (a5 _ _ bt aE.1) dD.2 aE.1;have T':Tree H' d ad ak S4 ST:=(Tl eF dh df d4);have e8:CA X H':=λb xs e=>by
         have e1:=a5 _ _ e (by obtain⟨a4,h⟩:=TX.DC.dr.dr;show Bd e h (by simp));show fr _ _ e1 (Bd e1 O.hd (by simp)) (by obtain⟨a4,h⟩:=aK;show Bd e1 h (by simp))
        show Ep D us v rfl rfl bQ (by omega) (Lb _ (us++[v]) (fs++[⟨nm,fh,ts⟩]) rfl (by rw[Aj aE.2.2];show dX) Ah (T'.wr b4.1 nD.1 nD.2 bQ) (λq u e n=>?_) (Az ?_ (λf hf=>?_) ?_))
        .rw [Aj (Af e dE)];show fr _ _ (a5 _ _ (kX q u e n) n) (Af e hd) n
        .rw [KZ,aX,Ct bE];rfl
        .rcases KQ.mp hf with h|h
         .show bW f h
         .rw [KD.mp h];show Fb dS (C6 κ' kn' da bK.2.2.2) bK.1 bK.2.1 bK.2.2.1
        .rw [KZ,← List.append_assoc];show((b5.mono e8).append (Hw tv)).mono (Fd bQ)
       .rintro σ X ⟨q4,us,fs,rfl,bt,ax,TX,kX,aX,bW,b5⟩;rw[JR,LY]at aX;have dm:us.length<=20:=by
         rw[b5.len,JX,JR,JR];have:=LM List.length aX;rw[JR]at this;omega
        try dsimp only
        show Jd ⟨zl 1,λq1 dZ=>?_⟩;generalize z:upd X q1 _=X1;obtain⟨s1,aN⟩:=Bz dZ z;show Ad rfl (Qm aN (s1 _ _ ax) (by show 1+_<=1000;omega) λq2 X2 f2 s2 dM=>(C6 q2 _ rfl (.inl ⟨AO.of dM,λtl aP=>?_⟩)));have s3:=(AA.refl X2).upd (o:=.tup ([V.str "program"]++us)) aP;have sx:=s1.trans (s2.trans s3);show k _ (.tup (.wd "program"::(S4.AB.map Cv++fs.map Ca))) _ (Aw rfl Ah (Aw rfl rfl (b5.mono sx.AF))) (treeG bx bN gw l4 bW (by rw[aX];show bu)) (kX.trans sx) (BS.up TX.DC.dr.dr sx)
      .show Ad rfl (Al d ad rfl T2.DC.dr λeh H3 aD c0=>(Nl rfl rfl (by show(0:Int)<2;decide) rfl (Ad rfl (B5 (λc=>?_) (λc=>?_)))))
       .have bD:=aD _ _ g2 aE.1;have er:((S4.AC.map (·.1)).map V.str).reverse=(S4.AC.map (·.1)).reverse.map V.str:=by rw[List.map_reverse]
        show Bh rfl (.inl ⟨rfl,_,AO.of bD⟩) (Co nl _ rfl rfl bD (rest _ _ (Ad3 rfl (.inr rfl) ((T2.keep aD c0).wr b4.2 aE.1 aE.2.1 bD) (by rw[Ah,er]) (by rw[Aj aE.2.2.symm];show aD _ _ cG nD.1) ⟨(bi.mono (AG.AF aD T2.DC.dr.dr)).mono (Fd bD),λq u e n=>by rw[Aj (Af e dL)];show aD _ _ (cw q u e n) n⟩)))
       .show rest _ _ (Ad3 rfl (.inl rfl) (T2.keep aD c0) (aD _ _ g2 aE.1) (aD _ _ cG nD.1) ⟨bi.mono (AG.AF aD T2.DC.dr.dr),DZ cw aD⟩)
   .have cj:∀Y,AG ad X1 Y->BS Y ad->∃o6 j AB,[some (.ref ad),some (.ref d),some (.ref I),o3,o4,some (.ref an),none,none,none]=[some (.ref ad),some (.ref d),some (.ref I),o3,o4,some (.ref an),o6,none,none]/\Tree Y d ad ak {S2 with AB:=AB} ST/\Y I=some (.lst ((ST.take j).map V.str))/\Y an=some (.lst (NM.map V.str))/\CF ST j AB/\15<=j/\j<=26/\AB.length<=3/\AG ad H Y/\∀x∈NM,x∈ST/\x∉ST.take j:=λY kb dr=>(Lb none j AB rfl (T1.keep kb dr) (kb _ _ aJ a3.1) (kb _ _ g1 a6.1) RO (Fb (by omega) ae (by omega) (DZ ai kb) λx hx=>⟨(ay.2 x hx).1,W0 gw.2.1 (ay.2 x hx).2⟩));show Ad rfl (Co an _ rfl (.inl (AO.of g1)) rfl (Ad rfl (B5 (λc=>?_) (λc=>B5 (λz=>by cases z) λ_=>rest _ _ (cj X1 (λ_ _ e _=>e) T1.DC.dr.dr)))));show Ad rfl (Al d ad rfl T1.DC.dr λeg X2 a0 aA=>(Nl rfl rfl (by show(0:Int)<2;decide) rfl (Ad rfl (B5 (λc2=>?_) (λc2=>rest _ _ (cj X2 a0 aA))))));have dj:NM.length=2:=by
     have:=V.int.inj (KP c);rw[JR]at this;omega
    show Zt (two_of dj) λn0 n1 z1=>?_;subst z1;have T2:=T1.keep a0 aA;have bF:=DZ ai a0;have bj:=a0 _ _ aJ a3.1;have g2:=a0 _ _ g1 a6.1;obtain⟨j,rfl⟩:∃j',j=j'+1:=⟨j-1,by omega⟩;show Bg (Og (ST:=ST) (j:=j) (by omega)) λx hx aI aB=>Dt (Bh rfl (.inl ⟨rfl,_,AO.of bj⟩) (Ep I _ (.str x) rfl rfl bj aI ?_));rw[aB];have T3:=T2.wr (zs:=(ST.take j).map V.str) (dn _) a3.1 a3.2 bj;have bP:upd X2 I (.lst ((ST.take j).map V.str)) I=some (.lst ((ST.take j).map V.str)):=Ah;have av:upd X2 I (.lst ((ST.take j).map V.str)) an=some (.lst ([n0,n1].map V.str)):=by rw[Aj a6.2.2];show g2
    have db:AG ad H (upd X2 I (.lst ((ST.take j).map V.str))):=λq u e n=>by rw[Aj (Af e b7)];show bF q u e n
    generalize upd X2 I (.lst ((ST.take j).map V.str))=X3 at *;show⟨zl 1,λl1 ag=>?_⟩;generalize z:upd X3 l1 _=X4;obtain⟨s4,g4⟩:=Bz ag z;show Jt (T3.same s4) λkvs kr kf O=>?_;show A0 (O.tr.has (n:=n0) (dY n0 (by simp))) λlv fl hv aG z1=>Oz z1 λl0 z2 ei dN eZ=>?_;subst z2;show Ma (RO.ok n0 fl aG) λf1 f2 f3 f4 f5=>?_;have b9:∀{Y:Hp},AA X4 Y->AL Y d (.str "records") (some (.ref S2.ar)):=λs=>by rw[← O.vr];show AL.k (k:=Sum.inr "records") (s _ _ O.hd)
    show Ad rfl (Al d _ rfl (b9 (AA.refl X4)) (Ad rfl (B0 an _ 0 (.str n0) rfl rfl (AO.of (s4 _ _ av)) rfl (Al S2.ar _ rfl (by rw[← hv];show AL.k (k:=Sum.inr n0) O.hr) (Qm g4 dN (by rw[JR];show 1+_<=1000;omega) λl2 X5 eR s5 g5=>?_)))))
    walk_at "n"
    show Ad rfl (Aq 4 rfl (Al l2 _ rfl (AO.of g5) λl3 bC=>?_));have b6:Ef ([V.str x]++fl.map V.str) none (some 4)=((x::fl).take 4).map V.str:=by
     show cut_to (x::fl) 4
    rw[b6];generalize z:upd X5 l3 _=X6;obtain⟨s6,g6⟩:=Bz bC z;have sx:=s5.trans s6;have dk:kr.length<=10:=by rw[O.tr.len];show AB.length<=10;omega
    show Ad rfl (Al d _ rfl (b9 sx) (Ad rfl (B0 an _ 1 (.str n1) rfl rfl (AO.of (sx _ _ (s4 _ _ av))) rfl (Al S2.ar _ rfl (DD.k (k:=Sum.inr n1) (sx _ _ O.hr) (by omega)) ?_))));have nx:x∉fl:=λz=>Ah7 gw.2.1 hx (f5 x z);have dv:(x::fl).Nodup:=NR.mpr ⟨nx,f4⟩;have d6:=O.same sx;have cY:l3≠ad/\∀b∈({S2 with AB:=AB}:GS).bs,l3≠b:=by
     obtain⟨a4,h⟩:=O.dr;show⟨(Af (s5 _ _ h) bC).symm,λb hb=>?_⟩;have hb:b∈[an,I]:=by rw[← aM];show hb
     simp only[JT,KU,MB]at hb
     rcases hb with rfl|rfl
     .show (Af (s5 _ _ (s4 _ _ av)) bC).symm
     .show (Af (s5 _ _ (s4 _ _ bP)) bC).symm
    have T7:=d6.recP (n:=n1) g6 cY.1 cY.2 (by rw[LL];omega);have bh:=s4.trans sx;show rest _ _ (Lb _ j (F1 AB n1 ((x::fl).take 4)) rfl T7 (by rw[Aj (Bd (s4 _ _ bP) O.hr (by simp))];show bh _ _ bP) (by rw[Aj (Bd (s4 _ _ av) O.hr (by simp))];show bh _ _ av) ((RO.mono (RG j)).put (Fb ?_ ?_ ?_ ?_ ?_)) (Fb (by omega) (by omega) ?_ (λq u e n=>?_) λy hy=>?_))
    .show Hy (RG j) (ay.2 n1 (by simp)).2
    .simp
    .rw [LL];omega
    .show dv.sublist (OD _ _)
    .intro y hy
     rcases JT.mp (OB hy)with rfl|h
     .show Ru hx
     .show Hy (RG j) (f5 y h)
    .have:=Jm AB n1 ((x::fl).take 4);omega
    .rw [Aj (Af e d9)];show bh _ _ (db q u e n)
    .have:=ay.2 y hy;show⟨this.1,W0 gw.2.1 (Hy (RG j) this.2)⟩
end
end T
namespace T
open PySem PySem.Spec PyProof.Rows L2
structure TxtG (K:Av)(mg:Cb)(t1 t2 t3 t4:Tok):Prop where
 g_LEAST:mg "LEAST"=some (.int (-32768) t1)
 g_MOST:mg "MOST"=some (.int 32767 t2)
 EI:mg "MOST_FIELDS"=some (.int 4 t3)
 FW:mg "MOST_VARIABLES"=some (.int 4 t4)
def spIsN:Sp:=λvs H Q _=>∃n:Int,vs=[.int n]/\Q (.bl true) H
def Af6:Sp:=λvs H Q _=>∃n:Int,vs=[.int n]/\(-32768<=n/\n<=32767)/\Q (.bl true) H
def Fy:Sp:=λvs H Q _=>∃x:Str,vs=[.bl true,.str x]/\Q .BI H
def Ar5:Sp:=λvs H Q _=>∃x,vs=[.str x]/\Ae1 x=true/\∀H',AA H H'->Q (.bl true) H'
def R6:Sp:=λvs H Q _=>∃x,vs=[.str x]/\Dd x=true/\∀H',AA H H'->Q (.bl true) H'
def sgn_eq (c:Nat):(!decide (([c]:List Nat)<[97])&&!decide (([122]:List Nat)<[c]))=sgn c:=by
 have h1:(([c]:List Nat)<[97])↔c<97:=by
  constructor
  .intro h
   cases h with
   | cons h=>cases h
   | rel h=>show h
  .show λh=>.rel h
 have h2:(([122]:List Nat)<[c])↔122<c:=by
  constructor
  .intro h
   cases h with
   | cons h=>cases h
   | rel h=>show h
  .show λh=>.rel h
 unfold sgn;by_cases a:c<97<;>by_cases b:122<c<;>simp[h1,h2,a,b]<;>omega
def cd_a:("a":Str).cps.toList=[97]:=by decide +kernel
def cd_z:("z":Str).cps.toList=[122]:=by decide +kernel
noncomputable def L6:Th->Str->Bool
 | .tup (.wd y::_),x=>decide (y=x)
 | _,_=>false
def As2:Sp:=λvs H Q _=>∃v y r x,vs=[v,.str x]/\AQ H v (.tup (.wd y::r))/\Q (.bl (decide (y=x))) H
def Iy (x y:Str):decide (V.str x=V.str y)=decide (x=y):=by
 rw[ON,MJ,MJ];show⟨V.str.inj,LM V.str⟩
section
variable {P:Program}{w:World}{K:Av}{mg:Cb}{base:Heap}{t1 t2 t3 t4:Tok}
abbrev Em:List Str:=["thing"]
def V9:AD Em Em (Ao Py):=FS
def Ww (F:As K "is_number" "is_number" Py f fd)(T:At K mg):AH P w K mg base BE 1 f fd Em spIsN:=by
 show F.By V9 λcdv A outer s H vs Q E hr h=>?_
 .show Am h λn z1 k=>?_;subst z1;exists Ak (Ar (Dj (Bc Bf rfl T.AE Bv (AS (qv 0) (Cn (v:=.ty "int") rfl T.HH boot_int rfl))) (Du (At5 (Bc Bf rfl T.AE Bv (AS (qv 0) (Cn (v:=.ty "bool") rfl T.IJ boot_bool rfl)))))))
  show Ad rfl (Eo rfl (.int _) (Zb _) (Ad rfl (E7 (Ad rfl (Eo rfl (.int _) (Kh _) (Ad rfl k))))))
def Nx:AD Em Em (Ao Jb):=FS
def Ol (F:As K "is_of_language" "is_of_language" Jb f fd)(TG:TxtG K mg t1 t2 t3 t4)(I:AJ P w K mg base 1 "is_number" Em spIsN):AH P w K mg base BE 2 f fd Em Af6:=by
 show F.By Nx λcdv A outer s H vs Q E hr h=>?_
 .show Bg h λn z1 hn k=>?_;subst z1;exists Ak (Ar (Dj (qf I hr (AM (qv 0))) (Du (Ob Oh Oh (Kb rfl TG.g_LEAST) (qv 0) (Kb rfl TG.g_MOST)))))
  show Ad rfl (Aq n rfl (Ad rfl (E7 (Ad rfl (Aw rfl rfl (Ad rfl (B5 (λh=>(Aw rfl rfl ?_)) (λh=>absurd (KA hn.1) h))))))));have e:decide (n<=32767)=true:=KA hn.2
  show Q (.bl (decide (n<=32767))) H
  rw[e];show k
abbrev Ft:List Str:=["so","why"]
def GJ:AD Ft Ft (Ao Ag0):=FS
def ok_want (F:As K "want" "want" Ag0 f fd):AH P w K mg base BE 1 f fd Ft Fy:=by
 show F.By GJ λcdv A outer s H vs Q E hr h=>?_
 .show Am h λx z1 k=>?_;subst z1;have nd:=GJ.nd;exists Ak (Bj (Fz (Eb (qv 0))) (Ak At3) Ax)
  show Ad rfl (Ad rfl k)
def Aa9:AD Em Em (Ao Wc):=FS
def Ac2 (F:As K "is_word" "is_word" Wc f fd)(T:At K mg):AH P w K mg base BE 1 f fd Em Ar5:=by
 show F.By Aa9 λcdv A outer s H vs Q E hr h=>?_
 .show Bg h λx z1 hw k=>?_;subst z1;exists Ae (Bj (QW.pt (N0 (Fz (Eb (Bc Bf rfl T.AE Bv (AS (qv 0) (Cn (v:=.ty "str") rfl T.DK PX rfl))))) (Ka (Fz (Yj Oh Oh Ag (Bc Kr rfl T.AR OL (AM (qv 0))) Ag))))) (Ak (Ar Es)) Ax) (Ak (Ar (Bc (Ju rfl) rfl T.HF boot_all (AM (El (N':=["sign"]) (n:=1) AY.n rfl (At4 (qv 0)) (λ_ _ _=>(Az (FX 0) Db (Ob Mg Mg Ai (qv 0) Ai))))))))
  unfold Ae1 at hw;simp only[MA,MJ,MQ]at hw;obtain⟨⟨h1,h8⟩,hs⟩:=hw;show Ad rfl (Eo rfl (.str _) rfl (Ad rfl ?_));have Y:x.length<=sizeLine:=KN h8 (by decide);show Ad rfl (Bx x rfl Y (Aw rfl rfl (Ad rfl (B5 (λc=>(Aw rfl rfl (Ad rfl (B5 (λh2=>?_) (λh2=>?_))))) (λc=>absurd (KA (by omega)) c)))))
  .have:decide ((x.length:Int)<=8)=true:=KA (by omega);rw[this]at h2;cases h2
  have a0:x.cps.all (·<128)=true:=by
   rw[← RF,MQ];intro c I;have:=hs c I;unfold sgn at this;simp only[MA,MJ]at this ⊢;omega
  show Ad rfl (Bx x rfl a0 λD hD=>comp_str (λi ys σ H'=>(∃o,σ=[o])/\H'=upd H D (.lst ys)/\ys=(x.cps.toList.take i).map λc=>V.bl (sgn c)) Y (Az ⟨_,rfl⟩ rfl (by simp)) ?_ ?_ ?_)
  .rintro i ys σ H' hi ⟨_,rfl,rfl⟩;show⟨Ah,by simp;omega⟩
  .rintro i c ys σ H' I ⟨⟨o,rfl⟩,rfl,rfl⟩;have a1:x.cps.toList[i]?=some c:=by simpa using I
   have e1:=sgn_eq c;have nx:((x.cps.toList.take i).map λc=>V.bl (sgn c))++[V.bl (sgn c)]=(x.cps.toList.take (i+1)).map λc=>V.bl (sgn c):=by
    rw[RA,a1];simp
   show Ad rfl (Aw rfl rfl (Ad rfl (B5 (λh3=>?_) (λh3=>?_))))
   .show jj25 rfl rfl Ah ⟨_,rfl⟩ Nq ?_;rw[← nx];rw[cd_a]at h3;rw[cd_z];have O:(!decide (([c]:List Nat)<[97]))=true:=h3;rw[O,Bool.true_and]at e1;rw[← e1]
   .show C7 Ah ⟨_,rfl⟩ Nq ?_;rw[← nx];rw[cd_a]at h3;have O:(!decide (([c]:List Nat)<[97]))=false:=by simpa using h3
    rw[O,Bool.false_and]at e1;rw[← e1]
  .rintro ys σ H' ⟨_,rfl,rfl⟩;show Al D (x.cps.toList.map sgn) rfl (.inl (.inl ?_)) ?_
   .rw [Ah];simp;rw[LP (by simp)];rfl
   .have e:((x.cps.toList.map sgn).all id)=true:=by
     rw[MQ];intro b hb;show Am (KI.mp hb) λc I z1=>?_;subst z1;show hs c I
    rw[e];show k _ (AA.upd (AA.refl H) hD)
def Ab0:AD Em Em (Ao Wd):=FS
def Ac3 (F:As K "is_name" "is_name" Wd f fd)(O:AJ P w K mg base 1 "is_word" Em Ar5):AH P w K mg base BE 2 f fd Em R6:=by
 show F.By Ab0 λcdv A outer s H vs Q E hr h=>?_
 .show Bg h λx z1 hn k=>?_;subst z1;exists Ak (Ar (Dj (qf O hr (AM (qv 0))) (Du (Io Gz (qv 0) (Bk (AS Ai Ai)) (by with_unfolding_all rfl)))))
  unfold Dd at hn;simp only[MA,NP,PV,MW]at hn;show Ad rfl (Bx x rfl hn.1 λH1 s1=>(Ad rfl (E7 ?_)));show Bh rfl (zl 2) λp I=>(Jr p _ rfl (.inr (.inl (.inl Ah))) rfl rfl ?_);have e:HE (V.str x) [V.str "yes",V.str "no"]=false:=by
   rw[show[V.str "yes",V.str "no"]=(["yes","no"]:List Str).map V.str from rfl,Fw];simp[hn.2.1,hn.2.2]
  have:=k _ (s1.upd (o:=.tup [V.str "yes",V.str "no"]) I)
  show Q (.bl (!HE (V.str x) [V.str "yes",V.str "no"])) _
  rw[e];show this
abbrev Qp:List Str:=["thing","word"]
def Ny:AD Qp Qp (Ao Me):=FS
def Wy (F:As K "is_headed" "is_headed" Me f fd)(T:At K mg):AH P w K mg base BE 1 f fd Qp As2:=by
 show F.By Ny λcdv A outer s H vs Q E hr h=>?_
 .show Zs h λv y r x z1 hi k=>?_;subst z1;exists Ak (Ar (Dj (Bc Bf rfl T.AE Bv (AS (qv 0) (Cn (v:=.ty "tuple") rfl T.AZ NA rfl))) (Dj (ER E8 (Eh T.AR (qv 0)) Ag) (Du (ER Cf (BY (qv 0) Ag) (qv 1))))))
  show A0 hi λa us z1 I z2=>A0 z2 λY vr z3 h0 a0=>?_;subst z1 z3;cases(show Y=.str y from h0);show Ad rfl (Eo rfl (.tup I) rfl (Ad rfl (E7 (Ad rfl (Al a _ rfl (.inr (.inl (.inl I))) (Aw rfl rfl (Ad rfl ?_)))))));have O:decide ((((V.str y::vr).length:Nat):Int)>0)=true:=KA (by simp);rw[O];show E7 (Ad rfl (B0 _ _ 0 (.str y) rfl rfl (.inl (.inl I)) (Be (j:=0) rfl) (Bh rfl (show scal (V.str y) (V.str x)=true from rfl) ?_)));rw[Iy];show k
def Ng (met:List Str)(x:Str)(h:x∉met):L2.putK (met.map λy=>((Sum.inr y:Key),V.bl true)) (Sum.inr x) (V.bl true)=(met++[x]).map λy=>((Sum.inr y:Key),V.bl true):=by
 unfold L2.putK;rw[KH]
 .simp
 .rw [RE];rintro⟨Y,O,e⟩;show Am (KI.mp O) λy I z1=>?_;subst z1;have:(Sum.inr y:Key)=Sum.inr x:=KP e;cases this;show h I
def valS (met:List Str)(x:Str):(Bm (met.map λy=>((Sum.inr y:Key),V.bl true)) (Sum.inr x)).isSome=decide (x∈met):=by
 induction met with
 | nil=>rfl
 | cons y met I=>
  rw[KE];by_cases e:y=x
  .rw [Dn (LM Sum.inr e),e];simp
  .rw [Dp (λz=>e (MX z)),I,ON,MJ,MJ,JT];show⟨.inr,λz=>z.resolve_left λq=>e q.symm⟩
def spUnl (K:Av):Sp:=λvs H Q _=>∃(b:Bool) (a:Addr) (xs:List Str),vs=[.ref a]/\DG b K H a (xs.map V.str)/\xs.length<=1000/\xs.Nodup/\∀H',AA H H'->Q .BI H'
def Af8 (K:Av):Sp:=λvs H Q _=>∃(b:Bool) (a:Addr) (xs:List Str),vs=[.ref a]/\DG b K H a (xs.map V.str)/\xs.length<=1000/\xs.Nodup/\∀H',AA H H'->Q (.bl true) H'
def DG.same (s:AA H H')(h:DG b K H a xs):DG b K H' a xs:=by
 cases b with
 | true=>show AA.seq s (show AO K H a xs from h)
 | false=>
  have h:BJ K H a xs:=h
  show BJ K H' a xs
  rcases h with h|h
  .show .inl (h.elim (λh=>.inl (s _ _ h)) λ⟨o,h⟩=>.inr ⟨o,s _ _ h⟩)
  .show .inr h
abbrev Hq:List Str:=["things"]
def BW:AD ["things","met","index","thing"] Hq (Ao Il):=FS
def Sy (F:As K "first_again" "first_again" Il f fd)(T:At K mg):AH P w K mg base BE 1 f fd Hq (spUnl K):=by
 show F.By BW λcdv A outer s H vs Q E hr h=>?_
 .show L9 h λb a xs z1 Y hl HJ k1=>?_;subst z1;have nd:=BW.nd;have a3:(2000000:Nat)<=sizeLine:=by rw[LJ];omega
  exists Ae (Cl 1 nd Jl) (Ae (Ex MO rfl (Ag4 (b:=b) rfl T.GA (AM (qv 0))) (Wk rfl (Gb (GV 2 nd) (Gb (GV 3 nd) Rl))) (Ae (Bj (At2 (Ds hr) (qv 3) (qv 1)) (Ak (Ar (qv 2))) Ax) (Ak (D9 (Ds hr) (qv 1) (qv 3) Es rfl)))) (Ak (Ar Nd)))
  show λd hd=>(Ad rfl (Bx a rfl ⟨_,DG.same (AA.upd (AA.refl H) hd) Y⟩ (Zi (xs:=xs.map V.str) (λi σ H'=>(∃o1 o2,σ=[some (.ref a),some (.ref d),o1,o2])/\AA H H'/\H' d=some (.dK ((xs.take i).map λy=>((Sum.inr y:Key),V.bl true)))) (Az (Jn rfl) (AA.upd (AA.refl H) hd) Ah) ?_ ?_ ?_)))
  .rintro i σ H' hi ⟨_,I,_⟩;show DG.same I Y
  .rintro i v σ H' p hv ⟨⟨o1,o2,rfl⟩,I,a0⟩ O;rw[LG]at hv;show Am (Option.map_eq_some_iff.mp hv) λx hx z1=>?_;subst z1;have a1:upd H' p (.tup [.int i,.str x]) d=some (.dK ((xs.take i).map λy=>((Sum.inr y:Key),V.bl true))):=by
    rw[Aj (Af a0 O)];show a0
   have a2:AA H (upd H' p (.tup [.int i,.str x])):=I.upd O;have li:i<xs.length:=(List.getElem?_eq_some_iff.mp hx).1;have tk:xs.take (i+1)=xs.take i++[x]:=Ct hx;have hm:x∉xs.take i:=λz=>by
    have:=HJ.sublist (OD (i+1) xs);rw[tk,LX]at this;show this.2.2 x z x (by simp) rfl
   show Co p _ rfl (BJ.of Ah) rfl (Xk rfl (Aw rfl rfl (Ad rfl (Ad rfl (Al d _ rfl (AL.k (k:=Sum.inr x) a1) (Ad rfl (B5 (λh=>?_) (λh=>?_))))))))
   .rw [valS]at h;show absurd (KP h) hm
   .show Ad rfl (Ad rfl (Jr d _ rfl (DD.k (k:=Sum.inr x) a1 (by simp;omega)) (Jn rfl) (CI a2 hd) ?_));rw[Ah,Ng _ _ hm,tk]
  .rintro σ H' ⟨_,I,_⟩;show k1 H' I
def Mt:AD Hq Hq (Ao J9):=FS
def Ui (F:As K "all_unlike" "all_unlike" J9 f fd)(O:AJ P w K mg base 1 "first_again" Hq (spUnl K)):AH P w K mg base BE 2 f fd Hq (Af8 K):=by
 show F.By Mt λcdv A outer s H vs Q E hr h=>?_
 .show L9 h λb a xs z1 I hl HJ k=>?_;subst z1;exists Ak (Ar (ER Wp (qf O hr (AM (qv 0))) Nd))
  show Ad rfl (Ep b a xs rfl I hl HJ λH' s'=>⟨rfl,k H' s'⟩)
end
end T
namespace T
open PySem PySem.Spec PyProof PyProof.Rows L2
def wb (h:b=true):[V.bl b,V.str x]=[V.bl true,V.str x]:=by rw[h]
def O9 {K:Av}{a D:Addr}{xs:List Str}{te:TE}{σ0:L2.St}{H1:Hp}{Q:Hp->Prop}(hq:H1 a=some (.tup (xs.map V.str)))(hD:H1 D=none)(hz:xs.length<=1000)
   (hs:∀x∈xs,∀H' (R:VK),AA H1 H'->(∀a0,AA H' a0->R (.bl true) a0)->te (σ0.set 0 (some (.str x))) H' R)(hd:∀H',AA H1 H'->H' D=some (.lst ((xs.map λ_=>true).map V.bl))->Q H') :
   ∃W:Nat->Nat->L2.St->Hp->Prop,(∃m,W 0 m σ0 (upd H1 D (.lst [])))/\∀i m σ' H',W i m σ' H' ->
     ((IW K a).stop i H'/\Q H')\/((IW K a).go i H'/\∃(Ay:V->L2.St->Hp->Prop) (An:L2.St->Hp->Prop),(∀y σ3 H5,Ay y σ3 H5->∃ys,H5 D=some (.lst ys)/\ys.length<sizeLine/\∃m',m'<m/\W (i+1) m' σ3 (upd H5 D (.lst (ys++[y])))) /\
       (∀σ3 Y,An σ3 Y->∃m',m'<m/\W (i+1) m' σ3 Y) /\
       ∀x H2,(IW K a).GF i H' x H2->(BH 0) x σ' H2 λσ3 H3=>tYes σ3 H3 λok Y=>if ok=true then te σ3 Y (λy H5=>Ay y σ3 H5)else An σ3 Y):=by
 have a2:(2000000:Nat)<=sizeLine:=by rw[LJ];omega
 show Mc (xs:=xs.map V.str) (λi ys σ H'=>(σ=σ0\/∃v,σ=σ0.set 0 (some v))/\AA H1 H'/\H' D=some (.lst ys)/\ys=((xs.take i).map λ_=>true).map V.bl) (by rw[JR];omega) (C7 (.inl rfl) (AA.upd (AA.refl H1) hD) Ah (by simp)) ?_ ?_ ?_
 . rintro i ys σ H' hi ⟨_,O,I,rfl⟩;show Az (.inl (.inl (O _ _ hq))) I (by simp;omega)
 . rintro i v ys σ H' hv ⟨hσ,O,I,rfl⟩;rw[LG]at hv;show Am (Option.map_eq_some_iff.mp hv) λx hx z1=>?_;subst z1;have eσ:σ.set 0 (some (.str x))=σ0.set 0 (some (.str x)):=by
     rcases hσ with rfl|⟨v',rfl⟩
     . rfl
     . rw[List.set_set]
   show te (σ.set 0 (some (.str x))) H' _
   rw[eσ];show hs x (KR hx) H' _ O λa0 a1=>(Fb (a1 _ _ I) (.inr ⟨_,rfl⟩) (CI (O.trans a1) hD) Ah ?_);rw[Ct hx];simp
 . rintro ys σ H' ⟨_,O,I,rfl⟩;rw[JR,LY]at I;show hd H' O I
def Rw (xs:List Str):(xs.map λ_=>true).all id=true:=by simp
def Dz (us:List V)(n:Nat):Ef us (some (n:Int)) none=us.drop n:=by
 unfold Ef;rw[HT.CB,HT.FL]
 rcases Nat.le_total n us.length with h|h
 .rw [NT h,LP (by simp)]
 .rw [OY h,ML (JV _),ML h];simp
def F3 {us:List V}{n:Nat}{hi:Option Int}(h1:0<n)(h2:0<us.length):¬(HT.BA us.length 0 (some (n:Int))=0/\HT.BA us.length us.length hi=us.length):=λz=>by
 have:=z.1;rw[HT.CB]at this;omega
structure TxK (K:Av)(mg:Cb)(aO:Addr):Prop where
 DT:mg "OWN_KINDS"=some (.ref aO)
 own:∀H,BJ K H aO [.str "number",.str "truth",.str "list"]
def Ai4 (x:Str):HE (V.str x) [V.str "number",V.str "truth",V.str "list"]=decide (x∈(["number","truth","list"]:List Str)):=Fw x ["number","truth","list"]
theorem Kj:∀{xs:List Str} {us:List V},AI H us (xs.map .wd)->us=xs.map V.str
 | [],us,h=>h
 | x::r,us,h=>by
  show A0 h λv vr z1 h1 h2=>?_;subst z1;rw[show v=.str x from h1,Kj h2];rfl
def Ar8:Sp:=λvs H Q _=>∃v n fl,vs=[v]/\AQ H v (Cv (n,fl))/\(Dd n=true/\n≠"number"/\n≠"truth"/\n≠"list"/\fl≠[]/\fl.length<=4/\fl.Nodup/\∀x∈fl,Dd x=true)/\∀H',AA H H'->Q .BI H'
theorem Mo:∀{ps ks:List Str},ps.length=ks.length->alt ((Cj ps ks).map V.str)=ps.map V.str
 | [],_,_=>by unfold Cj;rfl
 | p::ps,k::ks,h=>by
  unfold Cj
  show V.str p::alt ((Cj ps ks).map V.str)=_
  rw[Mo (by simpa using h)];rfl
theorem Fj:∀{ps ks:List Str},ps.length=ks.length->alt (((Cj ps ks).map V.str).drop 1)=ks.map V.str
 | [],[],_=>by unfold Cj;rfl
 | [p],[k],h=>by rfl
 | p::p2::ps,k::k2::ks,h=>by
  have I:=Fj (ps:=p2::ps) (ks:=k2::ks) (by simpa using h)
  show V.str k::alt (((Cj (p2::ps) (k2::ks)).map V.str).drop 1)=_
  rw[I];rfl
 | [_],[],h=>by simp at h
 | [],_::_,h=>by simp at h
 | _::_::_,[],h=>by simp at h
 | _::_::_,[_],h=>by simp at h
 | [_],_::_::_,h=>by simp at h
theorem Jq:∀{ps ks:List Str},ps.length=ks.length->(Cj ps ks).length=2*ks.length
 | [],[],_=>rfl
 | p::ps,k::ks,h=>by
  unfold Cj;have:=Jq (ps:=ps) (ks:=ks) (by simpa using h);simp only[KC];omega
 | [],_::_,h=>by simp at h
 | _::_,[],h=>by simp at h
def Kp (h:AQ H v (Ca f)):∃a b us,v=.ref a/\H a=some (.tup (.str "fun"::.str f.nm::.ref b::.str f.fh.k::us))/\H b=some (.tup ((Cj f.fh.ps f.fh.ks).map V.str))/\AI H us f.ts:=by
 show A0 h λa us z1 I z2=>A0 z2 λY r0 z3 h0 z4=>A0 z4 λv1 r1 z5 h1 z6=>A0 z6 λv2 r2 z7 h2 z8=>A0 z8 λv3 O z9 h3 h4=>?_;subst z1 z3 z5 z7 z9;show A0 h2 λb ws z1 hb hw=>?_;subst z1;cases(show Y=.str "fun" from h0);cases(show v1=.str f.nm from h1);cases(show v3=.str f.fh.k from h3);rw[Kj hw]at hb;show Ei a b O rfl I hb h4
def Af5:Sp:=λvs H Q _=>∃k r kr,vs=[.str k,.ref r]/\H r=some (.dK kr)/\(k="number"\/k="truth"\/k="list"\/(Bm kr (Sum.inr k)).isSome=true)/\Q (.bl true) H
def FunH (kr:List (Key×V))(f:HA):Prop:=Dd f.nm=true/\f.fh.ps.length=f.fh.ks.length/\f.fh.ks.length<=4/\f.fh.ps.Nodup/\(∀x∈f.fh.ps,Dd x=true)/\(∀k∈f.fh.k::f.fh.ks,k="number"\/k="truth"\/k="list"\/(Bm kr (Sum.inr k)).isSome=true)
def spHd:Sp:=λvs H Q _=>∃v f r kr,vs=[v,.ref r]/\AQ H v (Ca f)/\H r=some (.dK kr)/\FunH kr f/\∀H',AA H H'->Q .BI H'
def Ar9:Sp:=λvs H Q _=>∃v f,vs=[v]/\AQ H v (Ca f)/\f.fh.ps.length=f.fh.ks.length/\f.fh.ks.length<=4/\f.fh.k="number"/\(∀k∈f.fh.ks,k="number")/\∀H',AA H H'->Q .BI H'
section
variable {P:Program}{w:World}{K:Av}{mg:Cb}{base:Heap}{t1 t2 t3 t4:Tok}{aO:Addr}
def Ik:AD ["record"] ["record"] (Ao F6):=FS
def Iq (F:As K "look_at_record" "look_at_record" F6 f fd)(T:At K mg)(TG:TxtG K mg t1 t2 t3 t4)(O:TxK K mg aO)(I:AJ P w K mg base 1 "want" Ft Fy)(a8:AJ P w K mg base 1 "is_headed" Qp As2)
  (a2:AJ P w K mg base 2 "is_name" Em R6)(a9:AJ P w K mg base 2 "all_unlike" Hq (Af8 K)):AH P w K mg base BE 4 f fd ["record"] Ar8:=by
 show F.By Ik λcdv A outer s H vs Q E hr h=>?_
 .show Ig h λv n fl z1 hi z2 k=>?_;subst z1;obtain⟨hn,o1,o2,o3,a3,aA,fnd,a4⟩:=z2;exists Ae (Au (qf I hr (AS (qf a8 hr (AS (qv 0) Ai)) Ai))) (Ae (Au (qf I hr (AS (Ob Oh Oh Ag (Eh T.AR (qv 0)) (Ap Fg Ag (Kb rfl TG.EI))) Ai))) (Ae (Au (qf I hr (AS (Dj (qf a2 hr (AM (BY (qv 0) Ag))) (Du (Io Gz (BY (qv 0) Ag) (Im rfl O.DT) (by with_unfolding_all rfl)))) Ai))) (Ae (Au (qf I hr (AS (Bc (Ju rfl) rfl T.HF boot_all (AM (El (N':=["field"]) (n:=1) AY.n rfl (F0 (Bu E9 (qv 0) (Bq Ag) Cc)) (λ_ _ _=>(Az (FX 0) Db (qf a2 hr (AM (qv 0)))))))) Ai))) (Ak (Au (qf I hr (AS (qf a9 hr (AM (Bu E9 (qv 0) (Bq Ag) Cc))) Ai)))))))
  have a6:=hi;show A0 hi λa us z1 hu z2=>A0 z2 λv0 r0 z3 h0 z4=>A0 z4 λv1 r1 z5 h1 h2=>?_;subst z1 z3 z5;cases(show v0=.str "record" from h0);cases(show v1=.str n from h1);cases(Kj h2);have aB:0<fl.length:=List.length_pos_iff.mpr a3;have sq:∀H',AA H H'->BJ K H' a (.str "record"::.str n::fl.map V.str):=λH' s'=>.inl (.inl (s' _ _ hu));have len:(V.str "record"::V.str n::fl.map V.str).length=2+fl.length:=by simp;omega
  show Ad rfl (ii42 _ "record" _ "record" rfl a6 (Ad (wb (KA rfl)) ?_));show Ad rfl (Al a _ rfl (.inr (sq H (AA.refl H))) (Aw rfl rfl (Ad rfl (B5 (λc=>?_) (λc=>absurd (KA (by rw[len];omega)) c)))));show Aw rfl rfl (Aw rfl rfl (Ad (wb (KA (by rw[len];omega))) (Ad rfl (B0 _ _ 1 (.str n) rfl rfl (sq H (AA.refl H)) (Be (j:=1) rfl) (Bx n rfl hn λH1 s1=>(Ad rfl (E7 ?_)))))));have eo:HE (V.str n) [V.str "number",V.str "truth",V.str "list"]=false:=by rw[Ai4];simp[o1,o2,o3]
  show Ad rfl (B0 _ _ 1 (.str n) rfl rfl (sq H1 s1) (Be (j:=1) rfl) (Jr aO _ rfl (.inr (O.own H1)) rfl rfl (Ad (wb (by show(!HE _ _)=true;rw[eo];rfl)) ?_)));show Ad rfl (Aq 2 rfl (Co a _ rfl (sq H1 s1) (F3 (n:=2) (by decide) (by rw[len];omega)) λp hp=>(Bx p rfl ⟨_,.inl (.inl Ah)⟩ λD Y=>?_)));have a0:Ef (.str "record"::.str n::fl.map V.str) (some 2) none=fl.map V.str:=Dz _ 2;rw[a0]at Y ⊢;have s2:AA H (upd H1 p (.tup (fl.map V.str))):=s1.upd hp;show O9 (xs:=fl) Ah Y (by omega) (λx hx H' R s' kR=>(Ad rfl (Bx x rfl (a4 x hx) kR))) λH3 s3 a5=>Al D _ rfl (.inl (.inl a5)) (Ad (wb (Rw fl)) ?_);have a1:=s2.trans s3;show Ad rfl (Aq 2 rfl (Co a _ rfl (sq H3 a1) (F3 (n:=2) (by decide) (by rw[len];omega)) λp2 a7=>?_));rw[a0];show Ep false p2 fl rfl (.inl (.inl Ah)) (by omega) fnd λH4 s4=>(Ad (wb rfl) (k _ ((a1.upd a7).trans s4)))
def Ab1:AD ["thing","records"] ["thing","records"] (Ao We):=FS
def Ac4 (F:As K "is_kind" "is_kind" We f fd)(T:At K mg)(I:TxK K mg aO):AH P w K mg base BE 1 f fd ["thing","records"] Af5:=by
 show F.By Ab1 λcdv A outer s H vs Q E hr h=>?_
 .show Ig h λx r kr z1 hd hk k=>?_;subst z1;exists Ak (Ar (Dj (Bc Bf rfl T.AE Bv (AS (qv 0) (Cn (v:=.ty "str") rfl T.DK PX rfl))) (Du (qe_or (Io Hi (qv 0) (Im rfl I.DT) (by with_unfolding_all rfl)) (Du (Nf (Ds hr) (qv 0) (qv 1)))))))
  show Ad rfl (Eo rfl (.str _) rfl (Ad rfl (E7 (Ad rfl (Jr aO _ rfl (.inr (I.own H)) rfl rfl (Ad rfl (B5 (λh=>k) (λh=>?_))))))));have h:¬HE (V.str x) [V.str "number",V.str "truth",V.str "list"]=true:=h;rw[Ai4,MJ]at h;have hs:(Bm kr (Sum.inr x)).isSome=true:=by
   rcases hk with z|z|z|z
   .show absurd (by rw[z];simp) h
   .show absurd (by rw[z];simp) h
   .show absurd (by rw[z];simp) h
   .show z
  show Ad rfl (Ad rfl (Al r _ rfl (AL.k (k:=Sum.inr x) hd) (by rw[hs];show k)))
def DH:AD ["fun","records","variables"] ["fun","records"] (Ao Lj):=FS
def Q7 (F:As K "look_at_head" "look_at_head" Lj f fd)(T:At K mg)(TG:TxtG K mg t1 t2 t3 t4)(I:AJ P w K mg base 1 "want" Ft Fy)
  (a6:AJ P w K mg base 2 "is_name" Em R6)(aC:AJ P w K mg base 2 "all_unlike" Hq (Af8 K))(a5:AJ P w K mg base 1 "is_kind" ["thing","records"] Af5):AH P w K mg base BE 4 f fd ["fun","records"] spHd:=by
 show F.By DH λcdv A outer s H vs Q E hr h=>?_
 .show Zq h λv f r kr z1 hi hd z2 k=>?_;subst z1;obtain⟨hn,Y,aD,HJ,aB,a2⟩:=z2;have nd:=DH.nd;show Ig (Kp hi) λa b us z1 hu hb aE=>?_;subst z1;have sq:∀H',AA H H'->BJ K H' a (.str "fun"::.str f.nm::.ref b::.str f.fh.k::us):=λH' s'=>.inl (.inl (s' _ _ hu));have O:∀H',AA H H'->BJ K H' b ((Cj f.fh.ps f.fh.ks).map V.str):=λH' s'=>.inl (.inl (s' _ _ hb));have lb:((Cj f.fh.ps f.fh.ks).map V.str).length=2*f.fh.ks.length:=by rw[JR,Jq Y]
  exists Ae (Au (qf I hr (AS (Dj (ER op_ge (Eh T.AR (qv 0)) Ag) (Du (qf a6 hr (AM (BY (qv 0) Ag))))) Ai))) (Ae (Cl 2 nd (BY (qv 0) Ag)) (Ae (Au (qf I hr (AS (Dj (Bc Bf rfl T.AE Bv (AS (qv 2) (Cn (v:=.ty "tuple") rfl T.AZ NA rfl))) (Du (ER Cf (Ap Bl (Eh T.AR (qv 2)) Ag) Ag))) Ai))) (Ae (Au (qf I hr (AS (ER Oh (Eh T.AR (qv 2)) (Ap Gk Ag (Kb rfl TG.FW))) Ai))) (Ae (Au (qf I hr (AS (Bc (Ju rfl) rfl T.HF boot_all (AM (El (N':=["name"]) (n:=1) AY.n rfl (F0 (Fk (qv 2) Cc)) (λ_ _ _=>(Az (FX 0) Db (qf a6 hr (AM (qv 0)))))))) Ai))) (Ae (Au (qf I hr (AS (qf aC hr (AM (Fk (qv 2) Cc))) Ai))) (Ae (Au (qf I hr (AS (Bc (Ju rfl) rfl T.HF boot_all (AM (El (N':=["kind","records"]) (n:=1) (js:=[1]) (AY.o ["records"]) rfl (F0 (Fk (qv 2) (Bq Ag))) (λ_ _ _=>(Az (FX 0) Db (qf a5 hr (AS (qv 0) (qv 1)))))))) Ai))) (Ak (Au (qf I hr (AS (qf a5 hr (AS (BY (qv 0) Ag) (qv 1))) Ai))))))))))
  show Ad rfl (Al a _ rfl (.inr (sq H (AA.refl H))) (Aw rfl rfl (Ad rfl (B5 (λh1=>(Ad rfl (B0 _ _ 1 _ rfl rfl (sq H (AA.refl H)) (Be (j:=1) rfl) (Bx f.nm rfl hn λH1 s1=>(Ad (wb rfl) (Ad rfl (B0 _ _ 2 _ rfl rfl (sq H1 s1) (Be (j:=2) rfl) (Ad rfl (Eo rfl (.tup (s1 _ _ hb)) rfl (Ad rfl (E7 (Ad rfl (Al b _ rfl (.inr (O H1 s1)) (Nl rfl rfl (show(0:Int)<2 by decide) rfl (Ad (wb (KA ?_)) ?_))))))))))))))) (λh1=>absurd (KA (by simp;omega)) h1)))))
  .show LM V.int ?_;rw[lb];omega
  show Ad rfl (Al b _ rfl (.inr (O H1 s1)) (Co 2 4 rfl rfl (.inl ⟨by decide,by decide⟩) (Aw rfl rfl (Ad (wb (KA (by rw[lb];omega))) (Ad rfl (Al b _ rfl (O H1 s1) λp hp=>(Bx p rfl ⟨_,.inl (.inl Ah)⟩ λD hD=>?_)))))));have ea:alt (((Cj f.fh.ps f.fh.ks).map V.str).drop (HT.BA ((Cj f.fh.ps f.fh.ks).map V.str).length 0 none))=f.fh.ps.map V.str:=Mo Y;have eb:alt (((Cj f.fh.ps f.fh.ks).map V.str).drop (HT.BA ((Cj f.fh.ps f.fh.ks).map V.str).length 0 (some 1)))=f.fh.ks.map V.str:=by
   rw[show(some 1:Option Int)=some ((1:Nat):Int)from rfl,HT.CB]
   rcases Nat.le_total 1 ((Cj f.fh.ps f.fh.ks).map V.str).length with h|h
   .rw [NT h];show Fj Y
   .rw [OY h,← Fj Y,ML (JV _),ML h]
  rw[ea]at hD ⊢;have s2:AA H (upd H1 p (.tup (f.fh.ps.map V.str))):=s1.upd hp;show O9 (xs:=f.fh.ps) Ah hD (by omega) (λx hx H' R s' kR=>(Ad rfl (Bx x rfl (aB x hx) kR))) λH3 s3 a7=>?_;have a3:=s2.trans s3;show Al D _ rfl (.inl (.inl a7)) (Ad (wb (Rw _)) (Ad rfl (Al b _ rfl (O H3 a3) λp2 a9=>?_)));rw[ea];show Ep false p2 f.fh.ps rfl (.inl (.inl Ah)) (by omega) HJ λH5 s5=>(Ad (wb rfl) ?_);have a4:=(a3.upd a9).trans s5;show Ad rfl (Ad rfl (Al b _ rfl (O H5 a4) λp3 aA=>(Bx p3 rfl ⟨_,.inl (.inl Ah)⟩ λD2 a1=>?_)));rw[eb]at a1 ⊢;have s6:AA H (upd H5 p3 (.tup (f.fh.ks.map V.str))):=a4.upd aA;show O9 (xs:=f.fh.ks) Ah a1 (by omega) (λx hx H' R s' kR=>(Ad rfl (Ad rfl (Ei x r kr rfl ((s6.trans s') _ _ hd) (a2 x (JS _ hx)) (kR H' (AA.refl H')))))) λH7 s7 a8=>?_;have a0:=s6.trans s7;show Al D2 _ rfl (.inl (.inl a8)) (Ad (wb (Rw _)) (Ad rfl (B0 _ _ 3 _ rfl rfl (sq H7 a0) (Be (j:=3) rfl) (Ad rfl (Ei f.fh.k r kr rfl (a0 _ _ hd) (a2 _ JY) (Ad (wb rfl) (k H7 a0)))))))
def Q2:AD ["fun"] ["fun"] (Ao Li):=FS
def Q6 (F:As K "look_at_main" "look_at_main" Li f fd)(T:At K mg)(a1:AJ P w K mg base 1 "want" Ft Fy):AH P w K mg base BE 2 f fd ["fun"] Ar9:=by
 show F.By Q2 λcdv A outer s H vs Q E hr h=>?_
 .show Kq h λv f z1 hi a0 a5 hg z2=>?_;subst z1;obtain⟨a3,k⟩:=z2;show Ig (Kp hi) λa b us z1 I hb a6=>?_;subst z1;show Ad (Ae (Au (qf a1 hr (AS (ER Cf (BY (qv 0) Ag) Ai) Ai))) (Ak (Au (qf a1 hr (AS (Bc (Ju rfl) rfl T.HF boot_all (AM (El (N':=["kind"]) (n:=1) AY.n rfl (F0 (Fk (BY (qv 0) Ag) (Bq Ag))) (λ_ _ _=>(Az (FX 0) Db (ER Cf (qv 0) Ai)))))) Ai))))) ?_
  walk_at "k"
  show Ad rfl (Cm _ _ 3 _ rfl rfl (.inl (.inl I)) (Be (j:=3) rfl) rfl (Ad (wb (by rw[Iy];show KA hg)) (Ad rfl (B0 _ _ 2 (.ref b) rfl rfl (.inl (.inl I)) (Be (j:=2) rfl) (Ad rfl (Al b _ rfl (.inl (.inl hb)) λO a4=>(Bx O rfl ⟨_,.inl (.inl Ah)⟩ λD2 Y=>?_)))))));have eb:alt (((Cj f.fh.ps f.fh.ks).map V.str).drop (HT.BA ((Cj f.fh.ps f.fh.ks).map V.str).length 0 (some 1)))=f.fh.ks.map V.str:=by
   rw[show(some 1:Option Int)=some ((1:Nat):Int)from rfl,HT.CB]
   rcases Nat.le_total 1 ((Cj f.fh.ps f.fh.ks).map V.str).length with h|h
   .rw [NT h];show Fj a0
   .rw [OY h,← Fj a0,ML (JV _),ML h]
  rw[eb]at Y ⊢;have s6:AA H (upd H O (.tup (f.fh.ks.map V.str))):=(AA.refl H).upd a4;show O9 (xs:=f.fh.ks) Ah Y (by omega) (λx hx H' R s' kR=>(Bh rfl rfl ?_)) λH7 s7 a2=>?_
  .rw [Iy,KA (a3 x hx)];show kR H' (AA.refl H')
  .show Al D2 _ rfl (.inl (.inl a2)) (Ad (wb (Rw _)) (k H7 (s6.trans s7)))
end
inductive KInv (E:CE)(k op:Str)(r:List Th):Prop
 | call (f:Str) (es:List Th) (ws:List Str) (h:op="call") (hr:r=.wd f::es) (hf:E.F f=some (ws,k)) (he:kL E es=ws.map some)
 | new (fl:List Str) (h:op="new") (hr:r=[.wd k]) (hR:E.R k=some fl)
 | get (e:Th) (f k0:Str) (fl:List Str) (h:op="get") (hr:r=[e,.wd f]) (he:kE E e=some k0) (hR:E.R k0=some fl) (hf:f∈fl) (hk:k="number")
 | eq (a b:Th) (k0:Str) (h:op="=") (hr:r=[a,b]) (ha:kE E a=some k0) (hb:kE E b=some k0) (h0:k0="number"\/k0="truth") (hk:k="truth")
 | oth (ws:List Str) (h1:op≠"call") (h2:op≠"new") (h3:op≠"get") (h4:op≠"=") (ht:takes.lookup op=some ws) (hg:gives.lookup op=some k) (he:kL E r=ws.map some)
def kE_inv (h:kE E (.tup l)=some k):∃op r,l=.wd op::r/\KInv E k op r:=by
 match l,h with
 | [],h=>rw[kE]at h;cases h
 | .num _::_,h=>rw[kE]at h;cases h
 | .tup _::_,h=>rw[kE]at h;cases h
 | .wd op::r,h=>
  show C6 op r rfl ?_;rw[Qe]at h;unfold opK at h;split at h
  .rename_i I;split at h
   .rename_i f es x a0 e1;rw[B3]at e1;have e2:kL E es=a0:=(PJ e1).2;split at h
    .rename_i ws k' hf;split at h
     .rename_i hw;cases h;show .call f es ws I rfl hf (e2.trans hw)
     .cases h
    .cases h
   .cases h
  .rename_i h1;split at h
   .rename_i I;split at h
    .rename_i n;split at h
     .rename_i fl hR;cases h;show .new fl I rfl hR
     .cases h
    .cases h
   .rename_i h2;split at h
    .rename_i I;split at h
     .rename_i e f k0 x e1;rw[B3,B3,Ed]at e1;have e2:kE E e=some k0:=(PJ e1).1;split at h
      .rename_i fl hR;split at h
       .rename_i hf;cases h;show .get e f k0 fl I rfl e2 hR hf rfl
       .cases h
      .cases h
     .cases h
    .rename_i h3;split at h
     .rename_i I;split at h
      .rename_i k0 k2 e1;split at h
       .rename_i O;cases h
        match r,e1 with
        | [],e1=>rw[Ed]at e1;cases e1
        | [a],e1=>rw[B3,Ed]at e1;have:=LM List.length e1;simp at this
        | [a,b],e1=>
         rw[B3,B3,Ed]at e1;have e2:=(PJ e1).1;have Y:=(PJ (PJ e1).2).1;show .eq a b k0 I rfl e2 (Y.trans O.2) O.1 rfl
        | a::b::c::r',e1=>rw[B3,B3,B3]at e1;have:=LM List.length e1;simp at this
       .cases h
      .cases h
     .rename_i h4;split at h
      .rename_i ws k' ht hg;split at h
       .rename_i hw;cases h;show .oth ws h1 h2 h3 h4 ht hg hw
       .cases h
      .cases h
def KdR (kks:List (Key×V))(κ:Kd):Prop:=∀x k,κ x=some k->Bm kks (Sum.inr x)=some (.str k)
structure HB (K:Av)(C:Addr):Prop where
 cl:Cls K C
 n1:BP K C "records"
 n2:BP K C "functions"
 n3:BP K C "gives"
 n4:BP K C "known"
structure TxT (K:Av)(w:World)(mg:Cb)(aT aR:Addr)(fT:Str->Addr):Prop where
 HL:mg "TAKES"=some (.ref aT)
 takes:GD K w aT (T.takes.map λp=>(p.1,V.ref (fT p.1)))
 tk:∀p∈T.takes,∀H,BJ K H (fT p.1) (p.2.map V.str)
 HI:mg "RESULTS"=some (.ref aR)
 ress:GD K w aR (T.gives.map λp=>(p.1,V.str p.2))
structure Lk (C:Addr)(H:Hp)(o r fn kn:Addr)(s:SE):Prop where
 ob:∃dx fs,H o=some (.ins C dx fs)/\fs.lookup ("records":Str)=some (V.ref r)/\fs.lookup ("functions":Str)=some (V.ref fn)/\fs.lookup ("gives":Str)=some (V.str s.g)/\fs.lookup ("known":Str)=some (V.ref kn)
 rcd:∃kr,H r=some (.dK kr)/\∀n fl,s.R n=some fl->∃t,Bm kr (Sum.inr n)=some (.ref t)/\H t=some (.tup (fl.map V.str))
 fnd:∃kf,H fn=some (.dK kf)/\∀f ks k,s.F f=some (ks,k)->∃v g,Bm kf (Sum.inr f)=some v/\AQ H v (Ca g)/\g.fh.ks=ks/\g.fh.k=k/\g.fh.ps.length=ks.length/\ks.length<=4
def Lk.AF (h:Lk C H o r fn kn s)(t:CA H H')(s1:∀dx fs,H o=some (.ins C dx fs)->H' o=some (.ins C dx fs))(s2:∀kr,H r=some (.dK kr)->H' r=some (.dK kr))(s3:∀kr,H fn=some (.dK kr)->H' fn=some (.dK kr)):Lk C H' o r fn kn s:=by
 obtain⟨⟨dx,fs,e1,e2⟩,⟨kr,I,O⟩,kf,Y,e6⟩:=h;show⟨(C6 dx fs (s1 _ _ e1) e2),(Aq kr (s2 _ I) λn fl h=>let ⟨t',a,b⟩:=O n fl h;(Aq t' a (t _ _ b))),kf,s3 _ Y,λf ks k h=>let ⟨v,g,a,b,c⟩:=e6 f ks k h;(Al v g a (b.mono t) c)⟩
def Lk.same (h:Lk C H o r fn kn s)(I:AA H H'):Lk C H' o r fn kn s:=h.AF I.AF (λ_ _ e=>I _ _ e) (λ_ e=>I _ _ e) λ_ e=>I _ _ e
section
variable (K:Av)(C:Addr)
def Nw (n:Nat):Sp:=λvs H Q _=>∃o r fn kn s κ kks v kd e k,vs=[.ref o,v,.ref kd]/\Lk C H o r fn kn s/\H kd=some (.dK kks)/\KdR kks κ/\AQ H v e/\BF n e/\kE (s.e κ) e=some k/\∀H',AA H H'->Q (.str k) H'
def Al6 (n:Nat):Sp:=λvs H Q _=>∃o r fn kn s κ kks v kd l k,vs=[.ref o,v,.ref kd]/\Lk C H o r fn kn s/\H kd=some (.dK kks)/\KdR kks κ/\AQ H v (.tup l)/\BF n (.tup l)/\kE (s.e κ) (.tup l)=some k/\∀H',AA H H'->Q (.str k) H'
def Nv (n:Nat):Sp:=λvs H Q _=>∃o r fn kn s κ kks a b kd us es,∃ws:List Str,vs=[.ref o,.ref a,.ref b,.ref kd]/\Lk C H o r fn kn s/\H kd=some (.dK kks)/\KdR kks κ/\BJ K H a us/\AI H us es/\BJ K H b (ws.map V.str)/\ws.length<=100/\(∀e∈es,BF n e)/\kL (s.e κ) es=ws.map some/\∀H',AA H H'->Q .BI H'
def Vz (n:Nat):Sp:=λvs H Q _=>∃o r fn kn s κ kks v kd e k fl f,vs=[.ref o,v,.str f,.ref kd]/\Lk C H o r fn kn s/\H kd=some (.dK kks)/\KdR kks κ/\AQ H v e/\BF n e/\kE (s.e κ) e=some k/\s.R k=some fl/\f∈fl/\∀H',AA H H'->Q .BI H'
end
def Yg {K:Av}{H H':Hp}{a:Addr}{xs:List V}(s:AA H H')(h:BJ K H a xs):BJ K H' a xs:=DG.same (b:=false) s h
section
variable {P:Program}{w:World}{K:Av}{mg:Cb}{base:Heap}{t1 t2 t3 t4:Tok}{C aT aR:Addr}{fT:Str->Addr}
abbrev Gy:List Str:=["look","e","kinds"]
def Sd:AD Gy Gy (Ao Lp):=FS
def Sw (hm:2<=m)(F:As K "kind_looked" "kind_looked" Lp f fd)(T:At K mg)(Y:AJ P w K mg base 1 "want" Ft Fy)(a4:AJ P w K mg base 2 "is_of_language" Em Af6)
  (a3:AJ P w K mg base m "kind_of_parts" Gy (Al6 C n)):AH P w K mg base BE (m+1) f fd Gy (Nw C n):=by
 show F.By Sd λcdv A outer s H vs Q E hr h=>?_
 .show Dc h λo r fn kn se κ z1=>Tu z1 λkks v kd e kk z2 lk CU O hi z3=>Ch z3 λhd hk k=>?_;subst z2;exists Ae (Bj (Eb (Bc Bf rfl T.AE Bv (AS (qv 1) (Cn (v:=.ty "tuple") rfl T.AZ NA rfl)))) (Ak (Ar (qf a3 hr (BV (qv 0) (qv 1) (qv 2))))) Ax) (Ae (Bj (Eb (Bc Bf rfl T.AE Bv (AS (qv 1) (Cn (v:=.ty "str") rfl T.DK PX rfl)))) (Ae (Bj (Rk Hi (qv 1) (Bk (AS Ai Ai)) (by with_unfolding_all rfl)) (Ak (Ar Ai)) Ax) (Ae (Au (qf Y hr (AS (Nf (Ds hr) (qv 1) (qv 2)) Ai))) (Ak (Ar (BU hr (qv 2) (qv 1)))))) Ax) (Ae (Au (qf Y hr (AS (qf a4 hr (AM (qv 1))) Ai))) (Ak (Ar Ai))))
  cases e with
  | num i=>
   cases(show v=.int i from hi);rw[kE]at hk;obtain⟨a1,e⟩|hk:=Dk hk
   .cases e;show Ad rfl (Eo rfl (.int _) rfl (Ad rfl (Ad rfl (Eo rfl (.int _) rfl (Ad rfl (Ad rfl (Bx i rfl a1 (Ad rfl (k H (AA.refl H))))))))))
   .cases hk
  | wd x=>
   cases(show v=.str x from hi);show Ad rfl (Eo rfl (.str _) rfl (Ad rfl (Ad rfl (Eo rfl (.str _) rfl (Ad rfl ?_)))));show Bh rfl (zl 2) λp I=>(Jr p _ rfl (.inr (.inl (.inl Ah))) rfl rfl (Ad rfl (B5 (λh=>?_) (λh=>?_))))
   .have h':HE (V.str x) ((["yes","no"]:List Str).map V.str)=true:=h;rw[Fw,MJ]at h';have h2:x="yes"\/x="no":=by simpa using h'
    rw[kE,KJ h2]at hk;cases hk;show k _ ((AA.refl H).upd I)
   .have h2:¬(x="yes"\/x="no"):=λz=>h (by
     show HE (V.str x) ((["yes","no"]:List Str).map V.str)=true
     rw[Fw]
     simpa using z)
    rw[kE,KH h2]at hk;have hv:=O x kk hk;have a2:upd H p (.tup [.str "yes",.str "no"]) kd=some (.dK kks):=by rw[Aj (Af CU I)];show CU
    have hg:AL (upd H p (.tup [.str "yes",.str "no"])) kd (.str x) (some (.str kk)):=by rw[← hv];show AL.k (k:=Sum.inr x) a2
    show Ad rfl (Ad rfl (Al kd _ rfl hg (Ad (wb rfl) (Ad rfl (Ad rfl (Al kd (.str kk) rfl hg (k _ ((AA.refl H).upd I))))))))
  | tup l=>
   have a0:=hi;show A0 a0 λa us z1 hu _=>?_;subst z1;show Ad rfl (Eo rfl (.tup hu) rfl (Ad rfl (Ad rfl (Ad rfl (Ad rfl (Cw o r fn kn se κ (F5 kks _ kd l kk rfl lk CU O hi (Az hd hk k))))))))
abbrev Mp:List Str:=["look","parts","wanted","kinds"]
def CY:AD ["look","parts","wanted","kinds","part","kind"] Mp (Ao J2):=FS
def P7 (hm:1<=m)(F:As K "look_at_parts" "look_at_parts" J2 f fd)(T:At K mg)(a3:AJ P w K mg base 1 "want" Ft Fy)(a6:AJ P w K mg base m "kind_looked" Gy (Nw C n)):AH P w K mg base BE (m+1) f fd Mp (Nv K C n):=by
 show F.By CY λcdv A outer s H vs Q E hr h=>?_
 .show Dc h λo r fn kn se κ z1=>?_;show Dc z1 λkks a b kd us es z2=>?_;clear z1;show Oy z2 λws z3 lk CU hκ ha z4=>?_;clear z2;show Ib z4 λa1 hb lw hd a0 k=>?_;clear z4;clear h;subst z3;have nd:=CY.nd;have len:es.length=ws.length:=by
   have:=LM List.length a0;rw[JR]at this;rw[← this];clear a0 a1 hd this
   induction es with
   | nil=>rw[Ed];rfl
   | cons x r Y=>rw[B3,KC,KC,Y]
  have a2:us.length=ws.length:=by rw[a1.len,len]
  have a4:∀(i:Nat) (e:Th) (q:Str),es[i]?=some e->ws[i]?=some q->kE (se.e κ) e=some q:=λi e q h1 h2=>by
   have:(kL (se.e κ) es)[i]?=(ws.map some)[i]?:=by rw[a0]
   have e1:∀(l:List Th) (i:Nat),(kL (se.e κ) l)[i]?=l[i]?.map (kE (se.e κ)):=λl=>by
    induction l with
    | nil=>intro i;rw[Ed];simp
    | cons x r Y=>
     intro i;rw[B3]
     cases i with
     | zero=>rfl
     | succ i=>show Y i
   rw[e1,h1,LG,h2]at this;show LV this
  exists Ae (Au (qf a3 hr (AS (ER Cf (Eh T.AR (qv 1)) (Eh T.AR (qv 2))) Ai))) (Ak (Ex MO rfl (Ag3 (b:=false) (c:=false) rfl T.n_zip (AS (qv 1) (qv 2))) (Wk rfl (Gb (GV 4 nd) (Gb (GV 5 nd) Rl))) (Ak (Au (qf a3 hr (AS (ER Cf (qf a6 hr (BV (qv 0) (qv 4) (qv 3))) (qv 5)) Ai))))))
  show Ad rfl (Al a us rfl (.inr ha) (Ad rfl (Co b _ rfl (.inr hb) rfl (Ad (wb (KA (by rw[JR,a2]))) (Ad rfl (Ad rfl (Co a b rfl ⟨_,ha⟩ ⟨_,hb⟩ (Zh (xs:=us) (ys:=ws.map V.str) (λi σ H'=>(∃o1 o2,σ=[some (.ref o),some (.ref a),some (.ref b),some (.ref kd),o1,o2])/\AA H H') ⟨(Jn rfl),AA.refl H⟩ ?_ (by rw[JR,a2]) ?_ ?_))))))))
  .rintro i σ H' _ ⟨_,I⟩;show⟨Yg I ha,Yg I hb⟩
  .rintro i x y σ H' tp hx hy ⟨⟨o1,o2,rfl⟩,I⟩ a5;show Am (a1.get hx) λe he ie=>?_;rw[LG]at hy;show Am (Option.map_eq_some_iff.mp hy) λq hq z1=>?_;subst z1;have O:AA H (upd H' tp (.tup [x,.str q])):=I.upd a5;show Co tp _ rfl (BJ.of Ah) rfl (Xk rfl (Aw rfl rfl (Ad rfl (Ad rfl (Ad rfl (Cw o r fn kn se κ (F5 kks x kd e q rfl (lk.same O) (O _ _ CU) hκ (ie.mono O.AF) (Az (hd e (KR he)) (a4 i e q he hq) λH1 s1=>?_))))))));show Bh rfl rfl (Bh (wb (by rw[Iy];show KA rfl)) (Jn rfl) (O.trans s1))
  .rintro σ H' ⟨⟨o1,o2,rfl⟩,I⟩;show k H' I
abbrev Ss:List Str:=["look","e","field","kinds"]
def DA:AD ["look","e","field","kinds","record"] Ss (Ao J6):=FS
def P8 (hm:1<=m)(F:As K "look_at_field" "look_at_field" J6 f fd)(LT:HB K C)(a2:AJ P w K mg base 1 "want" Ft Fy)(a3:AJ P w K mg base m "kind_looked" Gy (Nw C n)):AH P w K mg base BE (m+1) f fd Ss (Vz C n):=by
 show F.By DA λcdv A outer s H vs Q E hr h=>?_
 .show Dc h λo r fn kn se κ z1=>Dc z1 λkks v kd e kk fl z2=>Oy z2 λfi z3 lk CU hκ hi z4=>Ma z4 λhd hk hR hf k=>?_;subst z3;have nd:=DA.nd;exists Ae (Cl 4 nd (qf a3 hr (BV (qv 0) (qv 1) (qv 3)))) (Ak (Au (qf a2 hr (AS (Dj (Nf (Ds hr) (qv 4) (Lr (qv 0) rfl)) (Du (Io Hi (qv 2) (BU hr (Lr (qv 0) rfl) (qv 4)) (by with_unfolding_all rfl)))) Ai))))
  show Ad rfl (Ad rfl (Ad rfl (Cw o r fn kn se κ (F5 kks v kd e kk rfl lk CU hκ hi (Az hd hk λH1 s1=>?_)))));obtain⟨⟨dx,fs,e1,I,f2,f3,f4⟩,⟨kr,O,Y⟩,kf,e5,e6⟩:=lk.same s1;show Am (Y kk fl hR) λt a0 a1=>?_;have hg:AL H1 r (.str kk) (some (.ref t)):=by rw[← a0];show AL.k (k:=Sum.inr kk) O
  show Ad rfl (Ad rfl (F5 o C dx fs _ rfl e1 LT.cl LT.n1 I (Al r _ rfl hg (Ad rfl (E7 (Ad rfl (Ad rfl (F5 o C dx fs _ rfl e1 LT.cl LT.n1 I (Ad rfl (Al r _ rfl hg (Jr t _ rfl (.inr (.inl (.inl a1))) rfl (U8 _) (Ad (wb ?_) (k H1 s1)))))))))))))
  show HE (V.str fi) (fl.map V.str)=true
  rw[Fw];show KA hf
end
def eb_cut (I:ps.length=ks.length):alt (((Cj ps ks).map V.str).drop (HT.BA ((Cj ps ks).map V.str).length 0 (some 1)))=ks.map V.str:=by
 rw[show(some 1:Option Int)=some ((1:Nat):Int)from rfl,HT.CB]
 rcases Nat.le_total 1 ((Cj ps ks).map V.str).length with h|h
 .rw [NT h];show Fj I
 .rw [OY h,← Fj I,ML (JV _),ML h]
theorem Nk {α:Type}:∀{l:List (Str×α)} {x:Str} {v:α},l.lookup x=some v->(x,v)∈l
 | [],_,_,h=>by cases h
 | (y,u)::r,x,v,h=>by
  rw[ND]at h
  cases c:x==y with
  | true=>rw[c]at h;cases h;rw[eq_of_beq c];show JY
  | false=>rw[c]at h;show JS _ (Nk h)
section
variable {P:Program}{w:World}{K:Av}{mg:Cb}{base:Heap}{t1 t2 t3 t4:Tok}{C aT aR:Addr}{fT:Str->Addr}
def CW:AD ["look","e","kinds","fun","first"] Gy (Ao J8):=FS
def P9 (hm:1<=m)(F:As K "kind_of_parts" "kind_of_parts" J8 f fd)(T:At K mg)(TT:TxT K w mg aT aR fT)(LT:HB K C)(a6:AJ P w K mg base 1 "want" Ft Fy)
  (aU:AJ P w K mg base m "kind_looked" Gy (Nw C n))(aE:AJ P w K mg base m "look_at_parts" Mp (Nv K C n))(aV:AJ P w K mg base m "look_at_field" Ss (Vz C n)):AH P w K mg base BE (m+1) f fd Gy (Al6 C (n+1)):=by
 show F.By CW λcdv A outer s H vs Q E hr h=>?_
 .show Dc h λo r fn kn se κ z1=>Tu z1 λkks v kd l kk z2 lk CU hκ hi z3=>?_;clear z1;show Ch z3 λhd hk k=>?_;clear z3;clear h;subst z2;have nd:=CW.nd;have aX:(2000000:Nat)<=sizeLine:=by rw[LJ];omega
  show C8 (kE_inv hk) λop rs z1 aP=>?_;subst z1;have a7:=Ee hd;show A0 hi λa us z1 hu z2=>A0 z2 λv0 vr z3 h0 a0=>?_;clear z2;clear hi;subst z1 z3;cases(show v0=.str op from h0);obtain⟨⟨dx,fs,e1,f1,f2,f3,f4⟩,⟨kr,e3,e4⟩,kf,e5,e6⟩:=id lk;have sq:∀{H'},AA H H'->BJ K H' a (.str op::vr):=λs'=>.inl (.inl (s' _ _ hu));have O:DY (V.str op::vr) 0=some (V.str op):=Be (j:=0) rfl;have I:=AA.refl H;have len:=a0.len;show Ad (Ae (Au (qf a6 hr (AS (Dj (ER E8 (Eh T.AR (qv 1)) Ag) (Du (Bc Bf rfl T.AE Bv (AS (BY (qv 1) Ag) (Cn (v:=.ty "str") rfl T.DK PX rfl))))) Ai))) (Ae (Bj (BM Cf (BY (qv 1) Ag) Ai) (Ae (Au (qf a6 hr (AS (Dj (ER op_ge (Eh T.AR (qv 1)) Ag) (Dj (Bc Bf rfl T.AE Bv (AS (BY (qv 1) Ag) (Cn (v:=.ty "str") rfl T.DK PX rfl))) (Du (Nf (Ds hr) (BY (qv 1) Ag) (Lr (qv 0) rfl))))) Ai))) (Ae (Cl 3 nd (BU hr (Lr (qv 0) rfl) (BY (qv 1) Ag))) (Ae (Au (qf aE hr (EW (qv 0) (Bu E9 (qv 1) (Bq Ag) Cc) (Fk (BY (qv 3) Ag) (Bq Ag)) (qv 2)))) (Ak (Ar (BY (qv 3) Ag)))))) Ax) (Ae (Bj (BM Cf (BY (qv 1) Ag) Ai) (Ae (Au (qf a6 hr (AS (Dj (ER Cf (Eh T.AR (qv 1)) Ag) (Dj (Bc Bf rfl T.AE Bv (AS (BY (qv 1) Ag) (Cn (v:=.ty "str") rfl T.DK PX rfl))) (Du (Nf (Ds hr) (BY (qv 1) Ag) (Lr (qv 0) rfl))))) Ai))) (Ak (Ar (BY (qv 1) Ag)))) Ax) (Ae (Bj (BM Cf (BY (qv 1) Ag) Ai) (Ae (Au (qf a6 hr (AS (ER Cf (Eh T.AR (qv 1)) Ag) Ai))) (Ak (Au (qf aV hr (EW (qv 0) (BY (qv 1) Ag) (BY (qv 1) Ag) (qv 2)))))) (Ak (Bj (BM Cf (BY (qv 1) Ag) Ai) (Ae (Au (qf a6 hr (AS (ER Cf (Eh T.AR (qv 1)) Ag) Ai))) (Ae (Cl 4 nd (qf aU hr (BV (qv 0) (BY (qv 1) Ag) (qv 2)))) (Ae (Au (qf a6 hr (AS (Io Hi (qv 4) (Bk (AS Ai Ai)) (by with_unfolding_all rfl)) Ai))) (Ak (Au (qf aE hr (EW (qv 0) (Bu E9 (qv 1) (Bq Ag) Cc) (Bk (AM (qv 4))) (qv 2)))))))) (Ae (Au (qf a6 hr (AS (Dj (Ab4 TT.takes rfl TT.HL (BY (qv 1) Ag)) (Du (Ab4 TT.ress rfl TT.HI (BY (qv 1) Ag)))) Ai))) (Ak (Au (qf aE hr (EW (qv 0) (Bu E9 (qv 1) (Bq Ag) Cc) (Oa TT.takes rfl TT.HL (BY (qv 1) Ag) (λ_ _=>rfl)) (qv 2))))))))) (Ak (Ar (Oa TT.ress rfl TT.HI (BY (qv 1) Ag) (λ_ _=>rfl)))))))) ?_
  walk_at "k"
  show Ad rfl (Al a _ rfl (.inr (sq I)) (Aw rfl rfl (Ad rfl (B5 (λ_=>(Ad rfl (B0 _ _ 0 _ rfl rfl (sq I) O (Eo rfl (.str _) rfl (Ad (wb rfl) ?_))))) (λc=>absurd (KA (by simp)) c)))))
  cases aP with
  | call a2 es ws ho a4 hf he=>
   subst ho a4;show A0 a0 λv1 a1 z1 h1 a3=>?_;clear a0;subst z1;cases(show v1=.str a2 from h1);have Y:DY (V.str "call"::V.str a2::a1) 1=some (V.str a2):=Be (j:=1) rfl;show Kq (e6 a2 ws kk hf) λfv g g1 g2 g3 g4 g5 g6=>?_;have hg:AL H fn (.str a2) (some fv):=by rw[← g1];show AL.k (k:=Sum.inr a2) e5
   show Ig (Kp g2) λfa fb aW z1 aB aH aZ=>?_;subst z1;rw[g4]at aB;show Ad rfl (Cm _ _ 0 _ rfl rfl (sq I) O rfl (Ad rfl (B5 (λ_=>?_) (λc=>absurd (KA rfl) c))));show Ad rfl (Al a _ rfl (.inr (sq I)) (Aw rfl rfl (Ad rfl (B5 (λ_=>(Ad rfl (B0 _ _ 1 _ rfl rfl (sq I) Y (Eo rfl (.str _) rfl (Ad rfl (E7 (Ad rfl (B0 _ _ 1 _ rfl rfl (sq I) Y (Ad rfl (F5 o C dx fs _ rfl e1 LT.cl LT.n2 f2 (Al fn _ rfl hg (Ad (wb rfl) (Ad rfl (F5 o C dx fs _ rfl e1 LT.cl LT.n2 f2 (Ad rfl (B0 _ _ 1 _ rfl rfl (sq I) Y (Al fn _ rfl hg (Ad rfl (Ad rfl (Aq 2 rfl (Co a _ rfl (sq I) (F3 (n:=2) (by decide) (by simp)) λp hp=>?_))))))))))))))))))))) (λc=>absurd (KA (by simp;omega)) c)))));rw[show Ef (V.str "call"::V.str a2::a1) (some 2) none=a1 from Dz _ 2];generalize z:upd H p _=H1;obtain⟨s1,q1⟩:=Bz hp z;clear z;show Ad rfl (B0 _ _ 2 _ rfl rfl (.inl (.inl (s1 _ _ aB))) (Be (j:=2) rfl) (Ad rfl (Al fb _ rfl (.inl (.inl (s1 _ _ aH))) λp2 aJ=>?_)));rw[eb_cut (by rw[g3];show g5),g3];generalize z:upd H1 p2 _=H2;obtain⟨s2,q2⟩:=Bz aJ z;clear z;have a5:=s1.trans s2;show Ad rfl (Cw o r fn kn se κ (Cw kks p p2 kd a1 es (Ko ws rfl (lk.same a5) (a5 _ _ CU) hκ (.inl (.inl (s2 _ _ q1))) (D8 (a3.mono a5.AF) (.inl (.inl q2)) (by omega) (λe a8=>a7 e (JS _ (JS _ a8))) he λH3 s3=>?_))));have a9:=a5.trans s3;show Ad rfl (B0 _ _ 3 _ rfl rfl (.inl (.inl (a9 _ _ aB))) (Be (j:=3) rfl) (k H3 a9))
  | new fl ho a4 hR=>
   subst ho a4;show A0 a0 λv1 a1 z1 h1 a3=>?_;clear a0;subst z1;cases(show v1=.str kk from h1);cases(show a1=[] from a3);have Y:DY [V.str "new",V.str kk] 1=some (V.str kk):=Be (j:=1) rfl;show Am (e4 kk fl hR) λt aN aY=>?_;have hg:AL H r (.str kk) (some (.ref t)):=by rw[← aN];show AL.k (k:=Sum.inr kk) e3
   show Ad rfl (Cm _ _ 0 _ rfl rfl (sq I) O rfl (Ad rfl (B5 (λc=>absurd (IB c) (by decide)) (λ_=>Ad rfl (Cm _ _ 0 _ rfl rfl (sq I) O rfl (Ad rfl (B5 (λ_=>(Ad rfl (Co a _ rfl (.inr (sq I)) rfl (Ad rfl (E7 (Ad rfl (B0 _ _ 1 _ rfl rfl (sq I) Y (Eo rfl (.str _) rfl (Ad rfl (E7 (Ad rfl (B0 _ _ 1 _ rfl rfl (sq I) Y (Ad rfl (F5 o C dx fs _ rfl e1 LT.cl LT.n1 f1 (Al r _ rfl hg (Ad (wb rfl) (Ad rfl (B0 _ _ 1 _ rfl rfl (sq I) Y (k H I))))))))))))))))))) (λc=>absurd (KA rfl) c))))))))
  | get e fi k0 fl ho a4 he hR hf aC=>
   subst ho a4 aC;show A0 a0 λv1 a1 z1 h1 z2=>A0 z2 λv2 aD z3 h2 a3=>?_;clear z2;clear a0;subst z1 z3;cases(show v2=.str fi from h2);cases(show aD=[] from a3);have Y:DY [V.str "get",v1,V.str fi] 1=some v1:=Be (j:=1) rfl;have aG:DY [V.str "get",v1,V.str fi] 2=some (V.str fi):=Be (j:=2) rfl;show Ad rfl (Cm _ _ 0 _ rfl rfl (sq I) O rfl (Ad rfl (B5 (λc=>absurd (IB c) (by decide)) (λ_=>Ad rfl (Cm _ _ 0 _ rfl rfl (sq I) O rfl (Ad rfl (B5 (λc=>absurd (IB c) (by decide)) (λ_=>Ad rfl (Cm _ _ 0 _ rfl rfl (sq I) O rfl (Ad rfl (B5 (λ_=>(Ad rfl (Co a _ rfl (.inr (sq I)) rfl (Ad (wb rfl) (Ad rfl (Ad rfl (B0 _ _ 1 _ rfl rfl (sq I) Y (Ad rfl (B0 _ _ 2 _ rfl rfl (sq I) aG (Ad rfl (Cw o r fn kn se κ (Cw kks v1 kd e k0 fl (Ko fi rfl lk CU hκ h1 (Fb (a7 e (by simp)) he hR hf λH1 s1=>(Ad rfl (B0 _ _ 0 _ rfl rfl (sq s1) O (Al "get" _ rfl (by decide) (k H1 s1)))))))))))))))))) (λc=>absurd (KA rfl) c))))))))))))
  | eq ea eb k0 ho a4 ha hb aI aC=>
   subst ho a4 aC;show A0 a0 λv1 a1 z1 h1 z2=>A0 z2 λv2 aD z3 h2 a3=>?_;clear z2;clear a0;subst z1 z3;cases(show aD=[] from a3);have Y:DY [V.str "=",v1,v2] 1=some v1:=Be (j:=1) rfl;show Ad rfl (Cm _ _ 0 _ rfl rfl (sq I) O rfl (Ad rfl (B5 (λc=>absurd (IB c) (by decide)) (λ_=>Ad rfl (Cm _ _ 0 _ rfl rfl (sq I) O rfl (Ad rfl (B5 (λc=>absurd (IB c) (by decide)) (λ_=>Ad rfl (Cm _ _ 0 _ rfl rfl (sq I) O rfl (Ad rfl (B5 (λc=>absurd (IB c) (by decide)) (λ_=>Ad rfl (Cm _ _ 0 _ rfl rfl (sq I) O rfl (Ad rfl (B5 (λ_=>(Ad rfl (Co a _ rfl (.inr (sq I)) rfl (Ad (wb rfl) (Ad rfl (Ad rfl (B0 _ _ 1 _ rfl rfl (sq I) Y (Ad rfl (Cw o r fn kn se κ (F5 kks v1 kd ea k0 rfl lk CU hκ h1 (Az (a7 ea (by simp)) ha λH1 s1=>?_))))))))))) (λc=>absurd (KA rfl) c))))))))))))))));show Bh rfl (zl 2) λp hp=>(Jr p _ rfl (.inr (.inl (.inl Ah))) rfl rfl (Ad (wb ?_) ?_))
   .show HE (V.str k0) ((["number","truth"]:List Str).map V.str)=true
    rw[Fw];show KA ?_
    rcases aI with z|z<;>simp[z]
   generalize z:upd H1 p _=H2;obtain⟨s2,q2⟩:=Bz hp z;clear z;have a5:=s1.trans s2;show Ad rfl (Ad rfl (Aq 2 rfl (Co a _ rfl (sq a5) (F3 (n:=2) (by decide) (by simp)) λp3 aK=>?_)));rw[show Ef [V.str "=",v1,v2] (some 2) none=[v2] from Dz _ 2];generalize z:upd H2 p3 _=H3;obtain⟨s3,q3⟩:=Bz aK z;clear z;show Bh rfl (zl 1) λp4 aM=>?_;generalize z:upd H3 p4 _=H4;obtain⟨s4,q4⟩:=Bz aM z;clear z;have aA:=a5.trans (s3.trans s4);show Ad rfl (Cw o r fn kn se κ (Cw kks p3 p4 kd [v2] [eb] (Ko [k0] rfl (lk.same aA) (aA _ _ CU) hκ (.inl (.inl (s4 _ _ q3))) (D8 (Al v2 [] rfl (h2.mono aA.AF) rfl) (.inl (.inl q4)) (by show 1<=100;decide) (λe a8=>a7 e (by rw[KD.mp a8];simp)) (by rw[B3,Ed,hb];rfl) λH5 s5=>?_))));have aF:=aA.trans s5;show Ad rfl (B0 _ _ 0 _ rfl rfl (sq aF) O (Al "=" _ rfl (by decide) (k H5 aF)))
  | oth ws n1 n2 n3 n4 ht hg he=>
   have mt:=Nk ht;have aQ:=Nk hg;show Ad rfl (Cm _ _ 0 _ rfl rfl (sq I) O rfl (Ad rfl (B5 (λc=>absurd (IB c) n1) (λ_=>Ad rfl (Cm _ _ 0 _ rfl rfl (sq I) O rfl (Ad rfl (B5 (λc=>absurd (IB c) n2) (λ_=>Ad rfl (Cm _ _ 0 _ rfl rfl (sq I) O rfl (Ad rfl (B5 (λc=>absurd (IB c) n3) (λ_=>Ad rfl (Cm _ _ 0 _ rfl rfl (sq I) O rfl (Ad rfl (B5 (λc=>absurd (IB c) n4) (λ_=>?_))))))))))))))));have m1:(op,V.ref (fT op))∈takes.map λp=>(p.1,V.ref (fT p.1)):=KI.mpr (Ad mt rfl);have m2:(op,V.str kk)∈gives.map λp=>(p.1,V.str p.2):=KI.mpr (Ad aQ rfl);show Ad rfl (B0 _ _ 0 _ rfl rfl (sq I) O (Al op _ rfl m1 (Ad rfl (E7 (Ad rfl (B0 _ _ 0 _ rfl rfl (sq I) O (Al op _ rfl m2 (Ad (wb rfl) (Ad rfl (Ad rfl (Aq 1 rfl (Co a _ rfl (sq I) (F3 (n:=1) (by decide) (by simp)) λp hp=>?_))))))))))));rw[show Ef (V.str op::vr) (some 1) none=vr from Dz _ 1];generalize z:upd H p _=H1;obtain⟨s1,q1⟩:=Bz hp z;clear z;have lw:ws.length<=100:=by
    have:∀p∈takes,p.2.length<=100:=by decide
    show this _ mt
   show Ad rfl (B0 _ _ 0 _ rfl rfl (sq s1) O (Al op _ rfl m1 (Ad rfl (Cw o r fn kn se κ (Cw kks p (fT op) kd vr rs (Ko ws rfl (lk.same s1) (s1 _ _ CU) hκ (.inl (.inl q1)) (D8 (a0.mono s1.AF) (TT.tk _ mt _) lw (λe a8=>a7 e (JS _ a8)) he λH3 s3=>?_)))))));have a9:=s1.trans s3;show Ad rfl (B0 _ _ 0 _ rfl rfl (sq a9) O (Al op _ rfl m2 (k H3 a9)))
end
section
def Rq (h:BX s (.tup (.wd "let"::r)) κ kn=some (κ',kn',e)):∃x u k,r=[.wd x,u]/\kE (s.e κ) u=some k/\Dd x=true/\x∉kn/\κ'=putK κ x k/\kn'=x::kn/\e=false:=by
 rw[C5]at h;unfold FZ at h;rw[KJ rfl]at h;split at h
 .rename_i x u;split at h
  .rename_i k hk;unfold GC at h;obtain⟨c,h⟩|h:=Dk h
   .cases h;rw[MA,NP,MW]at c;show Lb x u k rfl hk c.1 c.2 rfl ⟨rfl,rfl⟩
   .cases h
  .cases h
 .cases h
def Rp (h:BX s (.tup (.wd "put"::r)) κ kn=some (κ',kn',e)):∃x u k,r=[.wd x,u]/\κ x=some k/\kE (s.e κ) u=some k/\κ'=κ/\kn'=kn/\e=false:=by
 rw[C5]at h;unfold FZ at h;rw[AW,KJ rfl]at h;split at h
 .rename_i x u;split at h
  .rename_i k hk;unfold GC at h;obtain⟨c,h⟩|h:=Dk h
   .cases h;show Lb x u k rfl hk (KP c) rfl rfl rfl
   .cases h
  .cases h
 .cases h
def Ga:∃f,Cs s (t::r)=f::Cs s r/\(∀κ kn x,f κ kn=some x->∃a,t=.tup a/\D7 s a κ kn=some x):=by
 cases t with
 | num i=>rw[Cs];show Ad rfl λκ kn x h=>by cases h
 | wd i=>rw[Cs];show Ad rfl λκ kn x h=>by cases h
 | tup a=>rw[Cs];show Ad rfl λκ kn x h=>(Aq a rfl h)
def Rz:Cs s []=[]:=by rw[Cs]
def Ti (h:BX s (.tup (.wd "if"::r)) κ kn=some (κ',kn',e)):∃t a b κ1 kn1 e1 κ2 e2,r=[t,.tup a,.tup b]/\kE (s.e κ) t=some ("truth":Str)/\D7 s a κ kn=some (κ1,kn1,e1)/\D7 s b κ kn1=some (κ2,kn',e2)/\κ'=κ/\e=(e1&&e2):=by
 rw[C5]at h;unfold FZ at h;rw[AW,AW,KJ rfl]at h;split at h
 .rename_i t y z f0 fa fb hs;show Am (Ga (s:=s) (t:=t) (r:=[y,z])) λg0 O _=>Am (Ga (s:=s) (t:=y) (r:=[z])) λg1 Y I=>Am (Ga (s:=s) (t:=z) (r:=[])) λg2 q2 p2=>?_;rw[O,Y,q2,Rz]at hs;cases hs;obtain⟨c,h⟩|h:=Dk h
  .split at h
   .rename_i x kn1 e1 h1;split at h
    .rename_i x2 kn2 e2 h2;cases h;show Am (I _ _ _ h1) λa z1 ha=>?_;subst z1;show Am (p2 _ _ _ h2) λb z1 hb=>?_;subst z1;show Cw t a b _ kn1 e1 (Km _ e2 rfl c ha hb rfl rfl)
    .cases h
   .cases h
  .cases h
 .cases h
def Jp (h:BX s (.tup (.wd "while"::r)) κ kn=some (κ',kn',e)):∃t a κ1 e1,r=[t,.tup a]/\kE (s.e κ) t=some ("truth":Str)/\D7 s a κ kn=some (κ1,kn',e1)/\κ'=κ/\e=false:=by
 rw[C5]at h;unfold FZ at h;rw[AW,AW,AW,KJ rfl]at h;split at h
 .rename_i t y f0 fa hs;show Am (Ga (s:=s) (t:=t) (r:=[y])) λg0 O _=>Am (Ga (s:=s) (t:=y) (r:=[])) λg1 Y I=>?_;rw[O,Y,Rz]at hs;cases hs;obtain⟨c,h⟩|h:=Dk h
  .split at h
   .rename_i x kn1 e1 h1;cases h;show Am (I _ _ _ h1) λa z1 ha=>?_;subst z1;show B0 t a _ e1 rfl c ha rfl rfl
   .cases h
  .cases h
 .cases h
def kL_one (h:kL E r=[x]):∃a,r=[a]/\kE E a=x:=by
 match r,h with
 | [],h=>rw[Ed]at h;cases h
 | [a],h=>rw[B3,Ed]at h;show Aq a rfl ((PJ h).1)
 | a::b::r,h=>rw[B3,B3]at h;have:=LM List.length h;simp at this
def Ot (h:BX s (.tup (.wd "give"::r)) κ kn=some (κ',kn',e)):∃t,r=[t]/\kE (s.e κ) t=some s.g/\κ'=κ/\kn'=kn/\e=true:=by
 rw[C5]at h;unfold FZ at h;rw[AW,AW,AW,AW,KJ rfl]at h;unfold GC at h;obtain⟨c,h⟩|h:=Dk h
 .cases h;show Am (kL_one (KP c)) λa z1 q=>?_;subst z1;show Rg a rfl q rfl rfl rfl
 .cases h
def Ou (h:BX s (.tup (.wd "fail"::r)) κ kn=some (κ',kn',e)):∃n,r=[.num n]/\(-32768<=n/\n<=32767)/\κ'=κ/\kn'=kn/\e=true:=by
 rw[C5]at h;unfold FZ at h;rw[AW,AW,AW,AW,AW,KJ rfl]at h;split at h
 .rename_i n;unfold GC at h;obtain⟨c,h⟩|h:=Dk h
  .cases h;show Rg n rfl (KP c) rfl rfl rfl
  .cases h
 .cases h
def Ro (h:BX s (.tup (.wd "set"::r)) κ kn=some (κ',kn',e)):∃t f v k fl,r=[t,.wd f,v]/\kE (s.e κ) t=some k/\s.R k=some fl/\f∈fl/\kE (s.e κ) v=some ("number":Str)/\κ'=κ/\kn'=kn/\e=false:=by
 rw[C5]at h;unfold FZ at h;rw[AW,AW,AW,AW,AW,AW,KJ rfl]at h;split at h
 .rename_i t f v;split at h
  .rename_i k hk;split at h
   .rename_i fl hR;unfold GC at h;obtain⟨c,h⟩|h:=Dk h
    .cases h;rw[MA,MJ,MJ]at c;show F5 t f v k fl rfl hk hR c.1 c.2 (Az rfl rfl rfl)
    .cases h
   .cases h
  .cases h
 .cases h
def Ml {op:Str}(I:op="out"\/op="store")(h:BX s (.tup (.wd op::r)) κ kn=some (κ',kn',e)):∃ws,(op,ws)∈takes/\kL (s.e κ) r=ws.map some/\κ'=κ/\kn'=kn/\e=false:=by
 rw[C5]at h;unfold FZ at h
 rcases I with rfl|rfl
 .rw [AW,AW,AW,AW,AW,AW,AW,KJ rfl]at h;unfold GC at h;obtain⟨c,h⟩|h:=Dk h
  .cases h;show Rg ["number"] (by decide) (KP c) rfl rfl rfl
  .cases h
 .rw [AW,AW,AW,AW,AW,AW,AW,AW,KJ rfl]at h;unfold GC at h;obtain⟨c,h⟩|h:=Dk h
  .cases h;show Rg ["list","number","number"] (by decide) (KP c) rfl rfl rfl
  .cases h
def Xl (h:BX s (.tup (.wd "do"::r)) κ kn=some (κ',kn',e)):∃t k,r=[t]/\kE (s.e κ) t=some k/\κ'=κ/\kn'=kn/\e=false:=by
 rw[C5]at h;unfold FZ at h;rw[AW,AW,AW,AW,AW,AW,AW,AW,AW,KJ rfl]at h;split at h
 .rename_i t;unfold GC at h;obtain⟨c,h⟩|h:=Dk h
  .cases h;obtain⟨k,hk⟩:=Option.isSome_iff_exists.mp c;show Jr t k rfl hk rfl rfl rfl
  .cases h
 .cases h
noncomputable def BN:List (Str×Nat):=[("let",3),("put",3),("if",4),("while",3),("out",2),("give",2),("fail",2),("set",4),("store",4),("do",2)]
theorem kL_len:∀r:List Th,(kL E r).length=r.length
 | []=>by rw[Ed];rfl
 | a::r=>by rw[B3,KC,KC,kL_len r]
def Yf {t:Th}(h:BX s t κ kn=some (κ',kn',e)):∃op r,t=.tup (.wd op::r)/\(op,r.length+1)∈BN:=by
 match t,h with
 | .num _,h=>rw[BX]at h;cases h
 | .wd _,h=>rw[BX]at h;cases h
 | .tup [],h=>rw[BX]at h;cases h
 | .tup (.num _::_),h=>rw[BX]at h;cases h
 | .tup (.tup _::_),h=>rw[BX]at h;cases h
 | .tup (.wd op::r),h=>
  show C6 op r rfl ?_;by_cases c1:op="let"
  .subst c1;show Gh (Rq h) λx u k z1 _=>?_;subst z1
   show(("let":Str),3)∈BN;decide
  by_cases c2:op="put"
  .subst c2;show Gh (Rp h) λx u k z1 _=>?_;subst z1
   show(("put":Str),3)∈BN;decide
  by_cases c3:op="if"
  .subst c3;show Dc (Ti h) λt a b κ1 kn1 e1 z1=>C8 z1 λκ2 e2 z2 _=>?_;subst z2
   show(("if":Str),4)∈BN;decide
  by_cases c4:op="while"
  .subst c4;show dd41 (Jp h) λt a κ1 e1 z1 _=>?_;subst z1
   show(("while":Str),3)∈BN;decide
  by_cases c5:op="give"
  .subst c5;show Am (Ot h) λt z1 _=>?_;subst z1
   show(("give":Str),2)∈BN;decide
  by_cases c6:op="fail"
  .subst c6;show Am (Ou h) λt z1 _=>?_;subst z1
   show(("fail":Str),2)∈BN;decide
  by_cases c7:op="set"
  .subst c7;show dd51 (Ro h) λt f v k fl z1 _=>?_;subst z1
   show(("set":Str),4)∈BN;decide
  by_cases c8:op="out"\/op="store"
  .show Bg (Ml c8 h) λws m hk _=>?_;have l:=LM List.length hk;rw[kL_len,JR]at l
   rcases c8 with rfl|rfl
   .have:ws.length=1:=by
     have:∀p∈takes,p.1="out"->p.2.length=1:=by decide
     show this _ m rfl
    rw[l,this];decide
   .have:ws.length=3:=by
     have:∀p∈takes,p.1="store"->p.2.length=3:=by decide
     show this _ m rfl
    rw[l,this];decide
  by_cases c9:op="do"
  .subst c9;show C8 (Xl h) λt k z1 _=>?_;subst z1
   show(("do":Str),2)∈BN;decide
  rw[QR]at c8;rw[C5]at h;unfold FZ at h;rw[KH c1,KH c2,KH c3,KH c4,KH c5,KH c6,KH c7,KH c8.1,KH c8.2,KH c9]at h;cases h
end
def Grows (f:Kd->List Str->SR):Prop:=∀κ kn κ' kn' e,f κ kn=some (κ',kn',e)->kn.length<=kn'.length
section
variable {s:SE}
mutual
theorem Al4:∀t:Th,Grows (BX s t)
 | .num _=>λκ kn κ' kn' e h=>by rw[BX]at h;cases h
 | .wd _=>λκ kn κ' kn' e h=>by rw[BX]at h;cases h
 | .tup []=>λκ kn κ' kn' e h=>by rw[BX]at h;cases h
 | .tup (.num _::_)=>λκ kn κ' kn' e h=>by rw[BX]at h;cases h
 | .tup (.tup _::_)=>λκ kn κ' kn' e h=>by rw[BX]at h;cases h
 | .tup (.wd op::r)=>λκ kn κ' kn' e h=>by
  have hs:=Gu r;by_cases c1:op="let"
  .subst c1;show Ri (Rq h) λx u k _ _ _ _ _ z1=>?_;obtain⟨rfl,_⟩:=z1;simp
  by_cases c3:op="if"
  .subst c3;show Dc (Ti h) λt a b κ1 kn1 e1 z1=>Ao2 z1 λκ2 e2 z2 _ ha hb _=>?_;subst z2;obtain⟨f0,q⟩:=Ae7 (s:=s) (t:=t) (a:=a) (b:=b);rw[q]at hs;show KN (hs (D7 s a) (by simp) _ _ _ _ _ ha) (hs (D7 s b) (by simp) _ _ _ _ _ hb)
  by_cases c4:op="while"
  .subst c4;show Zr (Jp h) λt a κ1 e1 z1 _ ha _=>?_;subst z1;obtain⟨f0,q⟩:=Ae8 (s:=s) (t:=t) (a:=a);rw[q]at hs;show hs (D7 s a) (by simp) _ _ _ _ _ ha
  have e:kn'=kn:=by
   by_cases c2:op="put"
   .subst c2;show Ri (Rp h) λx u k _ _ _ _ z _=>z
   by_cases c5:op="give"
   .subst c5;show Tv (Ot h) λt _ _ _ z _=>z
   by_cases c6:op="fail"
   .subst c6;show Tv (Ou h) λt _ _ _ z _=>z
   by_cases c7:op="set"
   .subst c7;show Tu (Ro h) λt f v k fl _ _ _ _ _ z1=>Ch z1 λ_ z _=>z
   by_cases c8:op="out"\/op="store"
   .show Tv (Ml c8 h) λws _ _ _ z _=>z
   by_cases c9:op="do"
   .subst c9;show Ao2 (Xl h) λt k _ _ _ z _=>z
   rw[QR]at c8;rw[C5]at h;unfold FZ at h;rw[KH c1,KH c2,KH c3,KH c4,KH c5,KH c6,KH c7,KH c8.1,KH c8.2,KH c9]at h;cases h
  rw[e];show JV _
theorem Gu:∀r:List Th,∀f∈Cs s r,Grows f
 | []=>by rw[Cs];show λf h=>by cases h
 | .tup a::r=>by
  rw[Cs];intro f h
  rcases JT.mp h with rfl|h
  .show Hk a
  .show Gu r f h
 | .num _::r=>by
  rw[Cs];intro f h
  rcases JT.mp h with rfl|h
  .show λκ kn κ' kn' e h=>by cases h
  .show Gu r f h
 | .wd _::r=>by
  rw[Cs];intro f h
  rcases JT.mp h with rfl|h
  .show λκ kn κ' kn' e h=>by cases h
  .show Gu r f h
theorem Hk:∀ts:List Th,Grows (D7 s ts)
 | []=>λκ kn κ' kn' e h=>by
  rw[D7]at h;cases h;show JV _
 | t::r=>λκ kn κ' kn' e h=>by
  rw[Hh]at h
  cases q:BX s t κ kn with
  | none=>rw[q]at h;cases h
  | some p=>
   obtain⟨κ1,kn1,e1⟩:=p;rw[q]at h;have k1:=Al4 t _ _ _ _ _ q
   cases e1 with
   | true=>
    simp only[PD]at h;split at h
    .cases h;show k1
    .cases h
   | false=>
    simp only[OK,QY]at h;show KN k1 (Hk r _ _ _ _ _ h)
end
end
def Sx (xs:List Addr)(H H':Hp):Prop:=∀b o,H b=some o->b∉xs->H' b=some o
def Sx.trans (a:Sx xs H H1)(b:Sx xs H1 H2):Sx xs H H2:=λc o h n=>b c o (a c o h n) n
def Gr (a:AA H H1):Sx xs H H1:=λc o h _=>a c o h
def Sx.more (a:Sx [x] H H1):Sx (x::ys) H H1:=λc o h n=>a c o h (λz=>n (by rw[KD.mp z];show JY))
structure IP (C:Addr)(H:Hp)(o r fn kn kd:Addr)(s:SE)(κ:Kd)(kns:List Str):Prop where
 lk:Lk C H o r fn kn s
 hkn:∃kk,H kn=some (.dK kk)/\(∀x,x∉kns->Bm kk (Sum.inr x)=none)/\kk.length<=kns.length
 CU:∃kks,H kd=some (.dK kks)/\KdR kks κ/\kks.length<=kns.length
 d:(r≠kn/\r≠kd)/\(fn≠kn/\fn≠kd)/\kn≠kd
section
def IP.same (h:IP C H o r fn kn kd s κ kns)(I:AA H H'):IP C H' o r fn kn kd s κ kns:=
 ⟨h.lk.same I,let ⟨kk,a,b⟩:=h.hkn;(Aq kk (I _ _ a) b),let ⟨kk,a,b⟩:=h.CU;(Aq kk (I _ _ a) b),h.d⟩
def IP.AF (h:IP C H o r fn kn kd s κ kns)(Y:Sx [kn,kd] H H'):CA H H':=λb xs e=>by
 show Am h.hkn λk1 I _=>Am h.CU λk2 O _=>Y b _ e (by simp[Bd e I (by simp),Bd e O (by simp)])
def IP.move (h:IP C H o r fn kn kd s κ kns)(I:Sx [kn,kd] H H')(h1:∃kk,H' kn=some (.dK kk)/\(∀x,x∉O->Bm kk (Sum.inr x)=none)/\kk.length<=O.length)(h2:∃kks,H' kd=some (.dK kks)/\KdR kks κ'/\kks.length<=O.length):IP C H' o r fn kn kd s κ' O:=by
 show Am h.hkn λk1 Y _=>Am h.CU λk2 a2 _=>⟨h.lk.AF (h.AF I) (λ_ _ e=>I _ _ e (by simp[Bd e Y (by simp),Bd e a2 (by simp)])) (λ_ e=>I _ _ e (by simp[h.d.1.1,h.d.1.2])) λ_ e=>I _ _ e (by simp[h.d.2.1.1,h.d.2.1.2]),h1,h2,h.d⟩
end
section
variable (C:Addr)
def JH (n:Nat)(h:Str):Sp:=λvs H Q _=>∃o r fn kn kd s κ kns v rest κ' I e,vs=[.ref o,v,.ref kd]/\IP C H o r fn kn kd s κ kns/\AQ H v (.tup (.wd h::rest))/\BF n (.tup (.wd h::rest))/\BX s (.tup (.wd h::rest)) κ kns=some (κ',I,e)/\I.length<=100/\∀H',Sx [kn,kd] H H'->IP C H' o r fn kn kd s κ' I->Q (.bl e) H'
def spS (n:Nat):Sp:=λvs H Q _=>∃o r fn kn kd s κ kns v ts κ' I e,vs=[.ref o,v,.ref kd]/\IP C H o r fn kn kd s κ kns/\AQ H v (.tup ts)/\(∀t∈ts,BF n t)/\D7 s ts κ kns=some (κ',I,e)/\I.length<=100/\∀H',Sx [kn] H H'->IP C H' o r fn kn kd s κ I->Q (.bl e) H'
end
section
variable {P:Program}{w:World}{K:Av}{mg:Cb}{base:Heap}{t1 t2 t3 t4:Tok}{C aT aR:Addr}{fT:Str->Addr}
abbrev Eu:List Str:=["look","statement","kinds"]
def DM:AD ["look","statement","kinds","variable"] Eu (Ao Nb):=FS
def Lw (hm:2<=m)(F:As K "look_at_let" "look_at_let" Nb f fd)(LT:HB K C)(a5:AJ P w K mg base 1 "want" Ft Fy)(aG:AJ P w K mg base 2 "is_name" Em R6)
  (aH:AJ P w K mg base m "kind_looked" Gy (Nw C n)):AH P w K mg base BE (m+1) f fd Eu (JH C (n+1) "let"):=by
 show F.By DM λcdv A outer s H vs Q E hr h=>?_
 .show Dc h λo r fn kn kd se z1=>Dc z1 λκ kns v rest κ' aM z2=>?_;clear z1;show Oy z2 λe O L hi hd aA Y=>?_;clear z2;clear h;subst O;obtain⟨a8,k⟩:=Y;show Ri (Rq aA) λx u kk z1 hk a9 aB z2 O=>?_;subst z1 z2;obtain⟨rfl,rfl⟩:=O;have nd:=DM.nd;have aJ:(2000000:Nat)<=sizeLine:=by rw[LJ];omega
  have hd:=Ee hd;show A0 hi λa us z1 hu z2=>A0 z2 λv0 vr O h0 Y=>?_;clear z2;show A0 Y λv1 aK z5 h1 z6=>?_;clear Y;show A0 z6 λv2 aD z7 h2 aF=>?_;clear z6;clear hi;subst z1 O z5 z7;cases(show aD=[] from aF);cases(show v1=.str x from h1);obtain⟨⟨dx,fs,e1,f1,f2,f3,f4⟩,_,_⟩:=id L.lk;show Bg L.hkn λa1 a2 a3 aI=>Bg L.CU λkks GH GU JO=>?_;have d3:=L.d.2.2;have a6:DY [v0,V.str x,v2] 1=some (V.str x):=Be (j:=1) rfl;have a7:DY [v0,V.str x,v2] 2=some v2:=Be (j:=2) rfl;exists Ae (Cl 3 nd (BY (qv 1) Ag)) (Ae (Au (qf a5 hr (AS (qf aG hr (AM (qv 3))) Ai))) (Ae (Au (qf a5 hr (AS (Al9 (Ds hr) (qv 3) (Lr (qv 0) rfl)) Ai))) (Ae (D9 (Ds hr) (qv 2) (qv 3) (qf aH hr (BV (qv 0) (BY (qv 1) Ag) (qv 2))) rfl) (Ae (D9 (Ds hr) (Lr (qv 0) rfl) (qv 3) Es rfl) (Ak (Ar Es))))))
  show Ad rfl (B0 _ _ 1 _ rfl rfl (.inl (.inl hu)) a6 (Ad rfl (Bx x rfl a9 λH1 s1=>(Ad (wb rfl) ?_))));have hg:AL H1 kn (.str x) none:=by rw[← a3 x aB];show AL.k (k:=Sum.inr x) (s1 _ _ a2)
  show Ad rfl (Ad rfl (F5 o C dx fs _ rfl (s1 _ _ e1) LT.cl LT.n4 f4 (Al kn _ rfl hg (Ad (wb rfl) (Ad rfl (Ad rfl (B0 _ _ 2 _ rfl rfl (.inl (.inl (s1 _ _ hu))) a7 (Ad rfl (Cw o r fn kn se κ (F5 kks v2 kd u kk rfl (L.lk.same s1) (s1 _ _ GH) GU (h2.mono s1.AF) (Az (hd u (by simp)) hk λH2 s2=>?_)))))))))));have a0:=s1.trans s2;rw[KC]at a8;show Ad rfl (Ad rfl (Al kd _ rfl (DD.k (k:=Sum.inr x) (a0 _ _ GH) (by omega)) ?_));have aE:upd H2 kd (.dK (L2.putK kks (Sum.inr x) (.str kk))) kn=some (.dK a1):=by rw[Aj d3];show a0 _ _ a2
  have aC:o≠kd:=Bd e1 GH (by simp);show Ad rfl (F5 o C dx fs _ rfl (by rw[Aj aC];show a0 _ _ e1) LT.cl LT.n4 f4 (Ad rfl (Al kn _ rfl (DD.k (k:=Sum.inr x) aE (by omega)) ?_)));have sx:Sx [kn,kd] H (upd (upd H2 kd (.dK (L2.putK kks (Sum.inr x) (.str kk)))) kn (.dK (L2.putK a1 (Sum.inr x) (.bl true)))):=λb u hb a4=>by
   rw[Aj λz=>a4 (by simp[z]),Aj λz=>a4 (by simp[z])];show a0 _ _ hb
  show k _ sx (L.move sx (Bh Ah (λy I=>?_) ?_) (Bh (by rw[Aj d3.symm,Ah]) (λy q I=>?_) ?_))
  .have I:y≠x/\y∉kns:=by simpa [QR]using I
   rw[Ci,KH λz=>I.1 (MX z)];show a3 y I.2
  .have:=(BO (kvs:=a1) (k:=Sum.inr x) (v:=.bl true)).1;rw[KC];omega
  .rw [Ci];unfold putK at I;by_cases c:y=x
   .rw [KJ c]at I;cases I;rw[KJ (LM Sum.inr c)]
   .rw [KH c]at I;rw[KH λz=>c (MX z)];show GU y q I
  .have:=(BO (kvs:=kks) (k:=Sum.inr x) (v:=.str kk)).1;rw[KC];omega
def DN:AD ["look","statement","kinds","variable"] Eu (Ao Na):=FS
def Lu (hm:1<=m)(F:As K "look_at_put" "look_at_put" Na f fd)(T:At K mg)(a6:AJ P w K mg base 1 "want" Ft Fy)(a7:AJ P w K mg base m "look_at_parts" Mp (Nv K C n)):AH P w K mg base BE (m+1) f fd Eu (JH C (n+1) "put"):=by
 show F.By DN λcdv A outer s H vs Q E hr h=>?_
 .show Dc h λo r fn kn kd se z1=>Dc z1 λκ kns v rest κ' aA z2=>?_;clear z1;show Oy z2 λe O L hi hd a3 I=>?_;clear z2;clear h;subst O;obtain⟨a8,k⟩:=I;show Ri (Rp a3) λx u kk z1 a1 hk z2 O I=>?_;subst z1 z2 O I;have nd:=DN.nd;have hd:=Ee hd;show A0 hi λa us z1 hu z2=>A0 z2 λv0 vr O h0 I=>?_;clear z2;show A0 I λv1 a9 z5 h1 z6=>?_;clear I;show A0 z6 λv2 a4 z7 h2 a5=>?_;clear z6;clear hi;subst z1 O z5 z7;cases(show a4=[] from a5);cases(show v1=.str x from h1);show Bg L.CU λkks GH GU JO=>?_;have hg:∀{X},AA H X->AL X kd (.str x) (some (.str kk)):=λs=>by rw[← GU x kk a1];show AL.k (k:=Sum.inr x) (s _ _ GH)
  exists Ae (Cl 3 nd (BY (qv 1) Ag)) (Ae (Au (qf a6 hr (AS (Dj (Bc Bf rfl T.AE Bv (AS (qv 3) (Cn (v:=.ty "str") rfl T.DK PX rfl))) (Du (Nf (Ds hr) (qv 3) (qv 2)))) Ai))) (Ae (Au (qf a7 hr (EW (qv 0) (Bu E9 (qv 1) (Bq Ag) Cc) (Bk (AM (BU hr (qv 2) (qv 3)))) (qv 2)))) (Ak (Ar Es))))
  show Ad rfl (B0 _ _ 1 _ rfl rfl (.inl (.inl hu)) (Be (j:=1) rfl) (Ad rfl (Eo rfl (.str _) rfl (Ad rfl (E7 (Ad rfl (Ad rfl (Al kd _ rfl (hg (AA.refl H)) (Ad (wb rfl) (Ad rfl (Ad rfl (Aq 2 rfl (Co a _ rfl (.inl (.inl hu)) (F3 (n:=2) (by decide) (by simp)) λp hp=>?_)))))))))))));rw[show Ef [v0,V.str x,v2] (some 2) none=[v2] from Dz _ 2];generalize z:upd H p _=H1;obtain⟨s1,q1⟩:=Bz hp z;clear z;show Ad rfl (Ad rfl (Co kd _ rfl (hg s1) (zl 1) λp2 a2=>?_));generalize z:upd H1 p2 _=H2;obtain⟨s2,q2⟩:=Bz a2 z;clear z;have Y:=s1.trans s2;show Ad rfl (Cw o r fn kn se _ (Cw kks p p2 kd [v2] [u] (Ko [kk] rfl (L.lk.same Y) (Y _ _ GH) GU (.inl (.inl (s2 _ _ q1))) (D8 (Al v2 [] rfl (h2.mono Y.AF) rfl) (.inl (.inl q2)) (by show 1<=100;decide) (λe a0=>hd e (by rw[KD.mp a0];simp)) (by rw[B3,Ed,hk];rfl) λH3 s3=>k _ (Gr (Y.trans s3)) (L.same (Y.trans s3))))))
def Q3:AD Eu Eu (Ao Ll):=FS
def Kw (F:As K "look_at_give" "look_at_give" Ll f fd)(LT:HB K C)(a5:AJ P w K mg base m "look_at_parts" Mp (Nv K C n)):AH P w K mg base BE (m+1) f fd Eu (JH C (n+1) "give"):=by
 show F.By Q3 λcdv A outer s H vs Q E hr h=>?_
 .show Dc h λo r fn kn kd se z1=>Dc z1 λκ kns v rest κ' a7 z2=>?_;clear z1;show Oy z2 λe O L hi hd a2 I=>?_;clear z2;clear h;subst O;obtain⟨a6,k⟩:=I;show Tv (Ot a2) λu z1 hk z2 O I=>?_;subst z1 z2 O I;have hd:=Ee hd;show A0 hi λa us z1 hu z2=>A0 z2 λv0 vr O h0 I=>?_;clear z2;show A0 I λv1 a3 z5 h1 a4=>?_;clear I;clear hi;subst z1 O z5;cases(show a3=[] from a4);obtain⟨⟨dx,fs,e1,f1,f2,f3,f4⟩,_,_⟩:=id L.lk;show Bg L.CU λkks GH GU JO=>Ad (Ae (Au (qf a5 hr (EW (qv 0) (Bu E9 (qv 1) (Bq Ag) Cc) (Bk (AM (Lr (qv 0) rfl))) (qv 2)))) (Ak (Ar Es))) ?_
  walk_at "k"
  show Ad rfl (Ad rfl (Aq 1 rfl (Co a _ rfl (.inl (.inl hu)) (F3 (n:=1) (by decide) (by simp)) λp hp=>?_)));rw[show Ef [v0,v1] (some 1) none=[v1] from Dz _ 1];generalize z:upd H p _=H1;obtain⟨s1,q1⟩:=Bz hp z;clear z;show Ad rfl (F5 o C dx fs _ rfl (s1 _ _ e1) LT.cl LT.n3 f3 ⟨(zl 1),λp2 a1=>?_⟩);generalize z:upd H1 p2 _=H2;obtain⟨s2,q2⟩:=Bz a1 z;clear z;have Y:=s1.trans s2;show Ad rfl (Cw o r fn kn se _ (Cw kks p p2 kd [v1] [u] (Ko [se.g] rfl (L.lk.same Y) (Y _ _ GH) GU (.inl (.inl (s2 _ _ q1))) (D8 (Al v1 [] rfl (h1.mono Y.AF) rfl) (.inl (.inl q2)) (by show 1<=100;decide) (λe a0=>hd e (by rw[KD.mp a0];simp)) (by rw[B3,Ed,hk];rfl) λH3 s3=>k _ (Gr (Y.trans s3)) (L.same (Y.trans s3))))))
def Q4:AD Eu Eu (Ao Lm):=FS
def Kx (hm:2<=m)(F:As K "look_at_fail" "look_at_fail" Lm f fd)(a3:AJ P w K mg base 1 "want" Ft Fy)(a4:AJ P w K mg base 2 "is_of_language" Em Af6):AH P w K mg base BE (m+1) f fd Eu (JH C (n+1) "fail"):=by
 show F.By Q4 λcdv A outer s H vs Q E hr h=>?_
 .show Dc h λo r fn kn kd se z1=>Dc z1 λκ kns v rest κ' a6 z2=>?_;clear z1;show Oy z2 λe O L hi hd a0 I=>?_;clear z2;clear h;subst O;obtain⟨a5,k⟩:=I;show Tv (Ou a0) λi z1 hn z2 O I=>?_;subst z1 z2 O I;show A0 hi λa us z1 Y z2=>A0 z2 λv0 vr O h0 I=>?_;clear z2;show A0 I λv1 a1 z5 h1 a2=>?_;clear I;clear hi;subst z1 O z5;cases(show a1=[] from a2);cases(show v1=.int i from h1);show Ad (Ae (Au (qf a3 hr (AS (qf a4 hr (AM (BY (qv 1) Ag))) Ai))) (Ak (Ar Es))) ?_
  walk_at "k"
  show Ad rfl (B0 _ _ 1 _ rfl rfl (.inl (.inl Y)) (Be (j:=1) rfl) (Bx i rfl hn (Ad (wb rfl) (k H (Gr (AA.refl H)) L))))
def R9:AD Eu Eu (Ao M9):=FS
def Ls (F:As K "look_at_set" "look_at_set" M9 f fd)(a7:AJ P w K mg base m "look_at_parts" Mp (Nv K C n))(a6:AJ P w K mg base m "look_at_field" Ss (Vz C n)):AH P w K mg base BE (m+1) f fd Eu (JH C (n+1) "set"):=by
 show F.By R9 λcdv A outer s H vs Q E hr h=>?_
 .show Dc h λo r fn kn kd se z1=>Dc z1 λκ kns v rest κ' aB z2=>?_;clear z1;show Oy z2 λe O L hi hd a3 I=>?_;clear z2;clear h;subst O;obtain⟨a8,k⟩:=I;show Tu (Ro a3) λt fi u kk fl z1 hk hR hf a1 z2=>Ch z2 λO I z5=>?_;clear z2;subst z1 O I z5;have hd:=Ee hd;show A0 hi λa us z1 hu z2=>A0 z2 λv0 vr O h0 I=>?_;clear z2;show A0 I λv1 a9 z5 h1 z6=>?_;clear I;show A0 z6 λv2 aA z7 h2 z8=>?_;clear z6;show A0 z8 λv3 a4 z9 h3 a5=>?_;clear z8;clear hi;subst z1 O z5 z7 z9;cases(show a4=[] from a5);cases(show v2=.str fi from h2);show Bg L.CU λkks GH GU JO=>Ad (Ae (Au (qf a6 hr (EW (qv 0) (BY (qv 1) Ag) (BY (qv 1) Ag) (qv 2)))) (Ae (Au (qf a7 hr (EW (qv 0) (Bu E9 (qv 1) (Bq Ag) Cc) (Bk (AM Ai)) (qv 2)))) (Ak (Ar Es)))) ?_
  walk_at "k"
  show Ad rfl (Ad rfl (B0 _ _ 1 _ rfl rfl (.inl (.inl hu)) (Be (j:=1) rfl) (Ad rfl (B0 _ _ 2 _ rfl rfl (.inl (.inl hu)) (Be (j:=2) rfl) (Ad rfl (Cw o r fn kn se _ (Cw kks v1 kd t kk fl (Ko fi rfl L.lk GH GU h1 (Fb (hd t (by simp)) hk hR hf λH1 s1=>Ad rfl (Ad rfl (Aq 3 rfl (Co a _ rfl (.inl (.inl (s1 _ _ hu))) (F3 (n:=3) (by decide) (by simp)) λp hp=>?_))))))))))));rw[show Ef [v0,v1,V.str fi,v3] (some 3) none=[v3] from Dz _ 3];generalize z:upd H1 p _=H2;obtain⟨s2,q1⟩:=Bz hp z;clear z;show⟨(zl 1),λp2 a2=>?_⟩;generalize z:upd H2 p2 _=H3;obtain⟨s3,q2⟩:=Bz a2 z;clear z;have Y:=s1.trans (s2.trans s3);show Ad rfl (Cw o r fn kn se _ (Cw kks p p2 kd [v3] [u] (Ko ["number"] rfl (L.lk.same Y) (Y _ _ GH) GU (.inl (.inl (s3 _ _ q1))) (D8 (Al v3 [] rfl (h3.mono Y.AF) rfl) (.inl (.inl q2)) (by show 1<=100;decide) (λe a0=>hd e (by rw[KD.mp a0];simp)) (by rw[B3,Ed,a1];rfl) λH4 s4=>k _ (Gr (Y.trans s4)) (L.same (Y.trans s4))))))
def Pi:AD Eu Eu (Ao J3):=FS
def E6 {n m:Nat}{op:Str}(ho:op="out"\/op="store"){f:Addr}{fd:FuncData}(F:As K "look_at_known" "look_at_known" J3 f fd)(TT:TxT K w mg aT aR fT)(a3:AJ P w K mg base m "look_at_parts" Mp (Nv K C n)):AH P w K mg base BE (m+1) f fd Eu (JH C (n+1) op):=by
 show F.By Pi λcdv A outer s H vs Q E hr h=>?_
 .show Dc h λo r fn kn kd se z1=>?_;show Dc z1 λκ kns v rest κ' a5 z2=>?_;clear z1;show Oy z2 λe I L hi hd a1 z4=>?_;clear z2;clear h;subst I;obtain⟨a4,k⟩:=z4;show Tv (Ml ho a1) λws mt he z1 z2 I=>?_;subst z1;subst z2;subst I;have hd:=Ee hd;show A0 hi λa us z1 O z2=>?_;show A0 z2 λv0 vr I h0 a2=>?_;clear z2;clear hi;subst z1;subst I;cases(show v0=.str op from h0);show Bg L.CU λkks GH GU JO=>?_;have m1:(op,V.ref (fT op))∈takes.map λp=>(p.1,V.ref (fT p.1)):=KI.mpr (Ad mt rfl);have lw:ws.length<=100:=by
   have:∀p∈takes,p.2.length<=100:=by decide
   show this _ mt
  exists Ae (Au (qf a3 hr (EW (qv 0) (Bu E9 (qv 1) (Bq Ag) Cc) (Oa TT.takes rfl TT.HL (BY (qv 1) Ag) (λ_ _=>rfl)) (qv 2)))) (Ak (Ar Es))
  show Ad rfl (Ad rfl (Aq 1 rfl (Co a _ rfl (.inl (.inl O)) (F3 (n:=1) (by decide) (by simp)) λp hp=>?_)));rw[show Ef (V.str op::vr) (some 1) none=vr from Dz _ 1];generalize z:upd H p _=H1;obtain⟨s1,q1⟩:=Bz hp z;clear z;show Ad rfl (B0 _ _ 0 _ rfl rfl (.inl (.inl (s1 _ _ O))) (Be (j:=0) rfl) (Al op _ rfl m1 (Ad rfl (Cw o r fn kn se _ (Cw kks p (fT op) kd vr rest (Ko ws rfl (L.lk.same s1) (s1 _ _ GH) GU (.inl (.inl q1)) (D8 (a2.mono s1.AF) (TT.tk _ mt _) lw (λe a0=>hd e (JS _ a0)) he λH3 Y=>k _ (Gr (s1.trans Y)) (L.same (s1.trans Y)))))))))
def Ub:AD Eu Eu (Ao Pm):=FS
def Mv (F:As K "look_at_do" "look_at_do" Pm f fd)(a3:AJ P w K mg base m "kind_looked" Gy (Nw C n)):AH P w K mg base BE (m+1) f fd Eu (JH C (n+1) "do"):=by
 show F.By Ub λcdv A outer s H vs Q E hr h=>?_
 .show Dc h λo r fn kn kd se z1=>Dc z1 λκ kns v rest κ' a5 z2=>?_;clear z1;show Oy z2 λe O L hi hd a0 I=>?_;clear z2;clear h;subst O;obtain⟨a4,k⟩:=I;show Ao2 (Xl a0) λt kk z1 hk z2 O I=>?_;subst z1 z2 O I;have hd:=Ee hd;show A0 hi λa us z1 Y z2=>A0 z2 λv0 vr O h0 I=>?_;clear z2;show A0 I λv1 a1 z5 h1 a2=>?_;clear I;clear hi;subst z1 O z5;cases(show a1=[] from a2);show Bg L.CU λkks GH GU JO=>Ad (Ae (Au (qf a3 hr (BV (qv 0) (BY (qv 1) Ag) (qv 2)))) (Ak (Ar Es))) ?_
  walk_at "k"
  show Ad rfl (Ad rfl (B0 _ _ 1 _ rfl rfl (.inl (.inl Y)) (Be (j:=1) rfl) (Ad rfl (Cw o r fn kn se _ (F5 kks v1 kd t kk rfl L.lk GH GU h1 (Az (hd t (by simp)) hk λH1 s1=>k _ (Gr s1) (L.same s1)))))))
def Ph:AD Eu Eu (Ao J0):=FS
abbrev Wm:List Str:=["look","statements","around"]
def P5 (F:As K "look_at_while" "look_at_while" J0 f fd)(a8:AJ P w K mg base m "look_at_parts" Mp (Nv K C (n+1)))(a9:AJ P w K mg base m "look_at_statements" Wm (spS C n)):AH P w K mg base BE (m+1) f fd Eu (JH C (n+2) "while"):=by
 show F.By Ph λcdv A outer s H vs Q E hr h=>?_
 .show Dc h λo r fn kn kd se z1=>Dc z1 λκ kns v rest κ' a7 z2=>?_;clear z1;show Oy z2 λe I L hi hd a4 O=>?_;clear z2;clear h;subst I;obtain⟨a2,k⟩:=O;show Zq (Jp a4) λt A' κ1 e1 z1 hk hA z2 I=>?_;subst z1 z2 I;have hd:=Ee hd;show A0 hi λa us z1 hu z2=>A0 z2 λv0 vr I h0 O=>?_;clear z2;show A0 O λv1 aA z5 h1 z6=>?_;clear O;show A0 z6 λv2 a5 z7 h2 a6=>?_;clear z6;clear hi;subst z1 I z5 z7;cases(show a5=[] from a6);show Bg L.CU λkks GH GU JO=>Ad (Ae (Au (qf a8 hr (EW (qv 0) (Bk (AM (BY (qv 1) Ag))) (Bk (AM Ai)) (qv 2)))) (Ae (Au (qf a9 hr (BV (qv 0) (BY (qv 1) Ag) (qv 2)))) (Ak (Ar Es)))) ?_
  walk_at "k"
  show Ad rfl (Ad rfl (Cm _ _ 1 _ rfl rfl (.inl (.inl hu)) (Be (j:=1) rfl) (zl 1) λp hp=>?_));generalize z:upd H p _=H1;obtain⟨s1,q1⟩:=Bz hp z;clear z;show⟨(zl 1),λp2 a3=>?_⟩;generalize z:upd H1 p2 _=H2;obtain⟨s2,q2⟩:=Bz a3 z;clear z;have Y:=s1.trans s2;show Ad rfl (Cw o r fn kn se _ (Cw kks p p2 kd [v1] [t] (Ko ["truth"] rfl (L.lk.same Y) (Y _ _ GH) GU (.inl (.inl (s2 _ _ q1))) (D8 (Al v1 [] rfl (h1.mono Y.AF) rfl) (.inl (.inl q2)) (by show 1<=100;decide) (λe a1=>hd e (by rw[KD.mp a1];simp)) (by rw[B3,Ed,hk];rfl) λH3 s3=>?_))));have a0:=Y.trans s3;show Ad rfl (Ad rfl (B0 _ _ 2 _ rfl rfl (.inl (.inl (a0 _ _ hu))) (Be (j:=2) rfl) (Ad rfl (Cw o r fn kn kd se (Cw _ kns v2 A' κ1 a7 (Ko e1 rfl (L.same a0) (h2.mono a0.AF) (Ee (hd (.tup A') (by simp))) hA ⟨a2,λH4 sx L4=>k _ ((Gr a0).trans sx.more) L4⟩))))))
def EL:AD ["look","statement","kinds","first","second"] Eu (Ao Pl):=FS
def Uf (F:As K "look_at_if" "look_at_if" Pl f fd)(aB:AJ P w K mg base m "look_at_parts" Mp (Nv K C (n+1)))(a3:AJ P w K mg base m "look_at_statements" Wm (spS C n)):AH P w K mg base BE (m+1) f fd Eu (JH C (n+2) "if"):=by
 show F.By EL λcdv A outer s H vs Q E hr h=>?_
 .show Dc h λo r fn kn kd se z1=>Dc z1 λκ kns v rest κ' aA z2=>?_;clear z1;show Oy z2 λe Y L hi hd a6 I=>?_;clear z2;clear h;subst Y;obtain⟨a1,k⟩:=I;show Dc (Ti a6) λt A' B' κ1 kn1 e1 z1=>Kq z1 λκ2 e2 z2 hk hA hB Y I=>?_;clear z1;subst z2 Y I;have nd:=EL.nd;have hd:=Ee hd;show A0 hi λa us z1 hu z2=>A0 z2 λv0 vr Y h0 I=>?_;clear z2;show A0 I λv1 aC z5 h1 z6=>?_;clear I;show A0 z6 λv2 aD z7 h2 z8=>?_;clear z6;show A0 z8 λv3 a8 z9 h3 a9=>?_;clear z8;clear hi;subst z1 Y z5 z7 z9;cases(show a8=[] from a9);show Bg L.CU λkks GH GU JO=>Ad (Ae (Au (qf aB hr (EW (qv 0) (Bk (AM (BY (qv 1) Ag))) (Bk (AM Ai)) (qv 2)))) (Ae (Cl 3 nd (qf a3 hr (BV (qv 0) (BY (qv 1) Ag) (qv 2)))) (Ae (Cl 4 nd (qf a3 hr (BV (qv 0) (BY (qv 1) Ag) (qv 2)))) (Ak (Ar (Dj (qv 3) (Du (qv 4)))))))) ?_
  walk_at "k"
  show Ad rfl (Ad rfl (Cm _ _ 1 _ rfl rfl (.inl (.inl hu)) (Be (j:=1) rfl) (zl 1) λp hp=>?_));generalize z:upd H p _=H1;obtain⟨s1,q1⟩:=Bz hp z;clear z;show⟨(zl 1),λp2 a5=>?_⟩;generalize z:upd H1 p2 _=H2;obtain⟨s2,q2⟩:=Bz a5 z;clear z;have a0:=s1.trans s2;show Ad rfl (Cw o r fn kn se _ (Cw kks p p2 kd [v1] [t] (Ko ["truth"] rfl (L.lk.same a0) (a0 _ _ GH) GU (.inl (.inl (s2 _ _ q1))) (D8 (Al v1 [] rfl (h1.mono a0.AF) rfl) (.inl (.inl q2)) (by show 1<=100;decide) (λe a4=>hd e (by rw[KD.mp a4];simp)) (by rw[B3,Ed,hk];rfl) λH3 s3=>?_))));have O:=a0.trans s3;show Ad rfl (Ad rfl (B0 _ _ 2 _ rfl rfl (.inl (.inl (O _ _ hu))) (Be (j:=2) rfl) (Ad rfl (Cw o r fn kn kd se (Cw _ kns v2 A' κ1 kn1 (Ko e1 rfl (L.same O) (h2.mono O.AF) (Ee (hd (.tup A') (by simp))) hA ⟨KN (Hk _ _ _ _ _ _ hB) a1,λH4 sx L4=>?_⟩))))));have t4:=O.AF.trans ((L.same O).AF sx.more);show Ad rfl (Ad rfl (B0 _ _ 3 _ rfl rfl (.inl (.inl (t4 _ _ hu))) (Be (j:=3) rfl) (Ad rfl (Cw o r fn kn kd se (Cw _ kn1 v3 B' κ2 aA (Ko e2 rfl L4 (h3.mono t4) (Ee (hd (.tup B') (by simp))) hB ⟨a1,λH5 a7 L5=>?_⟩))))));have a2:Sx [kn,kd] H H5:=((Gr O).trans sx.more).trans a7.more
  cases e1 with
  | true=>show Ad rfl (Aq true rfl (Ad rfl (k _ a2 L5)))
  | false=>show Ad rfl (Aq false rfl (k _ a2 L5))
end
structure TxS (K:Av)(w:World)(mg:Cb)(aS aL:Addr)(fS:Str->Addr):Prop where
 FG:mg "STATEMENTS"=some (.ref aS)
 JL:mg "LENGTHS"=some (.ref aL)
 stats:GD K w aS (BN.map λp=>(p.1,V.ref (fS p.1)))
 lens:GD K w aL (BN.map λp=>(p.1,V.int p.2))
theorem Ke (f:Str)(v:V):∀fs:List (Str×V),(Ie f v fs).length<=fs.length+1
 | []=>by simp[Ie]
 | (g,x)::r=>by
  unfold Ie;split
  .simp
  .simp;show Ke f v r
noncomputable def knV (kn:List Str):List (Key×V):=kn.map λy=>(Sum.inr y,V.bl true)
def As1 (C:Addr):Sp:=λvs H Q _=>∃x dx r fn v f,vs=[.ref x,.ref r,.ref fn,v]/\H x=some (.ins C dx [])/\AQ H v (Ca f)/\f.fh.ps.length=f.fh.ks.length/\f.fh.ks.length<=4/\f.fh.ps.Nodup /\
 ∀H' kn fs,H kn=none->Sx [x] H H'->H' x=some (.ins C dx fs)->fs.lookup ("records":Str)=some (V.ref r)->fs.lookup ("functions":Str)=some (V.ref fn)->fs.lookup ("gives":Str)=some (V.str f.fh.k)->fs.lookup ("known":Str)=some (V.ref kn)->H' kn=some (.dK (knV f.fh.ps))->Q .BI H'
def As4 (C:Addr)(n:Nat):Sp:=λvs H Q _=>∃o r fn kn s v f κ' I,vs=[.ref o,v]/\Lk C H o r fn kn s/\H kn=some (.dK (knV f.fh.ps))/\r≠kn/\fn≠kn/\AQ H v (Ca f)/\f.fh.ps.length=f.fh.ks.length/\f.fh.ks.length<=4/\f.fh.ps.Nodup/\(∀t∈f.ts,BF n t)/\D7 s f.ts (JA f.fh.ps f.fh.ks) f.fh.ps=some (κ',I,true)/\I.length<=100/\∀H',Sx [kn] H H'->Q .BI H'
theorem Om:∀(more I:List (Key×V)),((I++more).map (·.1)).Nodup->Ev I more=I++more
 | [],I,_=>by simp[Ev]
 | O::rest,I,hn=>by
  have hf:¬(I.any λx=>decide (x.1=O.1))=true:=by
   rw[RE];rintro⟨x,hx,he⟩;rw[KZ,KE,LX]at hn;show hn.2.2 x.1 (List.mem_map_of_mem hx) O.1 (by simp) (KP he)
  have:Ev I (O::rest)=Ev (I++[O]) rest:=by
   show Ev (L2.putK I O.1 O.2) rest=_
   unfold L2.putK;rw[KH hf]
  rw[this,Om rest (I++[O]) (by simpa using hn)];simp
def kd_merge (nd:ps.Nodup)(h:ps.length=ks.length):KdR (Ev [] ((ps.map (Sum.inr:Str->Key)).zip (ks.map V.str))) (JA ps ks)/\(Ev [] ((ps.map (Sum.inr:Str->Key)).zip (ks.map V.str))).length=ps.length:=by
 have e1:((ps.map (Sum.inr:Str->Key)).zip (ks.map V.str)).map (·.1)=ps.map Sum.inr:=by rw[List.map_fst_zip (by rw[JR,JR];omega)]
 have e:Ev [] ((ps.map (Sum.inr:Str->Key)).zip (ks.map V.str))=(ps.map (Sum.inr:Str->Key)).zip (ks.map V.str):=by
  have:=Om ((ps.map (Sum.inr:Str->Key)).zip (ks.map V.str)) [] (by
   rw[QM,e1]
   show List.Pairwise.map _ (λa b h z=>h (MX z)) nd)
  simpa using this
 rw[e];show⟨?_,by rw[List.length_zip,JR,JR];omega⟩;clear e e1 nd;intro x k hx;unfold JA at hx
 induction ps generalizing ks with
 | nil=>simp at hx
 | cons p ps I=>
  cases ks with
  | nil=>simp at h
  | cons q ks=>
   rw[KE,KE,List.zip_cons_cons];rw[List.zip_cons_cons]at hx;by_cases c:p=x
   .rw [Dn (LM Sum.inr c)];rw[List.find?_cons_of_pos (by simpa using c)]at hx;cases hx;rfl
   .rw [Dp (λz=>c (MX z))];rw[List.find?_cons_of_neg (by simpa using c)]at hx;show I (by simpa using h) hx
def Ak2 (h:x∉ps):Bm (knV ps) (Sum.inr x)=none:=by
 have:=valS ps x;rw[LU h]at this;show Option.not_isSome_iff_eq_none.mp (by rw[show knV ps=ps.map λy=>((Sum.inr y:Key),V.bl true)from rfl,this];decide)
section
variable {P:Program}{w:World}{K:Av}{mg:Cb}{base:Heap}{t1 t2 t3 t4:Tok}{C aS aL:Addr}{fS:Str->Addr}
def BZ:AD ["look","statements","around","kinds","ended","statement","action"] Wm (Ao Fs):=FS
def Kz (hm:1<=m)(F:As K "look_at_statements" "look_at_statements" Fs f fd)(T:At K mg)(TT:TxS K w mg aS aL fS)(a0:AJ P w K mg base 1 "want" Ft Fy)
  (aK:∀h f,(h,V.ref f)∈BN.map (λp=>(p.1,V.ref (fS p.1)))->∃fd,AH P w K mg base BE m f fd Eu (JH C n h)/\PySem.W.keepIn K (.ref f)=true/\Binds K fd Eu []):AH P w K mg base BE (m+1) f fd Wm (spS C n):=by
 show F.By BZ λcdv A outer s H vs Q E hr h=>?_
 .show Dc h λo r fn kn kd se z1=>Dc z1 λκ kns v ts κ' Y z2=>Oy z2 λe z3 L hi hd a8 z4=>?_;subst z3;obtain⟨aE,k⟩:=z4;have nd:=BZ.nd;have aM:(2000000:Nat)<=sizeLine:=by rw[LJ];omega
  show A0 hi λa us z1 hu hl=>?_;subst z1;have len:=hl.len;show Bg L.CU λkks GH GU JO=>Ad (Ae (Au (qf a0 hr (AS (Bc Bf rfl T.AE Bv (AS (qv 1) (Cn (v:=.ty "tuple") rfl T.AZ NA rfl))) Ai))) (Ae (Cl 3 nd (B4 Np rfl T.HR boot_dict (AM (qv 2)))) (Ae (Cl 4 nd Es) (Ae (Ex MO rfl (F0 (qv 1)) (GV 5 nd) (Ae (Au (qf a0 hr (AS (At5 (qv 4)) Ai))) (Ae (Au (qf a0 hr (AS (Dj (Bc Bf rfl T.AE Bv (AS (qv 5) (Cn (v:=.ty "tuple") rfl T.AZ NA rfl))) (Du (ER E8 (Eh T.AR (qv 5)) Ag))) Ai))) (Ae (Au (qf a0 hr (AS (Dj (Bc Bf rfl T.AE Bv (AS (BY (qv 5) Ag) (Cn (v:=.ty "str") rfl T.DK PX rfl))) (Du (Ab4 TT.stats rfl TT.FG (BY (qv 5) Ag)))) Ai))) (Ae (Au (qf a0 hr (AS (ER Cf (Eh T.AR (qv 5)) (Oa TT.lens rfl TT.JL (BY (qv 5) Ag) (λ_ _=>rfl))) Ai))) (Ae (Cl 6 nd (Oa TT.stats rfl TT.FG (BY (qv 5) Ag) (λ_ _=>rfl))) (Ak (Cl 4 nd (At7 aK pass0 (hr.mono (by omega)) (i:=6) rfl (Or.inl rfl) (BV (qv 0) (qv 5) (qv 3))))))))))) (Ak (Ar (qv 4))))))) ?_
  walk_at "k"
  show Ad rfl (Eo rfl (.tup hu) rfl (Ad (wb rfl) (Ad rfl (Al kd kks rfl (.of GH) λd a6=>?_))));generalize z:upd H d _=H0;obtain⟨I,q0⟩:=Bz a6 z;have a3:∀{b:Addr} {u:HO},H b=some u->b≠d:=λe=>Af e a6;show Bg L.hkn λaI a5 aB aC=>?_;obtain⟨⟨_,_⟩,⟨kr,er,_⟩,kf,ef,_⟩:=id L.lk;have L0:IP C H0 o r fn kn d se κ kns:=⟨L.lk.same I,(Bx aI (I _ _ a5) aB aC),(Bx kks q0 GU JO),⟨L.d.1.1,a3 er⟩,⟨L.d.2.1.1,a3 ef⟩,a3 a5⟩;show Ad rfl (Bx a rfl ⟨_,.inl (.inl (I _ _ hu))⟩ ?_);show Ai8 (xs:=us) (λi σ H'=>∃e1 κ1 kn1 x1 x2,σ=[some (.ref o),some (.ref a),some (.ref kd),some (.ref d),some (.bl e1),x1,x2]/\Sx [kn,d] H0 H'/\IP C H' o r fn kn d se κ1 kn1/\(if e1=true then ts.drop i=[]/\kn1=Y/\e=true else D7 se (ts.drop i) κ1 kn1=some (κ',Y,e)))
   (ii53 false κ kns _ _ rfl (Gr (AA.refl _)) L0 (by rw[AW];show a8)) ?_ ?_ ?_
  .rintro i σ H' _ ⟨e1,κ1,kn1,x1,x2,_,O,_,_⟩;show .inl (.inl (L0.AF O _ _ (I _ _ hu)))
  .rintro i x σ H' hx ⟨e1,κ1,kn1,x1,x2,rfl,O,L1,R⟩;show Am (hl.get hx) λth ht ih=>?_;have lt:i<ts.length:=(List.getElem?_eq_some_iff.mp ht).1;have dr:ts.drop i=th::ts.drop (i+1):=by
    rw[QB lt];rw[LC lt]at ht;rw[LV ht]
   rw[dr]at R;have tu:CA H H':=I.AF.trans (L0.AF O);have aD:e1=false:=by
    cases e1 with
    | false=>rfl
    | true=>rw[KJ rfl]at R;cases R.1
   subst aD;rw[AW,Hh]at R
   cases qq:BX se th κ1 kn1 with
   | none=>rw[qq]at R;cases R
   | some p=>
    obtain⟨κ2,kn2,e2⟩:=p;rw[qq]at R;dsimp only at R;have R':(if e2=true then ts.drop (i+1)=[]/\kn2=Y/\e=true else D7 se (ts.drop (i+1)) κ2 kn2=some (κ',Y,e))/\kn2.length<=Y.length:=by
     cases e2 with
     | true=>
      rw[KJ rfl]at R ⊢;split at R
      .rename_i c;cases R;show⟨(Az (List.isEmpty_iff.mp c) rfl rfl),JV _⟩
      .cases R
     | false=>
      rw[AW]at R ⊢;show⟨R,Hk _ _ _ _ _ _ R⟩
    show C8 (Yf qq) λop rest z1 a7=>?_;subst z1;have aA:=ih.mono tu;have aH:=aA;show A0 aA λa2 aN z1 a9 z2=>A0 z2 λv0 vr z3 h0 aG=>?_;subst z1 z3;cases(show v0=.str op from h0);have a1:DY (V.str op::vr) 0=some (V.str op):=Be (j:=0) rfl;have lr:vr.length=rest.length:=aG.len;have sq:BJ K H' a2 (V.str op::vr):=.inl (.inl a9);have ms:(op,V.ref (fS op))∈BN.map (λp=>(p.1,V.ref (fS p.1))):=KI.mpr (Ad a7 rfl);have ml:(op,V.int ((rest.length+1:Nat):Int))∈BN.map (λp=>(p.1,V.int p.2)):=KI.mpr (Ad a7 rfl);show Ad rfl (Ad rfl (Ad (wb rfl) (Ad rfl (Eo rfl (.tup a9) rfl (Ad rfl (E7 (Ad rfl (Al a2 _ rfl (.inr sq) (Aw rfl rfl (Ad (wb (KA (by simp))) (Ad rfl (B0 _ _ 0 _ rfl rfl sq a1 (Eo rfl (.str _) rfl (Ad rfl (E7 (Ad rfl (B0 _ _ 0 _ rfl rfl sq a1 (Al op _ rfl ms (Ad (wb rfl) ?_)))))))))))))))))));show Ad rfl (Al a2 _ rfl (.inr sq) (Ad rfl (B0 _ _ 0 _ rfl rfl sq a1 (Co op _ rfl ml rfl (Ad (wb (KA (LM V.int (by simp;omega)))) (Ad rfl (B0 _ _ 0 _ rfl rfl sq a1 (Al op _ rfl ms (Al op (fS op) rfl ms (Ad rfl (Ad rfl (Ad rfl (Cw o r fn kn d se (Cw κ1 kn1 _ rest κ2 kn2 (Ko e2 rfl L1 aH (hd _ (KR ht)) qq ⟨KN R'.2 aE,λH2 aJ L2=>ii53 e2 κ2 kn2 _ _ rfl (O.trans aJ) L2 R'.1⟩)))))))))))))))
  .rintro σ H' ⟨e1,κ1,kn1,x1,x2,rfl,O,L1,R⟩;rw[len,List.drop_length]at R;have RR:kn1=Y/\e=e1:=by
    cases e1 with
    | true=>rw[KJ rfl]at R;show R.2
    | false=>
     rw[AW,Lg]at R;cases R;show⟨rfl,rfl⟩
   obtain⟨rfl,rfl⟩:=RR;have a4:Sx [kn] H H':=λb u e nb=>O b u (I _ _ e) (by simp at nb;simp[nb,a3 e]);have aF:kks.length<=kn1.length:=KN JO (Hk _ _ _ _ _ _ a8);show Ad rfl (k _ a4 (L.move a4.more L1.hkn (Bx kks (a4 _ _ GH (by simp[L.d.2.2.symm])) GU aF)))
abbrev Yp:List Str:=["self","records","functions","fun"]
def EY:AD Yp Yp (Ao Pk):=FS
def Wz (F:As K "__init__" "Look.__init__" Pk f fd)(LT:HB K C):AH P w K mg base BE 1 f fd Yp (As1 C):=by
 show F.By EY λcdv A outer s H vs Q E hr h=>?_
 .show Ao1 h λx dx r fn v f z1 hx hi a5 a7 z2=>?_;subst z1;obtain⟨HJ,k⟩:=z2;have nd:=EY.nd;show Ig (Kp hi) λa b us z1 Y hb a9=>?_;subst z1;have a4:a≠x:=Bd Y hx (by simp);have a6:b≠x:=Bd hb hx (by simp);show Ad (Ae (Wi (qv 0) (qv 1) rfl) (Ae (Wi (qv 0) (qv 2) rfl) (Ae (Wi (qv 0) (BY (qv 3) Ag) rfl) (Ak (Wi (qv 0) (At6 (N':=["name"]) (n:=1) AY.n rfl (F0 (Fk (BY (qv 3) Ag) Cc)) (λ_ _ _=>(C7 (FX 0) Db (qv 0) Es))) rfl))))) ?_
  walk_at "k"
  show Ad rfl (Ad rfl (Cm x C dx [] rfl hx LT.cl LT.n1 (by decide) (Ad rfl (Ad rfl (Cm x C dx _ rfl Ah LT.cl LT.n2 (LS (Ke _ _ _) (by decide)) ?_)))));rw[Nq];show Ad rfl (B0 _ _ 3 _ rfl rfl (.inl (.inl (by rw[Aj a4];show Y))) (Be (j:=3) rfl) (Ad rfl (Cm x C dx _ rfl Ah LT.cl LT.n3 (LS (Ke _ _ _) (LS (Nat.add_le_add_right (Ke _ _ _) 1) (by decide))) ?_)));rw[Nq];show Ad rfl (B0 _ _ 2 _ rfl rfl (.inl (.inl (by rw[Aj a4];show Y))) (Be (j:=2) rfl) (Al b _ rfl (.inl (.inl (by rw[Aj a6];show hb))) λp O=>(Bx p rfl ⟨_,.inl (.inl Ah)⟩ λD I=>?_)));have ea:alt (((Cj f.fh.ps f.fh.ks).map V.str).drop (HT.BA ((Cj f.fh.ps f.fh.ks).map V.str).length 0 none))=f.fh.ps.map V.str:=Mo a5;rw[ea]at I ⊢;have a1:x≠p:=λz=>by rw[z]at O;rw[Ah]at O;cases O
  have a0:x≠D:=λz=>by rw[z]at I;rw[Aj (λq=>a1 (z.trans q)),Ah]at I;cases I
  have a8:H p=none:=by rw[Aj a1.symm]at O;show O
  have a3:D≠p:=λz=>by rw[z,Ah]at I;cases I
  have a2:H D=none:=by rw[Aj a3,Aj a0.symm]at I;show I
  show Vd (xs:=f.fh.ps.map V.str) (λi ys σ H'=>(∃o,σ=[o])/\H'=upd (upd (upd H x (HO.ins C dx (Ie "gives" (V.str f.fh.k) (Ie "functions" (V.ref fn) (Ie "records" (V.ref r) []))))) p (HO.tup (f.fh.ps.map V.str))) D (.dK ys)/\ys=knV (f.fh.ps.take i)) (KN (by rw[JR,a5];show a7) (by decide)) (Az ⟨_,rfl⟩ rfl (by simp[knV])) ?_ ?_ ?_
  .rintro i ys σ H' hi ⟨_,rfl,rfl⟩;show Az (.inl (.inl ?_)) Ah (by simp[knV];omega);rw[Aj a3.symm,Ah]
  .rintro i v ys σ H' hv ⟨⟨o,rfl⟩,rfl,rfl⟩;rw[LG]at hv;show Am (Option.map_eq_some_iff.mp hv) λn hn z1=>?_;subst z1;have tk:=Ct hn;have nm:n∉f.fh.ps.take i:=λz=>by
    have:=HJ.sublist (OD (i+1) _);rw[tk,LX]at this;show this.2.2 n z n (by simp) rfl
   show Ad rfl (Rg (Sum.inr n) rfl Ah ⟨_,rfl⟩ Nq ?_);rw[tk];show Ng _ _ nm
  .rintro ys σ H' ⟨_,rfl,rfl⟩;rw[JR,LY];show Ad rfl (Cm x C dx _ rfl (by rw[Aj a0,Aj a1,Ah]) LT.cl LT.n4 (LS (Ke _ _ _) (LS (Nat.add_le_add_right (KN (Ke _ _ _) (Nat.add_le_add_right (Ke _ _ _) 1)) 1) (by decide))) (k _ D _ a2 (λb u hb nb=>?_) Ah ?_ ?_ ?_ ?_ ?_))
   .have n1:b≠x:=by simpa using nb
    rw[Aj n1,Aj (Af hb a2),Aj (Af hb a8),Aj n1];show hb
   .rw [Cz,KH (by decide +kernel),Cz,KH (by decide +kernel),Cz,KH (by decide +kernel),Cz,KJ rfl]
   .rw [Cz,KH (by decide +kernel),Cz,KH (by decide +kernel),Cz,KJ rfl]
   .rw [Cz,KH (by decide +kernel),Cz,KJ rfl]
   .rw [Cz,KJ rfl]
   .rw [Aj a0.symm,Ah]
def DL:AD ["look","fun","kinds"] ["look","fun"] (Ao Ln):=FS
def Q8 (hm:1<=m)(F:As K "look_at_body" "look_at_body" Ln f fd)(T:At K mg)(aC:AJ P w K mg base 1 "want" Ft Fy)(aD:AJ P w K mg base m "look_at_statements" Wm (spS C n)):AH P w K mg base BE (m+1) f fd ["look","fun"] (As4 C n):=by
 show F.By DL λcdv A outer s H vs Q E hr h=>?_
 .show Dc h λo r fn kn se v z1=>Ri z1 λf κ' aB z2 lk hkn d1 d2 z3=>Ib z3 λhi Y aE HJ hd z4=>Ch z4 λa7 a4 k=>?_;subst z2;have nd:=DL.nd;show Ig (Kp hi) λa b us z1 O hb a8=>?_;subst z1;show Ad (Ae (Cl 2 nd (qe_dzip (b:=false) (c:=false) rfl rfl T.HR rfl T.n_zip (AS (Fk (BY (qv 1) Ag) Cc) (Fk (BY (qv 1) Ag) (Bq Ag))))) (Ak (Au (qf aC hr (AS (qf aD hr (BV (qv 0) (Bu E9 (qv 1) (Bq Ag) Cc) (qv 2))) Ai))))) ?_
  walk_at "k"
  show Ad rfl (B0 _ _ 2 _ rfl rfl (.inl (.inl O)) (Be (j:=2) rfl) (Al b _ rfl (.inl (.inl hb)) λp hp=>?_));have ea:alt (((Cj f.fh.ps f.fh.ks).map V.str).drop (HT.BA ((Cj f.fh.ps f.fh.ks).map V.str).length 0 none))=f.fh.ps.map V.str:=Mo Y;rw[ea];generalize z:upd H p _=H1;obtain⟨s1,q1⟩:=Bz hp z;show Ad rfl (B0 _ _ 2 _ rfl rfl (.inl (.inl (s1 _ _ O))) (Be (j:=2) rfl) (Ad rfl (Al b _ rfl (.inl (.inl (s1 _ _ hb))) λp2 a5=>?_)));rw[eb_cut Y];generalize z:upd H1 p2 _=H2;obtain⟨s2,q2⟩:=Bz a5 z;have a2:=s1.trans s2;show Co p p2 rfl ⟨_,.inl (.inl (s2 _ _ q1))⟩ ⟨_,.inl (.inl q2)⟩ (Al (f.fh.ps.map Sum.inr) (f.fh.ks.map V.str) (.inl (.inl ?_)) (.inl (.inl q2)) λd a1=>?_)
  .show (s2 _ _ q1).trans (by rw[List.map_map];rfl)
  obtain⟨a9,aA⟩:=kd_merge HJ Y;generalize z:upd H2 d _=H3;obtain⟨s3,q3⟩:=Bz a1 z;have a3:=a2.trans s3;have a0:∀{b:Addr} {u:HO},H b=some u->b≠d:=λe=>Af (a2 _ _ e) a1;show Ad rfl (Ad rfl (Aq 4 rfl (Co a _ rfl (.inl (.inl (a3 _ _ O))) (F3 (n:=4) (by decide) (by simp)) λp4 a6=>?_)));rw[show Ef (V.str "fun"::V.str f.nm::V.ref b::V.str f.fh.k::us) (some 4) none=us from Dz _ 4];generalize z:upd H3 p4 _=H4;obtain⟨s4,q4⟩:=Bz a6 z;have I:=a3.trans s4;obtain⟨⟨_,_⟩,⟨kr,er,_⟩,kf,ef,_⟩:=id lk;show Ad rfl (Cw o r fn kn d se (Cw _ f.fh.ps _ f.ts κ' aB (Ko true rfl ⟨lk.same I,(Bh (I _ _ hkn) (λx hx=>Ak2 hx) (by unfold knV;rw[JR];show JV _)),(Bh (s4 _ _ q3) a9 (by rw[aA];show JV _)),⟨d1,a0 er⟩,⟨d2,a0 ef⟩,a0 hkn⟩ (Al p4 _ rfl q4 (a8.mono I.AF)) hd a7 ⟨a4,λH5 sx L5=>(Ad (wb rfl) (k H5 λq u e n=>sx q u (I _ _ e) n))⟩)))
end
structure TxL (K:Av)(mg:Cb)(C fi:Addr)(fdi:FuncData):Prop where
 g_Look:mg "Look"=some (.ref C)
 b_Look:Binds K fdi Yp []
 mak:Mk K C fi
noncomputable def JN (t:Th):Bool:=L6 t "fun"
theorem Zl:∀l:List (Str×List Str),(l.map Cv).filter JN=[]
 | []=>rfl
 | p::r=>by
  rw[KE,NN,Zl r]
  show ¬decide (("record":Str)="fun")=true
  decide
theorem Zm:∀l:List HA,(l.map Ca).filter JN=l.map Ca
 | []=>rfl
 | p::r=>by
  rw[KE,QV,Zm r]
  show decide (("fun":Str)="fun")=true
  decide
def Ab8 {AB:List (Str×List Str)}{AC:List HA}{t:Th}(h:t∈AB.map Cv++AC.map Ca):∃y r,t=.tup (.wd y::r):=by
 rcases KQ.mp h with h|h
 .show Am (KI.mp h) λp _ z1=>?_;subst z1;show Jn rfl
 .show Am (KI.mp h) λp _ z1=>?_;subst z1;show Jn rfl
def Ag2 (h:AQ H v (Cv p)):∃a,v=.ref a/\H a=some (.tup (.str "record"::.str p.1::p.2.map V.str)):=by
 show A0 h λa us z1 I z2=>A0 z2 λO r0 Y h0 z4=>A0 z4 λv1 r1 z5 h1 h2=>?_;subst z1 Y z5;cases(show O=.str "record" from h0);cases(show v1=.str p.1 from h1);rw[Kj h2]at I;show Aq a rfl I
def Ku {α β:Type}{f:α->β}{l:List α}{i:Nat}{y:β}(h:(l.map f)[i]?=some y):∃x,l[i]?=some x/\y=f x:=by
 rw[LG]at h;show Am (Option.map_eq_some_iff.mp h) λx hx e=>Aq x hx e.symm
def nd_at {α:Type}{key:α->Str}{l:List α}(nd:(l.map key).Nodup){i j:Nat}{x y:α}(hi:l[i]?=some x)(I:l[j]?=some y)(h:j<i):key y≠key x:=by
 intro e;have hk:(l.map key)[i]?=some (key x):=by rw[LG,hi];rfl
 have O:(l.map key)[j]?=some (key y):=by rw[LG,I];rfl
 have hm:key y∈(l.map key).take i:=by
  show KR (i:=j) ?_;rw[List.getElem?_take,KJ h];show O
 have:=nd.sublist (OD (i+1) _);rw[Ct hk,LX]at this;show this.2.2 _ hm _ (KD.mpr rfl) e
def Pd {ys:List (Key×V)}{x y:Str}{v:V}(h:y≠x):Bm (L2.putK ys (Sum.inr x) v) (Sum.inr y)=Bm ys (Sum.inr y):=by rw[Ci,KH λz=>h (MX z)]
section
variable {P:Program}{w:World}{K:Av}{mg:Cb}{base:Heap}{t1 t2 t3 t4:Tok}{C fi:Addr}{fdi:FuncData}
def DJ:AD ["thing","functions","records","record","fields","fun","heads"] Em (Ao Lh):=FS
end
end T
namespace R5
open PySem PySem.Spec PyProof.Rows L2
inductive Tk where
 | op|cl|leaf (x:Str) (t:Th)
noncomputable def Kf (i:Int):Str:=Str.ofString (toString i)
noncomputable def Tk.str:Tk->Str
 | .op=>"("
 | .cl=>")"
 | .leaf x _=>x
mutual
noncomputable def toks:Th->List Tk
 | .num i=>[.leaf (Kf i) (.num i)]
 | .wd x=>[.leaf x (.wd x)]
 | .tup l=>.op::(Gn l++[.cl])
noncomputable def Gn:List Th->List Tk
 | []=>[]
 | t::r=>toks t++Gn r
end
mutual
noncomputable def depth:Th->Nat
 | .num _=>0
 | .wd _=>0
 | .tup l=>Ji l+1
noncomputable def Ji:List Th->Nat
 | []=>0
 | t::r=>max (depth t) (Ji r)
end
structure Pc (x:Str):Prop where
 ne:x.cps.toList≠[]
 signs:∀c∈x.cps.toList,33<=c/\c<=126/\c≠40/\c≠41
mutual
def Wf (W:Str->Prop):Th->Prop
 | .num i=>-32768<=i/\i<=32767
 | .wd x=>Pc x/\W x
 | .tup l=>GN W l
def GN (W:Str->Prop):List Th->Prop
 | []=>True
 | t::r=>Wf W t/\GN W r
end
noncomputable def step:List (List Th)->Tk->List (List Th)
 | S,.op=>[]::S
 | p::q::r,.cl=>(q++[.tup p])::r
 | p::r,.leaf _ t=>(p++[t])::r
 | S,_=>S
inductive JD (W:Str->Prop):Str->Th->Prop where
 | num (i:Int) (h:-32768<=i/\i<=32767):JD W (Kf i) (.num i)
 | wd (x:Str) (h:Pc x) (w:W x):JD W x (.wd x)
def OkStep (W:Str->Prop):List (List Th)->Tk->Prop
 | S,.op=>S.length<=40/\S≠[]
 | S,.cl=>∃p q r,S=p::q::r
 | S,.leaf x t=>S≠[]/\JD W x t
abbrev cd (x:Str):List Nat:=x.cps.toList
noncomputable def E (xs:List (List Nat)):List Nat:=xs.flatMap λx=>x++[32]
def Md (xs ys:List (List Nat)):E (xs++ys)=E xs++E ys:=by simp[E]
def Qo (x:List Nat)(xs:List (List Nat)):E (x::xs)=x++32::E xs:=by simp[E]
def Dm (a b:Str):cd (a++b)=cd a++cd b:=by simp[cd,OW]
def Tw (h:cd a=cd b):a=b:=Str.ext' (by simpa [cd,← Array.toList_inj]using h)
def O0:cd (" ":Str)=[32]:=by decide +kernel
def Aj4:cd ("(":Str)=[40]:=by decide +kernel
def Vf:cd (")":Str)=[41]:=by decide +kernel
def cd_op_:cd ("( ":Str)=[40,32]:=by decide +kernel
theorem Iz:∀(xs:List Str),xs≠[]->cd (Str.join " " xs)++[32]=E (xs.map cd)
 | [],h=>absurd rfl h
 | [x],_=>by simp[Str.join,E]
 | x::y::r,_=>by
  have e:Str.join " " (x::y::r)=x++" "++Str.join " " (y::r):=rfl;rw[e,Dm,Dm,O0,KE,Qo,← Iz (y::r) (by simp)];simp
theorem E_inj:∀{xs ys:List (List Nat)},(∀x∈xs,32∉x)->(∀y∈ys,32∉y)->E xs=E ys->xs=ys
 | [],[],_,_,_=>rfl
 | [],y::ys,_,_,h=>by
  have:=LM List.length h;simp[E]at this
 | x::xs,[],_,_,h=>by
  have:=LM List.length h;simp[E]at this
 | x::xs,y::ys,hx,O,h=>by
  rw[Qo,Qo]at h;have key:∀(a b r s:List Nat),32∉a->32∉b->a++32::r=b++32::s->a=b/\r=s:=by
   intro a
   induction a with
   | nil=>
    intro b r s _ hb e
    cases b with
    | nil=>simpa using e
    | cons c b=>simp at e;show absurd (by rw[← e.1];simp) hb
   | cons c a Y=>
    intro b r s ha hb e
    cases b with
    | nil=>simp at e;show absurd (by rw[e.1];simp) ha
    | cons c' b=>
     simp at e;obtain⟨e1,e2⟩:=Y b r s (λz=>ha (JS _ z)) (λz=>hb (JS _ z)) e.2;show⟨by rw[e.1,e1],e2⟩
  obtain⟨e1,e2⟩:=key x y _ _ (hx x (by simp)) (O y (by simp)) h;rw[e1,E_inj (λz I=>hx z (JS _ I)) (λz I=>O z (JS _ I)) e2]
def R1 (Y:xs≠[])(hf:∀x∈xs,32∉cd x):Txt.split (Str.join " " xs) " "=xs:=by
 have hb:(" ":Str)=⟨#[32]⟩:=by decide +kernel
 have h1:Str.join " " (Txt.split (Str.join " " xs) " ")=Str.join " " xs:=StrLaws.join_split _ _;have h2:∀p∈Txt.split (Str.join " " xs) " ",32∉cd p:=by
  rw[hb];show StrLaws.split_free _ 32
 have h3:Txt.split (Str.join " " xs) " "≠[]:=λz=>by
  have:=split_pos (Str.join " " xs) " ";rw[z]at this;simp at this
 have e:E ((Txt.split (Str.join " " xs) " ").map cd)=E (xs.map cd):=by rw[← Iz _ h3,← Iz _ Y,h1]
 have e2:=E_inj (by intro x hx;show Am (KI.mp hx) λy I z1=>?_;subst z1;show h2 y I) (by intro x hx;show Am (KI.mp hx) λy I z1=>?_;subst z1;show hf y I) e;have inj:∀(as bs:List Str),as.map cd=bs.map cd->as=bs:=by
  intro as
  induction as with
  | nil=>intro bs h;cases bs with
   | nil=>rfl
   | cons b bs=>simp at h
  | cons a as O=>intro bs h;cases bs with
   | nil=>simp at h
   | cons b bs=>
    simp only[KE,List.cons.injEq]at h;rw[Tw h.1,O bs h.2]
 show inj _ _ e2
mutual
noncomputable def tx:Th->Str
 | .num i=>Kf i
 | .wd x=>x
 | .tup l=>txL "( " l++")"
noncomputable def txL:Str->List Th->Str
 | a,[]=>a
 | a,t::r=>txL (a++tx t++" ") r
end
mutual
theorem Zy:∀th:Th,cd (tx th)++[32]=E ((toks th).map λt=>cd t.str)
 | .num i=>by simp[tx,toks,Tk.str,E]
 | .wd x=>by simp[tx,toks,Tk.str,E]
 | .tup l=>by
  rw[tx,Dm,Ad8 l "( ",cd_op_,Vf,toks];simp[E,Tk.str,Aj4,Vf]
theorem Ad8:∀(l:List Th) (a:Str),cd (txL a l)=cd a++E ((Gn l).map λt=>cd t.str)
 | [],a=>by simp[txL,Gn,E]
 | t::r,a=>by
  rw[txL,Ad8 r,Dm,Dm,O0,Gn,KZ,Md,← Zy t];simp
end
def Vr (th:Th):toks th≠[]:=by cases th<;>simp[toks]
def Ae3 (th:Th):tx th=Str.join " " ((toks th).map Tk.str):=by
 show Tw ?_;have h1:=Zy th;have h2:=Iz ((toks th).map Tk.str) (by simpa using Vr th);rw[List.map_map]at h2;show OA (h1.trans h2.symm)
def Ya (l:List Th):tx (.tup l)=Str.join " " (("(":Str)::(l.map tx++[(")":Str)])):=by
 show Tw ?_;have h2:=Iz (("(":Str)::(l.map tx++[(")":Str)])) (by simp);have h1:=Zy (.tup l);show OA (bs:=[32]) (h1.trans (Eq.trans ?_ h2.symm));have e:∀l:List Th,E ((Gn l).map λt=>cd t.str)=E ((l.map tx).map cd):=by
  intro l
  induction l with
  | nil=>rfl
  | cons t r I=>rw[Gn,KZ,Md,I,← Zy t,KE,KE,Qo];simp
 rw[toks,KE,KZ,Qo,Md,e l];simp[E,Tk.str]
end R5
namespace R5
open PySem PySem.Spec PyProof.Rows L2 T
noncomputable def kw1:List Str:=["yes","no","call","new","get","=","+","-","*","/","rest","<","and","or","not"]
noncomputable def kw2:List Str:=["list","long","at","out","store","let","put","if","while","give","fail","set","do","program","record","fun","number","truth"]
noncomputable def kws:List Str:=kw1++kw2
def Wx (x:Str):Prop:=Dd x=true\/x∈kws
def kws_ok:∀x∈kws,x.length<=8/\cd x≠[]/\∀c∈cd x,33<=c/\c<=126/\c≠40/\c≠41:=by decide +kernel
def Ah9 (h:Dd x=true):x.length<=8/\cd x≠[]/\∀c∈cd x,97<=c/\c<=122:=by
 have h1:=(Bool.and_eq_true_iff.mp h).1;have h2:=Bool.and_eq_true_iff.mp h1;have h3:=Bool.and_eq_true_iff.mp h2.1;show Az (KP h3.2) (λz=>?_) λc Y=>?_
 .have h4:1<=x.length:=KP h3.1;have e:x.length=(cd x).length:=by simp[cd,Str.length]
  rw[e,z]at h4;simp at h4
 .have O:=MQ.mp h2.2 c Y;have I:=Bool.and_eq_true_iff.mp O;show⟨KP I.1,KP I.2⟩
def Ae0 (h:Wx x):Pc x/\x.length<=8:=by
 rcases h with h|h
 .show Ch (Ah9 h) λa b c=>?_;show⟨⟨b,λd hd=>by have:=c d hd;omega⟩,a⟩
 .show Ch (kws_ok x h) λa b c=>⟨⟨b,c⟩,a⟩
def Fq (h:Wx x):Wf Wx (.wd x):=by rw[Wf];show⟨(Ae0 h).1,h⟩
def Fr (h:x∈kws:=by decide):Wf Wx (.wd x):=Fq (.inr h)
theorem Ap7 {W:Str->Prop}:∀{l:List Th},(∀t∈l,Wf W t)->GN W l
 | [],_=>by rw[GN];trivial
 | t::r,h=>by rw[GN];show⟨h t JY,Ap7 λu I=>h u (JS _ I)⟩
theorem Ap6 {W:Str->Prop}:∀{l:List Th},GN W l->∀t∈l,Wf W t
 | [],_,t,h=>by cases h
 | u::r,h,t,ht=>by
  rw[GN]at h
  rcases JT.mp ht with rfl|ht
  .show h.1
  .show Ap6 h.2 t ht
def Ea {W:Str->Prop}(h:∀t∈l,Wf W t):Wf W (.tup l):=by rw[Wf];show Ap7 h
def CJ {W:Str->Prop}(h:Wf W a)(h':∀t∈l,Wf W t):∀t∈a::l,Wf W t:=λt ht=>by
 rcases JT.mp ht with rfl|ht
 .show h
 .show h' t ht
def IE {W:Str->Prop}:∀t∈([]:List Th),Wf W t:=λt ht=>by cases ht
theorem U1 {α:Type}:∀{l:List (Str×α)} {x:Str} {a:α},l.lookup x=some a->x∈l.map (·.1)
 | [],x,a,h=>by cases h
 | (y,b)::r,x,a,h=>by
  rw[ND]at h
  cases e:x==y with
  | true=>rw[KE,eq_of_beq e];show JY
  | false=>rw[e]at h;show JS _ (U1 h)
def Aq3:∀x∈takes.map (·.1),x∈kws:=by decide +kernel
theorem Xi {E:CE}:∀{es:List Th} {ws:List Str},kL E es=ws.map some->∀t∈es,∃k,kE E t=some k
 | [],_,_,t,h=>by cases h
 | e::r,[],h,_,_=>by rw[B3]at h;cases h
 | e::r,w::ws,h,t,ht=>by
  rw[B3,KE]at h;have h:=PJ h
  rcases JT.mp ht with rfl|ht
  .show⟨w,h.1⟩
  .show Xi h.2 t ht
structure EG (R:Str->Option (List Str))(F:Str->Option (List Str×Str)):Prop where
 r:∀n fl,R n=some fl->Dd n=true/\∀f∈fl,Dd f=true
 f:∀f v,F f=some v->Dd f=true
def KG (κ:Kd):Prop:=∀x k,κ x=some k->Dd x=true
theorem Zc {E:CE}(g:EG E.R E.F)(Y:KG E.κ):∀{n:Nat} {t:Th} {k:Str},BF n t->kE E t=some k->Wf Wx t
 | _,.num i,k,_,h=>by
  rw[kE]at h;rw[Wf];split at h
  .assumption
  .cases h
 | _,.wd x,k,_,h=>by
  rw[kE]at h;split at h
  .rename_i c
   rcases c with rfl|rfl
   .show Fr
   .show Fr
  .show Fq (.inl (Y x k h))
 | 0,.tup _,_,hd,_=>by unfold BF at hd;cases hd
 | n+1,.tup l,k,hd,h=>by
  show C8 (kE_inv h) λop r z1 I=>?_;subst z1;have hd:=Ee hd;have sub:∀{es:List Th} {ws:List Str},(∀t∈es,BF n t)->kL E es=ws.map some->∀t∈es,Wf Wx t:=λh1 h2 t ht=>let ⟨_,hk⟩:=Xi h2 t ht;Zc g Y (h1 t ht) hk
  show Ea ?_
  cases I with
  | call f es ws O hr hf he=>
   subst O hr;show CJ Fr (CJ (Fq (.inl (g.f _ _ hf))) (sub (λt ht=>hd t (by simp[ht])) he))
  | new fl O hr hR=>
   subst O hr;show CJ Fr (CJ (Fq (.inl (g.r _ _ hR).1)) IE)
  | get e f k0 fl O hr he hR hf hk=>
   subst O hr;show CJ Fr (CJ (Zc g Y (hd e (by simp)) he) (CJ (Fq (.inl ((g.r _ _ hR).2 f hf))) IE))
  | eq a b k0 O hr ha hb h0 hk=>
   subst O hr;show CJ Fr (CJ (Zc g Y (hd a (by simp)) ha) (CJ (Zc g Y (hd b (by simp)) hb) IE))
  | oth ws h1 h2 h3 h4 ht hg he=>
   show CJ (Fq (.inr (Aq3 _ (U1 ht)))) (sub (λt ht=>hd t (by simp[ht])) he)
section
def SW (s:SE)(n:Nat):Prop:=∀t κ kn κ' kn' e,BF n t->KG κ->BX s t κ kn=some (κ',kn',e)->Wf Wx t/\KG κ'
theorem Aa3 (h:SW s n):∀ts κ kn κ' kn' e,(∀t∈ts,BF n t)->KG κ->D7 s ts κ kn=some (κ',kn',e)->∀t∈ts,Wf Wx t
 | [],_,_,_,_,_,_,_,_=>IE
 | t::r,κ,kn,κ',kn',e,hd,hk,hs=>by
  rw[D7]at hs;dsimp only at hs
  cases e1:BX s t κ kn with
  | none=>rw[e1]at hs;cases hs
  | some p=>
   obtain⟨κ1,kn1,b⟩:=p;obtain⟨w1,k1⟩:=h t κ kn κ1 kn1 b (hd t JY) hk e1;rw[e1]at hs;dsimp only at hs
   cases b with
   | true=>
    rw[KJ rfl]at hs
    cases r with
    | nil=>show CJ w1 IE
    | cons _ _=>cases hs
   | false=>
    rw[KH (by decide)]at hs;show CJ w1 (Aa3 h r κ1 kn1 κ' kn' e (λu I=>hd u (JS _ I)) k1 hs)
def st_wf (g:EG s.R s.F)(n:Nat):SW s n:=by
 induction n using Nat.strongRecOn with
 | _ n ih=>
  intro t κ kn κ' kn' e hd hk h;show C8 (Yf h) λop r z1 hl=>?_;subst z1
  cases n with
  | zero=>unfold BF at hd;cases hd
  | succ n=>
   have hd:=Ee hd;have hd:∀t∈r,BF n t:=λt ht=>hd t (JS _ ht);have kw:∀{u:Th} {k:Str},u∈r->kE (s.e κ) u=some k->Wf Wx u:=λI e=>Zc (E:=s.e κ) g hk (hd _ I) e;have pt:∀(a:List Th) (kn1:List Str) (κ2:Kd) (kn2:List Str) (e2:Bool),Th.tup a∈r->D7 s a κ kn1=some (κ2,kn2,e2)->Wf Wx (.tup a):=λa _ _ _ _ ha hs=>by
    have O:=hd _ ha
    cases n with
    | zero=>unfold BF at O;cases O
    | succ n'=>show Ea (Aa3 (ih n' (by omega)) a κ _ _ _ _ (Ee O) hk hs)
   by_cases c1:op="let"
   .subst c1;show Ri (Rq h) λx u k z1 I hx _ z2 _=>?_;subst z1 z2;show⟨Ea (CJ Fr (CJ (Fq (.inl hx)) (CJ (kw (by simp) I) IE))),λy k' Y=>?_⟩;unfold T.putK at Y;split at Y
    .rename_i c;rw[c];show hx
    .show hk y k' Y
   by_cases c2:op="put"
   .subst c2;show L9 (Rp h) λx u k z1 hx I z2 _=>?_;subst z1 z2;show⟨Ea (CJ Fr (CJ (Fq (.inl (hk x k hx))) (CJ (kw (by simp) I) IE))),hk⟩
   by_cases c3:op="if"
   .subst c3;show Dc (Ti h) λt a b κ1 kn1 e1 z1=>Kq z1 λκ2 e2 z2 ht ha hb z3 _=>?_;subst z2 z3;show⟨Ea (CJ Fr (CJ (kw (by simp) ht) (CJ (pt _ _ _ _ _ (by simp) ha) (CJ (pt _ _ _ _ _ (by simp) hb) IE)))),hk⟩
   by_cases c4:op="while"
   .subst c4;show Zq (Jp h) λt a κ1 e1 z1 ht ha z2 _=>?_;subst z1 z2;show⟨Ea (CJ Fr (CJ (kw (by simp) ht) (CJ (pt _ _ _ _ _ (by simp) ha) IE))),hk⟩
   by_cases c5:op="give"
   .subst c5;show Oz (Ot h) λt z1 ht z2 _=>?_;subst z1 z2;show⟨Ea (CJ Fr (CJ (kw (by simp) ht) IE)),hk⟩
   by_cases c6:op="fail"
   .subst c6;show Oz (Ou h) λm z1 hm z2 _=>?_;subst z1 z2;show⟨Ea (CJ Fr (CJ (by rw[Wf];show hm) IE)),hk⟩
   by_cases c7:op="set"
   .subst c7;show Tu (Ro h) λt f v k fl z1 ht hR hf hv z2=>?_;subst z1;obtain⟨rfl,_⟩:=z2;show⟨Ea (CJ Fr (CJ (kw (by simp) ht) (CJ (Fq (.inl ((g.r _ _ hR).2 f hf))) (CJ (kw (by simp) hv) IE)))),hk⟩
   by_cases c8:op="out"\/op="store"
   .show Oz (Ml c8 h) λws hm he z1 _=>?_;subst z1;show⟨Ea (CJ (Fq (.inr ?_)) λt ht=>?_),hk⟩
    .rcases c8 with rfl|rfl<;>decide
    .obtain⟨k,e1⟩:=Xi he t ht;show kw ht e1
   by_cases c9:op="do"
   .subst c9;show Ia (Xl h) λt k z1 ht z2 _=>?_;subst z1 z2;show⟨Ea (CJ Fr (CJ (kw (by simp) ht) IE)),hk⟩
   exfalso;rw[QR]at c8;rw[C5]at h;unfold FZ at h;rw[KH c1,KH c2,KH c3,KH c4,KH c5,KH c6,KH c7,KH c8.1,KH c8.2,KH c9]at h;cases h
end
end R5
namespace R5
open PySem PySem.Spec PyProof.Rows L2
theorem Qg:∀{l:List Th} {i:Nat} {t:Th},l[i]?=some t->depth t<=Ji l
 | [],i,t,h=>by simp at h
 | t'::r,0,t,h=>by simp at h;subst h;rw[Ji];omega
 | t'::r,i+1,t,h=>by
  have:=Qg (l:=r) (i:=i) (t:=t) (by simpa using h);rw[Ji];omega
noncomputable def Lc (x:Str):Str:=if(decide (0+("-":Str).length<=x.length)&&Builtin.Str.subAt x "-" 0)=true then Txt.slice x (some 1) none else x
theorem GN.get {W:Str->Prop}:∀{l:List Th} {i:Nat} {t:Th},GN W l->l[i]?=some t->Wf W t
 | [],i,t,_,h=>by simp at h
 | t'::r,0,t,w,h=>by simp at h;subst h;show w.1
 | t'::r,i+1,t,w,h=>GN.get (i:=i) w.2 (by simpa using h)
def Ah8 (h:-32768<=i/\i<=32767):i.natAbs.log2<1920:=by
 have h1:i.natAbs<2 ^ 16:=by omega
 by_cases h0:i.natAbs=0
 .rw [h0];decide
 .have:=(Nat.log2_lt h0).mpr h1;omega
def Lang (i:Int):Prop:=-32768<=i/\i<=32767
def Ao0:∀(m:Nat),(Nat.toDigits 10 m).head?=some '0'->m=0:=by
 intro m
 induction m using Nat.strongRecOn with
 | ind m I=>
  intro h;by_cases hm:m<10
  .rw [Nat.toDigits_of_lt_base hm]at h;have h':m.digitChar='0':=by simpa using h
   have:∀k:Nat,k<10->k.digitChar='0'->k=0:=by decide
   show this m hm h'
  .rw [Nat.toDigits_of_base_le (by decide) (by omega)]at h;have O:Nat.toDigits 10 (m/10)≠[]:=λz=>by
    have:=PySem.toDigits_len_ge 10 (m/10);rw[z]at this;simp at this
   have h2:(Nat.toDigits 10 (m/10)).head?=some '0':=by
    cases e:Nat.toDigits 10 (m/10)with
    | nil=>show absurd e O
    | cons c r=>rw[e]at h;simpa using h
   have:=I (m/10) (by omega) h2;omega
def digs (m:Nat)(h:m<=32768):NumText.AllDigits ((Nat.toDigits 10 m).map Char.toNat)/\(Nat.toDigits 10 m).map Char.toNat≠[]/\((Nat.toDigits 10 m).map Char.toNat).length<=5/\(((Nat.toDigits 10 m).map Char.toNat).head?=some 48->m=0):=by
 show C7 (λc I=>?_) (λz=>?_) ?_ λz=>?_
 .show Am (KI.mp I) λch Y e=>?_;have r:=digit_range (Nat.isDigit_of_mem_toDigits (by decide) (by decide) Y);rw[← e];show r
 .have:=PySem.toDigits_len_ge 10 m;rw[List.map_eq_nil_iff.mp z]at this;simp at this
 .rw [JR];show(Nat.length_toDigits_le_iff (by decide) (by decide)).mpr (by omega)
 .show Ao0 m ?_;rw[List.head?_map]at z
  cases e:(Nat.toDigits 10 m).head? with
  | none=>rw[e]at z;cases z
  | some ch=>
   rw[e]at z;have O:ch.toNat=48:=LV z;have:ch='0':=by
    apply Char.ext;apply UInt32.toNat_inj.mp;show O
   rw[this]
structure NumF (i:Int)(D:List Nat):Prop where
 all:NumText.AllDigits D
 ne:D≠[]
 len:D.length<=5
 head:D.head?=some 48->i=0
 codes:(0<=i/\cd (Kf i)=D)\/(i<0/\cd (Kf i)=45::D)
 reads:PySem.intText? (Kf i)=some i
def Ah6 (h:Lang i):∃D,NumF i D:=by
 unfold Lang at h;by_cases h0:0<=i
 .obtain⟨m,rfl⟩:=Int.eq_ofNat_of_zero_le h0;show Qi (digs m (by omega)) λI O Y d4=>?_;show⟨_,I,O,Y,λz=>by rw[d4 z];rfl,.inl ⟨h0,PySem.W.KIN.signs_num m⟩,PySem.W.KIN.num_reads h0 (by omega)⟩
 .obtain⟨m,rfl⟩:∃m:Nat,i=Int.negSucc m:=by
   cases i with
   | ofNat m=>show absurd (Int.natCast_nonneg m) h0
   | negSucc m=>show⟨m,rfl⟩
  have hm:m+1<=32768:=by omega
  show Qi (digs (m+1) hm) λI O Y d4=>?_;have hc:cd (Kf (Int.negSucc m))=45::(Nat.toDigits 10 (m+1)).map Char.toNat:=by
   show(Str.ofString (toString (Int.negSucc m))).cps.toList=_
   rw[signs_ofString];have e:toString (Int.negSucc m)="-"++Nat.repr (m+1):=rfl;rw[e,String.toList_append,Nat.toList_repr];rfl
  show⟨_,I,O,Y,λz=>absurd (d4 z) (by omega),.inr ⟨by omega,hc⟩,?_⟩;have hl:(Kf (Int.negSucc m)).length<=4300:=by
   have:(cd (Kf (Int.negSucc m))).length=(Kf (Int.negSucc m)).length:=by simp[cd,Str.length]
   rw[hc]at this;simp only[KC]at this;omega
  have e:=PySem.intText_neg (x:=Kf (Int.negSucc m)) hc I O hl;rw[PySem.W.KIN.val_back]at e;rw[e];rfl
def num_pc (h:Lang i):Pc (Kf i):=by
 obtain⟨D,f⟩:=Ah6 h;rcases f.codes with⟨_,e⟩|⟨_,e⟩
 .show⟨by show cd _≠[];rw[e];show f.ne,λc I=>?_⟩;have:c∈D:=by rw[← e];show I
  have:=f.all c this;omega
 .show⟨by show cd _≠[];rw[e];simp,λc I=>?_⟩;have:c∈45::D:=by rw[← e];show I
  rcases JT.mp this with rfl|z
  .omega
  .have:=f.all c z;omega
def Ql (x:Str):(cd x).length=x.length:=by simp[cd,Str.length]
def Vx (I:cd y=[c]):(decide (0+y.length<=x.length)&&Builtin.Str.subAt x y 0)=((cd x).head?==some c):=by
 have hl:y.length=1:=by rw[← Ql,I];rfl
 rw[StrLaws.subAt_eq]
 show(decide (0+y.length<=x.length)&&(((cd x).drop 0).take y.length==cd y))=_
 rw[hl,I,← Ql x,List.drop_zero]
 cases cd x with
 | nil=>rfl
 | cons d r=>simp
def Zz:cd ("-":Str)=[45]:=by decide +kernel
def Ao5:cd ("0":Str)=[48]:=by decide +kernel
def digit_is:∀c:Nat,48<=c->c<=57->Unicode.isDigit c=true:=by
 intro c h1 h2;have h:∀k:Fin 10,Unicode.isDigit (48+k.val)=true:=by decide +kernel
 have e:48+(c-48)=c:=Nat.add_sub_of_le h1;show e▸h ⟨c-48,Nat.sub_lt_left_of_lt_add h1 (Nat.lt_succ_of_le h2)⟩
def isdig (h:NumText.AllDigits (cd z))(h0:cd z≠[]):(decide (z.length>0)&&z.cps.all Unicode.isDigit)=true:=by
 have h1:z.length>0:=by
  rw[← Ql];show List.length_pos_iff.mpr h0
 rw[KA h1,Bool.true_and];rw[← RF,MQ];intro c I;obtain⟨a,b⟩:=h c I;show digit_is c a b
def figs_num (f:NumF i D):cd (Lc (Kf i))=D:=by
 unfold Lc;rw[Vx Zz];rcases f.codes with⟨_,e⟩|⟨_,e⟩
 .have hd:((cd (Kf i)).head?==some 45)=false:=by
   rw[e]
   cases I:D with
   | nil=>show absurd I f.ne
   | cons d r=>
    have:=f.all d (by rw[I];simp);simp;omega
  rw[hd,KH (by decide)];show e
 .rw [e,KJ (by simp)];have hl:(Kf i).length=D.length+1:=by rw[← Ql,e];rfl
  rw[slice_from_eq (by decide) (by omega) rfl]
  show((cd (Kf i)).drop 1).take _=D
  rw[e];have:((Kf i).length-1:Int).toNat=D.length:=by omega
  rw[this];simp
end R5
namespace R5
open PySem PySem.Spec PyProof.Rows L2 T
def tree_eg (O:CS AB AC):EG (lkR AB) (lkF AC):=by
 show⟨λn fl h=>?_,λf v h=>?_⟩
 .show Am (Option.map_eq_some_iff.mp h) λp I z1=>?_;subst z1;have e:p.1=n:=by simpa using QP I
  have r:=O.ro p.1 p.2 (NW I);show⟨e▸r.1,r.2.2.2.2.2.2.2⟩
 .show Am (Option.map_eq_some_iff.mp h) λp I z1=>?_;subst z1;have e:p.nm=f:=by simpa using QP I
  show e▸(O.fo p (NW I)).1
def kd_kg (h:∀x∈ps,Dd x=true):KG (JA ps ks):=λx k e=>by
 show Am (Option.map_eq_some_iff.mp e) λp I _=>?_;have e1:p.1=x:=by simpa using QP I
 show e1▸h p.1 (QL (NW I)).1
theorem U7:∀{ps ks:List Str} {x:Str},x∈Cj ps ks->x∈ps\/x∈ks
 | p::ps,k::ks,x,h=>by
  rw[Cj]at h
  rcases JT.mp h with rfl|h
  .show .inl JY
  rcases JT.mp h with rfl|h
  .show .inr JY
  rcases U7 h with h|h
  .show .inl (JS _ h)
  .show .inr (JS _ h)
 | [],ks,x,h=>by unfold Cj at h;cases h
 | p::ps,[],x,h=>by unfold Cj at h;cases h
theorem Jq:∀{ps ks:List Str},(Cj ps ks).length<=2*ks.length
 | p::ps,k::ks=>by
  have:=Jq (ps:=ps) (ks:=ks);rw[Cj,KC,KC,KC];omega
 | [],ks=>by unfold Cj;simp
 | p::ps,[]=>by unfold Cj;simp
theorem Rx:∀l:List Str,Cg (l.map .wd)=l.length
 | []=>by rw[No,Cg];rfl
 | x::r=>by rw[KE,Cg,BL,Rx r,KC];omega
def Ai1 (I:CS AB AC)(h:U2 AB k):Wx k:=by
 rcases h with rfl|rfl|rfl|h
 .show .inr (by decide)
 .show .inr (by decide)
 .show .inr (by decide)
 .show Am (KI.mp h) λp O z1=>?_;subst z1;show .inl (I.ro p.1 p.2 O).1
def Ap5 {l:List Str}(h:∀x∈l,Wx x):∀t∈l.map Th.wd,Wf Wx t:=λt ht=>by
 show Am (KI.mp ht) λx hx z1=>?_;subst z1;show Fq (h x hx)
def Ai9 {l:List Str}:∀t∈l.map Th.wd,BF n t:=λt ht=>by
 show Am (KI.mp ht) λx hx z1=>?_;subst z1;show Dv
structure Fits (t:Th):Prop where
 wf:Wf Wx t
 dl:BF 14 t
 sz:BL t<=1700000
def Ry (I:CS AB AC)(hf:∀f∈AC,(∀t∈f.ts,BF 11 t)/\Cg f.ts<=554342)(a8:AB.length<=5)(a0:AC.length<=3):(∀t∈AB.map Cv++AC.map Ca,Wf Wx t/\BF 12 t)/\Cg (AB.map Cv++AC.map Ca)<=1663200:=by
 have g:=tree_eg I;have one:∀t∈AB.map Cv++AC.map Ca,Wf Wx t/\BF 12 t:=λt ht=>by
  rcases KQ.mp ht with ht|ht
  .show Am (KI.mp ht) λp Y z1=>?_;subst z1;have r:=I.ro p.1 p.2 Y;show⟨Ea (CJ Fr (CJ (Fq (.inl r.1)) (Ap5 λx hx=>.inl (r.2.2.2.2.2.2.2 x hx)))),Dy (Cq Dv (Cq Dv Ai9))⟩
  .show Am (KI.mp ht) λf O z1=>?_;subst z1;show Ib (I.fo f O) λa1 a2 a3 a4 a5 z1=>Ch z1 λa6 a7 z2=>C8 z2 λκ kn st _=>?_;have ws:=Aa3 (st_wf (s:=⟨lkR AB,lkF AC,f.fh.k⟩) g 11) f.ts _ _ _ _ _ (hf f O).1 (kd_kg a5) st
   show⟨Ea (CJ Fr (CJ (Fq (.inl a1)) (CJ (Ea (Ap5 λx hx=>(U7 hx).elim (λz=>.inl (a5 x z)) λz=>Ai1 I (a6 x z))) (CJ (Fq (Ai1 I a7)) ws)))),
    Dy (Cq Dv (Cq Dv (Cq (Dy (n:=10) Ai9) (Cq Dv (hf f O).1))))⟩
 show⟨one,?_⟩;have b1:=Jv (B:=8) (AB.map Cv) λt ht=>by
  show Am (KI.mp ht) λp Y z1=>?_;subst z1;have r:=(I.ro p.1 p.2 Y).2.2.2.2.2.1;rw[Cv,BL,Cg,Cg,Rx,BL,BL];omega
 have b2:=Jv (B:=554360) (AC.map Ca) λt ht=>by
  show Am (KI.mp ht) λf O z1=>?_;subst z1;have r:=(hf f O).2;have l:=Jq (ps:=f.fh.ps) (ks:=f.fh.ks);have l4:=(I.fo f O).2.2.1;rw[Ca,BL,Cg,Cg,Cg,Cg,BL,BL,BL,BL,Rx];omega
 rw[JR]at b1 b2;rw[Ek];omega
def Et (h:∀t∈l,Wf Wx t/\BF 13 t)(I:Cg l<=1699000):Fits (.tup l):=⟨Ea λt ht=>(h t ht).1,Dy λt ht=>(h t ht).2,by rw[BL];omega⟩
def Ak9 (h:Aj7 t):Fits t:=by
 show Kq h λAB AC z1 I h6 hf Y O=>?_;subst z1;obtain⟨one,z⟩:=Ry I (λf h=>(hf f h).2.2) Y O;show Et (λt ht=>?_) (by rw[Cg,BL];omega)
 rcases JT.mp ht with rfl|ht
 .show⟨Fr,Dv⟩
 .show⟨(one t ht).1,(one t ht).2.mono (by decide)⟩
theorem Mm:∀{n:Nat} {t:Th},BF n t->depth t<=n
 | _,.num _,_=>by rw[depth];omega
 | _,.wd _,_=>by rw[depth];omega
 | 0,.tup _,h=>by unfold BF at h;cases h
 | n+1,.tup l,h=>by
  have all:∀{l:List Th},(∀t∈l,BF n t)->Ji l<=n:=fun {l}=>by
   induction l with
   | nil=>intro _;rw[Ji];omega
   | cons a r I=>
    intro h;have h1:=Mm (h a JY);have h2:=I λt ht=>h t (JS _ ht);rw[Ji];omega
  have:=all (Ee h);rw[depth];omega
def Ta (h:-32768<=i/\i<=32767):(Kf i).length<=6:=by
 obtain⟨D,f⟩:=Ah6 (i:=i) h;have l:=f.len;rw[← Ql];rcases f.codes with⟨_,e⟩|⟨_,e⟩
 .rw [e];omega
 .rw [e,KC];omega
mutual
theorem M3:∀{t:Th},Wf Wx t->(tx t).length+1<=9*BL t
 | .num i,h=>by rw[Wf]at h;have:=Ta h;rw[tx,BL];omega
 | .wd x,h=>by rw[Wf]at h;have:=(Ae0 h.2).2;rw[tx,BL];omega
 | .tup l,h=>by
  rw[Wf]at h;have:=Aq0 (a:="( ") h;have h1:("( ":Str).length=2:=by decide +kernel
  have h2:(")":Str).length=1:=by decide +kernel
  rw[tx,BL,NH];omega
theorem Aq0:∀{l:List Th} {a:Str},GN Wx l->(txL a l).length<=a.length+9*Cg l
 | [],a,h=>by rw[txL,Cg];omega
 | t::r,a,h=>by
  rw[GN]at h;have h1:=M3 h.1;have h2:=Aq0 (a:=a++tx t++" ") h.2;have h3:(" ":Str).length=1:=by decide +kernel
  rw[NH,NH]at h2;rw[txL,Cg];omega
end
theorem Z0:∀ts:List Str,cd (Str.join "" ts)=ts.flatMap cd
 | []=>by decide +kernel
 | [x]=>by simp[Str.join]
 | x::y::r=>by
  have e:Str.join "" (x::y::r)=x++""++Str.join "" (y::r):=rfl;have I:cd ("":Str)=[]:=by decide +kernel
  rw[e,Dm,Dm,I,MN,Z0 (y::r)];rfl
theorem E_flat:∀l:List Th,E ((Gn l).map λt=>cd t.str)=(l.map λt=>tx t++(" ":Str)).flatMap cd
 | []=>rfl
 | t::r=>by rw[Gn,KZ,Md,← Zy t,E_flat r,KE,List.flatMap_cons,Dm,O0]
def Ak4 (l:List Th):tx (.tup l)=("( ":Str)++Str.join "" (l.map λt=>tx t++(" ":Str))++")":=by
 show Tw ?_;rw[tx,Dm,Dm,Dm,Ad8,Z0,E_flat]
theorem Ar0:∀l:List Th,GN Wx l->((l.map λt=>tx t++(" ":Str)).map (·.length)).sum<=9*Cg l
 | [],_=>by simp
 | t::r,h=>by
  rw[GN]at h;have h1:=M3 h.1;have h2:=Ar0 r h.2;have h3:(" ":Str).length=1:=by decide +kernel
  rw[KE,KE,List.sum_cons,NH,Cg];omega
theorem Rn:∀l:List Th,l.length<=Cg l
 | []=>by simp
 | t::r=>by
  have:=Rn r;have h1:1<=BL t:=by cases t<;>rw[BL]<;>omega
  rw[KC,Cg];omega
theorem Vq:∀{l:List Th} {i:Nat} {t:Th},l[i]?=some t->BL t<=Cg l
 | [],i,t,h=>by simp at h
 | t'::r,0,t,h=>by simp at h;subst h;rw[Cg];omega
 | t'::r,i+1,t,h=>by
  have:=Vq (l:=r) (i:=i) (t:=t) (by simpa using h);rw[Cg];omega
structure Arg (H:Hp)(v:V)(th:Th)(d:Nat):Prop where
 is:AQ H v th
 dp:depth th<d
 wf:Wf Wx th
 sz:BL th<=1700000
def Arg.sub {H:Hp}{vs:List V}{l:List Th}{d:Nat}{i:Nat}{v:V}(hl:AI H vs l)(hd:depth (.tup l)<d+1)(hw:Wf Wx (.tup l))(hx:BL (.tup l)<=1700000)(I:vs[i]?=some v):∃t,l[i]?=some t/\Arg H v t d:=by
 show Am (AI.get hl I) λt ht hi=>?_;have h1:=Qg ht;rw[depth]at hd;have h3:=Vq ht;rw[BL]at hx;rw[Wf]at hw;show Aq t ht ⟨hi,by omega,GN.get hw ht,by omega⟩
def T4 (d:Nat):Sp:=λvs H Q _=>∃v th,vs=[v]/\Arg H v th d/\∀H',AA H H'->Q (.str (tx th)) H'
def alSub {H:Hp}{vs:List V}{l:List Th}{d:Nat}{i:Nat}{v:V}(hl:AI H vs l)(hd:depth (.tup l)<d+1)(hx:BL (.tup l)<=1700000)(I:vs[i]?=some v):∃t,l[i]?=some t/\AQ H v t/\depth t<d/\BL t<=1700000:=by
 show Am (AI.get hl I) λt ht hi=>?_;have h1:=Qg ht;rw[depth]at hd;have h3:=Vq ht;rw[BL]at hx;show Dh t ht hi (by omega) (by omega)
def spAl (d:Nat):Sp:=λvs H Q _=>∃v u th,vs=[v,u]/\(AQ H v th/\depth th<d/\BL th<=1700000)/\AQ H u th/\∀H',AA H H'->Q (.bl true) H'
section
variable {P:Program}{w:World}{K:Av}{mg:Cb}{base:Heap}
def EV:AD ["_law_thing"] ["_law_thing"] (Ao Sf):=FS
theorem Qr (F:As K "_law_text" "_law_text" Sf f fd)(T:At K mg)(hm:mg "_law_text"=some (.ref f))(hk:PySem.W.keepIn K (.ref f)=true)(hb:Binds K fd ["_law_thing"] []) :
  ∀d,AH P w K mg base BE d f fd ["_law_thing"] (T4 d)
 | 0=>AH.none λvs H Q E ⟨v,th,_,h,_⟩=>NU _ h.dp
 | d+1=>by
  have a3:AJ P w K mg base d "_law_text" ["_law_thing"] (T4 d):=AJ.of (Qr F T hm hk hb d) hm hk hb;show F.okQ EV (λvs H Q E h=>?_) (λcdv A outer s H vs Q E hr h=>?_)
  .show C8 h λv th z1 _=>?_;subst z1;rfl
  .show A0 h λv th z1 z2 k=>?_;subst z1;obtain⟨hi,hd,hw,hx⟩:=z2;have nd:=EV.nd;exists Ae (Bj (Fz (Eb (Bc Bf rfl T.AE Bv (AS (qv 0) (Cn (v:=.ty "tuple") rfl T.AZ NA rfl))))) (Ak (Ar (B4 (FE.or O6) rfl T.DK PX (AM (qv 0))))) Ax) (Ak (Ar (Ap Ff (Ap Ff Ai (Gc NE PySem.F.slot_str_join PySem.F.type_str_join Xa Ai (AM (El (N':=["_law_one"]) (n:=1) AY.n rfl (F0 (qv 0)) (λ_ _ _=>(Az (FX 0) Db (Ap Ff (qf a3 hr (AM (qv 0))) Ai))))))) Ai)))
   cases th with
   | num i=>
    cases(show v=.int i from hi);rw[Wf]at hw;show Ad rfl (Eo rfl (.int _) (Gg _) (Ad rfl (E7 (Ad rfl (.inl (Bx i rfl (Ah8 hw) (k _ (AA.refl _))))))))
   | wd x=>
    cases(show v=.str x from hi);show Ad rfl (Eo rfl (.str _) (Gf _) (Ad rfl (E7 (Ad rfl (.inr (Aq x rfl (k _ (AA.refl _))))))))
   | tup l=>
    show A0 hi λa vs z1 ha hl=>?_;subst z1;have a2:=AI.len hl;have a5:=Rn l;have a6:(16000000:Nat)<=sizeLine:=by rw[LJ];omega
    have hz:=hx;rw[BL]at hz;have a4:(" ":Str).length=1:=by decide +kernel
    show Ad rfl (Eo rfl (.tup ha) (Op _) (Ad rfl (Jo (⟨rfl,(Ad rfl (Bx a rfl ⟨_,BJ.of ha⟩ λD hD=>?_))⟩))));show Mc (xs:=vs) (λi ys σ H'=>(∃o,σ=[o])/\AA H H'/\H' D=some (.lst ys)/\ys=(l.take i).map λt=>V.str (tx t++" ")) (by omega) (C7 ⟨_,rfl⟩ ((AA.refl H).upd hD) Ah (by simp))
     (λi ys σ H' hi ⟨_,O,hd,I⟩=>(Az (BJ.of (O _ _ ha)) hd (by rw[I,JR,LL];omega))) ?_ ?_
    .rintro i x ys σ H' hv ⟨⟨o,rfl⟩,O,a0,I⟩;show Am (Arg.sub (hl.mono O.AF) hd hw hx hv) λt ht hA=>?_;have a7:=M3 hA.wf;have:=hA.sz;show Ad rfl (Al x t rfl hA λH5 s5=>(jj25 rfl rfl (by omega) (s5 _ _ a0) ⟨_,rfl⟩ (Az ?_ Ah ?_)))
     .intro b o e;rw[Aj (Af e hD)];show s5 _ _ (O _ _ e)
     .rw [I,RA,ht];simp
    .rintro ys σ H' ⟨_,O,a0,I⟩;rw[a2,LY]at I;subst I;rw[Wf]at hw;have sx:=Ar0 l hw;have Y:("":Str).length=0:=by decide +kernel
     have a1:(l.map λt=>V.str (tx t++(" ":Str)))=(l.map λt=>tx t++(" ":Str)).map V.str:=by rw[List.map_map];rfl
     show Ep "" D (l.map λt=>tx t++(" ":Str)) rfl rfl (AO.of (by rw[← a1];show a0)) (by rw[Y];omega) (Cd rfl rfl ?_ (Cd rfl rfl ?_ ?_))
     .have:=Iv "" (l.map λt=>tx t++(" ":Str));have h2:("( ":Str).length=2:=by decide +kernel
      rw[Y]at this;omega
     .have:=Iv "" (l.map λt=>tx t++(" ":Str));have h2:("( ":Str).length=2:=by decide +kernel
      have h3:(")":Str).length=1:=by decide +kernel
      rw[Y]at this;rw[NH];omega
     .rw [← Ak4];show k _ O
end
theorem E_len:∀xs:List Str,(E (xs.map cd)).length=(xs.map (·.length)).sum+xs.length
 | []=>rfl
 | x::r=>by
  rw[KE,Qo,JX,KC,E_len r];have:(cd x).length=x.length:=by simp[cd,Str.length]
  simp only[KE,List.sum_cons,KC];omega
section
variable {P:Program}{w:World}{K:Av}{mg:Cb}{base:Heap}
def CP:AD Em Em (Ao Hn):=FS
theorem Ir (F:As K "brackets_shown" "brackets_shown" Hn f fd)(T:At K mg)(hm:mg "brackets_shown"=some (.ref f))(hk:PySem.W.keepIn K (.ref f)=true)(hb:Binds K fd Em []) :
  ∀d,AH P w K mg base BE d f fd Em (T4 d)
 | 0=>AH.none λvs H Q E ⟨v,th,_,h,_⟩=>NU _ h.dp
 | d+1=>by
  have a9:AJ P w K mg base d "brackets_shown" Em (T4 d):=AJ.of (Ir F T hm hk hb d) hm hk hb;show F.okQ CP (λvs H Q E h=>?_) (λcdv A outer s H vs Q E hr h=>?_)
  .show C8 h λv th z1 _=>?_;subst z1;rfl
  .show A0 h λv th z1 z2 k=>?_;subst z1;obtain⟨hi,hd,hw,hx⟩:=z2;have nd:=CP.nd;exists Ae (Bj (Fz (Eb (Bc Bf rfl T.AE Bv (AS (qv 0) (Cn (v:=.ty "tuple") rfl T.AZ NA rfl))))) (Ak (Ar (B4 (FE.or O6) rfl T.DK PX (AM (qv 0))))) Ax) (Ak (Ar (Gc NE PySem.F.slot_str_join PySem.F.type_str_join Xa Ai (AM (Ap Fe (Ap Fe (B2 (AM Ai)) (El (N':=["part"]) (n:=1) AY.n rfl (F0 (qv 0)) (λ_ _ _=>(Az (FX 0) Db (qf a9 hr (AM (qv 0))))))) (B2 (AM Ai)))))))
   cases th with
   | num i=>
    cases(show v=.int i from hi);rw[Wf]at hw;show Ad rfl (Eo rfl (.int _) (Gg _) (Ad rfl (E7 (Ad rfl (.inl (Bx i rfl (Ah8 hw) (k _ (AA.refl _))))))))
   | wd x=>
    cases(show v=.str x from hi);show Ad rfl (Eo rfl (.str _) (Gf _) (Ad rfl (E7 (Ad rfl (.inr (Aq x rfl (k _ (AA.refl _))))))))
   | tup l=>
    show A0 hi λa vs z1 ha hl=>?_;subst z1;have a7:=AI.len hl;have aA:=Rn l;have hz:=hx;rw[BL]at hz;have aB:(16000000:Nat)<=sizeLine:=by rw[LJ];omega
    show Ad rfl (Eo rfl (.tup ha) (Op _) (Ad rfl (Jo ?_)));show Az rfl (zl 1) λY a4=>?_;have s1:=(AA.refl H).upd (o:=.lst [.str "("]) a4;have a1:=s1 _ _ ha;show Ad rfl (Bx a rfl ⟨_,BJ.of a1⟩ λD hD=>?_);have g1:=Ah (H:=H) (a:=Y) (o:=.lst [.str "("]);generalize upd H Y (.lst [.str "("])=H1 at *;show Mc (xs:=vs) (λi ys σ H'=>(∃o,σ=[o])/\AA H1 H'/\H' D=some (.lst ys)/\ys=(l.take i).map λt=>V.str (tx t)) (by omega) (C7 ⟨_,rfl⟩ ((AA.refl H1).upd hD) Ah (by simp))
     (λi ys σ H' hi ⟨_,I,hd,O⟩=>(Az (BJ.of (I _ _ a1)) hd (by rw[O,JR,LL];omega))) ?_ ?_
    .rintro i x ys σ H' hv ⟨⟨o,rfl⟩,I,a0,O⟩;show Am (Arg.sub (hl.mono (s1.trans I).AF) hd hw hx hv) λt ht hA=>Ad rfl (Al x t rfl hA λH5 s5=>(Fb (s5 _ _ a0) ⟨_,rfl⟩ ?_ Ah ?_))
     .intro b o e;rw[Aj (Af e hD)];show s5 _ _ (I _ _ e)
     .rw [O,RA,ht];simp
    .rintro ys σ H' ⟨_,I,a0,O⟩;rw[a7,LY]at O;subst O;have n1:H' Y=some (.lst [.str "("]):=I _ _ g1;show Cm Y D _ _ rfl rfl n1 a0 (by rw[JR];show 1+l.length<=sizeLine;omega) λp3 a5=>⟨(zl 1),λp4 a2=>?_⟩;have s3:=(s1.trans I).upd (o:=.lst ([.str "("]++l.map λt=>V.str (tx t))) a5;have s4:=s3.upd (o:=.lst [.str ")"]) a2;have a8:p3≠p4:=Af Ah a2;show Cm p3 p4 _ _ rfl rfl (by rw[Aj a8];show Ah) Ah (by rw[JX,JR];show 1+l.length+1<=sizeLine;omega) λp5 a6=>?_;have s5:=s4.upd (o:=.lst (([.str "("]++l.map λt=>V.str (tx t))++[.str ")"])) a6;have a3:(([.str "("]++l.map λt=>V.str (tx t))++[.str ")"]:List V)=(("(":Str)::(l.map tx++[(")":Str)])).map V.str:=by simp
     show Ep " " p5 (("(":Str)::(l.map tx++[(")":Str)])) rfl rfl (AO.of (by rw[← a3];show Ah)) ?_ ?_
     .have aC:=M3 hw;have e1:=LM List.length (Iz (("(":Str)::(l.map tx++[(")":Str)])) (by simp));rw[← Ya,E_len,JX]at e1;have e2:(cd (tx (.tup l))).length=(tx (.tup l)).length:=by simp[cd,Str.length]
      have e3:(" ":Str).length=1:=by decide +kernel
      rw[e3];simp only[KC,OE]at e1 ⊢;omega
     .rw [← Ya];show k _ s5
abbrev Oe:List Str:=["_law_found","_law_due"]
def ED:AD Oe Oe (Ao Px):=FS
theorem Oj (F:As K "_law_alike" "_law_alike" Px f fd)(T:At K mg)(hm:mg "_law_alike"=some (.ref f))(hk:PySem.W.keepIn K (.ref f)=true)(hb:Binds K fd Oe []) :
  ∀d,AH P w K mg base BE d f fd Oe (spAl d)
 | 0=>AH.none λvs H Q E ⟨v,u,th,_,h,_⟩=>NU _ h.2.1
 | d+1=>by
  have a7:AJ P w K mg base d "_law_alike" Oe (spAl d):=AJ.of (Oj F T hm hk hb d) hm hk hb;show F.okQ ED (λvs H Q E h=>?_) (λcdv A outer s H vs Q E hr h=>?_)
  .show Gh h λv u th z1 _=>?_;subst z1;rfl
  .show Ig h λv u th z1 z2 Y k=>?_;subst z1;obtain⟨hv,hd,hx⟩:=z2;have nd:=ED.nd;exists Ae (Bj (QW.pt (N0 (BM Su (Bc Bf rfl T.AE Bv (AS (qv 0) (Cn (v:=.ty "tuple") rfl T.AZ NA rfl))) (Bc Bf rfl T.AE Bv (AS (qv 1) (Cn (v:=.ty "tuple") rfl T.AZ NA rfl)))) (Ka (BM Su (Bc Bf rfl T.AE Bv (AS (qv 0) (Cn (v:=.ty "bool") rfl T.IJ boot_bool rfl))) (Bc Bf rfl T.AE Bv (AS (qv 1) (Cn (v:=.ty "bool") rfl T.IJ boot_bool rfl))))))) (Ak (Ar Es)) Ax) (Ae (Bj (QW.pt (N0 (BM Su (Bc Bf rfl T.AE Bv (AS (qv 0) (Cn (v:=.ty "str") rfl T.DK PX rfl))) (Bc Bf rfl T.AE Bv (AS (qv 1) (Cn (v:=.ty "str") rfl T.DK PX rfl)))) (Ka (BM Su (ER Wp (qv 0) Nd) (ER Wp (qv 1) Nd))))) (Ak (Ar Es)) Ax) (Ae (Bj (Fz (Eb (Bc Bf rfl T.AE Bv (AS (qv 1) (Cn (v:=.ty "tuple") rfl T.AZ NA rfl))))) (Ak (Ar (ER Cf (qv 0) (qv 1)))) Ax) (Ae (Bj (BM Su (Eh T.AR (qv 0)) (Eh T.AR (qv 1))) (Ak (Ar Es)) Ax) (Ak (Ar (ER Cf (Eh T.AR (El (N':=["_law_k","_law_found","_law_due"]) (n:=1) (js:=[0,1]) (AY.o Oe) rfl (Dw rfl T.BK (AM (Eh T.AR (qv 1)))) (λ_ _ _=>(Az (FX 0) (Mf (Fz (Eb (qf a7 hr (AS (Da (show IH _ (Q5 K)from Hu) (qv 1) (qv 0) (λ_ _=>rfl)) (Da (show IH _ (Q5 K)from Hu) (qv 2) (qv 0) (λ_ _=>rfl))))))) (qv 0))))) Ag))))))
   cases th with
   | num i=>
    cases(show v=.int i from hv);cases(show u=.int i from Y);show Ad rfl (Eo rfl (.int _) (Gg _) (Ad rfl (Xj rfl (.int _) (Gg _) rfl (Ad rfl (Hv rfl (Ad rfl (Eo rfl (.int _) (Kh _) (Ad rfl (Xj rfl (.int _) (Kh _) rfl (Ad rfl (Hv rfl (Ad rfl (Eo rfl (.int _) (Qy _) (Ad rfl (Xj rfl (.int _) (Qy _) rfl (Ad rfl (Hv rfl (Bh rfl rfl (jj13 rfl rfl rfl (Ad rfl (Hv rfl (Ad rfl (Eo rfl (.int _) (Gg _) (Ad rfl (E7 (Ad rfl (Bh rfl rfl ?_)))))))))))))))))))))))))));rw[KA rfl];show k _ (AA.refl _)
   | wd x=>
    cases(show v=.str x from hv);cases(show u=.str x from Y);show Ad rfl (Eo rfl (.str _) (Gf _) (Ad rfl (Xj rfl (.str _) (Gf _) rfl (Ad rfl (Hv rfl (Ad rfl (Eo rfl (.str _) (Oq _) (Ad rfl (Xj rfl (.str _) (Oq _) rfl (Ad rfl (Hv rfl (Ad rfl (Eo rfl (.str _) (Qx _) (Ad rfl (Xj rfl (.str _) (Qx _) rfl (Ad rfl (Hv rfl (Bh rfl rfl (jj13 rfl rfl rfl (Ad rfl (Hv rfl (Ad rfl (Eo rfl (.str _) (Gf _) (Ad rfl (E7 (Ad rfl (Bh rfl rfl ?_)))))))))))))))))))))))))));rw[KA rfl];show k _ (AA.refl _)
   | tup l=>
    show A0 hv λa vs z1 ha hl=>?_;subst z1;show A0 Y λb us z1 O a1=>?_;subst z1;have a8:=Rn l;have hz:=hx;rw[BL]at hz;have e1:=AI.len hl;have e2:=AI.len a1;have a9:(16000000:Nat)<=sizeLine:=by rw[LJ];omega
    show Ad rfl (Eo rfl (.tup ha) (Op _) (Ad rfl (Xj rfl (.tup O) (Op _) rfl (Ad rfl (Hv rfl (Ad rfl (Eo rfl (.tup ha) (Oo _) (Ad rfl (Xj rfl (.tup O) (Oo _) rfl (Ad rfl (Hv rfl (Ad rfl (Eo rfl (.tup ha) (Qw _) (Ad rfl (Xj rfl (.tup O) (Qw _) rfl (Ad rfl (Hv rfl (Bh rfl rfl (jj13 rfl rfl rfl (Ad rfl (Hv rfl (Ad rfl (Eo rfl (.tup O) (Op _) (Ad rfl (Jo (Ad rfl (Al a _ rfl (.inr (BJ.of ha)) (Ad rfl (Co b _ rfl (.inr (BJ.of O)) rfl (Ad rfl (Hv (by rw[e1,e2]) (Ad rfl (Al b _ rfl (.inr (BJ.of O)) (jj13 rfl (by omega) (by omega) λD hD=>?_))))))))))))))))))))))))))))))))));show E5 (n:=((us.length:Nat):Int).toNat) (λi ys σ H'=>(∃o,σ=[o,some (.ref a),some (.ref b)])/\ys=[]/\H' D=some (.lst [])/\AA H H') (by omega) (C7 ⟨_,rfl⟩ rfl Ah ((AA.refl H).upd hD))
     (λi ys σ H' hi ⟨_,hy,hd,_⟩=>by subst hy;show⟨hd,LN _⟩) ?_ ?_
    .rintro i ys σ H' hi ⟨⟨o,rfl⟩,rfl,a0,I⟩;have a3:i<us.length:=by omega
     have a4:i<vs.length:=by omega
     have hv:vs[i]?=some vs[i]:=LC a4;have Y:us[i]?=some us[i]:=LC a3;show Am (alSub (hl.mono I.AF) hd hx hv) λt ht a6=>Am (AI.get (a1.mono I.AF) Y) λt' a2 a5=>?_;rw[ht]at a2;cases a2;have ez:(0:Int)+(i:Nat)=(i:Nat):=by omega
     show Ad rfl (Ad rfl (B0 a _ _ _ rfl rfl (BJ.of (I _ _ ha)) (by rw[ez];show Be hv) (Ad rfl (Ad rfl (B0 b _ _ _ rfl rfl (BJ.of (I _ _ O)) (by rw[ez];show Be Y) (Ei _ _ t rfl a6 a5 λH5 s5=>(Ad rfl (Jo (C7 ⟨_,rfl⟩ rfl (s5 _ _ a0) (I.trans s5))))))))))
    .rintro ys σ H' ⟨_,rfl,a0,I⟩;show Co D _ rfl (.inl (AO.of a0)) rfl (k _ I)
def EN:AD ["tree"] ["tree"] (Ao M7):=FS
def Uc (F:As K "tree_shown" "tree_shown" M7 f fd)(I:AJ P w K mg base d "brackets_shown" Em (T4 d)):AH P w K mg base BE (d+1) f fd ["tree"] (T4 d):=by
 show F.By EN λcdv A outer s H vs Q E hr h=>?_
 .show A0 h λv th z1 a k=>?_;subst z1;have nd:=EN.nd;exists Ak (Ar (qf I hr (AM (qv 0))))
  show Ad rfl (Al v th rfl a k)
end
structure Cl5 (K:Av)(cP cT cR cM cA cS c:Addr)(bT bR:Bool):Prop where
 ex:PySem.W.excIn K c [.type "ValueError",.type "Exception",.type "BaseException",.type "object"] "ValueError.__new__"=true
 xc:GZ K c
 mt:PySem.W.exmOne K (.ref c) (.ref cP)=some true
 i3:PySem.W.kitAny K (.ref c) [.ref cA,.ref cM,.ref cS]=some false
 iT:PySem.W.kitOne K (.ref c) (.ref cT)=some bT
 iR:PySem.W.kitOne K (.ref c) (.ref cR)=some bR
 iV:PySem.W.kitOne K (.ref c) (.type "ValueError")=some true
structure TxX (K:Av)(mg:Cb)(cP cT cR cM cA cS:Addr)(t3 t4:Tok):Prop where
 g_P:mg "PassError"=some (.ref cP)
 g_T:mg "NoText"=some (.ref cT)
 g_R:mg "NoTree"=some (.ref cR)
 g_M:mg "NoMiddle"=some (.ref cM)
 g_A:mg "NoMachine"=some (.ref cA)
 g_S:mg "NoPass"=some (.ref cS)
 JF:mg "DEEPEST"=some (.int 40 t3)
 GP:mg "MOST_FIGURES"=some (.int 5 t4)
 T:Cl5 K cP cT cR cM cA cS cT true false
 R:Cl5 K cP cT cR cM cA cS cR false true
 nV:mg "ValueError"=none
def W5 (x:Str):Prop:=x.length<=100/\¬(decide ((Lc x).length>0)&&(Lc x).cps.all Unicode.isDigit)=true
def no_digit:∀c:Nat,97<=c->c<=122->Unicode.isDigit c=false:=by
 intro c h1 h2;have:∀k:Fin 26,Unicode.isDigit (97+k.val)=false:=by decide +kernel
 have:=this ⟨c-97,by omega⟩;simpa [show 97+(c-97)=c by omega]using this
noncomputable def kwF (x:Str):Bool:=!(decide ((Lc x).length>0)&&(Lc x).cps.all Unicode.isDigit)
def kws_figs:kws.all kwF=true:=by decide +kernel
def wx_w5 (h:Wx x):W5 x:=by
 have hl:=(Ae0 h).2;show⟨by omega,?_⟩
 rcases h with h|h
 .show Ch (Ah9 h) λ_ ne I=>?_;have O:Lc x=x:=by
   unfold Lc;rw[KH];rw[Vx Zz];intro z
   cases e:cd x with
   | nil=>show ne e
   | cons c r=>
    rw[e]at z;have z:c=45:=by simpa using z
    have:=I c (by rw[e];show JY);omega
  rw[O];intro z;have z:=(Bool.and_eq_true_iff.mp z).2;rw[← RF,MQ]at z
  cases e:cd x with
  | nil=>show ne e
  | cons c r=>
   have hm:c∈cd x:=by rw[e];show JY
   have a:=z c hm;have b:=I c hm;rw[no_digit c b.1 b.2]at a;cases a
 .have:=MQ.mp kws_figs x h;unfold kwF at this;intro z;rw[z]at this;cases this
def spWan:Sp:=λvs H Q _=>∃x:Str,vs=[.str x]/\((W5 x/\Q (.bl false) H)\/∃i,Lang i/\x=Kf i/\Q (.bl true) H)
def spPR (cT:Addr):Sp:=λvs H Q E=>∃x:Str,vs=[.str x]/\((x=""/\E (.ref cT) none H)\/∃th,JD W5 x th/\∀v H',AQ H' v th->AA H H'->Q v H')
theorem Y8:∀x t,JD W5 x t->Pc x
 | _,_,.num i hi=>num_pc hi
 | _,_,.wd x I _=>I
def iteNB {A B:Prop}(hb:b=true)(h:B):if(!b)=true then A else B:=by
 rw[hb];show Jo h
def iteNBF {A B:Prop}(hb:¬b=true)(h:A):if(!b)=true then A else B:=by
 rw[eq_false_of_ne_true hb];show E7 h
def Ai3 {A B:Prop}(hb:b=false)(h:B):if b=true then A else B:=by
 rw[hb];show Jo h
section
variable {P:Program}{w:World}{K:Av}{mg:Cb}{base:Heap}{cP cT cR cM cA cS:Addr}{t3 t4:Tok}
def CM:AD ["piece","figures"] ["piece"] (Ao Hl):=FS
def Nh (F:As K "writes_a_number" "writes_a_number" Hl f fd)(T:At K mg)(TX:TxX K mg cP cT cR cM cA cS t3 t4)(a5:AJ P w K mg base 2 "is_of_language" Em Af6) :
  AH P w K mg base BE 3 f fd ["piece"] spWan:=by
 show F.By CM λcdv A outer s H vs Q E hr h=>?_
 .show Am h λx z1 k=>?_;subst z1;have nd:=CM.nd;have a9:(2000000:Nat)<=sizeLine:=by rw[LJ];omega
  have a2:x.length<=100:=by
   rcases k with⟨hw,_⟩|⟨i,O,rfl,_⟩
   .show hw.1
   .have:=Ta O;omega
  have a6:(Lc x).length<=100:=by
   unfold Lc;split
   .show KN (Txt.slice_le _ _ _) a2
   .show a2
  exists Ae (Cl 1 nd (Yl (Eb (Gc NE PySem.F.slot_str_startswith PySem.F.type_str_startswith Mw (qv 0) (AM Ai))) (Bu Aa7 (qv 0) (Bq Ag) Cc) (qv 0))) (Ae (Bj (QW.pt (N0 (Fz (Eb (Kc NE PySem.F.slot_str_isdigit PySem.F.type_str_isdigit Ac6 (qv 1)))) (Ka (BM E8 (Bc Kr rfl T.AR OL (AM (qv 1))) (Kb rfl TX.GP))))) (Ak (Ar Es)) Ax) (Ae (Bj (QW.pt (Je (Eb (Gc NE PySem.F.slot_str_startswith PySem.F.type_str_startswith Mw (qv 1) (AM Ai))) (F7 (BM Su (qv 0) Ai)))) (Ak (Ar Es)) Ax) (Ak (Ar (qf a5 hr (AM (B4 O7 rfl T.HH boot_int (AM (qv 0)))))))))
  show join (λσ' H'=>σ'=[some (.str x),some (.str (Lc x))]/\H'=H) ?_ λrest=>?_
  .rintro σ' H' ⟨rfl,rfl⟩;have a8:(0:Int)<=(Lc x).length:=Int.natCast_nonneg _;rcases k with⟨⟨_,hd⟩,k⟩|⟨i,O,a0,k⟩
   .show Bh rfl rfl (Bh rfl rfl (Ad rfl (iteNBF hd (E7 k))))
   .obtain⟨D,I⟩:=Ah6 O;have Y:cd (Lc x)=D:=by rw[a0];show figs_num I
    have hd:(decide ((Lc x).length>0)&&(Lc x).cps.all Unicode.isDigit)=true:=isdig (by rw[Y];show I.all) (by rw[Y];show I.ne);have a7:(Lc x).length<=5:=by rw[← Ql,Y];show I.len
    show Bh rfl rfl (Bh rfl rfl (Ad rfl (iteNB hd (Ad rfl (Bh rfl (by omega) (Aw rfl rfl (Ad rfl (Lz (by omega) ?_))))))));have a1:PySem.intText? x=some i:=by rw[a0];show I.reads
    show Bh rfl rfl (Al _ "0" rfl rfl (Ad rfl (B5 (λh0=>?_) (λh0=>?_))))
    .rw [Vx Ao5,Y]at h0;have a3:i=0:=I.head (by simpa using h0);have a4:x="0":=by rw[a0,a3];decide +kernel
     show Bh rfl rfl (Ad rfl (Hv (LM V.str a4) (Ad rfl (Co x i rfl a1 (by omega) (Bx i rfl O k)))))
    .show Jo (Ad rfl (Co x i rfl a1 (by omega) (Bx i rfl O k)))
  .show Bh rfl rfl (Al x "-" rfl rfl (Ad rfl (B5 (λh=>?_) (λh=>?_))))
   .have ef:Lc x=Txt.slice x (some 1) none:=KJ h;show Ad rfl (Ad rfl (Bx x rfl (by omega) (rest _ _ ⟨by rw[ef];rfl,rfl⟩)))
   .have ef:Lc x=x:=KH h;show Ad rfl (rest _ _ ⟨by rw[ef];rfl,rfl⟩)
def EA:AD ["piece","sign"] ["piece"] (Ao M8):=FS
def Ue (F:As K "piece_read" "piece_read" M8 f fd)(T:At K mg)(I:TxX K mg cP cT cR cM cA cS t3 t4)(a0:AJ P w K mg base 3 "writes_a_number" ["piece"] spWan) :
  AH P w K mg base (HD P w) 4 f fd ["piece"] (spPR cT):=by
 show F.JK EA λcdv A outer s H vs Q E hr h=>?_
 .obtain⟨x,rfl,h⟩:=h;have nd:=EA.nd;show⟨_,(Ae (Bj (BM Cf (qv 0) Ai) (Ak (Ho Ck rfl rfl MI rfl I.g_T I.T.ex (AM Ai))) Ax) (Ae (Ex PN rfl (At4 (qv 0)) (GV 1 nd) (Ak (Bj (QW.pt (N0 (Rk Hi (qv 1) (Bk (AS Ai Ai)) (by with_unfolding_all rfl)) (Ka (Fz (Yj Mg Mg Ai (qv 1) Ai))))) (Ak (Ho Ck rfl rfl MI rfl I.g_T I.T.ex (AM Ai))) Ax))) (Ak (Ar (Yl (Eb (qf a0 hr (AM (qv 0)))) (B4 O7 rfl T.HH boot_int (AM (qv 0))) (qv 0)))))),?_⟩
  walk_at "k"
  rcases h with⟨rfl,k⟩|⟨th,hl,k⟩
  .show⟨_,rfl,rfl,_,rfl,E7 ⟨(zl 1),k⟩⟩
  have pc:=Y8 x th hl;show Bh rfl rfl (Ad rfl (Lz (λz=>pc.ne (by have:=V.str.inj z;rw[this];decide +kernel)) (Ad rfl (Bx x rfl ?_ (for_str (z:=x) (λi σ H'=>(∃o,σ=[some (.str x),o])/\AA H H') ⟨⟨_,rfl⟩,AA.refl _⟩ ?_ ?_)))))
  .rw [← RF,MQ];intro c Y;have:=pc.signs c Y;simp;omega
  .rintro i c σ H' Y ⟨⟨o,rfl⟩,O⟩;have hm:c∈x.cps.toList:=by
    have:=KR (l:=x.cps.toList) (i:=i) (by simpa using Y);show this
   have hs:=pc.signs c hm;have e1:HE (V.str ⟨#[c]⟩) [V.str "(",V.str ")"]=false:=by
    have q1:(("(":Str)==(⟨#[c]⟩:Str))=false:=by
     rw[MS];intro z;have:=LM cd z;rw[Aj4]at this;have a1:(40:Nat)=c:=by simpa [cd]using this
     omega
    have q2:((")":Str)==(⟨#[c]⟩:Str))=false:=by
     rw[MS];intro z;have:=LM cd z;rw[Vf]at this;have a2:(41:Nat)=c:=by simpa [cd]using this
     omega
    show((("(":Str)==(⟨#[c]⟩:Str))||(((")":Str)==(⟨#[c]⟩:Str))||false))=false
    rw[q1,q2];rfl
   show Bh rfl (zl 2) λp hp=>(Jr p _ rfl (.inr (BJ.of Ah)) rfl rfl (Ad rfl (Ai3 (show HE (V.str ⟨#[c]⟩) [V.str "(",V.str ")"]=false from e1) ?_)));have l1:(!decide ([c]<[33]))=true:=by
    have:¬([c]<[33]):=by
     intro z;have:=List.cons_lt_cons_iff.mp z;simp at this;omega
    rw[LU this];rfl
   have l2:(!decide ([126]<[c]))=true:=by
    have:¬([126]<[c]):=by
     intro z;have:=List.cons_lt_cons_iff.mp z;simp at this;omega
    rw[LU this];rfl
   show Ad rfl (Aw rfl rfl (Ad rfl (iteB l1 (Aw rfl rfl (Ad rfl (iteNB l2 (⟨⟨_,rfl⟩,O.upd hp⟩)))))))
  .rintro σ H' ⟨⟨o,rfl⟩,O⟩
   cases hl with
   | num i hi=>
    obtain⟨D,fD⟩:=Ah6 hi;have a3:=Ta hi;show Ad rfl (Ad rfl (.inr (Bx i hi rfl (Ad rfl (E7 (Ad rfl (Co _ i rfl fD.reads (by omega) (k _ _ rfl O))))))))
   | wd _ hp hw=>
    show Ad rfl (Ad rfl (.inl ⟨hw,(Ad rfl (Jo (Ad rfl (k _ _ rfl O))))⟩))
end
def BadT:List (List Th)->Tk->Prop
 | _,.op=>False
 | S,.cl=>∃p,S=[p]
 | S,.leaf x _=>x=""/\S≠[]
def Tz (th:Th)(b:Bool):List (List Th)->List Tk->Prop
 | S,[]=>(b=true/\S=[[th]])\/(b=false/\∃x y r,S=[x::y::r])
 | S,t::r=>(OkStep W5 S t/\Tz th b (step S t) r)\/(b=false/\BadT S t)
def spBR (cT:Addr):Sp:=λvs H Q E=>∃x tks th b,vs=[.str x]/\Txt.split x " "=tks.map Tk.str/\x.length<=15900000/\Tz th b [[]] tks/\(b=true->∀v H',AQ H' v th->AA H H'->Q v H')/\(b=false->∀H',AA H H'->E (.ref cT) none H')
def Uv:(")":Str)≠"(":=by decide +kernel
def CA.lst (h:H a=some (.lst xs)):CA H (upd H a (.lst ys)):=Fd h
def As6 (a:AI H vs l)(b:AQ H v t):AI H (vs++[v]) (l++[t]):=a.append (Hw b)
def Sm.CI (e:AA H H1)(h:H p=none):AA H (upd H1 p o):=λb u q=>by
 rw[Aj (Af q h)];show e b u q
inductive Lv (H:Hp):List Addr->List (List Th)->Prop where
 | nil:Lv H [] []
 | cons {a:Addr} {as:List Addr} {vs:List V} {p:List Th} {S:List (List Th)} (h:H a=some (.lst vs)) (t:AI H vs p) (n:a∉as) (r:Lv H as S):Lv H (a::as) (p::S)
def Lv.len (h:Lv H as S):as.length=S.length:=by
 induction h with
 | nil=>rfl
 | cons _ _ _ _ I=>simp[I]
def Lv.mono (s:CA H H')(h:Lv H as S)(k:∀b∈as,∀o,H b=some o->H' b=some o):Lv H' as S:=by
 induction h with
 | nil=>show .nil
 | cons h t n r I=>show .cons (k _ (by simp) _ h) (t.mono s) n (I λb hb=>k b (JS _ hb))
def Lv.there (h:Lv H as S):∀b∈as,∃vs,H b=some (.lst vs):=by
 induction h with
 | nil=>intro b hb;cases hb
 | cons h t n r I=>
  intro b hb
  rcases JT.mp hb with rfl|hb
  .show⟨_,h⟩
  .show I b hb
def Aa0 {x:Str}{t:Th}(h:Pc x):x≠"("/\x≠")":=by
 have key:∀c:Nat,c=40\/c=41->cd x≠[c]:=λc I e=>by
  have:=h.signs c (by show c∈cd x;rw[e];simp);omega
 show⟨λe=>key 40 (.inl rfl) (by rw[e];show Aj4),λe=>key 41 (.inr rfl) (by rw[e];show Vf)⟩
section
variable {P:Program}{w:World}{K:Av}{mg:Cb}{base:Heap}{cP cT cR cM cA cS:Addr}{t3 t4:Tok}
def DB:AD ["text","levels","piece","parts"] ["text"] (Ao Jc):=FS
def Qb (F:As K "brackets_read" "brackets_read" Jc f fd)(T:At K mg)(TX:TxX K mg cP cT cR cM cA cS t3 t4)(b6:CN P w K mg base 4 "piece_read" ["piece"] (spPR cT)) :
  AH P w K mg base (HD P w) 5 f fd ["text"] (spBR cT):=by
 show F.JK DB λcdv A outer s H vs Q E hr h=>?_
 .show Ox h λx tks th b z1 aY hx b2 k1 k2=>?_;subst z1;have nd:=DB.nd;have b9:(16500000:Nat)<=sizeLine:=by rw[LJ];omega
  have bB:tks.length<=15900002:=by
   have:=split_le x " ";rw[aY,JR]at this;omega
  exists Ae (Cl 1 nd (B2 (AM (B2 Fa)))) (Ae (Ex PN rfl (Gx (Gc NE PySem.F.slot_str_split PySem.F.type_str_split mt_split (qv 0) (AM Ai))) (GV 2 nd) (Ak (Bj (BM Cf (qv 2) Ai) (Ae (Bj (BM E8 (Eh T.AR (qv 1)) (Kb rfl TX.JF)) (Ak (Ho Ck rfl rfl MI rfl TX.g_T TX.T.ex (AM Ai))) Ax) (Ak (Au (Gc KY LQ LR Ec (qv 1) (AM (B2 Fa)))))) (Ak (Bj (BM Cf (qv 2) Ai) (Ae (Bj (BM Cf (Eh T.AR (qv 1)) Ag) (Ak (Ho Ck rfl rfl MI rfl TX.g_T TX.T.ex (AM Ai))) Ax) (Ae (Cl 3 nd (Kc KY NI NJ Nj (qv 1))) (Ak (Au (Gc KY LQ LR Ec (Da Cy (qv 1) (Ag6 Vp Ag) (λ_ _=>rfl)) (AM (B4 D6 rfl T.AZ NA (AM (qv 3))))))))) (Ak (Au (Gc KY LQ LR Ec (Da Cy (qv 1) (Ag6 Vp Ag) (λ_ _=>rfl)) (AM (JI b6 (Ip Ck rfl) hr (AM (qv 2)))))))))))) (Ae (Bj (BM E8 (Eh T.AR (qv 1)) Ag) (Ak (Ho Ck rfl rfl MI rfl TX.g_T TX.T.ex (AM Ai))) Ax) (Ae (Bj (BM E8 (Eh T.AR (Da Cy (qv 1) Ag (λ_ _=>rfl))) Ag) (Ak (Ho Ck rfl rfl MI rfl TX.g_T TX.T.ex (AM Ai))) Ax) (Ak (Ar (Da Cy (Da Cy (qv 1) Ag (λ_ _=>rfl)) Ag (λ_ _=>rfl)))))))
  show⟨(zl 0),λp0 aP=>⟨(zl 1),λI aN=>?_⟩⟩;have n0:p0≠I:=Af Ah aN;have s0:=((AA.refl H).upd (o:=.lst []) aP).upd (o:=.lst [.ref p0]) aN;have f0:H p0=none:=aP;have f1:H I=none:=(AA.refl H).upd (o:=.lst []) aP |>.free aN;have g0:upd (upd H p0 (.lst [])) I (.lst [.ref p0]) p0=some (.lst []):=by rw[Aj n0];show Ah
  have g1:=Ah (H:=upd H p0 (.lst [])) (a:=I) (o:=.lst [.ref p0]);generalize upd (upd H p0 (.lst [])) I (.lst [.ref p0])=H1 at *;show Bh rfl rfl (Jr x " " rfl rfl (by decide +kernel) (by omega) λsl aJ=>(Bx sl rfl ⟨_,AO.of Ah⟩ ?_));rw[aY]at *;have ai:p0≠sl:=Af g0 aJ;have aW:I≠sl:=Af g1 aJ;have s1:=s0.upd (o:=.lst ((tks.map Tk.str).map V.str)) aJ;have aj:upd H1 sl (.lst ((tks.map Tk.str).map V.str)) p0=some (.lst []):=by rw[Aj ai];show g0
  have al:upd H1 sl (.lst ((tks.map Tk.str).map V.str)) I=some (.lst [.ref p0]):=by rw[Aj aW];show g1
  have am:=Ah (H:=H1) (a:=sl) (o:=.lst ((tks.map Tk.str).map V.str));have b8:H sl=none:=s0.free aJ;generalize upd H1 sl (.lst ((tks.map Tk.str).map V.str))=H2 at *;have b3:((tks.map Tk.str).map V.str).length=tks.length:=by simp
  show L7 (xs:=(tks.map Tk.str).map V.str) (λi σ H'=>∃(as:List Addr) (S:List (List Th)),(∃o2 o3,σ=[some (.str x),some (.ref I),o2,o3])/\AA H H'/\H' I=some (.lst (as.reverse.map V.ref))/\Lv H' as S/\I∉as/\sl∉as /\
    (∀b∈as,H b=none)/\Tz th b S (tks.drop i)/\H' sl=some (.lst ((tks.map Tk.str).map V.str))/\as.length<=i+1/\∀p∈S,p.length<=i)
   (Km [p0] [[]] (Jn rfl) s1 al (.cons aj rfl (by simp) .nil) (by simpa using n0.symm) (D8 (by simpa using ai.symm) (by simpa using f0) (by simpa using b2) am (by simp) (by simp))) ?_ ?_ ?_
  .rintro i σ H' _ ⟨as,S,_,_,_,_,_,_,_,_,hs,_⟩;show AO.of hs
  .rintro i xv σ H' aE ⟨as,S,⟨o2,o3,rfl⟩,sm,a2,hL,a5,aC,aA,run,hs,aM,a6⟩;rw[LG,LG]at aE
   cases et:tks[i]? with
   | none=>rw[et]at aE;cases aE
   | some tk=>
    rw[et]at aE;have ex:V.str tk.str=xv:=LV aE;subst ex;have hi:i<tks.length:=(List.getElem?_eq_some_iff.mp et).1;have ed:tks.drop i=tk::tks.drop (i+1):=by
     rw[QB hi]
     congr 1
     show(List.getElem?_eq_some_iff.mp et).2
    rw[ed]at run;have hl:=hL.len
    cases tk with
    | op=>
     obtain⟨⟨hS,_⟩,a9⟩:OkStep W5 S .op/\Tz th b (step S .op) (tks.drop (i+1)):=by
      rcases run with z|⟨_,z⟩
      .show z
      .show absurd z id
     show Bh rfl rfl (Ad rfl (iteD rfl ?_));show Ad rfl (Al I _ rfl (.inl (AO.of a2)) (Aw rfl rfl (Ad rfl (Lz (by rw[JR,OT];omega) ?_))));show jj13 rfl (.inl ⟨rfl,_,AO.of a2⟩) (zl 0) λp hp=>(Ep I _ _ rfl rfl (by rw[Aj (Af a2 hp)];show a2) (by rw[JR,OT];omega) ?_);have aF:p≠I:=(Af a2 hp).symm;have aI:p≠sl:=(Af hs hp).symm;have ag:p∉as:=λz=>by
      obtain⟨vs,e⟩:=hL.there p z;rw[hp]at e;cases e
     have fp:H p=none:=sm.free hp;have ay:CA H' (upd H' p (.lst [])):=AA.AF ((AA.refl H').upd hp);have az:CA (upd H' p (.lst [])) (upd (upd H' p (.lst [])) I (.lst (as.reverse.map V.ref++[.ref p]))):=CA.lst (xs:=as.reverse.map V.ref) (by rw[Aj aF.symm];show a2);show Km (p::as) ([]::S) (Jn rfl) (Sm.CI (sm.upd hp) f1) (by rw[Ah];simp) (.cons (by rw[Aj aF];show Ah) rfl ag (hL.mono (ay.trans az) λb hb o e=>?_)) ?_ (D8 ?_ ?_ a9 ?_ (by simp;omega) ?_)
     .rw [Aj (show b≠I from λz=>a5 (z▸hb)),Aj (show b≠p from λz=>ag (z▸hb))];show e
     .intro z;rcases JT.mp z with z|z
      .show aF z.symm
      .show a5 z
     .intro z;rcases JT.mp z with z|z
      .show aI z.symm
      .show aC z
     .intro b hb;rcases JT.mp hb with rfl|hb
      .show fp
      .show aA b hb
     .rw [Aj aW.symm,Aj aI.symm];show hs
     .intro q hq;rcases JT.mp hq with rfl|hq
      .simp
      .have:=a6 q hq;omega
    | cl=>
     rcases run with⟨⟨p,q,r,rfl⟩,a9⟩|⟨rfl,p,rfl⟩
     rotate_left
     .show Bh rfl rfl (Ad rfl (Lz (λz=>Uv (V.str.inj z)) (Bh rfl rfl (Ad rfl (iteD rfl ?_)))));show Ad rfl (Co I _ rfl (.inl (AO.of a2)) rfl (Ad rfl (iteD (by rw[JR,OT,hl];rfl) ⟨(zl 1),k2 rfl _ sm⟩)))
     cases hL with
     | @cons Y as1 a3 _ _ h0 a7 aB a8=>
      cases a8 with
      | @cons O as2 aG _ _ h1 ah aZ aq=>
       have aU:I≠Y:=λz=>a5 (by simp[z]);have ac:I≠O:=λz=>a5 (by simp[z]);have bA:Y≠O:=λz=>aB (by simp[z]);have aK:((Y::O::as2).reverse.map V.ref)=((O::as2).reverse.map V.ref)++[.ref Y]:=by simp
       have b5:((O::as2).reverse.map V.ref)=(as2.reverse.map V.ref)++[.ref O]:=by simp
       show Bh rfl rfl (Ad rfl (Lz (λz=>Uv (V.str.inj z)) (Bh rfl rfl (Ad rfl (iteD rfl ?_)))));show Ad rfl (Co I _ rfl (.inl (AO.of a2)) rfl (Ad rfl (Lz (λz=>by have:=V.int.inj z;simp at this;omega) ?_)));show Bh rfl (.inl ⟨rfl,_,AO.of a2⟩) (Ep I _ (.ref Y) rfl rfl a2 (by rw[aK];simp) ?_);rw[aK,List.dropLast_concat];have g3:=Ah (H:=H') (a:=I) (o:=.lst ((O::as2).reverse.map V.ref));have k0:upd H' I (.lst ((O::as2).reverse.map V.ref)) Y=some (.lst a3):=by rw[Aj aU.symm];show h0
       have k1:upd H' I (.lst ((O::as2).reverse.map V.ref)) O=some (.lst aG):=by rw[Aj ac.symm];show h1
       show Ad rfl (Ad rfl (Cm I _ _ (.ref O) rfl rfl (AO.of g3) (by rw[b5];show Z2 _ _) (.inl ⟨rfl,_,AO.of k1⟩) ?_));show Ad rfl (C6 Y a3 rfl (.inl ⟨AO.of k0,λpp a4=>(Ep O aG (.ref pp) rfl rfl (by rw[Aj (Af k1 a4)];show k1) ?_ ?_)⟩))
       .have:=AI.len ah;have:=a6 q (by simp);omega
       have b7:H pp=none:=(Sm.CI sm f1).free a4;have ae:pp≠O:=(Af k1 a4).symm;have aF:pp≠I:=(Af g3 a4).symm;have aX:upd H' I (.lst ((O::as2).reverse.map V.ref)) sl=some (.lst ((tks.map Tk.str).map V.str)):=by rw[Aj aW.symm];show hs
       have aI:pp≠sl:=(Af aX a4).symm;have b4:sl≠O:=λz=>aC (by simp[z]);have T1:CA H' (upd H' I (.lst ((O::as2).reverse.map V.ref))):=CA.lst a2;have T2:CA (upd H' I (.lst ((O::as2).reverse.map V.ref))) (upd (upd H' I (.lst ((O::as2).reverse.map V.ref))) pp (.tup a3)):=AA.AF ((AA.refl _).upd a4);have T3:CA (upd (upd H' I (.lst ((O::as2).reverse.map V.ref))) pp (.tup a3)) (upd (upd (upd H' I (.lst ((O::as2).reverse.map V.ref))) pp (.tup a3)) O (.lst (aG++[.ref pp]))):=
        CA.lst (xs:=aG) (by rw[Aj ae.symm];show k1)
       have T:=T1.trans (T2.trans T3);have b0:(upd (upd (upd H' I (.lst ((O::as2).reverse.map V.ref))) pp (.tup a3)) O (.lst (aG++[.ref pp]))) pp=some (.tup a3):=by rw[Aj ae];show Ah
       show Km (O::as2) ((q++[Th.tup p])::r) (Jn rfl) (Sm.CI ((Sm.CI sm f1).upd a4) (aA O (by simp))) ?_ (.cons Ah (As6 (t:=.tup p) (ah.mono T) (Al pp a3 rfl b0 (a7.mono T))) aZ (aq.mono T λb hb o e=>?_)) (λz=>a5 (JS _ z)) (D8 (λz=>aC (JS _ z))
        (λb hb=>aA b (JS _ hb)) a9 ?_ (by simp at aM ⊢;omega) ?_)
       .rw [Aj ac,Aj aF.symm];show g3
       .have av:b≠O:=λz=>aZ (z▸hb);have aa:b≠I:=λz=>a5 (by simp[← z,hb]);have ax:b≠pp:=λz=>by
         subst z;rw[Aj aa]at a4;rw[a4]at e;cases e
        rw[Aj av,Aj ax,Aj aa];show e
       .rw [Aj b4,Aj aI.symm];show aX
       .intro z hz;rcases JT.mp hz with rfl|hz
        .have:=a6 q (by simp);simp;omega
        .have:=a6 z (by simp[hz]);omega
    | leaf y t=>
     obtain⟨aD,aV,aQ,ok⟩:S≠[]/\y≠"("/\y≠")"/\((JD W5 y t/\Tz th b (step S (.leaf y t)) (tks.drop (i+1)))\/(b=false/\y="")):=by
      rcases run with⟨⟨aD,aH⟩,a9⟩|⟨hb,rfl,aD⟩
      .obtain⟨aV,aQ⟩:=Aa0 (t:=t) (Y8 _ _ aH);show C7 aD aV aQ (.inl ⟨aH,a9⟩)
      .show C7 aD (by decide +kernel) (by decide +kernel) (.inr ⟨hb,rfl⟩)
     cases hL with
     | nil=>show absurd rfl aD
     | @cons Y as1 a3 p S1 h0 a7 aB a8=>
      have aU:I≠Y:=λz=>a5 (by simp[z]);have aK:((Y::as1).reverse.map V.ref)=(as1.reverse.map V.ref)++[.ref Y]:=by simp
      show Bh rfl rfl (Ad rfl (Lz (λz=>aV (V.str.inj z)) (Bh rfl rfl (Ad rfl (Lz (λz=>aQ (V.str.inj z)) ?_)))));show Ad rfl (Ad rfl (Cm I _ _ (.ref Y) rfl rfl (AO.of a2) (by rw[aK];show Z2 _ _) (.inl ⟨rfl,_,AO.of h0⟩) ?_));rcases ok with⟨aH,a9⟩|⟨hb,rfl⟩
      rotate_left
      .show Ad rfl (Aq "" rfl (.inl ⟨rfl,k2 hb _ sm⟩))
      show Ad rfl (Aq y rfl (.inr (Aq t aH λv H5 hv s5=>(Ep Y a3 v rfl rfl (s5 _ _ h0) ?_ ?_))))
      .have:=AI.len a7;have:=a6 p (by simp);omega
      have T:=(AA.AF s5).trans (CA.lst (ys:=a3++[v]) (s5 _ _ h0));show Km (Y::as1) ((p++[t])::S1) (Jn rfl) (Sm.CI (sm.trans s5) (aA Y (by simp))) ?_ (.cons Ah (As6 (a7.mono T) (hv.mono (CA.lst (s5 _ _ h0)))) aB (a8.mono T λb hb o e=>?_)) a5 (D8 aC aA a9 ?_ (by simp at aM ⊢;omega) ?_)
      .rw [Aj aU];show s5 _ _ a2
      .rw [Aj (show b≠Y from λz=>aB (z▸hb))];show s5 _ _ e
      .rw [Aj (λz=>aC (by simp[z]))];show s5 _ _ hs
      .intro z hz;rcases JT.mp hz with rfl|hz
       .have:=a6 p (by simp);simp;omega
       .have:=a6 z (by simp[hz]);omega
  .rintro σ H' ⟨as,S,⟨o2,o3,rfl⟩,sm,a2,hL,a5,aC,aA,run,hs,aM,a6⟩;rw[b3,List.drop_length]at run;rcases run with⟨hb,rfl⟩|⟨hb,p,q,r,rfl⟩
   .cases hL with
    | @cons Y as1 a3 _ _ h0 a7 aB a8=>
     cases a8;show A0 a7 λv vr z1 hv au=>?_;subst z1;cases(show vr=[] from au);show Ad rfl (Al I _ rfl (.inl (AO.of a2)) (Aw rfl rfl (Ad rfl (Lz (by simp) (Ad rfl (B0 I _ _ _ rfl rfl (AO.of a2) rfl (Al Y _ rfl (.inl (AO.of h0)) (Aw rfl rfl (Ad rfl (Lz (by simp) (Ad rfl (B0 I _ _ _ rfl rfl (AO.of a2) rfl (B0 Y _ _ _ rfl rfl (AO.of h0) rfl (k1 hb v H' hv sm))))))))))))))
   .cases hL with
    | @cons Y as1 a3 _ _ h0 a7 aB a8=>
     cases a8;have l0:=AI.len a7;show Ad rfl (Al I _ rfl (.inl (AO.of a2)) (Aw rfl rfl (Ad rfl (Lz (by simp) ?_))));show Ad rfl (B0 I _ _ _ rfl rfl (AO.of a2) rfl (Al Y _ rfl (.inl (AO.of h0)) (Aw rfl rfl (Ad rfl (iteD (by rw[l0];simp;omega) ⟨(zl 1),k2 hb _ sm⟩)))))
end
mutual
theorem wf5:∀{t:Th},Wf Wx t->Wf W5 t
 | .num i,h=>by rw[Wf]at h ⊢;show h
 | .wd x,h=>by rw[Wf]at h ⊢;show⟨h.1,wx_w5 h.2⟩
 | .tup l,h=>by rw[Wf]at h ⊢;show wfL5 h
theorem wfL5:∀{l:List Th},GN Wx l->GN W5 l
 | [],h=>by rw[GN];trivial
 | t::r,h=>by rw[GN]at h ⊢;show⟨wf5 h.1,wfL5 h.2⟩
end
section
mutual
theorem Ab2:∀(t:Th) (p:List Th) (r:List (List Th)) (rest:List Tk),Wf W5 t->r.length+1+depth t<=41->Tz T0 b ((p++[t])::r) rest->Tz T0 b (p::r) (toks t++rest)
 | .num i,p,r,rest,hw,hd,h=>by rw[Wf]at hw;show .inl ⟨⟨by simp,.num i hw⟩,h⟩
 | .wd x,p,r,rest,hw,hd,h=>by rw[Wf]at hw;show .inl ⟨⟨by simp,.wd x hw.1 hw.2⟩,h⟩
 | .tup l,p,r,rest,hw,hd,h=>by
  have e:toks (.tup l)++rest=.op::(Gn l++(.cl::rest)):=by simp[toks]
  rw[e];rw[depth]at hd;rw[Wf]at hw;show .inl ⟨⟨by simp;omega,by simp⟩,Ag1 l [] (p::r) _ hw (by simp;omega) (.inl ⟨(jj30 rfl),h⟩)⟩
theorem Ag1:∀(l:List Th) (p:List Th) (r:List (List Th)) (rest:List Tk),GN W5 l->r.length+1+Ji l<=41->Tz T0 b ((p++l)::r) rest->Tz T0 b (p::r) (Gn l++rest)
 | [],p,r,rest,hw,hd,h=>by simpa [Gn]using h
 | t::l,p,r,rest,hw,hd,h=>by
  rw[Ji]at hd;rw[GN]at hw;rw[Gn,List.append_assoc];show Ab2 t p r _ hw.1 (by omega) (Ag1 l _ r rest hw.2 (by omega) ?_);simpa using h
end
end
mutual
theorem Vs:∀{t:Th},Wf Wx t->∀k∈toks t,32∉cd k.str
 | .num i,h,k,hk=>by
  rw[Wf]at h;rw[toks,KD]at hk;subst hk;intro z;have:=(num_pc h).signs 32 z;omega
 | .wd x,h,k,hk=>by
  rw[Wf]at h;rw[toks,KD]at hk;subst hk;intro z;have:=h.1.signs 32 z;omega
 | .tup l,h,k,hk=>by
  rw[Wf]at h;rw[toks]at hk
  rcases JT.mp hk with rfl|hk
  .show 32∉cd "(";rw[Aj4];decide
  rcases KQ.mp hk with hk|hk
  .show Yb h k hk
  .rw [KD.mp hk];show 32∉cd ")";rw[Vf];decide
theorem Yb:∀{l:List Th},GN Wx l->∀k∈Gn l,32∉cd k.str
 | [],_,k,hk=>by rw[Gn]at hk;cases hk
 | t::r,h,k,hk=>by
  rw[GN]at h;rw[Gn]at hk
  rcases KQ.mp hk with hk|hk
  .show Vs h.1 k hk
  .show Yb h.2 k hk
end
def An2 (h:xs≠[])(y:Str):Str.join " " (xs++[y])=Str.join " " xs++" "++y:=by
 show Tw (OA (bs:=[32]) ?_);rw[Iz _ (by simp),KZ,Md,← Iz xs h,Dm,Dm,O0];simp[E]
structure HX (x:Str)(th:Th)(b:Bool):Prop where
 ex:∃tks,Txt.split x " "=tks.map Tk.str/\Tz th b [[]] tks
 ln:x.length<=15900000
def Vt (f:Fits t):HX (tx t) t true:=by
 have hd:=Mm f.dl;have hl:=M3 f.wf;have I:=f.sz;show⟨(Aq (toks t) ?_ ?_),by omega⟩
 .rw [Ae3];show R1 (by simpa using Vr t) λx hx=>by show Am (KI.mp hx) λk hk z1=>?_;subst z1;show Vs f.wf k hk
 .have:=Ab2 (T0:=t) (b:=true) t [] [] [] (wf5 f.wf) (by simp;omega) (.inl ⟨rfl,rfl⟩);simpa using this
def Vu (f:Fits t)(hk:k.str=y)(hf:32∉cd y)(h4:y.length<=4)(r:Tz t false [[t]] [k]):HX (tx t++" "++y) t false:=by
 have hd:=Mm f.dl;have hl:=M3 f.wf;have I:=f.sz;have hb:(" ":Str).length=1:=by decide +kernel
 show⟨(Aq (toks t++[k]) ?_ ?_),by rw[NH,NH];omega⟩
 .rw [Ae3,← An2 (by simpa using Vr t),KZ,show[k].map Tk.str=[y] by rw[KE,hk];rfl];show R1 (by simp) λx hx=>by
   rcases KQ.mp hx with hx|hx
   .show Am (KI.mp hx) λk hk z1=>?_;subst z1;show Vs f.wf k hk
   .rw [KD.mp hx];show hf
 .show Ab2 t [] [] [k] (wf5 f.wf) (by simp;omega) r
def text_cl (f:Fits t):HX (tx t++" )") t false:=by
 have:=Vu f (y:=")") (k:=.cl) rfl (by rw[Vf];decide) (by decide +kernel) (.inr ⟨rfl,[t],rfl⟩);rw[show(tx t++" "++")":Str)=tx t++" )" by rw[Str.append_assoc];rfl]at this;show this
def text_a (f:Fits t):HX (tx t++" a") t false:=by
 have I:Wx "a":=.inl (by decide +kernel);have:=Vu f (y:="a") (k:=.leaf "a" (.wd "a")) rfl (by decide +kernel) (by decide +kernel) (.inl ⟨⟨by simp,.wd "a" (Ae0 I).1 (wx_w5 I)⟩,.inr ⟨rfl,(Tl t (.wd "a") [] rfl)⟩⟩);rw[show(tx t++" "++"a":Str)=tx t++" a" by rw[Str.append_assoc];rfl]at this;show this
def text_bl (f:Fits t):HX (tx t++" ") t false:=by
 have:=Vu f (y:="") (k:=.leaf "" (.wd "")) rfl (by decide +kernel) (by decide +kernel) (.inr (Az rfl rfl (by simp)));rw[show(tx t++" "++"":Str)=tx t++" " by rw[Str.append_assoc];rfl]at this;show this
def dec_str5 (x y:Str):decide (V.str x=V.str y)=decide (x=y):=Iy x y
def small {α:Type}{xs:List Str}{f:Str->α}{i:Nat}(h:xs.length<=1000):((xs.take i).map f).length<sizeLine:=by
 rw[JR,LL,LJ];omega
def fnOr {P:Program}{w:World}{K:Av}{mg:Cb}{base:Heap}{CX:IY}{k:Nat}{f:Addr}{fd:FuncData}{ps:List Str}{sp O:Sp}(F:AH P w K mg base CX k f fd ps sp)(G:AH P w K mg base CX k f fd ps O):AH P w K mg base CX k f fd ps (λvs H Q E=>sp vs H Q E\/O vs H Q E):=
 ⟨λvs H Q E q=>q.elim (F.len vs H Q E) (G.len vs H Q E),λA outer s H args us vs Q E hr he hb I hs=>hs.elim (F.run A outer s H args us vs Q E hr he hb I) (G.run A outer s H args us vs Q E hr he hb I)⟩
def Vy (cR:Addr):Sp:=λvs H Q E=>∃(b:Bool) (x:Str),vs=[.bl b,.str x]/\(b=true->Q .BI H)/\(b=false->E (.ref cR) none H)
def V7:Sp:=λvs H Q _=>∃v t x,vs=[v,.str x]/\AQ H v t/\Q (.bl (L6 t x)) H
def Ar6 (K:Av):Sp:=λvs H Q _=>∃(b:Bool) (a:Addr) (xs:List Str),vs=[.ref a]/\DG b K H a (xs.map V.str)/\xs.length<=1000/\(xs.Nodup->∀H',AA H H'->Q .BI H')/\(¬xs.Nodup->∀(i:Nat) H',AA H H'->Q (.int i) H')
def As5 (K:Av):Sp:=λvs H Q _=>∃(b:Bool) (a:Addr) (xs:List Str),vs=[.ref a]/\DG b K H a (xs.map V.str)/\xs.length<=1000/\∀H',AA H H'->Q (.bl (decide xs.Nodup)) H'
def Aa4 (cR:Addr):Sp:=λvs H Q E=>∃v t,vs=[v]/\AQ H v t/\L6 t "record"=false/\E (.ref cR) none H
section
variable {P:Program}{w:World}{K:Av}{mg:Cb}{base:Heap}{cP cT cR cM cA cS:Addr}{t1 t2 t3 t4:Tok}{aO:Addr}
def ok_want1 (F:As K "want" "want" Ag0 f fd)(I:TxX K mg cP cT cR cM cA cS t3 t4):AH P w K mg base (HD P w) 1 f fd Ft (Vy cR):=by
 show F.JK GJ λcdv A outer s H vs Q E hr h=>?_
 .show A0 h λb x z1 k1 k2=>?_;subst z1;have nd:=GJ.nd;exists Ak (Bj (Fz (Eb (qv 0))) (Ak (Ho Ck rfl rfl MI rfl I.g_R I.R.ex (AM (qv 1)))) Ax)
  cases b with
  | true=>show Ad rfl (Ad rfl (k1 rfl))
  | false=>show Ad rfl (Ad rfl (Bh rfl (zl 1) (k2 rfl)))
def Uh (F:As K "is_headed" "is_headed" Me f fd)(T:At K mg):AH P w K mg base BE 1 f fd Qp V7:=by
 show F.By Ny λcdv A outer s H vs Q E hr h=>?_
 .show He h λv th x z1 hi k=>?_;subst z1;exists Ak (Ar (Dj (Bc Bf rfl T.AE Bv (AS (qv 0) (Cn (v:=.ty "tuple") rfl T.AZ NA rfl))) (Dj (ER E8 (Eh T.AR (qv 0)) Ag) (Du (ER (op_eqTS (by show Nat.lt_of_succ_lt (Ds hr))) (BY (qv 0) Ag) (qv 1))))))
  cases th with
  | num i=>
   cases(show v=.int i from hi);show Ad rfl (Eo rfl (.int _) rfl (Ad rfl k))
  | wd y=>
   cases(show v=.str y from hi);show Ad rfl (Eo rfl (.str _) rfl (Ad rfl k))
  | tup l=>
   show A0 hi λa us z1 O hl=>?_;subst z1;show Ad rfl (Eo rfl (.tup O) rfl (Ad rfl (E7 (Ad rfl (Al a us rfl (.inr (.inl (.inl O))) (Aw rfl rfl (Ad rfl ?_)))))))
   cases l with
   | nil=>
    rw[show us=[] from hl];show k
   | cons t r=>
    show A0 hl λI vr z1 h0 a3=>?_;subst z1;have hp:decide ((((I::vr).length:Nat):Int)>0)=true:=KA (by simp);rw[hp];show E7 (Ad rfl (B0 _ _ 0 I rfl rfl (.inl (.inl O)) (Be (j:=0) rfl) (Ad rfl ?_)))
    cases t with
    | num i=>
     cases(show I=.int i from h0);show .inl ⟨rfl,by rw[LU (λz=>nomatch z)];show k⟩
    | tup l=>
     show A0 h0 λY a2 z1 a1 _=>?_;subst z1;show .inr (Ei Y a2 x rfl rfl (.inl (.inl a1)) k)
    | wd y=>
     cases(show I=.str y from h0);show .inl ⟨rfl,by rw[dec_str5];show k⟩
def Ra (F:As K "first_again" "first_again" Il f fd)(T:At K mg):AH P w K mg base BE 1 f fd Hq (Ar6 K):=by
 show F.By BW λcdv A outer s H vs Q E hr h=>?_
 .show L9 h λb a xs z1 hq hl k1 k2=>?_;subst z1;have nd:=BW.nd;exists Ae (Cl 1 nd Jl) (Ae (Ex MO rfl (Ag4 (b:=b) rfl T.GA (AM (qv 0))) (Wk rfl (Gb (GV 2 nd) (Gb (GV 3 nd) Rl))) (Ae (Bj (At2 (Ds hr) (qv 3) (qv 1)) (Ak (Ar (qv 2))) Ax) (Ak (D9 (Ds hr) (qv 1) (qv 3) Es rfl)))) (Ak (Ar Nd)))
  show λd hd=>(Ad rfl (Bx a rfl ⟨_,DG.same (AA.upd (AA.refl H) hd) hq⟩ (Zi (xs:=xs.map V.str) (λi σ H'=>(∃o1 o2,σ=[some (.ref a),some (.ref d),o1,o2])/\AA H H'/\H' d=some (.dK ((xs.take i).map λy=>((Sum.inr y:Key),V.bl true)))/\(xs.take i).Nodup) (C7 (Jn rfl) (AA.upd (AA.refl H) hd) Ah (by simp)) ?_ ?_ ?_)))
  .rintro i σ H' hi ⟨_,O,_⟩;show DG.same O hq
  .rintro i v σ H' p I ⟨⟨o1,o2,rfl⟩,O,a0,Y⟩ hp;obtain⟨x,hx,rfl⟩:∃x,xs[i]?=some x/\v=V.str x:=by
    rw[LG]at I
    cases e:xs[i]? with
    | none=>rw[e]at I;cases I
    | some x=>rw[e]at I;show Aq x rfl ((LV I).symm)
   have a1:upd H' p (.tup [.int i,.str x]) d=some (.dK ((xs.take i).map λy=>((Sum.inr y:Key),V.bl true))):=by
    rw[Aj (Af a0 hp)];show a0
   have a2:AA H (upd H' p (.tup [.int i,.str x])):=O.upd hp;have li:i<xs.length:=(List.getElem?_eq_some_iff.mp hx).1;have tk:xs.take (i+1)=xs.take i++[x]:=by rw[RA,hx];rfl
   have sub:(xs.take (i+1)).Sublist xs:=OD _ _;show Co p _ rfl (BJ.of Ah) rfl (Xk rfl (Aw rfl rfl (Ad rfl (Ad rfl (Al d _ rfl (AL.k (k:=Sum.inr x) a1) (Ad rfl (B5 (λh=>?_) (λh=>?_))))))))
   .rw [valS]at h;have hm:x∈xs.take i:=KP h;show Ad rfl (k2 (λz=>?_) i _ a2);have:=z.sublist sub;rw[tk,LX]at this;show this.2.2 x hm x (by simp) rfl
   .rw [valS]at h;have hm:x∉xs.take i:=λz=>h (KA z);show Ad rfl (Ad rfl (Km d _ rfl (DD.k (k:=Sum.inr x) a1 (small hl)) (Jn rfl) (CI a2 hd) ?_ ?_))
    .rw [Ah,Ng _ _ hm,tk]
    .rw [tk,LX];show Az Y (by simp) λa ha b hb e=>by simp at hb;subst hb e;show hm ha
  .rintro σ H' ⟨_,O,_,Y⟩;rw[JR,LY]at Y;show k1 Y H' O
def Sz (F:As K "all_unlike" "all_unlike" J9 f fd)(O:AJ P w K mg base 1 "first_again" Hq (Ar6 K)):AH P w K mg base BE 2 f fd Hq (As5 K):=by
 show F.By Mt λcdv A outer s H vs Q E hr h=>?_
 .show Ig h λb a xs z1 I hl k=>?_;subst z1;exists Ak (Ar (ER Wp (qf O hr (AM (qv 0))) Nd))
  show Ad rfl (Ep b a xs rfl I hl (λn H' s'=>?_) λn i H' s'=>?_)
  .have:=k H' s';rw[KA n]at this;show⟨rfl,this⟩
  .have:=k H' s';rw[LU n]at this;show⟨rfl,this⟩
def Ud (F:As K "look_at_record" "look_at_record" F6 f fd)(T:At K mg)(TG:TxtG K mg t1 t2 t3 t4)(Y:TxK K mg aO)(I:CN P w K mg base 1 "want" Ft (Vy cR))(a0:AJ P w K mg base 1 "is_headed" Qp V7)
  (O:AJ P w K mg base 2 "is_name" Em R6)(a1:AJ P w K mg base 2 "all_unlike" Hq (Af8 K)):AH P w K mg base (HD P w) 4 f fd ["record"] (Aa4 cR):=by
 show F.JK Ik λcdv A outer s H vs Q E hr h=>?_
 .show Ia h λv t z1 hi hh k=>?_;subst z1;exists Ae (Au (JI I (Ip Ck rfl) hr (AS (qf a0 hr (AS (qv 0) Ai)) Ai))) (Ae (Au (JI I (Ip Ck rfl) hr (AS (Ob Oh Oh Ag (Eh T.AR (qv 0)) (Ap Fg Ag (Kb rfl TG.EI))) Ai))) (Ae (Au (JI I (Ip Ck rfl) hr (AS (Dj (qf O hr (AM (BY (qv 0) Ag))) (Du (Io Gz (BY (qv 0) Ag) (Im rfl Y.DT) (by with_unfolding_all rfl)))) Ai))) (Ae (Au (JI I (Ip Ck rfl) hr (AS (Bc (Ju rfl) rfl T.HF boot_all (AM (El (N':=["field"]) (n:=1) AY.n rfl (F0 (Bu E9 (qv 0) (Bq Ag) Cc)) (λ_ _ _=>(Az (FX 0) Db (qf O hr (AM (qv 0)))))))) Ai))) (Ak (Au (JI I (Ip Ck rfl) hr (AS (qf a1 hr (AM (Bu E9 (qv 0) (Bq Ag) Cc))) Ai)))))))
  show Ad rfl (Kl v t "record" rfl hi (Aw rfl (λz=>by rw[hh]at z;cases z) λ_=>k))
end
end R5
namespace R5
open PySem PySem.Spec PyProof PyProof.Rows L2 T
def RecO (n:Str)(fl:List Str):Prop:=Dd n=true/\n≠"number"/\n≠"truth"/\n≠"list"/\fl≠[]/\fl.length<=4/\fl.Nodup/\∀x∈fl,Dd x=true
def HeadO (AB:List (Str×List Str))(f:HA):Prop:=Dd f.nm=true/\f.fh.ps.length=f.fh.ks.length/\f.fh.ks.length<=4/\f.fh.ps.Nodup/\(∀x∈f.fh.ps,Dd x=true)/\(∀k∈f.fh.ks,U2 AB k)/\U2 AB f.fh.k
def spLk (cR:Addr)(n:Nat):Sp:=λvs H Q E=>∃v t,vs=[v]/\AQ H v t/\((L6 t "program"=false/\E (.ref cR) none H)\/∃I AB AC more,t=.tup (.wd "program"::I)/\I.filter JN=AC.map Ca/\I.take (I.length-AC.length)=AB.map Cv++more/\I.length<=900/\(∀n fl,(n,fl)∈AB->RecO n fl) /\
 ((∃O Y,more=O::Y/\L6 O "record"=false/\∀H',AA H H'->E (.ref cR) none H')\/(more=[]/\(AB.map (·.1)).Nodup/\(∀f∈AC,HeadO AB f)/\((¬((AC.map (·.nm)).Nodup/\("main":Str)∈AC.map (·.nm))/\∀H',AA H H'->E (.ref cR) none H')\/(CS AB AC/\(∀f∈AC,∀t∈f.ts,BF n t)/\∀H',AA H H'->Q .BI H')))))
section
variable {P:Program}{w:World}{K:Av}{mg:Cb}{base:Heap}{t1 t2 t3 t4:Tok}{C fi cR:Addr}{fdi:FuncData}
def P6 (hm:4<=m)(F:As K "look_at_tree" "look_at_tree" Lh f fd)(T:At K mg)(TM:TxL K mg C fi fdi)(aK:CN P w K mg base 1 "want" Ft (Vy cR))(av:AJ P w K mg base 1 "is_headed" Qp V7)
  (ax:AJ P w K mg base 2 "all_unlike" Hq (As5 K))(bS:CN P w K mg base 4 "look_at_record" ["record"] (λvs H Q E=>Ar8 vs H Q E\/Aa4 cR vs H Q E))(bP:AJ P w K mg base 4 "look_at_head" ["fun","records"] spHd)(bQ:AJ P w K mg base 2 "look_at_main" ["fun"] Ar9)
  (bO:AJ P w K mg base m "look_at_body" ["look","fun"] (As4 C n))(bM:AH P w K mg base (HD P w) 1 fi fdi Yp (As1 C)):AH P w K mg base (HD P w) (m+1) f fd Em (spLk cR n):=by
 have bN:=TM.mak;show F.JK DJ λcdv A outer s H vs Q E hr h=>?_
 .obtain⟨v,t,rfl,hi,h⟩:=h;have nd:=DJ.nd;have bW:(2000000:Nat)<=sizeLine:=by rw[LJ];omega
  have b6:=hi;show⟨_,(Ae (Au (JI aK (Ip Ck rfl) hr (AS (qf av hr (AS (qv 0) Ai)) Ai))) (Ae (Gw (i0:=1) nd rfl rfl rfl (N':=["part"]) (n:=1) AY.n rfl (F0 (Bu E9 (qv 0) (Bq Ag) Cc)) (λ_ _ _=>⟨(FX 0),(Mf (Eb (qf av hr (AS (qv 0) Ai)))),(qv 0)⟩)) (Ae (Cl 2 nd (Bu E9 (qv 0) (Bq Ag) (Bq (Ap Gj (Eh T.AR (qv 0)) (Eh T.AR (qv 1)))))) (Ae (Ex PN rfl (F0 (qv 2)) (GV 3 nd) (Ak (Au (JI bS (Ip Ck rfl) hr (AM (qv 3)))))) (Ae (Au (JI aK (Ip Ck rfl) hr (AS (qf ax hr (AM (El (N':=["record"]) (n:=1) AY.n rfl (F0 (qv 2)) (λ_ _ _=>⟨(FX 0),Db,(Da (show IH _ (Q5 K)from Hu) (qv 0) Ag (λ_ _=>rfl))⟩)))) Ai))) (Ae (Yk (i0:=4) nd rfl rfl rfl (N':=["record"]) (n:=1) AY.n rfl (F0 (qv 2)) (λ_ _ _=>⟨(FX 0),Db,(Da (show IH _ (Q5 K)from Hu) (qv 0) Ag (λ_ _=>rfl)),(Bu (show SlR _ (rSlT K)from E9) (qv 0) (Bq Ag) Cc)⟩)) (Ae (Ex PN rfl (Gx (qv 1)) (GV 5 nd) (Ak (Au (qf bP hr (AS (qv 5) (qv 4)))))) (Ae (Au (JI aK (Ip Ck rfl) hr (AS (qf ax hr (AM (El (N':=["fun"]) (n:=1) AY.n rfl (Gx (qv 1)) (λ_ _ _=>⟨(FX 0),Db,(Da (show IH _ (Q5 K)from Hu) (qv 0) Ag (λ_ _=>rfl))⟩)))) Ai))) (Ae (Yk (i0:=6) nd rfl rfl rfl (N':=["fun"]) (n:=1) AY.n rfl (Gx (qv 1)) (λ_ _ _=>⟨(FX 0),Db,(Da (show IH _ (Q5 K)from Hu) (qv 0) Ag (λ_ _=>rfl)),(qv 0)⟩)) (Ae (Au (JI aK (Ip Ck rfl) hr (AS (Nf (Ds hr) Ai (qv 6)) Ai))) (Ae (Au (qf bQ hr (AM (BU hr (qv 6) Ai)))) (Ak (Ex PN rfl (Gx (qv 1)) (GV 5 nd) (Ak (Au (qf bO hr (AS (qe_make bN bM (hr.mono (by omega)) rfl TM.g_Look TM.b_Look .nil (Ip Ck rfl) (BV (qv 4) (qv 6) (qv 5))) (qv 5)))))))))))))))))),?_⟩
  walk_at "k"
  rcases h with⟨hh,k⟩|⟨a4,AB,AC,more,rfl,al,am,lp,RO,md⟩
  .show⟨_,rfl,v,t,"program",rfl,hi,_,_,rfl,(λz=>by rw[hh]at z;cases z),λ_=>k⟩
  have bU:AC.length<=a4.length:=by
   have:=PL JN a4;rw[al,JR]at this;show this
  have bF:AB.length+more.length=a4.length-AC.length:=by
   have:=LM List.length am;rw[LL,JX,JR]at this;omega
  show A0 hi λa bY z1 hu z2=>A0 z2 λv0 us z3 h0 hl=>?_;subst z1 z3;cases(show v0=.str "program" from h0);have len:=hl.len;show Ad rfl (Kl _ _ "program" rfl b6 (Aw rfl (λ_=>(Ad rfl (Aq 1 rfl (Co a _ rfl (.inl (.inl hu)) (F3 (n:=1) (by decide) (by simp)) λp hp=>?_)))) λz=>absurd z (by show ¬decide (("program":Str)="program")=false;decide)));rw[show Ef (V.str "program"::us) (some 1) none=us from Dz _ 1];generalize z:upd H p _=H1;obtain⟨s1,q1⟩:=Bz hp z;show Bx p rfl ⟨_,.inl (.inl q1)⟩ λD hD=>Mc (xs:=us) (λi ys σ H'=>(∃o,σ=[o])/\AA H1 H'/\H' D=some (.lst ys)/\ys.length<=i/\AI H' ys ((a4.take i).filter JN)) (by omega) (Fb ⟨_,rfl⟩ (AA.upd (AA.refl _) hD) Ah (LN _) rfl) ?_ ?_ ?_
  .rintro i ys σ H' a5 ⟨_,O,I,ly,_⟩;show Az (.inl (.inl (O _ _ q1))) I ly
  .rintro i v ys σ H' hv ⟨⟨o,rfl⟩,O,I,ly,it⟩;show Am (hl.get hv) λth ht a5=>?_;have ai:=s1.trans O;show Ad rfl (Kl v th _ rfl (a5.mono ai.AF) (Ad rfl (B5 (λg1=>?_) (λg1=>?_))))
   .show Ad3 rfl I ⟨_,rfl⟩ (CI O hD) Ah ⟨by rw[JX,LI];omega,?_⟩;rw[Ct ht,OM,QV (show JN th=true from g1),QN];show(it.append (Hw (a5.mono ai.AF))).mono (Fd I)
   .show Fb ⟨_,rfl⟩ O I (by omega) ?_;rw[Ct ht,OM,NN (show ¬JN th=true from g1),QN,MN];show it
  .rintro ys σ H2 ⟨_,O,I,_,it⟩;rw[LP (by rw[len];show JV _),al]at it;have aD:=it.len;rw[JR]at aD;have S2:=s1.trans O;dsimp only[BH]
   walk_at "n"
   show Dt (Ad rfl (Aq 1 rfl (Ad rfl (Al a _ rfl (.inr (.inl (.inl (S2 _ _ hu)))) (Ad rfl (Al D ys rfl (.inl (AO.of I)) (Aw rfl rfl (Ad rfl (Co a _ rfl (.inl (.inl (S2 _ _ hu))) (F3 (n:=1) (by decide) (by simp)) λp2 b7=>?_)))))))));have bG:Ef (V.str "program"::us) (some 1) (some ((((V.str "program"::us).length:Nat):Int)-((ys.length:Nat):Int)))=us.take (a4.length-AC.length):=by
    unfold Ef;rw[show(((V.str "program"::us).length:Nat):Int)-((ys.length:Nat):Int)=((1+(a4.length-AC.length):Nat):Int)by rw[KC,len,aD];omega,show(some 1:Option Int)=some ((1:Nat):Int)from rfl,HT.CB,HT.CB,KC,NT (show 1<=us.length+1 by omega),NT (show 1+(a4.length-AC.length)<=us.length+1 by omega)]
    show(us.take _)=_
    congr 1
    omega
   rw[bG];generalize z:upd H2 p2 _=H3;obtain⟨s3,q3⟩:=Bz b7 z;have S3:=S2.trans s3;have rl:AI H3 (us.take (a4.length-AC.length)) (AB.map Cv++more):=by
    have:=(hl.take (a4.length-AC.length)).mono S3.AF;rw[am]at this;show this
   generalize us.take (a4.length-AC.length)=rv at q3 rl;have b9:=s3 _ _ I;have bC:=it.mono s3.AF;have aJ:rv.length=AB.length+more.length:=by rw[rl.len,JX,JR]
   walk_at "n"
   show Ad rfl (Bx p2 rfl ⟨_,.inl (.inl q3)⟩ (Ai8 (xs:=rv) (λi σ H'=>(∃o,σ=[some (.ref a),some (.ref D),some (.ref p2),o,none,none,none])/\AA H3 H'/\i<=AB.length) (Az ⟨_,rfl⟩ (AA.refl H3) (LN _)) (λi σ H' _ ⟨_,Y,_⟩=>.inl (.inl (Y _ _ q3))) ?_ ?_))
   .rintro i x σ H' hx ⟨⟨o,rfl⟩,Y,ae⟩;show Am (rl.get hx) λt ht a0=>?_;by_cases a5:i<AB.length
    .rw [NV (by rw[JR];show a5)]at ht;show Am (Ku ht) λz1 a7 z2=>?_;subst z2;obtain⟨nm,fl⟩:=z1;show Ad rfl (.inl (Ei x nm fl rfl (a0.mono Y.AF) (RO nm fl (KR a7)) λa9 aW=>(Az ⟨_,rfl⟩ (Y.trans aW) (by omega))))
    .have ei:i=AB.length:=by omega
     rw[MH (by rw[JR];omega),JR,ei,Nat.sub_self]at ht;rcases md with⟨ay,m',rfl,hb,k⟩|⟨rfl,_⟩
     .cases ht;show Ad rfl (.inr (Co x _ rfl (a0.mono Y.AF) hb (k _ (S3.trans Y))))
     .cases ht
   rintro σ H4 ⟨⟨o,rfl⟩,s4,ae⟩;rcases md with⟨ay,m',rfl,_⟩|⟨rfl,rn,ho,md⟩
   .rw [aJ,KC]at ae;omega
   rw[MN]at rl;rw[OE,Nat.add_zero]at aJ bF;show Ad rfl (Bx p2 rfl ⟨_,.inl (.inl (s4 _ _ q3))⟩ λD2 aY=>Mc (xs:=rv) (λi ys σ H'=>(∃o,σ=[o])/\AA H4 H'/\H' D2=some (.lst ys)/\ys=((AB.take i).map (·.1)).map V.str) (by omega) (C7 ⟨_,rfl⟩ (AA.upd (AA.refl _) aY) Ah rfl) ?_ ?_ ?_)
   .rintro i ys σ H' a5 ⟨_,O,I,e⟩;show Az (.inl (.inl (O _ _ (s4 _ _ q3)))) I (by rw[e,JR,JR,LL];omega)
   .rintro i x ys σ H' hx ⟨⟨o,rfl⟩,O,I,rfl⟩;show Am (rl.get hx) λt ht a0=>?_;show Am (Ku ht) λz1 a7 z2=>?_;subst z2;obtain⟨nm,fl⟩:=z1;show Am (Ag2 a0) λb z1 hb=>?_;subst z1;show Ad rfl (Cm _ _ 1 _ rfl rfl (.inl (.inl (O _ _ (s4 _ _ hb)))) (Be (j:=1) rfl) I (C7 ⟨_,rfl⟩ (CI O aY) Ah ?_));rw[Ct a7,KZ,KZ];rfl
   rintro bZ σ H5 ⟨_,s5,bA,e5⟩;rw[aJ,LY]at e5;subst e5;show Ei true D2 (AB.map (·.1)) rfl (AO.of bA) (by rw[JR];omega) λH6 s6=>(Aw rfl (λ_=>?_) λz=>absurd rn (of_decide_eq_false z));have S6:=s4.trans (s5.trans s6);show Ad rfl (Bx p2 rfl ⟨_,.inl (.inl (S6 _ _ q3))⟩ λD3 aZ=>Vd (xs:=rv) (λi ys σ H'=>(∃o,σ=[o])/\AA H6 H'/\H' D3=some (.dK ys)/\ys.length<=i/\∀(j:Nat) n fl,j<i->AB[j]?=some (n,fl)->∃t,Bm ys (Sum.inr n)=some (.ref t)/\H' t=some (.tup (fl.map V.str))) (by omega) (Fb ⟨_,rfl⟩ (AA.upd (AA.refl _) aZ) Ah (LN _) λj n fl hj=>absurd hj (NU _)) ?_ ?_ ?_)
   .rintro i ys σ H' a5 ⟨_,O,I,ly,_⟩;show Az (.inl (.inl (O _ _ (S6 _ _ q3)))) I ly
   .rintro i x ys σ H' hx ⟨⟨o,rfl⟩,O,I,ly,aV⟩;show Am (rl.get hx) λt ht a0=>?_;show Am (Ku ht) λz1 a7 z2=>?_;subst z2;obtain⟨nm,fl⟩:=z1;show Am (Ag2 a0) λb z1 hb=>?_;subst z1;have ac:=O _ _ (S6 _ _ hb);show Ad rfl (B0 _ _ 1 _ rfl rfl (.inl (.inl ac)) (Be (j:=1) rfl) (Ad rfl (Aq 2 rfl (Co b _ rfl (.inl (.inl ac)) (F3 (n:=2) (by decide) (by simp)) λpp a8=>(Ko (Sum.inr nm) rfl ?_ ⟨_,rfl⟩ (CI (O.upd a8) aZ) Ah ⟨KN BO.1 (by omega),λj n' az hj aG=>?_⟩)))))
    .rw [Aj (Af I a8)];show I
    .rw [show Ef (V.str "record"::V.str nm::fl.map V.str) (some 2) none=fl.map V.str from Dz _ 2];have bJ:pp≠D3:=(Af I a8).symm;by_cases e:j=i
     .subst e;rw[a7]at aG;cases aG;show Aq pp (by rw[Ci,KJ rfl]) (by rw[Aj bJ,Ah])
     .show Am (aV j n' az (by omega) aG) λt' a1 a2=>?_;show Aq t' (by rw[Pd (nd_at (key:=Prod.fst) rn a7 aG (by omega))];show a1) ?_;rw[Aj (Bd a2 I (by simp)),Aj (Af a2 a8)];show a2
   rintro kr σ H7 ⟨_,s7,aH,l7,aq⟩;rw[aJ]at aq l7;have S7:=S6.trans s7;have hR:∀n fl,(n,fl)∈AB->∃t,Bm kr (Sum.inr n)=some (.ref t)/\H7 t=some (.tup (fl.map V.str)):=λn fl h=>by
    obtain⟨j,hj⟩:=List.getElem?_of_mem h;show aq j n fl (List.getElem?_eq_some_iff.mp hj).1 hj
   have a6:∀{H'},AA H7 H'->AO K H' D ys:=λs'=>AO.of (s' _ _ (S7 _ _ b9));have aB:=bC.mono S7.AF;have bL:∀k,U2 AB k->k="number"\/k="truth"\/k="list"\/(Bm kr (Sum.inr k)).isSome=true:=λk hk=>by
    rcases hk with h|h|h|h
    .show .inl h
    .show .inr (.inl h)
    .show .inr (.inr (.inl h))
    .show Am (KI.mp h) λpp a8 z1=>?_;subst z1;show Am (hR pp.1 pp.2 a8) λt a1 _=>?_;show .inr (.inr (.inr (by rw[a1];rfl)))
   dsimp only[BH]
   walk_at "n"
   show Ad rfl (Bx D rfl ⟨_,a6 (AA.refl _)⟩ (L7 (xs:=ys) (λi σ H'=>(∃o5,σ=[some (.ref a),some (.ref D),some (.ref p2),o,some (.ref D3),o5,none])/\AA H7 H') ⟨⟨_,rfl⟩,AA.refl H7⟩ (λi σ H' _ ⟨_,Y⟩=>a6 Y) ?_ ?_))
   .rintro i x σ H' hx ⟨⟨o5,rfl⟩,Y⟩;show Am (aB.get hx) λt ht a0=>?_;show Am (Ku ht) λg hg z1=>?_;subst z1;show Ib (ho g (KR hg)) λg1 g2 g3 g4 g5 z1=>?_;obtain⟨g6,g7⟩:=z1;show Ad rfl (Ad rfl (B0 x g D3 kr rfl (a0.mono Y.AF) (Y _ _ aH) (D8 g1 g2 g3 g4 g5 λk hk=>bL k ((JT.mp hk).elim (λz=>z▸g7) (g6 k))) λa9 aW=>⟨⟨_,rfl⟩,Y.trans aW⟩))
   rintro σ H8 ⟨⟨o5,rfl⟩,s8⟩;show Ad rfl (Bx D rfl ⟨_,a6 s8⟩ λD4 aM=>Qj (xs:=ys) (λi a3 σ H'=>(∃o,σ=[o])/\AA H8 H'/\H' D4=some (.lst a3)/\a3=((AC.take i).map (·.nm)).map V.str) (by omega) aM (C7 ⟨_,rfl⟩ (AA.upd (AA.refl _) aM) Ah rfl) ?_ ?_ ?_)
   .rintro i a3 σ H' a5 ⟨_,O,I,e⟩;show Az (a6 (s8.trans O)) I (by rw[e,JR,JR,LL];omega)
   .rintro i x a3 σ H' hx ⟨⟨o,rfl⟩,O,I,rfl⟩;show Am (aB.get hx) λt ht a0=>?_;show Am (Ku ht) λg hg z1=>?_;subst z1;show He (Kp a0) λb _ _ z1 hb _=>?_;subst z1;show Ad rfl (Cm _ _ 1 _ rfl rfl (.inl (.inl (O _ _ (s8 _ _ hb)))) (Be (j:=1) rfl) I (C7 ⟨_,rfl⟩ (CI O aM) Ah ?_));rw[Ct hg,KZ,KZ];rfl
   rintro ba σ H9 ⟨_,s9,bB,e9⟩;rw[aD,LY]at e9;subst e9;show Ei true D4 (AC.map (·.nm)) rfl (AO.of bB) (by rw[JR];omega) λHa sa=>(Aw rfl (λfn=>?_) λz=>md.elim (λq=>q.2 _ (S3.trans (S7.trans (s8.trans (s9.trans sa))))) λq=>absurd q.1.fn (of_decide_eq_false z));have Sa:=s8.trans (s9.trans sa);have fn:(AC.map (·.nm)).Nodup:=KP fn;show Ad rfl (Bx D rfl ⟨_,a6 Sa⟩ λD5 aa=>Ad7 (xs:=ys) (λi a3 σ H'=>(∃o,σ=[o])/\AA Ha H'/\H' D5=some (.dK a3)/\a3.length<=i/\(∀x,x∉(AC.take i).map (·.nm)->Bm a3 (Sum.inr x)=none)/\∀(j:Nat) g v,j<i->AC[j]?=some g->ys[j]?=some v->Bm a3 (Sum.inr g.nm)=some v) (by omega) (D8 ⟨_,rfl⟩ (AA.upd (AA.refl _) aa) Ah (LN _) (λ_ _=>rfl) λj g v hj=>absurd hj (NU _)) ?_ ?_ ?_)
   .rintro i a3 σ H' a5 ⟨_,O,I,ly,_⟩;show Az (a6 (Sa.trans O)) I ly
   .rintro i x a3 σ H' hx ⟨⟨o,rfl⟩,O,I,ly,nx,aV⟩;show Am (aB.get hx) λt ht a0=>?_;show Am (Ku ht) λg hg z1=>?_;subst z1;show He (Kp a0) λb _ _ z1 hb _=>?_;subst z1;show Ad rfl (B0 _ _ 1 _ rfl rfl (.inl (.inl (O _ _ (Sa _ _ hb)))) (Be (j:=1) rfl) (Ad rfl (Ko (Sum.inr g.nm) rfl I ⟨_,rfl⟩ (CI O aa) Ah (Az (KN BO.1 (by omega)) (λy aP=>?_) λj g' v' hj aF aN=>?_))))
    .rw [Ct hg,KZ,KQ,QR]at aP;rw[Pd (by simpa using aP.2)];show nx y aP.1
    by_cases e:j=i
    .subst e;rw[hg]at aF;cases aF;rw[hx]at aN;cases aN;rw[Ci,KJ rfl]
    .rw [Pd (nd_at (key:=HA.nm) fn hg aF (by omega))];show aV j g' v' (by omega) aF aN
   rintro kf σ Hb ⟨_,sb,aQ,lb,ah,au⟩;rw[aD]at au lb;rw[aD,LY]at ah;have Sb:=Sa.trans sb;have hF:∀g∈AC,∃v,Bm kf (Sum.inr g.nm)=some v/\AQ H7 v (Ca g):=λg h=>by
    obtain⟨j,hj⟩:=List.getElem?_of_mem h;show Am (aB.at (i:=j) (t:=Ca g) (by rw[LG,hj];rfl)) λv hv iv=>?_;show Aq v (au j g v (List.getElem?_eq_some_iff.mp hj).1 hj hv) iv
   dsimp only[BH]
   walk_at "n"
   show Ad rfl (Al D5 _ rfl (AL.k (k:=Sum.inr "main") aQ) (Aw rfl (λhb=>?_) λhb=>?_))
   rotate_left
   .show md.elim (λq=>q.2 _ (S3.trans (S7.trans Sb))) λq=>Bg q.1.mn λmf aI aU _=>Am (hF mf aI) λmv aC _=>?_;rw[aU]at aC;rw[aC]at hb;show absurd hb (by simp)
   obtain⟨TR,b0,k⟩:CS AB AC/\(∀f∈AC,∀t∈f.ts,BF n t)/\∀H',AA H H'->Q .BI H':=by
    show md.elim (λq=>absurd ⟨fn,?_⟩ q.1) id
    false_or_by_contra
    rename_i z;rw[ah _ z]at hb;show absurd hb (by simp)
   show Oz TR.mn λmf aI aU mk bD=>Am (hF mf aI) λmv aC bE=>?_;rw[aU]at aC;have b5:AL Hb D5 (.str "main") (some mv):=by rw[← aC];show AL.k (k:=Sum.inr "main") aQ
   show Qi (TR.fo mf aI) λm1 m2 m3 _=>Ad rfl (Al D5 _ rfl b5 (Km mv mf rfl (bE.mono Sb.AF) m2 m3 mk ⟨bD,λHc sc=>?_⟩));have Sc:=Sb.trans sc;have bb:=Sc _ _ aH;have aj:=sc _ _ aQ;show Ad rfl (Bx D rfl ⟨_,a6 Sc⟩ (L7 (xs:=ys) (λi σ H'=>(∃o5,σ=[some (.ref a),some (.ref D),some (.ref p2),o,some (.ref D3),o5,some (.ref D5)])/\AA Hc H') ⟨⟨_,rfl⟩,AA.refl Hc⟩ (λi σ H' _ ⟨_,Y⟩=>a6 (Sc.trans Y)) ?_ ?_))
   .rintro i x σ H' hx ⟨⟨o6,rfl⟩,Y⟩;show Am (aB.get hx) λt ht a0=>?_;show Am (Ku ht) λg hg z1=>?_;subst z1;have gm:=KR hg;show Ib (TR.fo g gm) λg1 g2 g3 g4 g5 z1=>Ch z1 λg6 g7 z2=>C8 z2 λκ' bK g8 g9=>?_;have SH:=Sc.trans Y;have bI:=a0.mono SH.AF;show Ad rfl (Ad rfl (Ad rfl λxo dx ag b4 bV=>?_));have sA:AA H' (upd (upd H' dx (.own xo)) xo (.ins C dx [])):=CI (CI (AA.refl H') b4) ag;show Kk xo dx D3 D5 x g rfl Ah (bI.mono sA.AF) g2 g3 ⟨g4,λa9 kn fs hkn sx b8 f1 f2 f3 f4 hk=>?_⟩;have sB:AA H' a9:=λb u e=>sx b u (sA _ _ e) (by simp;show Af e ag);have aX:H' kn=none:=sA.free hkn;have sC:∀{Hz},Sx [kn] a9 Hz->AA H' Hz:=fun {Hz} s3 b u e=>s3 b u (sB _ _ e) (by simp;show Af e aX);have aE:=SH.trans sB;have lk:Lk C a9 xo D3 D5 kn ⟨lkR AB,lkF AC,g.fh.k⟩:=by
     show⟨(Jr dx fs b8 f1 f2 f3 f4),(Aq kr (aE _ _ aH) λn fl h=>?_),kf,sB _ _ (Y _ _ aj),λf' bX k' h=>?_⟩
     .unfold lkR at h;show Am (Option.map_eq_some_iff.mp h) λpp aA z1=>?_;subst z1;have e1:=QP aA;have e2:pp.1=n:=KP e1;show Am (hR pp.1 pp.2 (NW aA)) λt a1 a2=>?_;show Aq t (by rw[← e2];show a1) (aE _ _ a2)
     .unfold lkF at h;show Am (Option.map_eq_some_iff.mp h) λpp aA e3=>?_;cases e3;have e1:=QP aA;have e2:pp.nm=f':=KP e1;have pm:=NW aA;show Am (hF pp pm) λv' a1 a2=>Qi (TR.fo pp pm) λ_ b2 b3 _=>?_;show Km v' pp (by rw[← e2];show a1) (a2.mono aE.AF) rfl rfl b2 b3
    show⟨rfl,(Ad rfl (Cw xo D3 D5 kn _ x (Lb g κ' bK rfl lk hk (Af (SH _ _ aH) aX) (Af (Y _ _ aj) aX) (D8 (a0.mono aE.AF) g2 g3 g4 (b0 g gm) (Az g8 g9 λH3 s3=>⟨⟨_,rfl⟩,Y.trans (sC s3)⟩)))))⟩
   .rintro σ H' ⟨⟨o6,rfl⟩,Y⟩;show k H' (S3.trans (S7.trans (Sc.trans Y)))
end
end R5
namespace L2
open PySem PySem.Spec PyProof.Rows
def tTryI (K:Av)(i:Nat)(C:Addr)(tt:TT)(sp I:Sp)(ta O:TA)(ts:TS):TS:=λD σ H=>tt σ H λb H0=>if b=true then(σ=σ/\ta σ H0 λvs H1=>sp vs H1 (λ_ H2=>D.nx σ H2) (Xq K i C ts D σ))else(σ=σ/\O σ H0 λvs H1=>I vs H1 (λ_ H2=>D.nx σ H2) (Xq K i C ts D σ))
def qs_tryI
  (hN:X.N.Nodup)(hi:X.N[i]?=some n)(hk:X.env.kindOf n=some .local)(aH:X.stack=X.env::X.outer)(aD:X.env.frame=some X.env.locals)(F:CN X.prog X.w X.K X.mg X.base k x ps sp)(hr:BC k X.A)(F':CN X.prog X.w X.K X.mg X.base k' x' aW aJ)(aG:BC k' X.A)(a2:Gl X x)(aN:Gl X x')(hg:Gl X cx)(hm:X.mg cx=some (.ref C))
  (ht:∀pn E,QT (X.HN pn E) c tt)(ha:∀pn E,QA (X.HN pn E) (e::es) ta)(a9:∀pn E,QA (X.HN pn E) (e'::a0) aK)(hs:∀a pn,IX (X.HJ a pn) (b₀::a8) ts)(aB:Eg cx:=by decide)(a1:Eg x:=by decide)(aM:Eg x':=by decide)
  (he:Gi X e es:=by rfl)(a3:Hf X cpos es:=by rfl)(aI:swapsWith (.Call (.Name x p) (e::es) [] cpos) none a6.line X.env=pure false:=by rfl)
  (aC:Gi X e' a0:=by rfl)(aP:Hf X a4 a0:=by rfl)(aQ:swapsWith (.Call (.Name x' p') (e'::a0) [] a4) none a7.line X.env=pure false:=by rfl) :
  QS X (.Try [.If c [.Expr (.Call (.Name x p) (e::es) [] cpos) a6] [.Expr (.Call (.Name x' p') (e'::a0) [] a4) a7] aU] [.ExceptHandler (some (.Name cx cp)) (some n) (b₀::a8) hpos] [] [] pos) (tTryI X.K i C tt sp aJ ta aK ts):=by
 show⟨?_⟩;intro pins s σ H D I h;show wpAny_Try_except ?_
 let a5:Cx:=X.HN (X.pn++pins) λe s1=>wpAny (model X.prog X.w) X.A (noteFrame e X.env) (λ_ s2=>wpAny (model X.prog X.w) X.A (setFlight e none) (λ_ s3=>wpAny (model X.prog X.w) X.A (handleBy e X.env [.ExceptHandler (some (.Name cx cp)) (some n) (b₀::a8) hpos]) (SP X pins D) X.xe s3) X.xe s2) X.xe s1
 have hE:∀{k:Nat} {ps:List Str} {sp:Sp} {x:Str} {e:Expr} {es:List Expr} {ta:TA} {p cpos:Pos} (_:CN X.prog X.w X.K X.mg X.base k x ps sp) (_:BC k X.A) (_:Gl X x) (_:∀pn E,QA (X.HN pn E) (e::es) ta) (_:Eg x) (_:Gi X e es) (_:Hf X cpos es),
   PE a5 (.Call (.Name x p) (e::es) [] cpos) (λσ' H' Q=>σ'=σ/\ta σ H' λvs H1=>sp vs H1 Q (Xq X.K i C ts D σ)):=by
  intro k ps sp x e es ta p cpos F hr a2 ha a1 he a3;show Ia F.ex λf fd F aF aE hb=>?_;intro aV s1 σ' H1 Q I1 h1;obtain⟨rfl,h1⟩:=h1;show NZ (G0 I1 a2 aF (PB (h₀:=X.base) I1.ok.mod.kin aE (AT ((ha _ _).go cpos aV s1 σ' H1 _ I1 h1) λus s2 ⟨vs,H2,O,r,q⟩=>⟨O.EE,?_⟩) he a3) a1);have hl:us.length=ps.length:=by rw[← r.length];show F.len _ _ _ _ q
  have aA:BindsTo s2 fd ⟨us,[]⟩ (ps.zip us):=by
   have:=hb s2 us O.EE (by simpa using hl);simpa using this
  show wpAny_call (OI (F.run X.A X.stack s2 H2 ⟨us,[]⟩ us vs Q _ hr O.env0 aA r q) λr s' Y=>?_)
  cases r with
  | error e=>show An5 (cp:=cp) (hpos:=hpos) hN hi hk aH aD hg hm aB hs (O.GO I.ok rfl) Y
  | ok fl=>
   cases fl with
   | ret u=>show O.after Y
   | next=>show False.elim Y
   | brk=>show False.elim Y
   | cont=>show False.elim Y
 have hS:IU a5 [.If c [.Expr (.Call (.Name x p) (e::es) [] cpos) a6] [.Expr (.Call (.Name x' p') (e'::a0) [] a4) a7] aU] _:=Rm (ps_if (ht _ _).go (Rm (Wl (hE F hr a2 ha a1 he a3) aI)) (Rm (Wl (hE F' aG aN a9 aM aC aP) aQ)));show NY (hS [] s σ H D (I.HN rfl) h) (λfl s1 z=>?_) λ_ _ z=>z
 cases fl with
 | next=>
  show C8 z λσ1 H1 J q=>wpAny_execs_nil (C6 σ1 H1 (J.GO I.ok rfl) q)
 | brk=>
  show C8 z λσ1 H1 J q=>C6 σ1 H1 (J.GO I.ok rfl) q
 | cont=>
  show C8 z λσ1 H1 J q=>C6 σ1 H1 (J.GO I.ok rfl) q
 | ret u=>
  show He z λv σ1 H1 J r q=>Kl v σ1 H1 (J.GO I.ok rfl) r q
end L2
namespace R5
open PySem PySem.Spec PyProof PyProof.Rows L2 T
def boot_VE:bootBuiltins "ValueError"=some (.type "ValueError"):=by decide +kernel
def IZ (n:Nat)(t:Th)(b:Bool):Prop:=(L6 t "program"=false/\b=false)\/∃I AB AC more,t=.tup (.wd "program"::I)/\I.filter JN=AC.map Ca/\I.take (I.length-AC.length)=AB.map Cv++more/\I.length<=900/\(∀n fl,(n,fl)∈AB->RecO n fl) /\
 ((∃O Y,more=O::Y/\L6 O "record"=false/\b=false)\/(more=[]/\(AB.map (·.1)).Nodup/\(∀f∈AC,HeadO AB f)/\((¬((AC.map (·.nm)).Nodup/\("main":Str)∈AC.map (·.nm))/\b=false)\/(CS AB AC/\(∀f∈AC,∀t∈f.ts,BF n t)/\b=true))))
def As0 (cR:Addr)(n:Nat):Sp:=λvs H Q E=>∃v t b,vs=[v]/\AQ H v t/\IZ n t b/\(b=true->∀H',AA H H'->Q .BI H')/\(b=false->∀H',AA H H'->E (.ref cR) none H')
def lb_lk:∀vs H Q E,As0 cR n vs H Q E->spLk cR n vs H Q E:=by
 rintro vs H Q E ⟨v,t,b,rfl,hi,h,k1,k2⟩;show Al v t rfl hi ?_;rcases h with⟨a,e⟩|⟨a6,AB,AC,more,Y,a2,a3,a4,a5,h⟩
 .show .inl ⟨a,k2 e H (AA.refl H)⟩
 show .inr (Cm a6 AB AC more Y a2 a3 a4 a5 ?_);rcases h with⟨a0,m',b1,I,e⟩|⟨b1,I,O,h⟩
 .show .inl (Al a0 m' b1 I (k2 e))
 .rcases h with⟨c,e⟩|⟨c,d,e⟩
  .show .inr (C7 b1 I O (.inl ⟨c,k2 e⟩))
  .show .inr (C7 b1 I O (.inr (Az c d (k1 e))))
def spTR (cT cR:Addr)(n:Nat):Sp:=λvs H Q E=>∃x th b,vs=[.str x]/\HX x th b/\(b=false->∀H',AA H H'->E (.ref cT) none H')/\(b=true->∃I,IZ n th I/\(I=true->∀v H',AQ H' v th->AA H H'->Q v H')/\(I=false->∀H',AA H H'->E (.ref cR) none H'))
noncomputable def M4 (b:Bool):List Str:=if b=true then[] else["NoTree"]
def Af4 (cT cR:Addr):Sp:=λvs H Q _=>∃a c nm,vs=[.ref a]/\((c=cT/\nm=("NoText":Str))\/(c=cR/\nm=("NoTree":Str)))/\H a=some (.ext (XO a (.ref c)))/\∀l H',AA H H'->H l=none->H' l=some (.lst [V.str nm])->Q (.ref l) H'
def Ans (n:Nat)(H:Hp)(v:V)(way:Int)(I:List Str):Prop:=(way=0/\∃t b,AQ H v t/\IZ n t b/\I=M4 b)\/(way=1/\∃x th b,v=.str x/\HX x th b/\((b=false/\I=[("NoText":Str)])\/(b=true/\∃O,IZ n th O/\I=M4 O)))
def spRf (n:Nat):Sp:=λvs H Q _=>∃v way I,vs=[v,.int way]/\Ans n H v way I/\∀l H',AA H H'->H l=none->H' l=some (.lst (I.map V.str))->Q (.ref l) H'
section
variable {P:Program}{w:World}{K:Av}{mg:Cb}{base:Heap}{cP cT cR cM cA cS:Addr}{t3 t4:Tok}
def FC:AD ["text","tree"] ["text"] (Ao Pj):=FS
def Wq (hk:5<=k)(F:As K "tree_read" "tree_read" Pj f fd)(a2:CN P w K mg base 5 "brackets_read" ["text"] (spBR cT))(a1:CN P w K mg base k "look_at_tree" Em (As0 cR n)):AH P w K mg base (HD P w) (k+1) f fd ["text"] (spTR cT cR n):=by
 show F.JK FC λcdv A outer s H vs Q E hr h=>?_
 .show Ig h λx th b z1 z2 k2 k1=>?_;subst z1;obtain⟨⟨tks,a0,run⟩,ln⟩:=z2;have nd:=FC.nd;exists Ae (Cl 1 nd (JI a2 (Ip Ck rfl) hr (AM (qv 0)))) (Ae (Au (JI a1 (Ip Ck rfl) hr (AM (qv 1)))) (Ak (Ar (qv 1))))
  show Ad rfl (Cm x tks th b rfl a0 ln run (λhb v H1 I s1=>(Bg (k1 hb) λO lk Y q2=>(Ad rfl (Ep v th O rfl I lk (λh2 H2 s2=>(Ad rfl (Y h2 v H2 (I.mono s2.AF) (s1.trans s2)))) λh2 H2 s2=>q2 h2 H2 (s1.trans s2))))) k2)
def EF:AD ["_law_e","_law_some"] ["_law_e"] (Ao Ps):=FS
def Wu (F:As K "_law_kinds" "_law_kinds" Ps f fd)(T:At K mg)(I:TxX K mg cP cT cR cM cA cS t3 t4):IT P w K mg base 1 f fd ["_law_e"] (Af4 cT cR):=by
 show F.okH EF (λvs H Q h=>?_) (λcdv A outer s H vs Q hr h=>?_)
 .show Gh h λa c nm z1 _=>?_;subst z1;rfl
 .show Ig h λa c nm z1 hc ha k=>?_;subst z1;have nd:=EF.nd;have a5:(16000000:Nat)<=sizeLine:=by rw[LJ];omega
  obtain⟨bT,bR,X⟩:∃bT bR,Cl5 K cP cT cR cM cA cS c bT bR/\((bT=true/\bR=false/\nm="NoText")\/(bT=false/\bR=true/\nm="NoTree")):=by
   rcases hc with⟨rfl,rfl⟩|⟨rfl,rfl⟩
   .show Xk I.T (.inl (Az rfl rfl rfl))
   .show Xk I.R (.inr (Az rfl rfl rfl))
  obtain⟨X,hb⟩:=X;exists Ae (Cl 1 nd (B2 Fa)) (Ae (Bj (Eb (Bc Um rfl T.AE Bv (AS (qv 0) (Bk (BV (Im rfl I.g_A) (Im rfl I.g_M) (Im rfl I.g_S)))))) (Ak (Au (Gc KY LQ LR Ec (qv 1) (AM Ai)))) Ax) (Ae (Bj (Eb (Bc Kt rfl T.AE Bv (AS (qv 0) (Im rfl I.g_T)))) (Ak (Au (Gc KY LQ LR Ec (qv 1) (AM Ai)))) Ax) (Ae (Bj (Eb (Bc Kt rfl T.AE Bv (AS (qv 0) (Im rfl I.g_R)))) (Ak (Au (Gc KY LQ LR Ec (qv 1) (AM Ai)))) Ax) (Ae (Bj (Fz (Eb (Bc Kt rfl T.AE Bv (AS (qv 0) (Cn (v:=.ty "ValueError") rfl I.nV boot_VE rfl))))) (Ak (Au (Gc KY LQ LR Ec (qv 1) (AM Ai)))) Ax) (Ak (Ar (qv 1)))))))
  show⟨(zl 0),λp hp=>?_⟩;have s0:=(AA.refl H).upd (o:=.lst []) hp;have g0:=Ah (H:=H) (a:=p) (o:=.lst []);have a0:=s0 _ _ ha;generalize upd H p (.lst [])=H1 at *;show Bh rfl (zl 3) λtp a3=>?_;have s1:=s0.upd (o:=.tup [V.ref cA,V.ref cM,V.ref cS]) a3;have Y:upd H1 tp (.tup [V.ref cA,V.ref cM,V.ref cS]) p=some (.lst []):=by rw[Aj (Af g0 a3)];show g0
  have O:=s1 _ _ ha;have a4:=Ah (H:=H1) (a:=tp) (o:=.tup [V.ref cA,V.ref cM,V.ref cS]);show F5 a c tp _ _ rfl a4 (by intro v hv;simp at hv;rcases hv with rfl|rfl|rfl<;>trivial) O X.xc ⟨X.i3,(Ad rfl (Jo ?_))⟩;generalize upd H1 tp (.tup [V.ref cA,V.ref cM,V.ref cS])=H2 at *;have s2:AA H (upd H2 p (.lst ([]++[V.str nm]))):=CI s1 hp;have a2:=s2 _ _ ha;have g2:=Ah (H:=H2) (a:=p) (o:=.lst ([]++[V.str nm]));rcases hb with⟨rfl,rfl,rfl⟩|⟨rfl,rfl,rfl⟩
  .show Ad rfl (Cm a c _ _ rfl trivial O X.xc X.iT (Ad rfl (E7 ?_)));show Bh rfl (.inl ⟨rfl,_,AO.of Y⟩) (Ep p _ _ rfl rfl Y (by show 0+1<=sizeLine;omega) ?_);generalize upd H2 p (.lst ([]++[V.str "NoText"]))=H3 at *;show Ad rfl (Cm a c _ _ rfl trivial a2 X.xc X.iR (Ad rfl (Jo (Ad rfl (Cm a c _ _ rfl trivial a2 X.xc X.iV (Ad rfl (Jo (Ad rfl (k p H3 s2 hp g2)))))))))
  .show Ad rfl (Cm a c _ _ rfl trivial O X.xc X.iT (Ad rfl (Jo (Ad rfl (Cm a c _ _ rfl trivial O X.xc X.iR (Ad rfl (E7 ?_)))))));show Bh rfl (.inl ⟨rfl,_,AO.of Y⟩) (Ep p _ _ rfl rfl Y (by show 0+1<=sizeLine;omega) ?_);generalize upd H2 p (.lst ([]++[V.str "NoTree"]))=H3 at *;show Ad rfl (Cm a c _ _ rfl trivial a2 X.xc X.iV (Ad rfl (Jo (Ad rfl (k p H3 s2 hp g2)))))
abbrev Ag8:List Str:=["_law_thing","_law_way"]
def DI:AD ["_law_thing","_law_way","_law_kinds_here","_law_e"] Ag8 (Ao Lo):=FS
def Sv (hk:1<=k)(F:As K "_law_refused" "_law_refused" Lo f fd)(T:At K mg)(TX:TxX K mg cP cT cR cM cA cS t3 t4)(a4:CN P w K mg base k "look_at_tree" Em (As0 cR n))(a2:CN P w K mg base k "tree_read" ["text"] (spTR cT cR n))(a3:FnBH P w K mg base 1 "_law_kinds" ["_law_e"] (Af4 cT cR)) :
  AH P w K mg base BE (k+1) f fd Ag8 (spRf n):=by
 show F.By DI λcdv A outer s H vs Q E hr h=>?_
 .show He h λv way ls z1 an kq=>?_;subst z1;have nd:=DI.nd;exists Ae (Cl 2 nd (B2 Fa)) (Ae (qs_tryI (i:=3) nd rfl rfl rfl rfl a4 (hr.mono (by omega)) a2 (hr.mono (by omega)) rfl rfl rfl TX.g_P (λ_ _=>(BM Cf (qv 1) Ag)) (λ_ _=>(AM (qv 0))) (λ_ _=>(AM (qv 0))) (λ_ _=>(Ak (Cl 2 nd (qe_fnH a3 ((hr.mono (by omega)).h _) rfl (AM (qv 3))))))) (Ak (Ar (qv 2))))
  show⟨(by show 0<=sizeLine;rw[LJ];omega),λp a0=>?_⟩;have O:=(AA.refl H).upd (o:=.lst []) a0;have g0:=Ah (H:=H) (a:=p) (o:=.lst []);generalize upd H p (.lst [])=H1 at *;rcases an with⟨rfl,t,b,hi,lk,rfl⟩|⟨rfl,x,th,b,rfl,a1,an⟩
  .show Bh rfl rfl (Ad rfl (E7 ⟨rfl,(Ad rfl (Ep v t b rfl (hi.mono O.AF) lk (λhb H2 s2=>?_) λhb H2 s2=>⟨TX.R.mt,λa ha=>?_⟩))⟩))
   .subst hb;show Ad rfl (kq p H2 (O.trans s2) a0 (s2 _ _ g0))
   .subst hb;have I:=(O.trans s2).upd (o:=.ext (XO a (.ref cR))) ha;show Ad rfl (Ei a cR "NoTree" rfl (.inr ⟨rfl,rfl⟩) Ah λl Y s4 hl g4=>(Ad rfl (kq l Y (I.trans s4) (I.free hl) g4)))
  .show Bh rfl rfl (Ad rfl (Jo ⟨rfl,(Ad rfl (Ei x th b rfl a1 (λhb H2 s2=>⟨TX.T.mt,λa ha=>?_⟩) λhb=>?_))⟩))
   .rcases an with⟨_,rfl⟩|⟨z,_⟩
    .have I:=(O.trans s2).upd (o:=.ext (XO a (.ref cT))) ha;show Ad rfl (Ei a cT "NoText" rfl (.inl ⟨rfl,rfl⟩) Ah λl Y s4 hl g4=>(Ad rfl (kq l Y (I.trans s4) (I.free hl) g4)))
    .rw [hb]at z;cases z
   .rcases an with⟨z,_⟩|⟨_,b',lk,rfl⟩
    .rw [hb]at z;cases z
    show Bx b' lk (λh2 v H2 hv s2=>?_) λh2 H2 s2=>⟨TX.R.mt,λa ha=>?_⟩
    .subst h2;show Ad rfl (kq p H2 (O.trans s2) a0 (s2 _ _ g0))
    .subst h2;have I:=(O.trans s2).upd (o:=.ext (XO a (.ref cR))) ha;show Ad rfl (Ei a cR "NoTree" rfl (.inr ⟨rfl,rfl⟩) Ah λl Y s4 hl g4=>(Ad rfl (kq l Y (I.trans s4) (I.free hl) g4)))
end
def Rr {AB:List (Str×List Str)}{AC:List HA}:(AB.map Cv++AC.map Ca).filter JN=AC.map Ca:=by rw[OM,Zl,Zm,QM]
section
def Mj (h:L6 t "program"=false):IZ n t false:=.inl ⟨h,rfl⟩
def Xo (I:CS AB AC):∀f∈AC,HeadO AB f:=λf hf=>by
 show Ib (I.fo f hf) λO Y a3 a4 a5 z1=>Ch z1 λa6 a7 _=>D8 O Y a3 a4 a5 ⟨a6,a7⟩
def lk_good (I:CS AB AC)(h:∀f∈AC,∀t∈f.ts,BF n t)(hl:AB.length+AC.length<=900):IZ n (.tup (.wd "program"::(AB.map Cv++AC.map Ca))) true:=by
 show .inr (Cm _ AB AC [] rfl Rr ?_ (by rw[JX,JR,JR];show hl) I.ro (.inr (C7 rfl I.rn (Xo I) (.inr (Az I h rfl)))));rw[JX,JR,JR,Nat.add_sub_cancel,MN,OC (by rw[JR];show JV _),LP (by rw[JR];show JV _)]
def Xf (I:CS AB AC)(hl:AB.length+AC.length<=800)(x:Th)(hx:JN x=false):IZ n (.tup (.wd "program"::(AB.map Cv++AC.map Ca++[x]))) false:=by
 show Am I.mn λf hf _=>?_;obtain⟨g,r,e⟩:∃g r,AC=g::r:=by cases AC with|nil=>cases hf|cons g r=>show Uj g r rfl
 show .inr (Cm _ AB AC [Ca g] rfl ?_ ?_ (by simp;omega) I.ro (.inl (Al (Ca g) [] rfl (by show decide (("fun":Str)="record")=false;decide) rfl)))
 .rw [OM,Rr,NN (by rw[hx];decide),QN,MN]
 .subst e;have:(AB.map Cv++(g::r).map Ca++[x]).length-(g::r).length=AB.length+1:=by simp;omega
  rw[this,List.append_assoc,List.take_append,JR,LP (by rw[JR];omega),show AB.length+1-AB.length=1 by omega];rfl
def lk_ahead (I:CS AB AC)(hl:AB.length+AC.length<=800)(x:Th)(hx:JN x=false)(hr:L6 x "record"=false):IZ n (.tup (.wd "program"::x::(AB.map Cv++AC.map Ca))) false:=by
 show .inr (Cm _ [] AC (x::AB.map Cv) rfl ?_ ?_ (by simp;omega) (λn fl h=>by cases h) (.inl (Al x _ rfl hr rfl)))
 .rw [NN (by rw[hx];decide),Rr]
 .have:(x::(AB.map Cv++AC.map Ca)).length-AC.length=AB.length+1:=by simp;omega
  rw[this,OH,OC (by rw[JR];show JV _),LP (by rw[JR];show JV _)];rfl
def lk_only (x:Th)(hx:JN x=false)(hr:L6 x "record"=false):IZ n (.tup [.wd "program",x]) false:=
 .inr (Cm [x] [] [] [x] rfl (by rw[NN (by rw[hx];decide)];rfl) rfl (by simp) (λn fl h=>by cases h) (.inl (Al x [] rfl hr rfl)))
def lk_bare:IZ n (.tup [.wd "program"]) false:=
 .inr (Cm [] [] [] [] rfl rfl rfl (by simp) (λn fl h=>by cases h) (.inr (C7 rfl List.nodup_nil (λf h=>by cases h) (.inl ⟨λz=>(KU z.2),rfl⟩))))
def Ad1 (I:CS AB AC)(hl:AB.length+AC.length<=800){a b:List HA}{g:HA}(e:AC=a++g::b)(hg:g.nm="main"):IZ n (.tup (.wd "program"::(AB.map Cv++(a++{g with nm:="maim"}::b).map Ca))) false:=by
 show .inr (Cm _ AB (a++{g with nm:="maim"}::b) [] rfl Rr ?_ (by rw[e]at hl;simp at hl ⊢;omega) I.ro (.inr (C7 rfl I.rn (λf hf=>?_) (.inl ⟨λz=>?_,rfl⟩))))
 .rw [JX,JR,JR,Nat.add_sub_cancel,MN,OC (by rw[JR];show JV _),LP (by rw[JR];show JV _)]
 .rcases KQ.mp hf with h|h
  .show Xo I f (by rw[e];show MD _ h)
  rcases JT.mp h with rfl|h
  .have:=Xo I g (by rw[e];simp);show⟨show Dd "maim"=true by decide +kernel,this.2⟩
  .show Xo I f (by rw[e];show LB _ (JS _ h))
 .have nd:=I.fn;rw[e,KZ,KE,hg]at nd;have nd:=LX.mp nd;have z:=z.2;rw[KZ,KE]at z
  rcases KQ.mp z with z|z
  .show nd.2.2 _ z _ JY rfl
  rcases JT.mp z with z|z
  .show absurd (show("main":Str)="maim" from z) (by decide)
  .show (NR.mp nd.2.1).1 z
end
noncomputable def zqT:Th:=.tup [.wd "record",.wd "zq",.wd "a"]
noncomputable def Z6 (ps I:List Th):List Th:=[.tup (.wd "programs"::ps),.tup (.wd "program"::(ps++[zqT])),.tup (.wd "program"::I),.wd "main",.num 7,.tup [],.tup [.wd "program"],
 .tup ps,.tup [.tup (.wd "program"::ps)],.tup (.wd "program"::(ps++[.tup []])),.tup (.wd "program"::(ps++[.wd "fun"])),.tup [.wd "program",.tup ps],.tup (.wd "program"::.wd "program"::ps)]
def C9 {a:Th}{l:List Th}{k:Nat}(ha:Wf Wx a/\BF 13 a)(h:∀t∈l,Wf Wx t/\BF 13 t):∀t∈a::l,Wf Wx t/\BF 13 t:=λt ht=>by
 rcases JT.mp ht with rfl|ht
 .show ha
 .show h t ht
def Tm {m:List Th}(h:∀t∈l,Wf Wx t/\BF 13 t)(h':∀t∈m,Wf Wx t/\BF 13 t):∀t∈l++m,Wf Wx t/\BF 13 t:=λt ht=>(KQ.mp ht).elim (h t) (h' t)
def Ak1 {AB:List (Str×List Str)}{AC a b:List HA}{g:HA}(TR:CS AB AC)(hf:∀f∈AC,(∀t∈f.ts,BF 11 t)/\Cg f.ts<=554342)(a2:AB.length<=5)(a1:AC.length<=3)(e:AC=a++g::b)(hg:g.nm="main") :
  ∀t∈Z6 (AB.map Cv++AC.map Ca) (AB.map Cv++(a++{g with nm:="maim"}::b).map Ca),Fits t/\IZ 11 t false:=by
 obtain⟨one,z⟩:=Ry TR hf a2 a1;have all:∀t∈AB.map Cv++AC.map Ca,Wf Wx t/\BF 13 t:=λt ht=>⟨(one t ht).1,(one t ht).2.mono (by decide)⟩;have kw:∀{x:Str},Wx x->Wf Wx (.wd x)/\BF 13 (.wd x):=λh=>⟨Fq h,Dv⟩;have Y:∀t∈([]:List Th),Wf Wx t/\BF 13 t:=λt h=>by cases h
 have O:Wx "program":=.inr (by decide);have hd:∀x:Str,L6 (.tup (AB.map Cv++AC.map Ca)) x=false:=λx=>by
  cases h:AB.map Cv++AC.map Ca with
  | nil=>rfl
  | cons p l=>
   have:p∈AB.map Cv++AC.map Ca:=by rw[h];show JY
   show Zt (Ab8 this) λy r z1=>?_;subst z1;rfl
 have a0:(∀t∈AB.map Cv++(a++{g with nm:="maim"}::b).map Ca,Wf Wx t/\BF 13 t)/\Cg (AB.map Cv++(a++{g with nm:="maim"}::b).map Ca)<=1663200:=by
  have e1:AB.map Cv++AC.map Ca=(AB.map Cv++a.map Ca)++Ca g::b.map Ca:=by rw[e];simp
  have e2:AB.map Cv++(a++{g with nm:="maim"}::b).map Ca=(AB.map Cv++a.map Ca)++Ca {g with nm:="maim"}::b.map Ca:=by simp
  have eg:BL (Ca {g with nm:="maim"})=BL (Ca g):=by simp only[Ca,BL,Cg]
  rw[e1]at all z;rw[e2];show⟨λt ht=>?_,by rw[Ek,Cg]at z ⊢;rw[eg];show z⟩
  rcases KQ.mp ht with ht|ht
  .show all t (MD _ ht)
  rcases JT.mp ht with rfl|ht
  .obtain⟨w,d⟩:=all (Ca g) (LB _ JY);show⟨?_,Dy λu I=>?_⟩
   .rw [Ca,Wf]at w;have w:=Ap6 w;show Ea (CJ Fr (CJ (Fq (.inl (show Dd "maim"=true by decide +kernel))) λu I=>w u (JS _ (JS _ I))))
   .have d:=Ee d
    rcases JT.mp I with rfl|I
    .show Dv
    rcases JT.mp I with rfl|I
    .show Dv
    .show d u (JS _ (JS _ I))
  .show all t (LB _ (JS _ ht))
 have le:AB.length+AC.length<=800:=by omega
 have zz:BL zqT=5:=by simp only[zqT,BL,Cg]
 intro t ht;unfold Z6 at ht;simp only[JT,KU,MB]at ht
 rcases ht with rfl|rfl|rfl|rfl|rfl|rfl|rfl|rfl|rfl|rfl|rfl|rfl|rfl
 .show⟨Et (C9 (k:=0) (kw (.inl (by decide +kernel))) all) (by rw[Cg,BL];omega),Mj (by show decide (("programs":Str)="program")=false;decide)⟩
 .show⟨Et (C9 (k:=0) (kw O) (Tm all (C9 (k:=0) ⟨Ea (CJ Fr (CJ (Fq (.inl (by decide +kernel))) (CJ (Fq (.inl (by decide +kernel))) IE))),Dy (Cq Dv (Cq Dv (Cq Dv Ow)))⟩ Y))) (by rw[Cg,BL,Ek,Cg,Cg,zz];omega),Xf TR le _ (by show decide (("record":Str)="fun")=false;decide)⟩
 .show⟨Et (C9 (k:=0) (kw O) a0.1) (by have:=a0.2;rw[Cg,BL];omega),Ad1 TR le e hg⟩
 .show⟨⟨Fq (.inl (by decide +kernel)),Dv,by rw[BL];omega⟩,Mj rfl⟩
 .show⟨⟨by rw[Wf];decide,Rs,by rw[BL];omega⟩,Mj rfl⟩
 .show⟨Et Y (by rw[Cg];omega),Mj rfl⟩
 .show⟨Et (C9 (k:=0) (kw O) Y) (by rw[Cg,BL,Cg];omega),lk_bare⟩
 .show⟨Et all (by omega),Mj (hd _)⟩
 .show⟨Et (C9 (k:=0) ⟨Ea λu I=>(C9 (k:=0) (kw O) all u I).1,Dy (Cq Dv λu I=>(one u I).2)⟩ Y) (by rw[Cg,BL,Cg,Cg,BL];omega),Mj rfl⟩
 .show⟨Et (C9 (k:=0) (kw O) (Tm all (C9 (k:=0) ⟨Ea IE,Dy Ow⟩ Y))) (by rw[Cg,BL,Ek,Cg,Cg,BL,Cg];omega),Xf TR le _ rfl⟩
 .show⟨Et (C9 (k:=0) (kw O) (Tm all (C9 (k:=0) (kw (.inr (by decide))) Y))) (by rw[Cg,BL,Ek,Cg,Cg,BL];omega),Xf TR le _ rfl⟩
 .show⟨Et (C9 (k:=0) (kw O) (C9 (k:=0) ⟨Ea λu I=>(all u I).1,Dy λu I=>(one u I).2⟩ Y)) (by rw[Cg,BL,Cg,BL,Cg];omega),lk_only _ (hd _) (hd _)⟩
 .show⟨Et (C9 (k:=0) (kw O) (C9 (k:=0) (kw O) all)) (by rw[Cg,BL,Cg,BL];omega),lk_ahead TR le _ rfl rfl⟩
def fnDown {P:Program}{w:World}{K:Av}{mg:Cb}{base:Heap}{k:Nat}{f:Addr}{fd:FuncData}{ps:List Str}{sp:Sp}(F:AH P w K mg base (HD P w) k f fd ps sp):AH P w K mg base BE k f fd ps (λvs H Q _=>sp vs H Q λ_ _ _=>False):=
 ⟨λvs H Q E q=>F.len vs H Q _ q,λA outer s H args us vs Q E hr he hb I hs=>OI (F.run A outer s H args us vs Q _ hr he hb I hs) λr s' h=>by
  cases r with
  | error e=>
   exfalso;obtain⟨_,_,_,_,_,_,_,_,_,_,_,_,_,_,h⟩:=h;show h
  | ok fl=>cases fl<;>show h⟩
def slB {K:Av}{xs:List V}{lo:Option Int}(ha:H a=some (.tup xs))(k:∀p H',AA H H'->H' p=some (.tup (Ef xs lo hi))->Q (.ref p) H'):rSlB K (.ref a) lo hi H Q:=by
 show Co a xs rfl (.inl (.inl ha)) (λz=>k a H (AA.refl H) ?_) λ_ p I=>k p _ ((AA.refl H).upd I) Ah;rw[ha];unfold Ef;rw[z.1,z.2,List.drop_zero,Nat.sub_zero,LY]
def Zu (xs:List V)(n:Nat):Ef xs none (some (n:Int))=xs.take n:=by
 unfold Ef;rw[HT.FL,HT.CB,List.drop_zero,Nat.sub_zero];by_cases c:n<=xs.length
 .rw [NT c]
 .rw [OY (by omega),LP (JV _),LP (by omega)]
theorem Aq2:∀{us:List V} {l:List Th} (n:Nat),AI H us l->AI H (us.drop n) (l.drop n)
 | _,_,0,h=>h
 | _,[],n+1,h=>by cases(show _=[] from h);show rfl
 | _,t::r,n+1,h=>by
  show A0 h λv vr z1 _ h2=>?_;subst z1;show Aq2 n h2
def spWr:Sp:=λvs H Q _=>∃v t c,vs=[v,.int c]/\AQ H v t/\Aj7 t/\∀I t' H',AQ H' I t'->Fits t'->IZ 11 t' false->AA H H'->Q I H'
def main_at (I:CS AB AC):∃(a:List HA) (g:HA) (b:List HA),AC=a++g::b/\g.nm="main"/\∀f∈a,f.nm≠"main":=by
 show Bg I.mn λf hf hn _=>?_;show Zt (List.append_of_mem hf) λa b z1=>?_;subst z1;show Kl a f b rfl hn λx hx z=>?_;have:=I.fn;rw[KZ,KE,hn]at this;show(LX.mp this).2.2 _ (KI.mpr (Aq x hx z)) _ JY rfl
noncomputable def pnm:Th->Str
 | .tup (_::.wd n::_)=>n
 | _=>""
def part_at {AB:List (Str×List Str)}{AC:List HA}(h:t∈AB.map Cv++AC.map Ca)(hi:AQ H v t):∃b w r,v=.ref b/\H b=some (.tup (w::.str (pnm t)::r)):=by
 have:∃y n l,t=.tup (.wd y::.wd n::l):=by
  rcases KQ.mp h with h|h
  .show Am (KI.mp h) λp _ z1=>?_;subst z1;show jj30 rfl
  .show Am (KI.mp h) λp _ z1=>?_;subst z1;show jj30 rfl
 show Jt this λy n l z1=>?_;subst z1;show A0 hi λb us z1 I z2=>A0 z2 λY r0 z3 h0 z4=>A0 z4 λv1 O z5 h1 h2=>?_;subst z1 z3 z5;cases(show v1=.str n from h1);show Nm b Y O rfl I
section
variable {P:Program}{w:World}{K:Av}{mg:Cb}{base:Heap}
abbrev Ah0:List Str:=["_law_tree_here","_law_cell_here"]
def EK:AD ["_law_tree_here","_law_cell_here","_law_mains","_law_renamed","_law_some"] Ah0 (Ao Pn):=FS
def Ws (F:As K "_law_wrong" "_law_wrong" Pn f fd)(T:At K mg):AH P w K mg base BE 1 f fd Ah0 spWr:=by
 show F.By EK λcdv A outer s H vs Q E hr h=>?_
 . show Ig h λv t c z1 hi tg k=>?_;subst z1;have nd:=EK.nd;show Kq tg λAB AC z1 TR h6 hf ah aP=>?_;subst z1;show He (main_at TR) λO g fb ef hg aW=>?_;have ok:=Ak1 TR (λf h=>(hf f h).2.2) ah aP ef hg;have aQ:=hi;show A0 hi λa bB z1 hu z2=>A0 z2 λv0 us z3 h0 hl=>?_;subst z1 z3;cases(show v0=.str "program" from h0);have len:=hl.len;have lp:(AB.map Cv++AC.map Ca).length<=8:=by rw[JX,JR,JR];omega
   obtain⟨I,ej⟩:∃j,j=AB.length+O.length:=⟨_,rfl⟩;have b5:∀i t,(AB.map Cv++AC.map Ca)[i]?=some t->(i<I->pnm t≠"main")/\(i=I->pnm t="main"):=λi t ht=>by
     by_cases c:i<AB.length
     . rw[NV (by rw[JR];show c)]at ht;show Am (Ku ht) λp hp z1=>?_;subst z1;show⟨λ_=>(h6 p (KR hp)).2,λz=>by omega⟩
     . rw[MH (by rw[JR];omega),JR]at ht;show Am (Ku ht) λp hp z1=>?_;subst z1;rw[ef]at hp;show⟨λz=>?_,λz=>?_⟩
       . rw[NV (by omega)]at hp;show aW p (KR hp)
       . rw[MH (by omega),show i-AB.length-O.length=0 by omega]at hp;cases hp;show hg
   exists Ae (Gw (i0:=2) nd rfl rfl rfl (N':=["_law_k","_law_tree_here"]) (n:=1) (js:=[0]) (AY.o ["_law_tree_here"]) rfl (Al8 rfl T.BK (AS Ag (Eh T.AR (qv 0)))) (λ_ _ _=>(Az (FX 0) (Mf (BM Cf (Da (show IH _ (Q5 K)from Hu) (Da (show IH _ (Q5 K)from Hu) (qv 1) (qv 0) (λ_ _=>rfl)) Ag (λ_ _=>rfl)) Ai)) (qv 0)))) (Ae (Cl 3 nd (Ap F9 (Ap F9 (Bu Jz (qv 0) Cc (Bq (Da Cy (qv 2) Ag (λ_ _=>rfl)))) (Bk (AM (Ap F9 (Bk (AS Ai Ai)) (Bu Jz (BY (qv 0) (Da Cy (qv 2) Ag (λ_ _=>rfl))) (Bq Ag) Cc))))) (Bu Jz (qv 0) (Bq (Ap Fg (Da Cy (qv 2) Ag (λ_ _=>rfl)) Ag)) Cc))) (Ae (Cl 4 nd (B2 (Di (Ap F9 (Bk (AM Ai)) (Bu Jz (qv 0) (Bq Ag) Cc)) (Di (Ap F9 (qv 0) (Bk (AM (Bk (BV Ai Ai Ai))))) (Di (qv 3) (EW Ai Ag (Bk Fa) (Bk (AM Ai)))))))) (Ae (Cl 4 nd (Ap Fe (qv 4) (B2 (Di (Bu Jz (qv 0) (Bq Ag) Cc) (Di (Bk (AM (qv 0))) (EW (Ap F9 (qv 0) (Bk (AM (Bk Fa)))) (Ap F9 (qv 0) (Bk (AM Ai))) (Bk (AS Ai (Bu Jz (qv 0) (Bq Ag) Cc))) (Ap F9 (Bu Jz (qv 0) Cc (Bq Ag)) (qv 0)))))))) (Ak (Ar (Da Cy (qv 4) (Ap Bl (qv 1) (Eh T.AR (qv 4))) (λ_ _=>rfl)))))))
   have a2:(V.str "program"::us).length=1+us.length:=by rw[KC];omega
   have lu:us.length<=8:=by rw[len];show lp
   have b7:(2000000:Nat)<=sizeLine:=by rw[LJ];omega
   have hj:I<us.length:=by rw[len,JX,JR,JR,ef,JX,KC];omega
   show Ad rfl (Al a _ rfl (.inr (.inl (.inl hu))) (Al 1 _ rfl (C7 (by decide) (by decide) (by omega) (by rw[a2];omega)) λD hD=>?_));show E5 (n:=(((V.str "program"::us).length:Int)-1).toNat) (λi ys σ H'=>(∃o,σ=[o,some (.ref a)])/\H' D=some (.lst ys)/\AA H H'/\ys.length<=i/\(i<=I->ys=[])/\(I<i->∃r,ys=.int (1+I)::r)) (by rw[a2];omega) (D8 ⟨_,rfl⟩ Ah ((AA.refl H).upd hD) (LN _) (λ_=>rfl) λz=>absurd z (NU _)) (λi ys σ H' hi ⟨_,hd,_,l,_⟩=>⟨hd,l⟩) ?_ ?_
   . rintro i ys σ H' hi ⟨⟨o,rfl⟩,hd,sm,ly,y0,y1⟩;have aU:i<us.length:=by rw[a2]at hi;omega
     have hv:us[i]?=some us[i]:=LC aU;show Am (hl.get hv) λt ht a3=>Gh (part_at (KR ht) a3) λb w0 r eb hb=>?_;obtain⟨n1,n2⟩:=b5 i t ht;show Ad rfl (Ad rfl (B0 a _ _ (us[i]) rfl rfl (BJ.of (sm _ _ hu)) (by rw[show(1:Int)+(i:Nat)=((1+i:Nat):Int)by omega];show Be (by rw[Nat.add_comm,OX];show hv)) (Cm b _ 1 (.str (pnm t)) eb rfl (BJ.of (sm _ _ hb)) (Be (j:=1) rfl) rfl (Ad rfl (B5 (λc=>?_) (λc=>?_))))))
     . have c:=IB c;show Ad3 rfl hd ⟨_,rfl⟩ Ah (CI sm hD) (Az (by rw[JX,LI];omega) (λz=>absurd c (n1 (by omega))) λz=>?_);by_cases e:i=I
       . rw[y0 (by omega),e];show⟨[],rfl⟩
       . obtain⟨r',er⟩:=y1 (by omega);rw[er];show⟨_,rfl⟩
     . have c:=seN c
       show D8 ⟨_,rfl⟩ hd sm (by omega) (λz=>y0 (by omega)) λz=>y1 (by
         by_cases e:i=I
         . show absurd (n2 e) c
         . omega)
   rintro ms σ H1 ⟨_,a8,s1,_,_,hm⟩;obtain⟨rm,em⟩:=hm (by rw[a2];omega);subst em;have a4:=s1 _ _ hu;have aC:=hl.mono s1.AF;dsimp only[BH]
   walk_at "n"
   have aE:us[I]?=some us[I]:=LC hj;have az:AQ H us[I] (Ca g):=by
     show Am (hl.get aE) λt ht a3=>?_;rw[MH (by rw[JR];omega),JR,ef,KZ,MH (by rw[JR];omega),JR,show I-AB.length-O.length=0 by omega]at ht;cases ht;show a3
   show A0 az λbm _ aK aN z1=>A0 z1 λw0 _ z2 al z3=>A0 z3 λw1 um z4 am aD=>?_;subst z2 z4;cases(show w0=.str "fun" from al);cases(show w1=.str g.nm from am);have aH:DY (V.str "program"::us) (1+I)=some (.ref bm):=by
     rw[show(1:Int)+(I:Nat)=((1+I:Nat):Int)by omega];show Be (by rw[Nat.add_comm,OX,aE,aK])
   show Dt (Ad rfl (Ad rfl (B0 D _ 0 (.int (1+I)) rfl rfl (AO.of a8) (Be (j:=0) rfl) (Ad rfl (slB a4 λp2 H2 s2 g2=>⟨zl 2,λq3 aY=>?_⟩)))));generalize z:upd H2 q3 _=H3;obtain⟨s3,g3⟩:=Bz aY z;have S3:=s2.trans s3;show Ad rfl (Ad rfl (B0 D _ 0 (.int (1+I)) rfl rfl (AO.of (S3 _ _ a8)) (Be (j:=0) rfl) (B0 a _ _ (.ref bm) rfl rfl (BJ.of (S3 _ _ a4)) aH (Aq 2 rfl ?_))));dsimp only[Jw];show slB (S3 _ _ (s1 _ _ aN)) λp4 H4 s4 g4=>?_;have b9:um.length<=20:=by
     have:=aD.len;have:=(hf g (by rw[ef];simp)).2.1;simp only[KC]at *;omega
   have e4:Ef (V.str "fun"::V.str g.nm::um) (some 2) none=um:=Dz _ 2;rw[e4]at g4;have e2:Ef (V.str "program"::us) none (some (1+(I:Int)))=V.str "program"::us.take I:=by
     rw[show(1:Int)+(I:Nat)=((1+I:Nat):Int)by omega,Zu,Nat.add_comm,OH]
   rw[e2]at g2;show O1 (s4 _ _ g3) g4 (by show 2+um.length<=1000;omega) λp5 H5 s5 g5=>⟨zl 1,λq6 ac=>?_⟩;generalize z:upd H5 q6 _=H6;obtain⟨s6,g6⟩:=Bz ac z;have S6:=s3.trans (s4.trans (s5.trans s6));show O1 (S6 _ _ g2) g6 (by show(us.take I).length+1+1<=1000;rw[LL];omega) λp7 H7 s7 g7=>?_;have S7:=s2.trans (S6.trans s7);have e8:Ef (V.str "program"::us) (some (1+(I:Int)+1)) none=us.drop (I+1):=by
     rw[show(1:Int)+(I:Nat)+1=((I+2:Nat):Int)by omega,Dz,List.drop_succ_cons]
   show Ad rfl (Ad rfl (B0 D _ 0 (.int (1+I)) rfl rfl (AO.of (S7 _ _ a8)) (Be (j:=0) rfl) (Aw rfl rfl (Ad rfl ?_))));dsimp only[Jw];show slB (S7 _ _ a4) λp8 H8 s8 g8=>?_;rw[e8]at g8;show O1 (s8 _ _ g7) g8 (by simp only[JX,KC,LL,NB,OE];omega) λp9 H9 s9 g9=>?_;have S9:=S7.trans (s8.trans s9);have eP:AB.map Cv++AC.map Ca=(AB.map Cv++O.map Ca)++Ca g::fb.map Ca:=by rw[ef];simp
   have lA:(AB.map Cv++O.map Ca).length=I:=by rw[JX,JR,JR,ej]
   have tA:AI H (us.take I) (AB.map Cv++O.map Ca):=by
     have:=hl.take I;rw[show(AB.map Cv++AC.map Ca).take I=AB.map Cv++O.map Ca by rw[eP,OC (Of lA.symm),← lA,LY]]at this;show this
   have tB:AI H (us.drop (I+1)) (fb.map Ca):=by
     have:=Aq2 (I+1) hl;rw[show(AB.map Cv++AC.map Ca).drop (I+1)=fb.map Ca by rw[eP,← lA,← List.drop_drop,List.drop_left];rfl]at this;show this
   have SH:=s1.trans S9;have t5:AQ H9 (.ref p5) (Ca {g with nm:="maim"}):=by
     show Al p5 _ rfl ((s6.trans (s7.trans (s8.trans s9))) _ _ g5) (Aw rfl rfl (Aw rfl rfl (aD.mono SH.AF)))
   have b6:AQ H9 (.ref p9) (.tup (.wd "program"::(AB.map Cv++(O++{g with nm:="maim"}::fb).map Ca))):=by
     show Al p9 _ rfl g9 ?_;have a1:AI H9 (V.str "program"::us.take I) (.wd "program"::(AB.map Cv++O.map Ca)):=(Aw rfl rfl (tA.mono SH.AF));have:=(a1.append (Hw t5)).append (tB.mono SH.AF);rw[show(.wd "program"::(AB.map Cv++(O++{g with nm:="maim"}::fb).map Ca):List Th)=(.wd "program"::(AB.map Cv++O.map Ca))++[Ca {g with nm:="maim"}]++fb.map Ca by simp];show this
   have a0:=S9 _ _ a4;have ay:AQ H9 (.ref a) (.tup (.wd "program"::(AB.map Cv++AC.map Ca))):=aQ.mono SH.AF;have ax:AI H9 us (AB.map Cv++AC.map Ca):=hl.mono SH.AF
   walk_at "n"
   have ed:Ef (V.str "program"::us) (some 1) none=us:=Dz _ 1;show Dt ⟨zl 1,λq1 aX=>?_⟩;generalize z:upd H9 q1 _=G1;obtain⟨u1,f1⟩:=Bz aX z;show Ad rfl (Aq 1 rfl ?_);dsimp only[Jw];show slB (u1 _ _ a0) λq2 G2 u2 f2=>?_;rw[ed]at f2;show O1 (u2 _ _ f1) f2 (by show 1+us.length<=1000;omega) λr1 G3 u3 f3=>(Bh rfl (zl 3) λq4 aZ=>?_);generalize z:upd G3 q4 _=G4;obtain⟨u4,f4⟩:=Bz aZ z;show⟨zl 1,λq5 aa=>?_⟩;generalize z:upd G4 q5 _=G5;obtain⟨u5,f5⟩:=Bz aa z;have U5:=u1.trans (u2.trans (u3.trans (u4.trans u5)));show O1 (U5 _ _ a0) f5 (by rw[a2];show 1+us.length+1<=1000;omega) λr2 G6 u6 f6=>(Bh rfl (zl 0) λq7 ae=>?_);generalize z:upd G6 q7 _=G7;obtain⟨u7,f7⟩:=Bz ae z;show⟨zl 1,λq8 ag=>?_⟩;generalize z:upd G7 q8 _=G8;obtain⟨u8,f8⟩:=Bz ag z;show⟨zl 7,λl1 aC=>?_⟩;generalize z:upd G8 l1 _=G9;obtain⟨u9,f9⟩:=Bz aC z;have U9:=U5.trans (u6.trans (u7.trans (u8.trans u9)))
   walk_at "n"
   show Dt (Ad rfl (Ad rfl (Aq 1 rfl ?_)));dsimp only[Jw];show slB (U9 _ _ a0) λr8 K1 w1 k1=>(Bh rfl (zl 1) λr9 ai=>?_);rw[ed]at k1;generalize z:upd K1 r9 _=K2;obtain⟨w2,k2⟩:=Bz ai z;show Bh rfl (zl 0) λaG b0=>?_;generalize z:upd K2 aG _=K3;obtain⟨w3,k3⟩:=Bz b0 z;show⟨zl 1,λaq b2=>?_⟩;generalize z:upd K3 aq _=K4;obtain⟨w4,k4⟩:=Bz b2 z;have W4:=U9.trans (w1.trans (w2.trans (w3.trans w4)));show O1 (W4 _ _ a0) k4 (by rw[a2];show 1+us.length+1<=1000;omega) λa9 K5 w5 k5=>(Bh rfl (zl 1) λau b3=>?_);generalize z:upd K5 au _=K6;obtain⟨w6,k6⟩:=Bz b3 z;have W6:=W4.trans (w5.trans w6);show O1 (W6 _ _ a0) k6 (by rw[a2];show 1+us.length+1<=1000;omega) λaA K7 w7 k7=>Ad rfl (Aq 1 rfl ?_);dsimp only[Jw];have W7:=W6.trans w7;show slB (W7 _ _ a0) λav K8 w8 k8=>⟨zl 2,λa5 b4=>?_⟩;rw[ed]at k8;generalize z:upd K8 a5 _=K9;obtain⟨w9,k9⟩:=Bz b4 z;have W9:=W7.trans (w8.trans w9);show Ad rfl (Ad rfl (slB (W9 _ _ a0) λbA L1 Y m1=>(Ad rfl ?_)));have aI:Ef (V.str "program"::us) none (some 1)=[V.str "program"]:=Zu _ 1;rw[aI]at m1;have X1:=W9.trans Y;show O1 m1 (X1 _ _ a0) (by rw[a2];show 1+(1+us.length)<=1000;omega) λaB L2 x2 m2=>⟨zl 6,λl2 aV=>?_⟩;generalize z:upd L2 l2 _=L3;obtain⟨x3,m3⟩:=Bz aV z;have Y3:=w1.trans (w2.trans (w3.trans (w4.trans (w5.trans (w6.trans (w7.trans (w8.trans (w9.trans (Y.trans (x2.trans x3))))))))));show Qm (Y3 _ _ f9) m3 (by show 7+6<=1000;decide) λl3 L4 h4 x4 m4=>?_
   walk_at "n"
   have Y4:=Y3.trans x4;have Z4:=U9.trans Y4;have kk:∀{b:Addr} {xs:List V},G3 b=some (.tup xs)->L4 b=some (.tup xs):=λh=>(u4.trans (u5.trans (u6.trans (u7.trans (u8.trans (u9.trans Y4)))))) _ _ h;have a6:AI L4 us (AB.map Cv++AC.map Ca):=ax.mono Z4.AF;have a7:AI L4 (V.str "program"::us) (.wd "program"::(AB.map Cv++AC.map Ca)):=(Aw rfl rfl a6);have all:AI L4 ([.ref r1,.ref r2,.ref p9,.str "main",.int 7,.ref q7,.ref q8]++[.ref r8,.ref r9,.ref a9,.ref aA,.ref a5,.ref aB]) (Z6 (AB.map Cv++AC.map Ca) (AB.map Cv++(O++{g with nm:="maim"}::fb).map Ca)):=by
     show Aw rfl (Al r1 _ rfl (kk f3) (Aw rfl rfl a6)) (Aw rfl (Al r2 _ rfl ((u7.trans (u8.trans (u9.trans Y4))) _ _ f6) (a7.append (Hw ?_))) (Aw rfl (b6.mono Z4.AF) (Aw rfl rfl (Aw rfl rfl (Aw rfl (Al q7 _ rfl ((u8.trans (u9.trans Y4)) _ _ f7) rfl) (Aw rfl (Al q8 _ rfl ((u9.trans Y4) _ _ f8) (Aw rfl rfl rfl))
       (Aw
 rfl (Al r8 _ rfl ((w2.trans (w3.trans (w4.trans (w5.trans (w6.trans (w7.trans (w8.trans (w9.trans (Y.trans (x2.trans (x3.trans x4))))))))))) _ _ k1) a6) (Aw rfl (Al r9 _ rfl ((w3.trans (w4.trans (w5.trans (w6.trans (w7.trans (w8.trans (w9.trans (Y.trans (x2.trans (x3.trans x4)))))))))) _ _ k2) (Hw (ay.mono Z4.AF)))
       (Aw
 rfl (Al a9 _ rfl ((w6.trans (w7.trans (w8.trans (w9.trans (Y.trans (x2.trans (x3.trans x4))))))) _ _ k5) (a7.append (Hw ?_))) (Aw rfl (Al aA _ rfl ((w8.trans (w9.trans (Y.trans (x2.trans (x3.trans x4))))) _ _ k7) (a7.append (Hw rfl)))
       (Aw
 rfl (Al a5 _ rfl ((Y.trans (x2.trans (x3.trans x4))) _ _ k9) (Aw rfl rfl (Aw rfl (Al av _ rfl ((w9.trans (Y.trans (x2.trans (x3.trans x4)))) _ _ k8) a6) rfl))) (Aw rfl (Al aB _ rfl ((x3.trans x4) _ _ m2) (Aw rfl rfl a7)) rfl))))))))))))
     . show Al q4 _ rfl ((u5.trans (u6.trans (u7.trans (u8.trans (u9.trans Y4))))) _ _ f4) (Aw rfl rfl (Aw rfl rfl (Aw rfl rfl rfl)))
     . show Al aG _ rfl ((w4.trans (w5.trans (w6.trans (w7.trans (w8.trans (w9.trans (Y.trans (x2.trans (x3.trans x4))))))))) _ _ k3) rfl
   show Am (show ∃j:Nat,c%13=j/\j<13 from La c 13 (by decide)) λj aJ b8=>?_;generalize aM:([.ref r1,.ref r2,.ref p9,.str "main",.int 7,.ref q7,.ref q8]++[.ref r8,.ref r9,.ref a9,.ref aA,.ref a5,.ref aB]:List V)=VL at m4 all;have aF:VL.length=13:=by rw[← aM];rfl
   obtain⟨x,hv⟩:∃x,VL[j]?=some x:=⟨_,LC (by omega)⟩;show Am (all.get hv) λt' aj a3=>?_;obtain⟨o1,o2⟩:=ok t' (KR aj);show Jd (Ad rfl (Ad rfl (Ad rfl (Al l3 _ rfl (.inl (AO.of m4)) (Cd rfl rfl (by show(0:Int)<((VL.length:Nat):Int);rw[aF];decide) (B0 l3 _ _ x rfl rfl (AO.of m4) ?_ (k _ t' L4 a3 o1 o2 (SH.trans Z4))))))))
   show DY VL (c%((VL.length:Nat):Int))=_
   rw[aF,show c%((13:Nat):Int)=(j:Int)from aJ];show Be hv
end
def Aa5 (K:Av):Sp:=λvs H Q _=>∃(a:Addr) (ns:List Int) (k:Int),vs=[.ref a,.int k]/\AO K H a (ns.map V.int)/\0<=k/\k<1000000/\∀c:Int,Q (.int c) H
def Af7 (K:Av):Sp:=λvs H Q _=>∃(a:Addr) (ns:List Int) (O I:Int),vs=[.ref a,.int O,.int I]/\AO K H a (ns.map V.int)/\0<=O/\O<=1000/\0<=I/\I<=1000 /\
 ∀(l:Addr) (zs:List Int) (H':Hp),H l=none->AA H H'->H' l=some (.lst (zs.map V.int))->zs.length=I.toNat->Q (.ref l) H'
section
variable {P:Program}{w:World}{K:Av}{mg:Cb}{base:Heap}
abbrev Yo:List Str:=["_law_script","_law_k"]
def FA:AD ["_law_script","_law_k","_law_spare"] Yo (Ao Sl):=FS
def Yv (F:As K "_law_cell" "_law_cell" Sl f fd)(T:At K mg):AH P w K mg base BE 1 f fd Yo (Aa5 K):=by
 show F.By FA λcdv A outer s H vs Q E hr h=>?_
 .show L9 h λa ns k z1 I h0 h1 Y=>?_;subst z1;have nd:=FA.nd;exists Ae (Bj (BM Yq (qv 1) (Eh T.AR (qv 0))) (Ak (Ar (Da Cy (qv 0) (qv 1) (λ_ _=>rfl)))) Ax) (Ae (Cl 2 nd (Ap Fg Ag (Ap Gk (Ap Gk Ag (qv 1)) (qv 1)))) (Ae (Bj (BM E8 (Eh T.AR (qv 0)) Ag) (Ak (Cl 2 nd (Ap Fg (qv 2) (Ap Gk (Ap Bl (Da Cy (qv 0) Ag (λ_ _=>rfl)) Ag) (Ap Fg (Ap Gk Ag (qv 1)) Ag))))) Ax) (Ak (Ar (qv 2)))))
  show Ad rfl (Ad rfl (Al a _ rfl (.inl I) (Aw rfl rfl (Ad rfl (B5 (λh=>?_) (λh=>?_))))))
  .have hk:=KP h;rw[JR]at hk;obtain⟨c,O⟩:=Aj5 h0 hk;show Ad rfl (Ad rfl (B0 a _ _ _ rfl rfl I O (Y c)))
  .show Ad rfl (Cd rfl rfl (.inl ⟨by decide,by decide⟩) (Ad rfl (Cd rfl rfl (.inr ⟨by omega,by omega⟩) (Aw rfl rfl (Ad rfl (Al a _ rfl (.inl I) (Aw rfl rfl (Ad rfl (B5 (λh=>?_) (λh=>?_))))))))))
   .have hk:=KP h;rw[JR]at hk;obtain⟨c,O⟩:=Aj5 (Int.le_refl 0) hk;show Ad rfl (Ad rfl (B0 a _ _ _ rfl rfl I O (Cd rfl rfl (by show(0:Int)<99991;decide) (Ad rfl (Cd rfl rfl (.inl ⟨by decide,by decide⟩) (Aw rfl rfl (Cd rfl rfl (.inl ⟨by omega,by omega⟩) (Aw rfl rfl (Ad rfl (Y _))))))))))
   .show Ad rfl (Y _)
abbrev Ah2:List Str:=["_law_script","_law_at","_law_many"]
def EM:AD ["_law_script","_law_at","_law_many","_law_digits","_law_left","_law_k","_law_mixed","_law_draw"] Ah2 (Ao Pw):=FS
def Wv (F:As K "_law_draws" "_law_draws" Pw f fd)(T:At K mg)(a2:AJ P w K mg base 1 "_law_cell" Yo (Aa5 K)):AH P w K mg base BE 2 f fd Ah2 (Af7 K):=by
 show F.By EM λcdv A outer s H vs Q E hr h=>?_
 .show Ox h λa ns a1 a0 z1 hS a3 a5 a6 z2=>?_;subst z1;obtain⟨a7,k⟩:=z2;have nd:=EM.nd;have a8:(2000000:Nat)<=sizeLine:=by rw[LJ];omega
  exists Ae (Cl 3 nd (B2 Fa)) (Ae (Cl 4 nd (Bc (Vg rfl) rfl T.n_max boot_max (AS Ag (qf a2 hr (AS (qv 0) (qv 1)))))) (Ae (Ex MO rfl (Dw rfl T.BK (AM (qv 2))) (GV 5 nd) (Ae (Au (Gc KY LQ LR Ec (qv 3) (AM (Ap Bl (qv 4) Ag)))) (Ak (Cl 4 nd (Ap Cr (qv 4) Ag))))) (Ae (Bj (BM E8 (qv 4) Ag) (Ak (Ar (qv 3))) Ax) (Ae (Cl 6 nd (B2 Fa)) (Ae (Cl 7 nd (Ap Bl (Ap Gk (Ap Bl (qf a2 hr (AS (qv 0) (qv 1))) Ag) Ag) Ag)) (Ae (Ex MO rfl (Dw rfl T.BK (AM (qv 2))) (GV 5 nd) (Ae (Cl 7 nd (Ap Bl (Ap Fg (Ap Fg (Ap Gk (qv 7) Ag) (qf a2 hr (AS (qv 0) (Ap Fg (Ap Fg (qv 1) Ag) (Ap Bl (qv 5) Ag))))) (Ap Gk (qv 5) (qv 5))) Ag)) (Ak (Au (Gc KY LQ LR Ec (qv 6) (AM (Ap Cr (Ap Bl (Ap Fg (Ap Gk (qv 7) Ag) (Ap Gk Ag (qv 5))) Ag) Ag))))))) (Ak (Ar (qv 6)))))))))
  show⟨(zl 0),λd hd=>?_⟩;have s0:=(AA.refl H).upd (o:=.lst []) hd;show Ad rfl (Ad rfl (Ep a ns a1 rfl (s0.seq hS) a3 (by omega) λc=>(Xk rfl ?_)))
  show Ad rfl (Dh a0 rfl (by omega) (by omega) (Js (n:=a0.toNat) (λi σ H'=>∃(Y:Int) (o5:Option V) (zs:List Int),σ=[some (.ref a),some (.int a1),some (.int a0),some (.ref d),some (.int Y),o5,none,none]/\H' d=some (.lst (zs.map V.int))/\zs.length=i/\AA H H')
   (Ei _ _ [] rfl Ah rfl s0) ?_ ?_))
  .rintro i σ H' hi ⟨Y,o5,zs,rfl,O,hz,I⟩;show Bh rfl (.inl ⟨rfl,_,AO.of O⟩) (Ad rfl (Cd rfl rfl (by show(0:Int)<10000;decide) (Ep d _ _ rfl rfl O (by rw[JR];omega) ?_)));show Ad rfl (Cd rfl rfl ⟨by decide,by decide⟩ (Ei _ _ (zs++[Y%10000]) rfl (by rw[Ah];simp) (by simp[hz]) (CI I hd)))
  .rintro σ H' ⟨Y,o5,zs,rfl,O,hz,I⟩;show Ad rfl (Aw rfl rfl (Ad rfl (B5 (λh=>(Ad rfl (k d zs H' hd I O hz))) (λh=>?_))));show⟨(zl 0),λm hm=>?_⟩;have a4:H m=none:=I.free hm;have s1:=I.upd (o:=.lst []) hm;show Ad rfl (Ad rfl (Ep a ns a1 rfl (s1.seq hS) a3 (by omega) λc2=>(Cd rfl rfl (by show(0:Int)<2147483647;decide) (Cd rfl rfl (.inr ⟨by decide,by decide⟩) (Cd rfl rfl (by show(0:Int)<2147483647;decide) ?_)))))
   show Ad rfl (Dh a0 rfl (by omega) (by omega) (Js (n:=a0.toNat) (λi σ H'=>∃(Y:Int) (o5:Option V) (draw:Int) (zs:List Int),σ=[some (.ref a),some (.int a1),some (.int a0),some (.ref d),some (.int Y),o5,some (.ref m),some (.int draw)]/\H' m=some (.lst (zs.map V.int))/\zs.length=i/\AA H H')
    (ii43 _ _ _ [] rfl Ah rfl s1) ?_ ?_))
   .rintro i σ H' hi ⟨Y,o5,draw,zs,rfl,O,hz,I⟩;show Ad rfl (Cd rfl rfl (.inr ⟨by decide,by decide⟩) (Ad rfl (Ad rfl (Aw rfl rfl (Ad rfl (Cd rfl rfl (by show(0:Int)<30;decide) (Aw rfl rfl (Ep a ns _ rfl (I.seq hS) (by omega) (by omega) λc3=>(Aw rfl rfl (Ad rfl (Ad rfl (Cd rfl rfl (.inl ⟨by omega,by omega⟩) (Aw rfl rfl (Cd rfl rfl (by show(0:Int)<2147483629;decide) ?_))))))))))))));show Bh rfl (.inl ⟨rfl,_,AO.of O⟩) (Ad rfl (Cd rfl rfl (.inr ⟨by decide,by decide⟩) (Ad rfl (Cd rfl rfl (.inl ⟨by decide,by decide⟩) (Aw rfl rfl (Cd rfl rfl (by show(0:Int)<2147483647;decide) (Cd rfl rfl ⟨by decide,by decide⟩ (Ep m _ _ rfl rfl O (by rw[JR];omega) ?_))))))));show ii43 _ _ _ (zs++[_]) rfl (by rw[Ah,KZ];rfl) (by simp[hz]) (CI I a4)
   .rintro σ H' ⟨Y,o5,draw,zs,rfl,O,hz,I⟩;show Ad rfl (k m zs H' a4 I O hz)
end
def Ii (b:Bool):∀x∈M4 b,PyData.strOk x=true:=by cases b<;>decide +kernel
def nt_ok:∀x∈([("NoText":Str)]:List Str),PyData.strOk x=true:=by decide +kernel
def Af3 (K:Av):Sp:=λvs H Q _=>∃(a:Addr) (ns:List Int),vs=[.ref a]/\AO K H a (ns.map V.int)/\ns.length<=63/\∀H',Q (.bl true) H'
section
variable {P:Program}{w:World}{K:Av}{mg:Cb}{base:Heap}{cT cR:Addr}
def sc_law:AD ["_law_script","_law_tree_here","_law_text_here","_law_cell_here","_law_wrong_here"] ["_law_script"] (Ao sLaw):=FS
def ok_law (hm:16<=m)(F:As K "law" "law" sLaw f fd)(aQ:AJ P w K mg base 1 "_law_cell" Yo (Aa5 K))(aW:AJ P w K mg base 2 "_law_draws" Ah2 (Af7 K))(aU:AJ P w K mg base m "_law_tree" ["_law_draws_here"] Ar7)(a7:AJ P w K mg base 15 "_law_text" ["_law_thing"] (T4 15))(aD:AJ P w K mg base 15 "_law_alike" Oe (spAl 15))(aY:AJ P w K mg base 16 "tree_shown" ["tree"] (T4 15))
  (aV:AJ P w K mg base m "tree_read" ["text"] (λvs H Q _=>spTR cT cR 11 vs H Q λ_ _ _=>False))(aZ:AJ P w K mg base m "look_at_tree" Em (λvs H Q _=>As0 cR 11 vs H Q λ_ _ _=>False))(aX:AJ P w K mg base 1 "_law_wrong" Ah0 spWr)(a0:AJ P w K mg base m "_law_refused" Ag8 (spRf 11)):AH P w K mg base BE (m+1) f fd ["_law_script"] (Af3 K):=by
 show F.By sc_law λcdv A outer s H vs Q E hr h=>?_
 .show Ia h λa ns z1 hS hn k=>?_;subst z1;have nd:=sc_law.nd;have ai:(16500000:Nat)<=sizeLine:=by rw[LJ];omega
  exists Ae (Cl 1 nd (qf aU hr (AM (qf aW hr (BV (qv 0) Ag Ag))))) (Ae (Cl 2 nd (qf a7 hr (AM (qv 1)))) (Ae (Bj (QW.pt (N0 (Fz (Eb (qf aD hr (AS (qf aV hr (AM (qv 2))) (qv 1))))) (Ka (Fz (Eb (qf aD hr (AS (qf aY hr (AM (qv 1))) (qv 2)))))))) (Ak (Ar Es)) Ax) (Ae (Bj (QW.pt (N0 (BM op_notN (qf aZ hr (AM (qv 1))) Nd) (Ka (BM Su (qf a7 hr (AM (qv 1))) (qv 2))))) (Ak (Ar Es)) Ax) (Ae (Ex MO rfl (Gx (Ap Fe (B2 (AM (qf aQ hr (AS (qv 0) Ag)))) (Bu Rj (qv 0) (Bq Ag) (Bq Ag)))) (GV 3 nd) (Ae (Cl 4 nd (qf aX hr (AS (qv 1) (qv 3)))) (Ae (Bj (QW.pt (N0 (BM (Wn hr.units) (qf a0 hr (AS (qv 4) Ag)) (B2 (AM Ai))) (Ka (BM (Wn hr.units) (qf a0 hr (AS (qf a7 hr (AM (qv 4))) Ag)) (B2 (AM Ai)))))) (Ak (Ar Es)) Ax) (Ak (Bj (BM (Wn hr.units) (qf a0 hr (AS (Ap Ff (qv 2) (Da Cy (B2 (BV Ai Ai Ai)) (Ap Bl (qv 3) Ag) (λ_ _=>rfl))) Ag)) (B2 (AM Ai))) (Ak (Ar Es)) Ax))))) (Ak (Ar (Dj (ER (Ah5 hr.units) (qf a0 hr (AS (qv 1) Ag)) (B2 Fa)) (Du (ER (Ah5 hr.units) (qf a0 hr (AS (qv 2) Ag)) (B2 Fa))))))))))
  show Dt (Ad rfl (Cm a ns 0 240 rfl hS (by decide) (by decide) (by decide) ⟨by decide,λad zs H1 hz s1 g1 _=>(Al ad zs rfl g1 λv t H2 Y tg aB aa=>?_)⟩));have a9:AO K H2 a (ns.map V.int):=by
   rcases hS with(h|⟨o,h⟩)|h
   .show .inl (.inl (aB _ _ (s1 _ _ h) (Af h hz)))
   .show .inl (.inr ⟨o,aB _ _ (s1 _ _ h) (Af h hz)⟩)
   .show .inr h
  have I:=Ak9 tg;have a1:IZ 11 t true:=by
   show Kq tg λAB AC z1 TR h6 hf ah ac=>?_;subst z1;show lk_good TR (λf h=>(hf f h).2.2.1) (by omega)
  have ar:∀{t v O},Fits t->AQ O v t->Arg O v t 15:=λI h=>⟨h,by have:=Mm I.dl;omega,I.wf,I.sz⟩
  walk_at "n"
  show Dt (Ad rfl (Al v t rfl (ar I Y) λH3 s3=>?_))
  walk_at "n"
  show Ad rfl (Ei (tx t) t true rfl (Vt I) (λz=>by cases z) λ_=>(Bx true a1 (λ_ v4 H4 aP s4=>?_) λz=>by cases z));have S4:=s3.trans s4;have al:∀{t v O},Fits t->AQ O v t->AQ O v t/\depth t<15/\BL t<=1700000:=λI h=>(Az h ((ar I h).dp) ((ar I h).sz));have aE:∀{x:Str} {O:Hp},AQ O (.str x) (.wd x)/\depth (.wd x)<15/\BL (.wd x)<=1700000:=fun {x O}=>(Az rfl (by rw[depth];omega) (by rw[BL];omega));show Ad rfl (Ei v4 v t rfl (al I aP) (Y.mono S4.AF) λH5 s5=>(Ad rfl ?_));have S5:=S4.trans s5;show Jo (Ad rfl (Al v t rfl (ar I (Y.mono S5.AF)) λH6 s6=>(Ad rfl (Ei (.str (tx t)) (.str (tx t)) (.wd (tx t)) rfl aE rfl λH7 s7=>(Ad rfl (Jo ?_))))));have S7:=S5.trans (s6.trans s7);show Ad rfl (Ep v t true rfl (Y.mono S7.AF) a1 (λ_ H8 s8=>⟨rfl,(Ad rfl (Jo ?_))⟩) λz=>by cases z);have S8:=S7.trans s8;show Ad rfl (Al v t rfl (ar I (Y.mono S8.AF)) λH9 s9=>(Bh rfl rfl (Ad rfl (Hv rfl ?_))));have S9:=S8.trans s9;show Ad rfl (Ep a ns 33 rfl (AA.seq S9 a9) (by decide) (by decide) λc=>⟨zl 1,λp hp=>?_⟩);generalize z:upd H9 p _=G4;obtain⟨u4,g4⟩:=Bz hp z;show Ad rfl (Aq 34 rfl (Aq 40 rfl (Al a _ rfl (AA.seq (S9.trans u4) a9) λp2 aK=>?_)));generalize z:upd G4 p2 _=G5;obtain⟨u5,g5⟩:=Bz aK z;have lc:=Mb (ns.map V.int) (some 34) (some 40);rw[JR]at lc;show Qm (u5 _ _ g4) g5 (by show 1+_<=1000;omega) λp3 G6 h6 u6 g6=>?_;have aC:∀x∈[V.int c]++Ef (ns.map V.int) (some 34) (some 40),∃i:Int,x=.int i:=λx hx=>by
   rcases KQ.mp hx with h|h
   .show⟨c,KD.mp h⟩
   .show Am (KI.mp (cutV_mem h)) λi _ e=>⟨i,e.symm⟩
  generalize [V.int c]++Ef (ns.map V.int) (some 34) (some 40)=xs at g6 aC;have a8:=S9.trans (u4.trans (u5.trans u6));show Bx p3 rfl ⟨_,AO.of g6⟩ (L7 (xs:=xs) (λi σ X=>(∃o1 o2,σ=[some (.ref a),some v,some (.str (tx t)),o1,o2])/\AA G6 X) ⟨(Jn rfl),AA.refl G6⟩ (λi σ X _ ⟨_,sm⟩=>AO.of (sm _ _ g6)) ?_ ?_)
  .rintro i x σ X hx ⟨⟨o1,o2,rfl⟩,sm⟩;obtain⟨ci,rfl⟩:=aC x (KR hx);have SX:=a8.trans sm;show Dt (Ad rfl (Ad rfl (Ei v t ci rfl (Y.mono SX.AF) tg λv1 t1 X1 aA f1 l1 x1=>?_)))
   walk_at "n"
   show Ad rfl (Kl v1 0 (M4 false) rfl (.inl ⟨rfl,(Al t1 false aA l1 rfl)⟩) λl X2 x2 aI a3=>⟨zl 1,λq3 a5=>?_⟩);generalize z:upd X2 q3 _=X3;obtain⟨x3,g3⟩:=Bz a5 z;show Cm l q3 (M4 false) (M4 false) rfl rfl (AO.of (x3 _ _ a3)) (AO.of g3) (Ii _) ⟨Ii _,(Ad rfl (Ai3 (by rw[KA rfl];rfl) ?_))⟩;have Y3:=x2.trans x3;show Ad rfl (Al v1 t1 rfl (ar f1 (aA.mono Y3.AF)) λX4 x4=>(Kl (.str (tx t1)) 1 (M4 false) rfl (.inr ⟨rfl,(Kl (tx t1) t1 true rfl (Vt f1) (.inr ⟨rfl,(Aq false l1 rfl)⟩))⟩) λl5 X5 x5 aJ a4=>⟨zl 1,λq6 a6=>?_⟩));generalize z:upd X5 q6 _=X6;obtain⟨x6,a2⟩:=Bz a6 z;show Cm l5 q6 (M4 false) (M4 false) rfl rfl (AO.of (x6 _ _ a4)) (AO.of a2) (Ii _) ⟨Ii _,(Ad rfl (Ai3 (by rw[KA rfl];rfl) ?_))⟩;have Y6:=Y3.trans (x4.trans (x5.trans x6));show Am (show ∃j:Nat,ci%3=j/\j<3 from La ci 3 (by decide)) λj ej lj=>?_;obtain⟨y,hy,ag,ty⟩:∃y:Str,DY [V.str " )",.str " a",.str " "] (ci%3)=some (.str y)/\y.length<=4/\HX (tx t++y) t false:=by
    rw[ej]
    match j,lj with
    | 0,_=>show Bh rfl (by decide +kernel) (text_cl I)
    | 1,_=>show Bh rfl (by decide +kernel) (text_a I)
    | 2,_=>show Bh rfl (by decide +kernel) (text_bl I)
   have am:=M3 I.wf;have aj:=I.sz;show Bh rfl (zl 3) λq7 aM=>?_;generalize z:upd X6 q7 _=X7;obtain⟨x7,aF⟩:=Bz aM z;show Ad rfl (Cd rfl rfl (by show(0:Int)<3;decide) (B0 q7 _ _ (.str y) rfl rfl (AO.of aF) hy (Cd rfl rfl (by omega) (Kl (.str (tx t++y)) 1 [("NoText":Str)] rfl (.inr ⟨rfl,(Kl _ t false rfl ty (.inl ⟨rfl,rfl⟩))⟩) λl8 X8 x8 ae aH=>⟨zl 1,λq9 aN=>?_⟩))));generalize z:upd X8 q9 _=X9;obtain⟨x9,aG⟩:=Bz aN z;show Cm l8 q9 [("NoText":Str)] [("NoText":Str)] rfl rfl (AO.of (x9 _ _ aH)) (AO.of aG) nt_ok ⟨nt_ok,(Ad rfl (Ai3 (by rw[KA rfl];rfl) (⟨(Jn rfl),sm.trans (x1.trans (Y6.trans (x7.trans (x8.trans x9))))⟩)))⟩
  .rintro σ X ⟨⟨o1,o2,rfl⟩,sm⟩;have SX:=a8.trans sm;dsimp only;show Ad rfl (Kl v 0 (M4 true) rfl (.inl ⟨rfl,(Al t true (Y.mono SX.AF) a1 rfl)⟩) λl X2 x2 aI a3=>⟨zl 0,λq3 a5=>?_⟩);generalize z:upd X2 q3 _=X3;obtain⟨x3,g3⟩:=Bz a5 z;show Cm l q3 (M4 true) (M4 true) rfl rfl (AO.of (x3 _ _ a3)) (AO.of g3) (Ii _) ⟨Ii _,(Ad rfl ?_)⟩;rw[KA rfl];show E7 (Ad rfl (Kl (.str (tx t)) 1 (M4 true) rfl (.inr ⟨rfl,(Kl (tx t) t true rfl (Vt I) (.inr ⟨rfl,(Aq true a1 rfl)⟩))⟩) λl5 X5 x5 aJ a4=>⟨zl 0,λq6 a6=>?_⟩));generalize z:upd X5 q6 _=X6;obtain⟨x6,a2⟩:=Bz a6 z;show Cm l5 q6 (M4 true) (M4 true) rfl rfl (AO.of (x6 _ _ a4)) (AO.of a2) (Ii _) ⟨Ii _,?_⟩;rw[KA rfl];show k _
end
end R5
namespace L2
open PySem PySem.Spec PyProof.Rows
end L2
namespace L2
open PySem PySem.Spec PyProof PyProof.Rows L2
section
variable {P:Program}{w:World}{K:Av}{mg:Cb}{base:Heap}
def AJ.lift (h:AJ P w K mg base k x ps sp)(hk:k<=k'):AJ P w K mg base k' x ps sp:=by
 show Ia h.ex λf fd F a b c=>⟨f,fd,F.mono hk,a,b,c⟩
def CN.lift (h:CN P w K mg base k x ps sp)(hk:k<=k'):CN P w K mg base k' x ps sp:=by
 show Ia h.ex λf fd F a b c=>⟨f,fd,F.mono hk,a,b,c⟩
def CN.down (h:CN P w K mg base k x ps sp):AJ P w K mg base k x ps (λvs H Q _=>sp vs H Q λ_ _ _=>False):=by
 show Ia h.ex λf fd F a b c=>⟨f,fd,R5.fnDown F,a,b,c⟩
end
end L2
namespace T
open PySem PySem.Spec PyProof PyProof.Rows L2
section
variable {P:Program}{w:World}{K:Av}{mg:Cb}{base:Heap}{C:Addr}
theorem kl_all (k0:AJ P w K mg base 2 "kind_of_parts" Gy (Al6 C 0))(h1:∀n m,2<=m->AJ P w K mg base m "kind_of_parts" Gy (Al6 C n)->AJ P w K mg base (m+1) "kind_looked" Gy (Nw C n))
  (h2:∀n m,1<=m->AJ P w K mg base m "kind_looked" Gy (Nw C n)->AJ P w K mg base (m+1) "look_at_parts" Mp (Nv K C n))(h3:∀n m,1<=m->AJ P w K mg base m "kind_looked" Gy (Nw C n)->AJ P w K mg base (m+1) "look_at_field" Ss (Vz C n))
  (h4:∀n m,1<=m->AJ P w K mg base m "kind_looked" Gy (Nw C n)->AJ P w K mg base m "look_at_parts" Mp (Nv K C n)->AJ P w K mg base m "look_at_field" Ss (Vz C n)->AJ P w K mg base (m+1) "kind_of_parts" Gy (Al6 C (n+1))) :
  ∀n,AJ P w K mg base (3+3*n) "kind_looked" Gy (Nw C n)/\AJ P w K mg base (4+3*n) "look_at_parts" Mp (Nv K C n)/\AJ P w K mg base (4+3*n) "look_at_field" Ss (Vz C n)
 | 0=>by
  have a:=h1 0 2 (by decide) k0;show Az a (h2 0 3 (by decide) a) (h3 0 3 (by decide) a)
 | n+1=>by
  show Ch (kl_all k0 h1 h2 h3 h4 n) λa b c=>?_;have d:=h4 n (4+3*n) (by omega) (a.lift (by omega)) b c;have e:=(h1 (n+1) _ (by omega) d).lift (k':=3+3*(n+1)) (by omega);show Az e ((h2 (n+1) _ (by omega) e).lift (by omega)) ((h3 (n+1) _ (by omega) e).lift (by omega))
abbrev Acts (P:Program)(w:World)(K:Av)(mg:Cb)(base:Heap)(C:Addr)(fS:Str->Addr)(n m:Nat):Prop:=∀h f,(h,V.ref f)∈BN.map (λp=>(p.1,V.ref (fS p.1)))->∃fd,AH P w K mg base BE m f fd Eu (JH C n h)/\PySem.W.keepIn K (.ref f)=true/\Binds K fd Eu []
def if_none (hn:n<=1):AH P w K mg base BE m f fd ps (JH C n "if"):=AH.none λvs H Q E h=>by
 show Dc h λo r fn kn kd s z1=>Dc z1 λκ kns v rest κ' O z2=>Oy z2 λe _ _ _ hd I _=>?_;show Dc (Ti I) λt a b κ1 kn1 e1 z1=>C8 z1 λκ2 e2 z2 _=>?_;subst z2;have h0:=Ee (hd.mono hn) (.tup a) (by simp);unfold BF at h0;show h0
def Z7 (hn:n<=1):AH P w K mg base BE m f fd ps (JH C n "while"):=AH.none λvs H Q E h=>by
 show Dc h λo r fn kn kd s z1=>Dc z1 λκ kns v rest κ' O z2=>Oy z2 λe _ _ _ hd I _=>?_;show dd41 (Jp I) λt a κ1 e1 z1 _=>?_;subst z1;have h0:=Ee (hd.mono hn) (.tup a) (by simp);unfold BF at h0;show h0
theorem Ar1 (kl:∀n,AJ P w K mg base (3+3*n) "kind_looked" Gy (Nw C n)/\AJ P w K mg base (4+3*n) "look_at_parts" Mp (Nv K C n)/\AJ P w K mg base (4+3*n) "look_at_field" Ss (Vz C n))
  (O:∀m,2<=m->AJ P w K mg base m "kind_looked" Gy (Nw C 0)->AJ P w K mg base m "look_at_parts" Mp (Nv K C 0)->AJ P w K mg base m "look_at_field" Ss (Vz C 0)->Acts P w K mg base C fS 1 (m+1))
  (Y:∀n m,2<=m->AJ P w K mg base m "kind_looked" Gy (Nw C (n+1))->AJ P w K mg base m "look_at_parts" Mp (Nv K C (n+1))->AJ P w K mg base m "look_at_field" Ss (Vz C (n+1))->AJ P w K mg base m "look_at_statements" Wm (spS C n)->Acts P w K mg base C fS (n+2) (m+1))
  (I:∀n m,1<=m->Acts P w K mg base C fS n m->AJ P w K mg base (m+1) "look_at_statements" Wm (spS C n)):∀k,AJ P w K mg base (6+6*k) "look_at_statements" Wm (spS C (2*k+1))
 | 0=>by
  show Ch (kl 0) λa b c=>I 1 5 (by decide) (O 4 (by decide) (a.lift (by omega)) b c)
 | k+1=>by
  show Ch (kl (2*k+2)) λa b c=>?_;have z:=Ar1 kl O Y I k;show(I (2*k+3) _ (by omega) (Y (2*k+1) (10+6*k) (by omega) (a.lift (by omega)) (b.lift (by omega)) (c.lift (by omega)) (z.lift (by omega)))).lift (by omega)
end
end T
namespace R5
open PySem PySem.Spec PyProof.Rows L2 T
def Nz (K:Av)(x:Str):Prop:=PySem.W.nsIn K mainGlobals x=some none
def Nr (K:Av)(a:Addr)(x:Str)(f:Addr):Prop:=PySem.W.nsIn K a x=some (some (.ref f))
def Ni (K:Av)(a:Addr)(x:Str)(i:Int)(t:Tok):Prop:=PySem.W.nsIn K a x=some (some (.int i t))
def Nt (K:Av)(a:Addr)(x s:Str)(t:Tok):Prop:=PySem.W.nsIn K a x=some (some (.str s t))
def Df (K:Av)(x q:Str)(st:Stmt)(f:Addr):Prop:=∃fd,As K x q st f fd
def Dg (K:Av)(x:Str)(st:Stmt)(f:Addr):Prop:=PySem.W.nsIn K mainGlobals x=some (some (.ref f))/\∃fd,As K x x st f fd
def dg {K:Av}{h:Heap}{mg:Cb}{x:Str}{st:Stmt}{f:Addr}(X:K.In h)(G:h.Ns mainGlobals mg)(D:Dg K x st f):mg x=some (.ref f)/\PySem.W.keepIn K (.ref f)=true/\∃fd,As K x x st f fd:=(Az (LK X G D.1) (D.2.elim λ_ F=>F.kp) D.2)
section
variable {K:Av}{x q:Str}{st:Stmt}{f:Addr}{oc:Value}{od an:Option Addr}{osl:Array (Option Value)}{kV doc pm cdv ct:Value}
def dfm (l:K.lookup f=some ⟨oc,od,.func (PySem.W.fnOf x q (Ix st) (Ew st) (Ao st) .none kV doc pm an cdv ct),osl⟩)(c:PySem.W.codeIn K cdv q=true)(k:PySem.W.keepIn K (.ref f)=true):Df K x q st f:=⟨_,Jh l c k⟩
def dgm (a:PySem.W.nsIn K mainGlobals x=some (some (.ref f)))(l:K.lookup f=some ⟨oc,od,.func (PySem.W.fnOf x x (Ix st) (Ew st) (Ao st) .none kV doc pm an cdv ct),osl⟩)(c:PySem.W.codeIn K cdv x=true)(k:PySem.W.keepIn K (.ref f)=true):Dg K x st f:=⟨a,_,Jh l c k⟩
def Tq (K:Av)(a:Addr)(k:Str)(b:Addr)(xs:List Str):Prop:=PySem.W.nsIn K a k=some (some (.ref b))/\∃d i n s,K.lookup b=some ⟨.type "tuple",d,.seq i n,s⟩/\i.size<=1000/\AK (xs.map V.str) i.toList
def tqm (h:PySem.W.nsIn K a k=some (some (.ref b)))(l:K.lookup b=some ⟨.type "tuple",d,.seq i n,s⟩)(z:i.size<=1000)(v:AK (xs.map V.str) i.toList):Tq K a k b xs:=⟨h,(jj42 l z v)⟩
def Tq.g (h:Tq K a k b xs):PySem.W.nsIn K a k=some (some (.ref b)):=h.1
def Tq.top (h:Tq K a k b xs):∀H,BJ K H b (xs.map V.str):=λH=>let ⟨_,_,i,n,_,l,z,v⟩:=h;.inr (Ep _ i n l rfl rfl (KN z (by decide)) v)
def Tb (K:Av)(ps:Params)(x:Str)(a:Addr):Prop:=PySem.W.nsIn K mainGlobals x=some (some (.ref a))/\(∃e n,K.lookup a=some ⟨.type "dict",none,.dict e n,#[]⟩/\PySem.W.KeysLit ps e.toList)/\(a==sysModules)=false
def tbm (h:PySem.W.nsIn K mainGlobals x=some (some (.ref a)))(l:K.lookup a=some ⟨.type "dict",none,.dict e n,#[]⟩)(y:PySem.W.KeysLit ps e.toList)(o:(a==sysModules)=false):Tb K ps x a:=(Az h (Xk l y) o)
end
noncomputable def An7 (l:List (Str×Addr))(o:Str):Addr:=(l.lookup o).getD 0
section
variable {α:Type}{us:List α}
def lz1 (h:us.length=1):∃a,us=[a]:=List.length_eq_one_iff.mp h
def lz2 (h:us.length=2):∃a b,us=[a,b]:=by
 cases us with
 | nil=>cases h
 | cons x r=>obtain⟨b,rfl⟩:=lz1 (us:=r) (by simpa using h);show Uj x b rfl
def lz3 (h:us.length=3):∃a b c,us=[a,b,c]:=by
 cases us with
 | nil=>cases h
 | cons x r=>show Zt (lz2 (us:=r) (by simpa using h)) λb c z1=>?_;subst z1;show Tl x b c rfl
def lz4 (h:us.length=4):∃a b c d,us=[a,b,c,d]:=by
 cases us with
 | nil=>cases h
 | cons x r=>show Jt (lz3 (us:=r) (by simpa using h)) λb c d z1=>?_;subst z1;show ii40 x b c d rfl
end
section
variable {K:Av}{x qual:Str}{st:Stmt}{f:Addr}{fd:FuncData}
abbrev BdX (x qual:Str)(st:Stmt)(ps:List Str)(us:List Value):Prop:=∀(kV doc pm:Value) (an:Option Addr) (cdv ct:Value),bindArgs (PySem.W.fnOf x qual (Ix st) (Ew st) (Ao st) .none kV doc pm an cdv ct) ⟨us,[]⟩=pure (ps.zip us)
def bz1 (F:As K x qual st f fd)(a:Str)(h:∀I,BdX x qual st [a] [I]):Binds K fd [a] []:=F.binds λkV doc pm an cdv ct us hl=>by
 obtain⟨I,rfl⟩:=lz1 hl;show h I kV doc pm an cdv ct
def bz2 (F:As K x qual st f fd)(a b:Str)(h:∀I O,BdX x qual st [a,b] [I,O]):Binds K fd [a,b] []:=F.binds λkV doc pm an cdv ct us hl=>by
 show Zt (lz2 hl) λI O z1=>?_;subst z1;show h I O kV doc pm an cdv ct
def bz3 (F:As K x qual st f fd)(a b c:Str)(h:∀I O Y,BdX x qual st [a,b,c] [I,O,Y]):Binds K fd [a,b,c] []:=F.binds λkV doc pm an cdv ct us hl=>by
 show Jt (lz3 hl) λI O Y z1=>?_;subst z1;show h I O Y kV doc pm an cdv ct
def bz4 (F:As K x qual st f fd)(a b c d:Str)(h:∀I O Y u4,BdX x qual st [a,b,c,d] [I,O,Y,u4]):Binds K fd [a,b,c,d] []:=F.binds λkV doc pm an cdv ct us hl=>by
 show dd40 (lz4 hl) λI O Y u4 z1=>?_;subst z1;show h I O Y u4 kV doc pm an cdv ct
end
def Gd (K:Av)(x:Str)(st:Stmt)(f:Addr)(ps:List Str):Prop:=PySem.W.nsIn K mainGlobals x=some (some (.ref f))/\∃fd,As K x x st f fd/\Binds K fd ps []
def Bs (_:Program)(_:World)(K:Av)(mg:Cb)(_:Heap):Prop:=∃h:Heap,K.In h/\h.Ns mainGlobals mg
section
variable {P:Program}{w:World}{K:Av}{base:Heap}{mg:Cb}{x:Str}{st:Stmt}{f:Addr}{ps:List Str}{k:Nat}{sp:Sp}(D:Gd K x st f ps)(B:Bs P w K mg base)
include D B
def Gd.b (o:∀fd,As K x x st f fd->AH P w K mg base BE k f fd ps sp):AJ P w K mg base k x ps sp:=let ⟨a,fd,F,c⟩:=D;let ⟨_,X,G⟩:=B;⟨f,fd,o fd F,LK X G a,F.kp,c⟩
def Gd.b1 (o:∀fd,As K x x st f fd->AH P w K mg base (HD P w) k f fd ps sp):CN P w K mg base k x ps sp:=let ⟨a,fd,F,c⟩:=D;let ⟨_,X,G⟩:=B;⟨f,fd,o fd F,LK X G a,F.kp,c⟩
def Gd.bH (o:∀fd,As K x x st f fd->IT P w K mg base k f fd ps sp):FnBH P w K mg base k x ps sp:=let ⟨a,fd,F,c⟩:=D;let ⟨_,X,G⟩:=B;⟨f,fd,o fd F,LK X G a,F.kp,c⟩
theorem Gd.t {CX}(o:∀fd,As K x x st f fd->AH P w K mg base CX k f fd ps sp):∃fd,AH P w K mg base CX k f fd ps sp/\PySem.W.keepIn K (.ref f)=true/\Binds K fd ps []:=let ⟨_,fd,F,c⟩:=D;(Bx fd (o fd F) F.kp c)
end
section
variable {K:Av}{x:Str}{st:Stmt}{f:Addr}{oc:Value}{od an:Option Addr}{osl:Array (Option Value)}{kV doc pm cdv ct:Value}(a:PySem.W.nsIn K mainGlobals x=some (some (.ref f)))(l:K.lookup f=some ⟨oc,od,.func (PySem.W.fnOf x x (Ix st) (Ew st) (Ao st) .none kV doc pm an cdv ct),osl⟩)(c:PySem.W.codeIn K cdv x=true)(k:PySem.W.keepIn K (.ref f)=true)
include a l c k
def GH (h:∀O,BdX x x st [I] [O]):Gd K x st f [I]:=⟨a,(Ad (Jh l c k) (bz1 (Jh l c k) I h))⟩
def GU (h:∀Y u1,BdX x x st [I,O] [Y,u1]):Gd K x st f [I,O]:=⟨a,(Ad (Jh l c k) (bz2 (Jh l c k) I O h))⟩
def JO (h:∀u0 u1 u2,BdX x x st [I,O,Y] [u0,u1,u2]):Gd K x st f [I,O,Y]:=⟨a,(Ad (Jh l c k) (bz3 (Jh l c k) I O Y h))⟩
def gd4 (h:∀u0 u1 u2 u3,BdX x x st [I,O,Y,x3] [u0,u1,u2,u3]):Gd K x st f [I,O,Y,x3]:=⟨a,(Ad (Jh l c k) (bz4 (Jh l c k) I O Y x3 h))⟩
end
def all_mk {l:PySem.W.OpenLaw}{w:World}{K:Av}{h:Heap}{mg:Cb}{fa C aO aT aR aS aL cP cT cR cM cA cS f0 f1 f2 f3 f4 f5 f6 f7 f8 f9 ax ay az bA a2 a3 a4 a5 a6 a7 a8 a0 a9 bB bC bD bE bF bG bI bJ bK bL bM bN bO bP bQ bS bU bV bW bX bY bZ ba bb bc bd be bf bg bh bi bj bn bo bp fl fI b0 b1 b2 b3 b4 b5 b6 b7 b8 b9 aE aF aG aH:Addr}(X:K.In h)(G:h.Ns mainGlobals mg)(bt:mg "law"=some (.ref fa))
  {t1 t2 t3 t4 t5 t6 q0 q1 q2 q3 q4 q5 q6 q7 q8 q9 d1 d2 d3 d4 s0 s1 s2 s3 s4 s5 s6 s7 s8 s9:Tok}
  (l0:Gd K "is_number" Py f0 Em)
  (l1:Gd K "is_of_language" Jb f1 Em)
  (l2:Gd K "first_again" Il f2 Hq)
  (l3:Gd K "all_unlike" J9 f3 Hq)
  (l4:Gd K "is_word" Wc f4 Em)
  (l6:Gd K "is_name" Wd f6 Em)
  (l8:Gd K "look_at_record" F6 f8 ["record"])
  (cC:Gd K "look_at_main" Li ay ["fun"])
  (cJ:Gd K "look_at_tree" Lh bF Em)
  (cN:Gd K "_law_next" Sh bJ Mu)
  (cU:Gd K "_law_kind" Sj bS Fm)
  (cV:Gd K "_law_let" Wb bU Fm)
  (cW:Gd K "_law_put" Wa bV Fm)
  (cZ:Gd K "_law_tree" Se bb ["_law_draws_here"])
  (ca:Gd K "_law_text" Sf bc ["_law_thing"])
  (cc:Gd K "brackets_shown" Hn be Em)
  (ce:Gd K "tree_shown" M7 bf ["tree"])
  (cf:Gd K "writes_a_number" Hl bg ["piece"])
  (cg:Gd K "piece_read" M8 bh ["piece"])
  (ci:Gd K "brackets_read" Jc bi ["text"])
  (cj:Gd K "tree_read" Pj bj ["text"])
  (ck:Gd K "_law_kinds" Ps bn ["_law_e"])
  (l5:Gd K "want" Ag0 f5 Ft)
  (l7:Gd K "is_headed" Me f7 Qp)
  (l9:Gd K "is_kind" We f9 ["thing","records"])
  (cB:Gd K "look_at_head" Lj ax ["fun","records"])
  (cD:Gd K "look_at_body" Ln az ["look","fun"])
  (cK:Gd K "_law_cell" Sl bG Yo)
  (cO:Gd K "_law_words" Po bK Ag9)
  (aN:Gd K "_law_plain" Pq bL Qq)
  (cQ:Gd K "_law_one_of" Pr bQ Od)
  (cX:Gd K "_law_deed" Sk bW ["_law_now","_law_way"])
  (aP:Gd K "_law_statement" Ja bX P3)
  (aK:Gd K "_law_ending" Nc bZ P3)
  (cb:Gd K "_law_alike" Px bd Oe)
  (cm:Gd K "_law_refused" Lo bo Ag8)
  (cn:Gd K "_law_wrong" Pn bp Ah0)
  (cE:Gd K "look_at_statements" Fs bA Wm)
  (aQ:Gd K "look_at_let" Nb a2 Eu)
  (aU:Gd K "look_at_put" Na a3 Eu)
  (aV:Gd K "look_at_if" Pl a4 Eu)
  (aW:Gd K "look_at_while" J0 a5 Eu)
  (aX:Gd K "look_at_give" Ll a6 Eu)
  (aY:Gd K "look_at_fail" Lm a7 Eu)
  (aZ:Gd K "look_at_set" M9 a8 Eu)
  (aI:Gd K "look_at_known" J3 a0 Eu)
  (aa:Gd K "look_at_do" Pm a9 Eu)
  (cF:Gd K "kind_looked" Lp bB Gy)
  (ac:Gd K "kind_of_parts" J8 bC Gy)
  (cL:Gd K "_law_draws" Pw bI Ah2)
  (aB:Gd K "_law_call" Sn bM Mq)
  (aC:Gd K "_law_number_deed" Hm bN Yn)
  (aD:Gd K "_law_truth_deed" I0 bO Yn)
  (a1:Gd K "_law_value" Pp bP Mq)
  (cY:Gd K "_law_function" J7 ba Ah1)
  (cG:Gd K "look_at_parts" J2 bD Mp)
  (cH:Gd K "look_at_field" J6 bE Ss)
  (aJ:Gd K "_law_part" Sg bY Ab5)
  (ll:Dg K "law" sLaw fl)
  (bu:Ni K mainGlobals "LEAST" (-32768) t1)
  (bv:Ni K mainGlobals "MOST" (32767) t2)
  (bw:Ni K mainGlobals "MOST_FIELDS" (4) t3)
  (bx:Ni K mainGlobals "MOST_VARIABLES" (4) t4)
  (bz:Ni K mainGlobals "DEEPEST" (40) t5)
  (c0:Ni K mainGlobals "MOST_FIGURES" (5) t6)
  (z0:Nz K "len")
  (z1:Nz K "isinstance")
  (z2:Nz K "int")
  (z3:Nz K "bool")
  (z4:Nz K "str")
  (z5:Nz K "tuple")
  (z6:Nz K "list")
  (z7:Nz K "dict")
  (z8:Nz K "zip")
  (z9:Nz K "max")
  (dB:Nz K "range")
  (dC:Nz K "all")
  (dD:Nz K "enumerate")
  (br:Nr K mainGlobals "Look" C)
  (qC:Cls K C)
  (cq:BP K C "records")
  (cr:BP K C "functions")
  (cs:BP K C "gives")
  (cu:BP K C "known")
  (MC:Mk K C fI)
  (lI:Df K "__init__" "Look.__init__" Pk fI)
  (gO:Tq K mainGlobals "OWN_KINDS" aO ["number","truth","list"])
  (gT:Tb K w.params "TAKES" aT)
  (gR:Tb K w.params "RESULTS" aR)
  (gS:Tb K w.params "STATEMENTS" aS)
  (gL:Tb K w.params "LENGTHS" aL)
  (u0:Tq K aT "+" b0 Oc)
  (u1:Tq K aT "-" b1 Oc)
  (u2:Tq K aT "*" b2 Oc)
  (u3:Tq K aT "/" b3 Oc)
  (u4:Tq K aT "rest" b4 Oc)
  (u5:Tq K aT "<" b5 Oc)
  (u6:Tq K aT "and" b6 ["truth","truth"])
  (u7:Tq K aT "or" b7 ["truth","truth"])
  (u8:Tq K aT "not" b8 ["truth"])
  (u9:Tq K aT "list" b9 ["number"])
  (d5:Tq K aT "long" aE ["list"])
  (d6:Tq K aT "at" aF ["list","number"])
  (d7:Tq K aT "out" aG ["number"])
  (d8:Tq K aT "store" aH ["list","number","number"])
  (r0:Nt K aR "+" "number" q0)
  (r1:Nt K aR "-" "number" q1)
  (r2:Nt K aR "*" "number" q2)
  (r3:Nt K aR "/" "number" q3)
  (r4:Nt K aR "rest" "number" q4)
  (r5:Nt K aR "<" "truth" q5)
  (r6:Nt K aR "=" "truth" q6)
  (r7:Nt K aR "and" "truth" q7)
  (r8:Nt K aR "or" "truth" q8)
  (r9:Nt K aR "not" "truth" q9)
  (dJ:Nt K aR "get" "number" d1)
  (dL:Nt K aR "list" "list" d2)
  (dM:Nt K aR "long" "number" d3)
  (dN:Nt K aR "at" "number" d4)
  (p0:Nr K aS "let" a2)
  (p1:Nr K aS "put" a3)
  (p2:Nr K aS "if" a4)
  (p3:Nr K aS "while" a5)
  (p4:Nr K aS "out" a0)
  (p5:Nr K aS "give" a6)
  (p6:Nr K aS "fail" a7)
  (p7:Nr K aS "set" a8)
  (p8:Nr K aS "store" a0)
  (p9:Nr K aS "do" a9)
  (h0:Ni K aL "let" 3 s0)
  (h1:Ni K aL "put" 3 s1)
  (h2:Ni K aL "if" 4 s2)
  (h3:Ni K aL "while" 3 s3)
  (h4:Ni K aL "out" 2 s4)
  (h5:Ni K aL "give" 2 s5)
  (h6:Ni K aL "fail" 2 s6)
  (h7:Ni K aL "set" 4 s7)
  (h8:Ni K aL "store" 4 s8)
  (h9:Ni K aL "do" 2 s9)
  (zV:Nz K "ValueError")
  (cx:Nr K mainGlobals "PassError" cP)
  (d0:Nr K mainGlobals "NoText" cT)
  (cy:Nr K mainGlobals "NoTree" cR)
  (cw:Nr K mainGlobals "NoMiddle" cM)
  (cv:Nr K mainGlobals "NoMachine" cA)
  (cz:Nr K mainGlobals "NoPass" cS)
  (dA:Cl5 K cP cT cR cM cA cS cT true false)
  (d9:Cl5 K cP cT cR cM cA cS cR false true)
  : ∃fd:FuncData,(∀(s:Shared) (v:Value),BindsTo s fd ⟨[v],[]⟩ [("_law_script",v)])/\∀base:Heap,K.In base->base.Ns mainGlobals mg->AH l.prog w K mg base BE 41 fa fd ["_law_script"] (Af3 K):=by
 show Ch (dg X G ll) λml kl z1=>?_;obtain⟨dl,Fl⟩:=z1;have e:=bt.symm.trans ml;cases e;have I:At K mg:=⟨LZ X G z0,LZ X G z1,LZ X G z2,LZ X G z3,LZ X G z4,LZ X G z5,LZ X G z6,LZ X G z7,LZ X G z8,LZ X G z9,LZ X G dB,LZ X G dC,LZ X G dD⟩;have TG:TxtG K mg t1 t2 t3 t4:=⟨LK X G bu,LK X G bv,LK X G bw,LK X G bx⟩;have TE:TxX K mg cP cT cR cM cA cS t5 t6:=⟨LK X G cx,LK X G d0,LK X G cy,LK X G cw,LK X G cv,LK X G cz,LK X G bz,LK X G c0,dA,d9,LZ X G zV⟩;obtain⟨dI,FI⟩:=lI;have cI:=bz4 FI "self" "records" "functions" "fun" λ_ _ _ _ _ _ _ _ _ _=>rfl;have TK:TxK K mg aO:=⟨LK X G gO.1,gO.top⟩;have LT:HB K C:=⟨qC,cq,cr,cs,cu⟩;have TM:TxL K mg C fI dI:=⟨LK X G br,cI,MC⟩;have dH:GD K w aT (takes.map λp=>(p.1,V.ref ((An7 [("+",b0),("-",b1),("*",b2),("/",b3),("rest",b4),("<",b5),("and",b6),("or",b7),("not",b8),("list",b9),("long",aE),("at",aF),("out",aG),("store",aH)]) p.1)):List (Str×V)):=by
  show⟨gT.2.1,gT.2.2,λx v m=>?_⟩;simp only[takes,KE,No,JT,QJ,KU,MB]at m;rcases m with⟨rfl,rfl⟩|⟨rfl,rfl⟩|⟨rfl,rfl⟩|⟨rfl,rfl⟩|⟨rfl,rfl⟩|⟨rfl,rfl⟩|⟨rfl,rfl⟩|⟨rfl,rfl⟩|⟨rfl,rfl⟩|⟨rfl,rfl⟩|⟨rfl,rfl⟩|⟨rfl,rfl⟩|⟨rfl,rfl⟩|⟨rfl,rfl⟩<;>show Ad rfl (by first|assumption|show Tq.g (by assumption))
 have dF:GD K w aR (gives.map λp=>(p.1,V.str p.2):List (Str×V)):=by
  show⟨gR.2.1,gR.2.2,λx v m=>?_⟩;simp only[gives,KE,No,JT,QJ,KU,MB]at m;rcases m with⟨rfl,rfl⟩|⟨rfl,rfl⟩|⟨rfl,rfl⟩|⟨rfl,rfl⟩|⟨rfl,rfl⟩|⟨rfl,rfl⟩|⟨rfl,rfl⟩|⟨rfl,rfl⟩|⟨rfl,rfl⟩|⟨rfl,rfl⟩|⟨rfl,rfl⟩|⟨rfl,rfl⟩|⟨rfl,rfl⟩|⟨rfl,rfl⟩<;>show Ad ⟨_,rfl⟩ (by first|assumption|show Tq.g (by assumption))
 have dG:GD K w aS (BN.map λp=>(p.1,V.ref ((An7 [("let",a2),("put",a3),("if",a4),("while",a5),("out",a0),("give",a6),("fail",a7),("set",a8),("store",a0),("do",a9)]) p.1)):List (Str×V)):=by
  show⟨gS.2.1,gS.2.2,λx v m=>?_⟩;simp only[BN,KE,No,JT,QJ,KU,MB]at m;rcases m with⟨rfl,rfl⟩|⟨rfl,rfl⟩|⟨rfl,rfl⟩|⟨rfl,rfl⟩|⟨rfl,rfl⟩|⟨rfl,rfl⟩|⟨rfl,rfl⟩|⟨rfl,rfl⟩|⟨rfl,rfl⟩|⟨rfl,rfl⟩<;>show Ad rfl (by first|assumption|show Tq.g (by assumption))
 have dE:GD K w aL (BN.map λp=>(p.1,V.int p.2):List (Str×V)):=by
  show⟨gL.2.1,gL.2.2,λx v m=>?_⟩;simp only[BN,KE,No,JT,QJ,KU,MB]at m;rcases m with⟨rfl,rfl⟩|⟨rfl,rfl⟩|⟨rfl,rfl⟩|⟨rfl,rfl⟩|⟨rfl,rfl⟩|⟨rfl,rfl⟩|⟨rfl,rfl⟩|⟨rfl,rfl⟩|⟨rfl,rfl⟩|⟨rfl,rfl⟩<;>show Ad ⟨_,rfl⟩ (by first|assumption|show Tq.g (by assumption))
 have tk:∀p∈takes,∀H,BJ K H ((An7 [("+",b0),("-",b1),("*",b2),("/",b3),("rest",b4),("<",b5),("and",b6),("or",b7),("not",b8),("list",b9),("long",aE),("at",aF),("out",aG),("store",aH)]) p.1) (p.2.map V.str):=by
  intro p m;simp only[takes,JT,KU,MB]at m
  rcases m with rfl|rfl|rfl|rfl|rfl|rfl|rfl|rfl|rfl|rfl|rfl|rfl|rfl|rfl
  .show u0.top
  .show u1.top
  .show u2.top
  .show u3.top
  .show u4.top
  .show u5.top
  .show u6.top
  .show u7.top
  .show u8.top
  .show u9.top
  .show d5.top
  .show d6.top
  .show d7.top
  .show d8.top
 have TT:TxT K w mg aT aR (An7 [("+",b0),("-",b1),("*",b2),("/",b3),("rest",b4),("<",b5),("and",b6),("or",b7),("not",b8),("list",b9),("long",aE),("at",aF),("out",aG),("store",aH)]):=⟨LK X G gT.1,dH,tk,LK X G gR.1,dF⟩;have TS:TxS K w mg aS aL (An7 [("let",a2),("put",a3),("if",a4),("while",a5),("out",a0),("give",a6),("fail",a7),("set",a8),("store",a0),("do",a9)]):=⟨LK X G gS.1,LK X G gL.1,dG,dE⟩;show Aq dl (λs v=>?_) λbase KB _=>?_
 .show Dc Fl.ex λ_ _ _ _ _ _ z1=>Gh z1 λ_ _ _ z2 _=>?_;subst z2;show .of_eq rfl
 have B:Bs l.prog w K mg base:=(Ad X G);have O:=l5.b B λ_ F=>ok_want F;have A2:=l0.b B λ_ F=>Ww F I;have A3:=l1.b B λ_ F=>Ol F TG A2;have A4:=l4.b B λ_ F=>Ac2 F I;have A5:=l6.b B λ_ F=>Ac3 F A4;have A6:=l7.b B λ_ F=>Wy F I;have A7:=l2.b B λ_ F=>Sy F I;have A8:=l3.b B λ_ F=>Ui F A7;have A9:=l8.b B λ_ F=>Iq F I TG TK O A6 A5 A8;have Aa:=l9.b B λ_ F=>Ac4 F I TK;have Ab:=cB.b B λ_ F=>Q7 F I TG O A5 A8 Aa;have Ac:=cC.b B λ_ F=>Q6 F I O;have K0:AJ l.prog w K mg base 2 _ _ (Al6 C 0):=ac.b B λ_ F=>AH.none (λvs H Q E h=>by show Dc h λ_ _ _ _ _ _ z1=>?_;show Tu z1 λ_ _ _ _ _ _ _ _ _ _ z2=>?_;obtain⟨h,_⟩:=z2;unfold BF at h;show h);have KL:=kl_all K0 (λn m hm z=>cF.b B λ_ F=>Sw hm F I O A3 z) (λn m hm z=>cG.b B λ_ F=>P7 hm F I O z) (λn m hm z=>cH.b B λ_ F=>P8 hm F LT O z) (λn m hm z1 z2 z3=>ac.b B λ_ F=>P9 hm F I TT LT O z1 z2 z3)
 have ST:=Ar1 (fS:=(An7 [("let",a2),("put",a3),("if",a4),("while",a5),("out",a0),("give",a6),("fail",a7),("set",a8),("store",a0),("do",a9)])) KL (λm hm z1 z2 z3=>by
   intro h f hh;simp only[BN,KE,No,JT,QJ,V.ref.injEq,KU,MB]at hh;rcases hh with⟨rfl,rfl⟩|⟨rfl,rfl⟩|⟨rfl,rfl⟩|⟨rfl,rfl⟩|⟨rfl,rfl⟩|⟨rfl,rfl⟩|⟨rfl,rfl⟩|⟨rfl,rfl⟩|⟨rfl,rfl⟩|⟨rfl,rfl⟩
   .show aQ.t B λ_ F=>Lw hm F LT O A5 z1
   .show aU.t B λ_ F=>Lu (by omega) F I O z2
   .show aV.t B λ_ F=>if_none (by decide)
   .show aW.t B λ_ F=>Z7 (by decide)
   .show aI.t B λ_ F=>E6 (.inl rfl) F TT z2
   .show aX.t B λ_ F=>Kw F LT z2
   .show aY.t B λ_ F=>Kx hm F O A3
   .show aZ.t B λ_ F=>Ls F z2 z3
   .show aI.t B λ_ F=>E6 (.inr rfl) F TT z2
   .show aa.t B λ_ F=>Mv F z1) (λn m hm z1 z2 z3 z4=>by
   intro h f hh;simp only[BN,KE,No,JT,QJ,V.ref.injEq,KU,MB]at hh;rcases hh with⟨rfl,rfl⟩|⟨rfl,rfl⟩|⟨rfl,rfl⟩|⟨rfl,rfl⟩|⟨rfl,rfl⟩|⟨rfl,rfl⟩|⟨rfl,rfl⟩|⟨rfl,rfl⟩|⟨rfl,rfl⟩|⟨rfl,rfl⟩
   .show aQ.t B λ_ F=>Lw hm F LT O A5 z1
   .show aU.t B λ_ F=>Lu (by omega) F I O z2
   .show aV.t B λ_ F=>Uf F z2 z4
   .show aW.t B λ_ F=>P5 F z2 z4
   .show aI.t B λ_ F=>E6 (.inl rfl) F TT z2
   .show aX.t B λ_ F=>Kw F LT z2
   .show aY.t B λ_ F=>Kx hm F O A3
   .show aZ.t B λ_ F=>Ls F z2 z3
   .show aI.t B λ_ F=>E6 (.inr rfl) F TT z2
   .show aa.t B λ_ F=>Mv F z1) (λn m hm z=>cE.b B λ_ F=>Kz hm F I TS O z) 5
 have Ba:=cD.b B λ_ F=>Q8 (by decide) F I O ST;have ai:=Wz (P:=l.prog) (w:=w) (mg:=mg) (base:=base) FI LT;have B1:=l5.b1 B λ_ F=>ok_want1 F TE;have B6:=l7.b B λ_ F=>Uh F I;have B7:=l2.b B λ_ F=>Ra F I;have B8:=l3.b B λ_ F=>Sz F B7;have B9:CN l.prog w K mg base 4 _ _ (λvs H Q E=>Ar8 vs H Q E\/Aa4 cR vs H Q E):=l8.b1 B λ_ F=>fnOr (Iq F I TG TK O A6 A5 A8).up (Ud F I TG TK B1 B6 A5 A8);have Bt:CN l.prog w K mg base 38 _ _ (As0 cR 11):=cJ.b1 B λ_ F=>(P6 (by decide) F I TM B1 B6 B8 B9 Ab Ac Ba ai.up).imp lb_lk;have Bw:=cf.b B λ_ F=>Nh F I TE A3;have Bp:=cg.b1 B λ_ F=>Ue F I TE Bw;have Bb:=ci.b1 B λ_ F=>Qb F I TE Bp;have Br:=cj.b1 B λ_ F=>Wq (by decide) F Bb Bt;have Qt:AJ l.prog w K mg base 15 "_law_text" ["_law_thing"] (T4 15):=by
  show Fc ca λa z1=>Am z1 λfd F c=>?_;have a:=LK X G a;show AJ.of (Qr F I a F.kp c 15) a F.kp c
 have Qa:AJ l.prog w K mg base 15 "_law_alike" Oe (spAl 15):=by
  show Fc cb λa z1=>Am z1 λfd F c=>?_;have a:=LK X G a;show AJ.of (Oj F I a F.kp c 15) a F.kp c
 have Qs:AJ l.prog w K mg base 15 "brackets_shown" Em (T4 15):=by
  show Fc cc λa z1=>Am z1 λfd F c=>?_;have a:=LK X G a;show AJ.of (Ir F I a F.kp c 15) a F.kp c
 have Qh:=ce.b B λ_ F=>Uc F Qs;have Y:=cN.b B λ_ F=>Ys F I;have N2:=cQ.b B λ_ F=>Ug F I Y;have N3:=cU.b B λ_ F=>Yt F I N2;have Pz:AJ l.prog w K mg base 1 _ _ (λvs H Q E=>false=true/\Jy false vs H Q E):=aN.b B λ_ F=>AH.none (λvs H Q E h=>by cases h.1);have Pf:=aN.b B λ_ F=>Oi (by decide) F I Y Pz;have Pg:AJ l.prog w K mg base 2 "_law_plain" Qq (λvs H Q E=>true=true/\Jy false vs H Q E):=by
  show C8 Pf.ex λf' aA z r=>⟨f',aA,⟨λvs H Q E h=>z.1 vs H Q E h.2,λA outer s H args us vs Q E a b c d h=>z.2 A outer s H args us vs Q E a b c d h.2⟩,r⟩
 have Pt:=aN.b B λ_ F=>Oi (by decide) F I Y Pg;have V0:AJ l.prog w K mg base 3 _ _ (Gp 0):=a1.b B λ_ F=>AH.none (λvs H Q E h=>by obtain⟨_,_,_,_,_,_,_,_,_,_,_,_,h,_⟩:=h;show NU _ h);have C0:=aB.b B λ_ F=>Ge (by decide) F I V0 N2 Pt;have D0:AJ l.prog w K mg base 5 _ _ (R4 0):=aC.b B λ_ F=>Dq (m:=4) (by decide) F I (V0.lift (by decide)) N2 C0;have E0:AJ l.prog w K mg base 5 _ _ (R3 0):=aD.b B λ_ F=>(Dx F V0).mono (by decide);have V1:AJ l.prog w K mg base 6 _ _ (Gp 1):=a1.b B λ_ F=>Fv (m:=5) (by decide) F Y Pt D0 E0 (C0.lift (by decide));have C1:=aB.b B λ_ F=>Ge (by decide) F I V1 N2 Pt;have D1:AJ l.prog w K mg base 8 _ _ (R4 1):=aC.b B λ_ F=>Dq (m:=7) (by decide) F I (V1.lift (by decide)) N2 C1;have E1:AJ l.prog w K mg base 8 _ _ (R3 1):=aD.b B λ_ F=>(Dx F V1).mono (by decide);have V2:AJ l.prog w K mg base 9 _ _ (Gp 2):=a1.b B λ_ F=>Fv (m:=8) (by decide) F Y Pt D1 E1 (C1.lift (by decide));have C2:=aB.b B λ_ F=>Ge (by decide) F I V2 N2 Pt;have D2:AJ l.prog w K mg base 11 _ _ (R4 2):=aC.b B λ_ F=>Dq (m:=10) (by decide) F I (V2.lift (by decide)) N2 C2;have E2:AJ l.prog w K mg base 11 _ _ (R3 2):=aD.b B λ_ F=>(Dx F V2).mono (by decide);have V3:AJ l.prog w K mg base 12 _ _ (Gp 3):=a1.b B λ_ F=>Fv (m:=11) (by decide) F Y Pt D2 E2 (C2.lift (by decide));have C3:=aB.b B λ_ F=>Ge (by decide) F I V3 N2 Pt;have D3:AJ l.prog w K mg base 14 _ _ (R4 3):=aC.b B λ_ F=>Dq (m:=13) (by decide) F I (V3.lift (by decide)) N2 C3;have E3:AJ l.prog w K mg base 14 _ _ (R3 3):=aD.b B λ_ F=>(Dx F V3).mono (by decide);have V4:AJ l.prog w K mg base 15 _ _ (Gp 4):=a1.b B λ_ F=>Fv (m:=14) (by decide) F Y Pt D3 E3 (C3.lift (by decide));have C4:=aB.b B λ_ F=>Ge (by decide) F I V4 N2 Pt;have D4:AJ l.prog w K mg base 17 _ _ (R4 4):=aC.b B λ_ F=>Dq (m:=16) (by decide) F I (V4.lift (by decide)) N2 C4;have E4:AJ l.prog w K mg base 17 _ _ (R3 4):=aD.b B λ_ F=>(Dx F V4).mono (by decide);have V5:AJ l.prog w K mg base 18 _ _ (Gp 5):=a1.b B λ_ F=>Fv (m:=17) (by decide) F Y Pt D4 E4 (C4.lift (by decide));have Lt:=cV.b B λ_ F=>Ac1 (by decide) F N3 V5;have Pu:=cW.b B λ_ F=>Ac0 (by decide) F I N2 V5;have De:=cX.b B λ_ F=>Yu (by decide) F I N3 N2 V5;have ae:AJ l.prog w K mg base 18 _ _ (R7 0):=aK.b B λ_ F=>AH.none (λvs H Q E h=>by obtain⟨_,_,_,_,_,_,_,_,_,_,_,_,_,h,_⟩:=h;show NU _ h);have am:AJ l.prog w K mg base 18 _ _ (λvs H Q E=>0<0/\M5 1 vs H Q E):=aJ.b B λ_ F=>AH.none (λvs H Q E h=>NK _ h.1);have aM:=aK.b B λ_ F=>Jf (by decide) F I Y V5 am ae;have P0:AJ l.prog w K mg base 19 _ _ (M5 0):=aJ.b B λ_ F=>AH.none (λvs H Q E h=>by obtain⟨_,_,_,_,_,_,_,_,_,_,_,_,_,_,_,h,_⟩:=h;show NU _ h);have aq:AJ l.prog w K mg base 20 _ _ (Al5 1):=aP.b B λ_ F=>F2 (n:=0) (m:=19) (by decide) F I Y (Lt.lift (by decide)) (Pu.lift (by decide)) (De.lift (by decide)) (V5.lift (by decide)) P0;have P1:=aJ.b B λ_ F=>Qu F I aq (aM.lift (by decide));have au:AJ l.prog w K mg base 22 _ _ (Al5 2):=aP.b B λ_ F=>F2 (n:=1) (m:=21) (by decide) F I Y (Lt.lift (by decide)) (Pu.lift (by decide)) (De.lift (by decide)) (V5.lift (by decide)) P1;have P2:=aJ.b B λ_ F=>Qu F I au (aM.lift (by decide));have av:AJ l.prog w K mg base 24 _ _ (Al5 3):=aP.b B λ_ F=>F2 (n:=2) (m:=23) (by decide) F I Y (Lt.lift (by decide)) (Pu.lift (by decide)) (De.lift (by decide)) (V5.lift (by decide)) P2;have aj:AJ l.prog w K mg base 21 "_law_part" Ab5 (λvs H Q E=>0<1/\M5 1 vs H Q E):=by
  show C8 ((P1.lift (k':=21) (by decide)).ex) λf' aA z r=>⟨f',aA,⟨λvs H Q E h=>z.1 vs H Q E h.2,λA outer s H args us vs Q E a b c d h=>z.2 A outer s H args us vs Q E a b c d h.2⟩,r⟩
 have al:AJ l.prog w K mg base 22 "_law_part" Ab5 (λvs H Q E=>0<2/\M5 1 vs H Q E):=by
  show C8 ((P1.lift (k':=22) (by decide)).ex) λf' aA z r=>⟨f',aA,⟨λvs H Q E h=>z.1 vs H Q E h.2,λA outer s H args us vs Q E a b c d h=>z.2 A outer s H args us vs Q E a b c d h.2⟩,r⟩
 have ag:AJ l.prog w K mg base 22 _ _ (R7 2):=aK.b B λ_ F=>Jf (n:=1) (m:=21) (by decide) F I Y (V5.lift (by decide)) aj (aM.lift (by decide));have ah:AJ l.prog w K mg base 23 _ _ (R7 3):=aK.b B λ_ F=>Jf (n:=2) (m:=22) (by decide) F I Y (V5.lift (by decide)) al ag;have Fu:=cY.b B λ_ F=>Q9 (by decide) F I av (ah.lift (by decide));have Wo:=cO.b B λ_ F=>Wt F I;have Tr:=cZ.b B λ_ F=>Yr (by decide) F I Y Wo N3 Fu;have Ce:=cK.b B λ_ F=>Yv F I;have Dr:=cL.b B λ_ F=>Wv F I Ce;have Kn:=ck.bH B λ_ F=>Wu F I TE;have Wr:=cn.b B λ_ F=>Ws F I;have Re:=cm.b B λ_ F=>Sv (by decide) F I TE (Bt.lift (by decide)) Br Kn;show ok_law (m:=40) (by decide) Fl Ce Dr (Tr.lift (by decide)) Qt Qa Qh (Br.lift (by decide)).down (Bt.lift (by decide)).down Wr Re
def walk {l:PySem.W.OpenLaw}{q:Program}{a1:List Str}{Y:(Str->Option Value)->Heap->Prop}{I:World->Heap->Prop}{d:DefRec}{K:Params->PySem.W.Frag}(hn:l.most=some 63)(a0:d.params.defaults=[])
   (hY:∀(w:World) (h:Heap),I w h->(K w.params).In h)
   (F:∀(w:World) (mg:Cb) (O:Addr) (h:Heap),(K w.params).In h->h.Ns mainGlobals mg->mg d.name=some (.ref O) ->
     ∃fd:FuncData,(∀(s:Shared) (u:Value),BindsTo s fd ⟨[u],[]⟩ [("_law_script",u)])/\∀base:Heap,(K w.params).In base->base.Ns mainGlobals mg->AH l.prog w (K w.params) mg base BE 41 O fd ["_law_script"] (Af3 (K w.params))) :
   PySem.W.WalkO q a1 Y I l.row.toRowW d [] (λf vs=>PySem.call f vs):=
 L2.walk_of (n:=63) (k:=41) (x:="_law_script") (CX:=λ_=>BE) (sp:=λw=>Af3 (K w.params)) hn (by decide) a0 ⟨rfl,by decide,by decide⟩ hY F (λ_ _ a ns hl _ hS=>(Co a ns rfl hS hl λ_=>rfl)) λ_ _ _ _ _ z=>z
end R5
end
def PySem.W.Fast.tw8621675788409148125:Unit:=()
set_option genSizeOf false
set_option genInjectivity false
structure PySem.W.Fast where(tw878961703174927865 tw17510910609749122482 tw5923156091423007991 tw18408336593162930652 tw8346096245437009941 tw10159259671116092486 tw3774078578572882822 tw10835912994132096095 tw14683028085652364728 tw16956495563422583170 tw10016930262149993908 tw5705187573589383329 tw2854583330596459920 tw9060483033803960833 tw11016560717683284487 tw18331921890963925103 tw13309046457133892194 tw13217401822754841613 tw1298896578948262197 tw11933117184540590629 tw10380646205673760471 tw15726754536248189053 tw13672601306955123350 tw12608415751572781198 tw1840662752157247937 tw6780159966683013272 tw14350073315537795166 tw8015021815681900380 tw18296132818280078727 tw16786015757353852146 tw14923749493000919939 tw2315297434575119442 tw1679214113310901093 tw12201907305339406431 tw3869595165135930198 tw15976995579092427994 tw5284000617039241616 tw11396442084143233031 tw14122788444828348674 tw5681955467236825236 tw8305618642318160210 tw5977077414043815560 tw7843386155902841240 tw2982690573505853277 tw16127063177823621816 tw1262170472170076048 tw6867483121641491743 tw9195816804353140635 tw14727401202483944189 tw12128993994457074313 tw11188437332578285080 tw1294418227867504518 tw881965545717442319 tw3755636648146850972 tw198635868530728338 tw7454290958454811662 tw1395356685063064024 tw23865662422398863 tw9350368760428240644 tw12580862553996801223 tw2903830848063297171 tw1937217417759976718 tw17558802084912952313 tw12944158753259869457 tw3391639969975810488 tw12164872999475600844 tw6974303559716768103 tw10784031431953641943 tw12494136543830473151 tw9647841075069270528 tw554457409370507511 tw16413462751427513593 tw12324821184176602122 tw8529255085465685648 tw832654697449414258 tw7488482348748161572 tw9218400146616205043 tw6422826489706073149 tw9678501189313011940 tw5934936611233436659 tw17436859485733816372 tw4491055378300874657 tw9368496417815203216 tw3368296801236804581 tw9164487133915536850 tw11171333195679282715 tw10452681035831366023 tw9699758347138718940 tw15231016620888355867 tw9908839810755021976 tw540432949909582832 tw2229137953427553506 tw6825418347911027481 tw16556243903236609141 tw1834872359799010574 tw10275264414333476708 tw8485482266856698809 tw8375270186932511850 tw8158143174367468599 tw8988132261714053473 tw9602651980227490257 tw3888811208110680453 tw15940597383166678066 tw17150146813503295685 tw2690429987857860624 tw6872692332653576089 tw12657295317162543560 tw4587714509001954022 tw6817884544415892868 tw16505669268869465802 tw14907590263424572438 tw15407805480719145983 tw18434844249779676973 tw122768729016316507 tw13324222994266211093 tw514641911988428319 tw17896924390653925692 tw15228701696220432426 tw13855234182158976502 tw8465986865262066817 tw14734910993680243486 tw13124073730745942712 tw6530105629888796161 tw9014363072434821738 tw12105774309925819864 tw8600800138434035828 tw7185502502738085476 tw17765632943013116411 tw4271572821603190687 tw8908097840631904470 tw6798523057050334798 tw14715840554289098869 tw9562945149775624183 tw12481251054623189083 tw12322437698269425834 tw1803281077500761609 tw7703398090009838183 tw5008529169685624763 tw9085561423577345909 tw2092695786714887811 tw4427938625988039922 tw2266699014050760079 tw1639955068760672467 tw6247883085989992266 tw17357783713945198870 tw12643043602468366531 tw629869863327865229 tw3985526016274018924 tw4639847500299487705 tw10842716163961778899 tw6652488563306290832 tw14867130601269316321 tw2112315543186600558 tw7335899626493094431 tw5284137322976630144 tw5877668338265448965 tw1203496478293917304 tw10052943997876368087 tw1343465259864250717 tw17696788056223606017 tw4862595950593212513 tw6050868625946793374 tw2647726199252566600 tw1492667431040430404 tw7533741844429352515 tw14929060140422272935 tw12168019211751310130 tw17106849340160999825 tw17312846628104104994 tw6661370672793288302 tw964562947356641713 tw2672904713104159701 tw2717934365846875871 tw5641954373036486022 tw2819132360200358212 tw8490839851159151120 tw17968420707248706742 tw10475801758800479050 tw1650178377623427527 tw17505584754724603962 tw12728843942846605798 tw15617098145623483702 tw13470465030076654558 tw10513001785047752577 tw17058164597110251231 tw10762338722403641732 tw1360015768836204261 tw15268177842972649713 tw6713723533383936158 tw5784637894632039936 tw4010989075960729459 tw18380839179906754322 tw16232044457815654403 tw4001076949067094754 tw13785112996197068951 tw18369934592375311851 tw7436915878588287646 tw2651777629874479008 tw4519880652313070641 tw12527751775672457967 tw14123510469088444169 tw1318763280237827819 tw1075945351605525370 tw17298606532974543034 tw12618484142481886956 tw9819433687513931969 tw11321382865578231451 tw3127512314485999970 tw15794836896193095356 tw12146583094947365330 tw11388993278405529543 tw13180501534955374620 tw9785106052626511976 tw14550405953021101418 tw11603356678845716434 tw12035910997838693547 tw7678299803460483546 tw14410455103351275548 tw6041006957050907125 tw12858283665730946166 tw13398384654084517189 tw16423084747149011095 tw9355084038665594547 tw12424299233341536088 tw11599065518238573015 tw4943468679969208644 tw10414146866095233566 tw1652414806876242536 tw10061431264285372783 tw3640632809986068972 tw5499231066102882300 tw13153458479455765937 tw14102392646132831991 tw8183139521923647246 tw11634975969360186278 tw16394600578296257437 tw16092863165287775734 tw3254731401012287185 tw6609627617871283834 tw8124465036377647023 tw11425806233094597795 tw11499736561363077799 tw13008788341107967682 tw17860271858990683070 tw12722910656845808097 tw2335087249434560707 tw9034600830331473483 tw12348784211433735822 tw8753923353966427034 tw13018108899170394117 tw12452966760977414818 tw7238111181704063737 tw5301806908821056460 tw17533912337597962694 tw11760819507385034370 tw8819057083952221469 tw12503204843617448204 tw7827917784790315650 tw7867831296798821798 tw6433966254227203824 tw2046923814722326845 tw4774329487989288411 tw2716397900296228666 tw12070240724939010316 tw16815684749336799193 tw13541757655234736229 tw17832934347976057494 tw4729602401657636759 tw18291385132286268248 tw2032803112828218313 tw9388678002130110332 tw1748632405582884563 tw4314849644012705824 tw13301157389129603967 tw7642543705551973778 tw3663500321654875729 tw12436228752722218481 tw13550000383822668601 tw16516921085310575233 tw700037308463338043 tw10163264858781330089 tw1365580953391585445 tw7575477745790930750 tw12483649757291175077 tw14259889461863812815 tw8057651685003234325 tw9085181393790034279 tw10203879263149985863 tw14725749195253008210 tw6614839371374220795 tw9950416102081207629 tw6808793253153965142 tw13518872665472210801 tw2314123228630870662 tw2097892061315279831:Unit)
open PySem PySem.W PyProof.Rows L2 T R5
set_option maxRecDepth 100000 in
set_option maxHeartbeats 0 in
theorem PySem.Challenge.cw_passpapers_k05_trees_read_holds : PySem.Challenge.rw_passpapers_k05_trees_read.Holds := by
 w_on;o_law;k_head;(case hw=>w_witness2)
 k_fill
 refine R5.walk (l:=PySem.Challenge.rw_passpapers_k05_trees_read) rfl rfl (fun w h Y=>PySem.W.kIn_of Y) ?yF
 case yF =>
  intro w mg fa h KX GG hmg
  refine' R5.all_mk KX GG hmg ?l0 ?l1 ?l2 ?l3 ?l4 ?l6 ?l8 ?l11 ?l27 ?l30 ?l38 ?l39 ?l40 ?l46 ?l47 ?l49 ?l50 ?l51 ?l52 ?l53 ?l54 ?l55 ?l5 ?l7 ?l9 ?l10 ?l12 ?l28 ?l31 ?l32 ?l37 ?l41 ?l42 ?l44 ?l48 ?l56 ?l57 ?l13 ?l14 ?l15 ?l16 ?l17 ?l18 ?l19 ?l20 ?l21 ?l22 ?l23 ?l24 ?l29 ?l33 ?l34 ?l35 ?l36 ?l45 ?l25 ?l26 ?l43 ?ll ?it1 ?it2 ?it3 ?it4 ?it5 ?it6 ?z0 ?z1 ?z2 ?z3 ?z4 ?z5 ?z6 ?z7 ?z8 ?z9 ?z10 ?z11 ?z12 ?gcC ?qC ?nC0 ?nC1 ?nC2 ?nC3 ?MC ?lI ?gO ?gT ?gR ?gS ?gL ?u0 ?u1 ?u2 ?u3 ?u4 ?u5 ?u6 ?u7 ?u8 ?u9 ?u10 ?u11 ?u12 ?u13 ?r0 ?r1 ?r2 ?r3 ?r4 ?r5 ?r6 ?r7 ?r8 ?r9 ?r10 ?r11 ?r12 ?r13 ?p0 ?p1 ?p2 ?p3 ?p4 ?p5 ?p6 ?p7 ?p8 ?p9 ?h0 ?h1 ?h2 ?h3 ?h4 ?h5 ?h6 ?h7 ?h8 ?h9 ?zV ?ncP ?ncT ?ncR ?ncM ?ncA ?ncS ?xcT ?xcR
  (case l0|l1|l2|l3|l4|l6|l8|l11|l27|l30|l38|l39|l40|l46|l47|l49|l50|l51|l52|l53|l54|l55=>exact GH (by k_is) (by k_is) (by k_is) (by k_is) fun _ _ _ _ _ _ _=>rfl)
  (case l5|l7|l9|l10|l12|l28|l31|l32|l37|l41|l42|l44|l48|l56|l57=>exact GU (by k_is) (by k_is) (by k_is) (by k_is) fun _ _ _ _ _ _ _ _=>rfl)
  (case l13|l14|l15|l16|l17|l18|l19|l20|l21|l22|l23|l24|l29|l33|l34|l35|l36|l45=>exact JO (by k_is) (by k_is) (by k_is) (by k_is) fun _ _ _ _ _ _ _ _ _=>rfl)
  (case l25|l26|l43=>exact gd4 (by k_is) (by k_is) (by k_is) (by k_is) fun _ _ _ _ _ _ _ _ _ _=>rfl)
  (case ll=>exact dgm (by k_is) (by k_is) (by k_is) (by k_is))
  (case it1|it2|it3|it4|it5|it6=>unfold Ni;k_is)
  (case z0|z1|z2|z3|z4|z5|z6|z7|z8|z9|z10|z11|z12=>unfold Nz;k_is)
  (case gcC=>unfold Nr;k_is)
  (case qC=>exact⟨by k_is,by k_is,by k_is,by k_is⟩)
  (case nC0|nC1|nC2|nC3=>unfold BP;k_is)
  (case MC=>exact⟨by k_is,by k_is,by k_is,by k_is⟩)
  (case lI=>exact dfm (by k_is) (by k_is) (by k_is))
  (case gO=>exact tqm (by k_is) (by k_is) (by decide) (by repeat first|exact .nil|refine .cons ⟨_,rfl⟩ ?_))
  (case gT|gR|gS|gL=>exact tbm (by k_is) (by k_is) (by k_keys) (by decide))
  (case u0|u1|u2|u3|u4|u5|u6|u7|u8|u9|u10|u11|u12|u13=>exact tqm (by k_is) (by k_is) (by decide) (by repeat first|exact .nil|refine .cons ⟨_,rfl⟩ ?_))
  (case r0|r1|r2|r3|r4|r5|r6|r7|r8|r9|r10|r11|r12|r13=>unfold Nt;k_is)
  (case p0|p1|p2|p3|p4|p5|p6|p7|p8|p9=>unfold Nr;k_is)
  (case h0|h1|h2|h3|h4|h5|h6|h7|h8|h9=>unfold Ni;k_is)
  (case zV=>unfold Nz;k_is)
  (case ncP|ncT|ncR|ncM|ncA|ncS=>unfold Nr;k_is)
  (case xcT|xcR=>exact⟨by kernel_rfl,⟨by k_is,by k_is,by k_is,by k_is,by k_is,by k_is⟩,by kernel_rfl,by kernel_rfl,by kernel_rfl,by kernel_rfl,by kernel_rfl⟩)
