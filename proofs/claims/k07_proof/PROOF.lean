import PyProof.Rows.All
import Wide.All
import OpenK.AllK
import Wide.FinOn
import Lean
import PyProof.EqAt
import PyProof.EqKinds
import PyProof.TupleCall
import KE.KTryMore
import OpenK.KOwn
import PyProof.ExcArgsOwn
import PyProof.RulesAs
import KE.KEqSeq
import PyProof.ConsumeWalk
import PyProof.WalksMore
import PyProof.DictCompW
import PyProof.WalksEnum
import PyProof.AttrMissHeap
import PyProof.MeetsIn
import PyProof.DictUpdate
import KE.KEqDict
import PyProof.WalkInts
import PyProof.ExcInit
import PyProof.InstStoreFacts
import KE.KLam
import PyProof.DelItemList
import PyProof.RulesDelMore
import PyProof.DictItems
import KE.KPairComp
import PyProof.ListMulRoad
import PyProof.DictIter
import PyProof.DictWalks
import KE.KDictList
import PySem.Challenge.RW_passpapers_k07_kinds_refused
set_option Elab.async false
set_option linter.all false
set_option maxRecDepth 100000
set_option maxHeartbeats 0
noncomputable section
abbrev JA:=@_root_.PySem.wpAny_bind
abbrev JB:=@_root_.List.length_map
abbrev JC:=@_root_.List.mem_cons
abbrev JD:=@_root_.PySem.Heap.get?_push_of_some
abbrev JE:=@_root_.List.mem_cons_of_mem
abbrev JF:=@_root_.PySem.wpAny_pure
abbrev JG:=@_root_.Nat.le_refl
abbrev JH:=@_root_.List.length_append
abbrev JI:=@_root_.List.not_mem_nil
abbrev JJ:=@_root_.List.mem_cons_self
abbrev JK:=@_root_.PySem.Heap.lt_size
abbrev JL:=@_root_.of_decide_eq_true
abbrev JM:=@_root_.List.mem_singleton
abbrev JN:=@_root_.if_pos
abbrev JO:=@_root_.decide_eq_true
abbrev JP:=@_root_.if_neg
abbrev JQ:=@_root_.List.size_toArray
abbrev JR:=@_root_.List.length_cons
abbrev JS:=@_root_.PySem.Heap.get?_push_size
abbrev JT:=@_root_.List.mem_map
abbrev JU:=@_root_.List.mem_of_getElem?
abbrev JV:=@_root_.List.mem_append
abbrev JW:=@_root_.Bool.and_eq_true
abbrev JX:=@_root_.List.map_cons
abbrev JY:=@_root_.Nat.le_trans
abbrev JZ:=@_root_.List.mem_append_right
abbrev KA:=@_root_.Nat.lt_of_lt_of_le
abbrev KC:=@_root_.Nat.ne_of_lt
abbrev KD:=@_root_.PySem.F.plainAttrs_list
abbrev KE:=@_root_.PySem.wpAny_field
abbrev KG:=@_root_.or_false
abbrev KH:=@_root_.List.getElem?_map
abbrev KI:=@_root_.List.map_append
abbrev KJ:=@_root_.List.length_singleton
abbrev KN:=@_root_.List.getElem?_eq_getElem
abbrev KP:=@_root_.PyProof.Rows.slot_tuple_getitem
abbrev KQ:=@_root_.Bool.false_ne_true
abbrev KR:=@_root_.Option.some.inj
abbrev KS:=@_root_.Nat.lt_of_le_of_lt
abbrev KU:=@_root_.PySem.sizeLine_eq
abbrev KW:=@_root_.PySem.wpAny_callSpecial?_slot
abbrev KY:=@_root_.Nat.zero_le
abbrev KZ:=@_root_.PySem.W.mg_none_of
abbrev LA:=@_root_.PySem.W.mg_of
abbrev LB:=@_root_.congrArg
abbrev LC:=@_root_.decide_eq_false
abbrev LD:=@_root_.List.take_length
abbrev LG:=@_root_.List.length_take
abbrev LH:=@_root_.PySem.wpAny_newObj_type
abbrev LI:=@_root_.List.nodup_append
abbrev LJ:=@_root_.decide_eq_true_eq
abbrev LK:=@_root_.PySem.wpAny_setField_rec
abbrev LL:=@_root_.PySem.AutoSeq1.wpAny_loadPart'
abbrev LM:=@_root_.PySem.F.slot_list_append
abbrev LN:=@_root_.PySem.F.type_list_append
abbrev LO:=@_root_.List.all_eq_true
abbrev LP:=@_root_.List.all_cons
abbrev LQ:=@_root_.List.mem_append_left
abbrev LS:=@_root_.Nat.ne_of_gt
abbrev LU:=@_root_.List.take_of_length_le
abbrev LV:=@_root_.List.drop_of_length_le
abbrev LW:=@_root_.of_decide_eq_false
abbrev LX:=@_root_.PySem.W.kia_one
abbrev LY:=@_root_.PySem.wpAny_call_entry
abbrev LZ:=@_root_.PySem.wpAny_pyIter_tuple
abbrev MA:=@_root_.List.length_replicate
abbrev MB:=@_root_.PySem.wpAny_truthy_bool
abbrev MD:=@_root_.Sum.inr.inj
abbrev ME:=@_root_.PySem.Heap.size_push
abbrev MF:=@_root_.List.mem_of_mem_drop
abbrev MG:=@_root_.PySem.PassesOwn.never
abbrev MH:=@_root_.PySem.mem_of_lookup
abbrev MI:=@_root_.PySem.wpAny_pyIter_list
abbrev MJ:=@_root_.Nat.lt_irrefl
abbrev MK:=@_root_.PySem.wpAny_seqItems
abbrev ML:=@_root_.List.nodup_cons
abbrev MM:=@_root_.PySem.wpAny_Call_Name_kw
abbrev MN:=@_root_.List.length_drop
abbrev MO:=@_root_.List.lookup_cons
abbrev MP:=@_root_.decide_eq_false_iff_not
abbrev MQ:=@_root_.PyProof.Rows.callWith_type1
abbrev MR:=@_root_.PySem.wpAny_holding
abbrev MS:=@_root_.List.cons.inj
abbrev MT:=@_root_.PySem.F.slot_tuple_iterator_next
abbrev MU:=@_root_.Bool.eq_iff_iff
abbrev MV:=@_root_.Nat.min_eq_left
abbrev MW:=@_root_.PySem.F.slot_list_pop
abbrev MX:=@_root_.PySem.F.type_list_pop
abbrev MY:=@_root_.PySem.wpAny_mono
abbrev MZ:=@_root_.List.mem_of_mem_take
abbrev NA:=@_root_.Bool.not_eq_true'
abbrev NB:=@_root_.List.append_nil
abbrev ND:=@_root_.PySem.F.slot_zip_next
abbrev NE:=@_root_.List.filterMap_cons
abbrev NF:=@_root_.PySem.Heap.get?_update_other
abbrev NG:=@_root_.List.map_nil
abbrev NH:=@_root_.List.find?_cons_of_neg
abbrev NI:=@_root_.Ne.symm
abbrev NJ:=@_root_.PySem.codeAny_mono
abbrev NK:=@_root_.List.take_sublist
abbrev NL:=@_root_.List.any_cons
abbrev NN:=@_root_.PySem.wpAny_comprehension_free
abbrev NO:=@_root_.PyProof.Rows.boot_tuple
abbrev NP:=@_root_.Array.length_toList
abbrev NQ:=@_root_.PySem.wpAny_getItem_str_slice
abbrev NR:=@_root_.PySem.wpAny_isInstance
abbrev NT:=@_root_.PySem.boot_len
abbrev NU:=@_root_.PySem.F.slot_zip_getattribute
abbrev NV:=@_root_.PySem.W.callWith_K
abbrev NW:=@_root_.if_true
abbrev NY:=@_root_.PySem.tupleKind_room_in1
abbrev NZ:=@_root_.Bool.false_eq_true
abbrev No:=@_root_.List.filter_append
abbrev OA:=@_root_.List.find?_cons
abbrev OB:=@_root_.Nat.not_lt_zero
abbrev OC:=@_root_.Prod.mk.injEq
abbrev OD:=@_root_.PySem.F.slot_enumerate_next
abbrev OE:=@_root_.PySem.wpAny_loadPart_at
abbrev OF:=@_root_.PySem.PassesOwn.leaving
abbrev OG:=@_root_.PySem.codeAny_call_builtin
abbrev OH:=@_root_.PySem.Str.cps_append
abbrev OI:=@_root_.Nat.le_of_eq
abbrev OJ:=@_root_.PySem.wpAny_typeOf
abbrev OK:=@_root_.List.getElem_mem
abbrev OL:=@_root_.List.cons_append
abbrev OM:=@_root_.Nat.min_eq_right
abbrev ON:=@_root_.List.getElem?_eq_none_iff
abbrev OO:=@_root_.List.mem_of_find?_eq_some
abbrev OP:=@_root_.List.replicate_succ
abbrev OQ:=@_root_.Array.toList_append
abbrev OR:=@_root_.List.take_succ_cons
abbrev OS:=@_root_.PySem.F.args_tuple_add_2
abbrev OT:=@_root_.PySem.wpAny_attempt
abbrev OU:=@_root_.PySem.wpAny_passesOwn
abbrev OV:=@_root_.List.length_nil
abbrev OW:=@_root_.List.nil_append
abbrev OX:=@_root_.PySem.Calls.spliced_cons
abbrev OY:=@_root_.PySem.call_meets
abbrev OZ:=@_root_.Nat.le_succ
abbrev Of:=@_root_.PySem.F.entry_tuple_add
abbrev PB:=@_root_.List.filter_cons_of_pos
abbrev PD:=@_root_.List.filter_cons_of_neg
abbrev PF:=@_root_.Int.toNat_natCast
abbrev PH:=@_root_.PySem.isSubtype_stop
abbrev PJ:=@_root_.not_or
abbrev PK:=@_root_.beq_iff_eq
abbrev PL:=@_root_.dite_true
abbrev PM:=@_root_.List.any_eq_true
abbrev PN:=@_root_.if_false
namespace L2
open PySem PySem.Spec PyProof.Rows
theorem zl (n:Nat)(h:n<=1000:=by decide):n<=sizeLine:=JY h (by decide)
theorem Bc {A B R:Prop}(h0:A)(h1:B)(r:R):A/\B/\R:=⟨h0,h1,r⟩
theorem C6 {A B C R:Prop}(h0:A)(h1:B)(h2:C)(r:R):A/\B/\C/\R:=⟨h0,h1,h2,r⟩
theorem Du {A B C D R:Prop}(h0:A)(h1:B)(h2:C)(h3:D)(r:R):A/\B/\C/\D/\R:=⟨h0,h1,h2,h3,r⟩
theorem El {A B C D E R:Prop}(h0:A)(h1:B)(h2:C)(h3:D)(h4:E)(r:R):A/\B/\C/\D/\E/\R:=⟨h0,h1,h2,h3,h4,r⟩
theorem Ar {α:Type}{A R:α->Prop}(a:α)(h0:A a)(r:R a):∃a,A a/\R a:=⟨a,h0,r⟩
theorem B4 {α:Type}{A B R:α->Prop}(a:α)(h0:A a)(h1:B a)(r:R a):∃a,A a/\B a/\R a:=⟨a,h0,h1,r⟩
theorem Cv {α:Type}{A B C R:α->Prop}(a:α)(h0:A a)(h1:B a)(h2:C a)(r:R a):∃a,A a/\B a/\C a/\R a:=⟨a,h0,h1,h2,r⟩
theorem Ou {α:Type}{A B C D R:α->Prop}(a:α)(h0:A a)(h1:B a)(h2:C a)(h3:D a)(r:R a):∃a,A a/\B a/\C a/\D a/\R a:=⟨a,h0,h1,h2,h3,r⟩
theorem Nj {α:Type}{A B C D E R:α->Prop}(a:α)(h0:A a)(h1:B a)(h2:C a)(h3:D a)(h4:E a)(r:R a):∃a,A a/\B a/\C a/\D a/\E a/\R a:=⟨a,h0,h1,h2,h3,h4,r⟩
theorem Ki {α β:Type}{R:α->β->Prop}(a:α)(b:β)(r:R a b):∃a b,R a b:=⟨a,b,r⟩
theorem Ck {α β:Type}{A R:α->β->Prop}(a:α)(b:β)(h0:A a b)(r:R a b):∃a b,A a b/\R a b:=⟨a,b,h0,r⟩
theorem Ao {α β:Type}{A B R:α->β->Prop}(a:α)(b:β)(h0:A a b)(h1:B a b)(r:R a b):∃a b,A a b/\B a b/\R a b:=⟨a,b,h0,h1,r⟩
theorem Cj {α β:Type}{A B C R:α->β->Prop}(a:α)(b:β)(h0:A a b)(h1:B a b)(h2:C a b)(r:R a b):∃a b,A a b/\B a b/\C a b/\R a b:=⟨a,b,h0,h1,h2,r⟩
theorem Jp {α β:Type}{A B C D R:α->β->Prop}(a:α)(b:β)(h0:A a b)(h1:B a b)(h2:C a b)(h3:D a b)(r:R a b):∃a b,A a b/\B a b/\C a b/\D a b/\R a b:=⟨a,b,h0,h1,h2,h3,r⟩
theorem Md {α β:Type}{A B C D E R:α->β->Prop}(a:α)(b:β)(h0:A a b)(h1:B a b)(h2:C a b)(h3:D a b)(h4:E a b)(r:R a b):∃a b,A a b/\B a b/\C a b/\D a b/\E a b/\R a b:=⟨a,b,h0,h1,h2,h3,h4,r⟩
theorem Rh {α β γ:Type}{R:α->β->γ->Prop}(a:α)(b:β)(c:γ)(r:R a b c):∃a b c,R a b c:=⟨a,b,c,r⟩
theorem Mc {α β γ:Type}{A R:α->β->γ->Prop}(a:α)(b:β)(c:γ)(h0:A a b c)(r:R a b c):∃a b c,A a b c/\R a b c:=⟨a,b,c,h0,r⟩
theorem X8 {α β γ:Type}{A B R:α->β->γ->Prop}(a:α)(b:β)(c:γ)(h0:A a b c)(h1:B a b c)(r:R a b c):∃a b c,A a b c/\B a b c/\R a b c:=⟨a,b,c,h0,h1,r⟩
theorem Ek {α β γ:Type}{A B C R:α->β->γ->Prop}(a:α)(b:β)(c:γ)(h0:A a b c)(h1:B a b c)(h2:C a b c)(r:R a b c):∃a b c,A a b c/\B a b c/\C a b c/\R a b c:=⟨a,b,c,h0,h1,h2,r⟩
theorem Et {α β γ:Type}{A B C D R:α->β->γ->Prop}(a:α)(b:β)(c:γ)(h0:A a b c)(h1:B a b c)(h2:C a b c)(h3:D a b c)(r:R a b c):∃a b c,A a b c/\B a b c/\C a b c/\D a b c/\R a b c:=⟨a,b,c,h0,h1,h2,h3,r⟩
theorem Kh {α β γ:Type}{A B C D E R:α->β->γ->Prop}(a:α)(b:β)(c:γ)(h0:A a b c)(h1:B a b c)(h2:C a b c)(h3:D a b c)(h4:E a b c)(r:R a b c):∃a b c,A a b c/\B a b c/\C a b c/\D a b c/\E a b c/\R a b c:=⟨a,b,c,h0,h1,h2,h3,h4,r⟩
theorem ii40 {α β γ δ:Type}{R:α->β->γ->δ->Prop}(a:α)(b:β)(c:γ)(d:δ)(r:R a b c d):∃a b c d,R a b c d:=⟨a,b,c,d,r⟩
theorem ii41 {α β γ δ:Type}{A R:α->β->γ->δ->Prop}(a:α)(b:β)(c:γ)(d:δ)(h0:A a b c d)(r:R a b c d):∃a b c d,A a b c d/\R a b c d:=⟨a,b,c,d,h0,r⟩
theorem ii42 {α β γ δ:Type}{A B R:α->β->γ->δ->Prop}(a:α)(b:β)(c:γ)(d:δ)(h0:A a b c d)(h1:B a b c d)(r:R a b c d):∃a b c d,A a b c d/\B a b c d/\R a b c d:=⟨a,b,c,d,h0,h1,r⟩
theorem ii43 {α β γ δ:Type}{A B C R:α->β->γ->δ->Prop}(a:α)(b:β)(c:γ)(d:δ)(h0:A a b c d)(h1:B a b c d)(h2:C a b c d)(r:R a b c d):∃a b c d,A a b c d/\B a b c d/\C a b c d/\R a b c d:=⟨a,b,c,d,h0,h1,h2,r⟩
theorem Bo {α β γ δ:Type}{A B C D R:α->β->γ->δ->Prop}(a:α)(b:β)(c:γ)(d:δ)(h0:A a b c d)(h1:B a b c d)(h2:C a b c d)(h3:D a b c d)(r:R a b c d):∃a b c d,A a b c d/\B a b c d/\C a b c d/\D a b c d/\R a b c d:=⟨a,b,c,d,h0,h1,h2,h3,r⟩
theorem Ch {α β γ δ:Type}{A B C D E R:α->β->γ->δ->Prop}(a:α)(b:β)(c:γ)(d:δ)(h0:A a b c d)(h1:B a b c d)(h2:C a b c d)(h3:D a b c d)(h4:E a b c d)(r:R a b c d):∃a b c d,A a b c d/\B a b c d/\C a b c d/\D a b c d/\E a b c d/\R a b c d:=⟨a,b,c,d,h0,h1,h2,h3,h4,r⟩
theorem ii53 {α β γ δ ε:Type}{A B C R:α->β->γ->δ->ε->Prop}(a:α)(b:β)(c:γ)(d:δ)(e:ε)(h0:A a b c d e)(h1:B a b c d e)(h2:C a b c d e)(r:R a b c d e):∃a b c d e,A a b c d e/\B a b c d e/\C a b c d e/\R a b c d e:=⟨a,b,c,d,e,h0,h1,h2,r⟩
theorem Ff {α β γ δ ε:Type}{A B C D E R:α->β->γ->δ->ε->Prop}(a:α)(b:β)(c:γ)(d:δ)(e:ε)(h0:A a b c d e)(h1:B a b c d e)(h2:C a b c d e)(h3:D a b c d e)(h4:E a b c d e)(r:R a b c d e):∃a b c d e,A a b c d e/\B a b c d e/\C a b c d e/\D a b c d e/\E a b c d e/\R a b c d e:=⟨a,b,c,d,e,h0,h1,h2,h3,h4,r⟩
theorem Ct {α β γ δ ε ζ:Type}{R:α->β->γ->δ->ε->ζ->Prop}(a:α)(b:β)(c:γ)(d:δ)(e:ε)(f:ζ)(r:R a b c d e f):∃a b c d e f,R a b c d e f:=⟨a,b,c,d,e,f,r⟩
theorem X0 {α β γ δ ε ζ:Type}{A B C D R:α->β->γ->δ->ε->ζ->Prop}(a:α)(b:β)(c:γ)(d:δ)(e:ε)(f:ζ)(h0:A a b c d e f)(h1:B a b c d e f)(h2:C a b c d e f)(h3:D a b c d e f)(r:R a b c d e f):∃a b c d e f,A a b c d e f/\B a b c d e f/\C a b c d e f/\D a b c d e f/\R a b c d e f:=⟨a,b,c,d,e,f,h0,h1,h2,h3,r⟩
theorem Hu {α β γ δ ε ζ:Type}{A B C D E R:α->β->γ->δ->ε->ζ->Prop}(a:α)(b:β)(c:γ)(d:δ)(e:ε)(f:ζ)(h0:A a b c d e f)(h1:B a b c d e f)(h2:C a b c d e f)(h3:D a b c d e f)(h4:E a b c d e f)(r:R a b c d e f):∃a b c d e f,A a b c d e f/\B a b c d e f/\C a b c d e f/\D a b c d e f/\E a b c d e f/\R a b c d e f:=⟨a,b,c,d,e,f,h0,h1,h2,h3,h4,r⟩
theorem Ae {α:Type}{A R:α->Prop}{a:α}(h0:A a)(r:R a):∃a,A a/\R a:=⟨a,h0,r⟩
theorem B0 {α:Type}{A B R:α->Prop}{a:α}(h0:A a)(h1:B a)(r:R a):∃a,A a/\B a/\R a:=⟨a,h0,h1,r⟩
theorem Ab0 {α:Type}{A B C D E R:α->Prop}{a:α}(h0:A a)(h1:B a)(h2:C a)(h3:D a)(h4:E a)(r:R a):∃a,A a/\B a/\C a/\D a/\E a/\R a:=⟨a,h0,h1,h2,h3,h4,r⟩
theorem L7 {α β:Type}{R:α->β->Prop}{a:α}{b:β}(r:R a b):∃a b,R a b:=⟨a,b,r⟩
theorem Al1 {α β:Type}{A R:α->β->Prop}{a:α}{b:β}(h0:A a b)(r:R a b):∃a b,A a b/\R a b:=⟨a,b,h0,r⟩
theorem Au {α β:Type}{A B R:α->β->Prop}{a:α}{b:β}(h0:A a b)(h1:B a b)(r:R a b):∃a b,A a b/\B a b/\R a b:=⟨a,b,h0,h1,r⟩
theorem Bp {α β:Type}{A B C R:α->β->Prop}{a:α}{b:β}(h0:A a b)(h1:B a b)(h2:C a b)(r:R a b):∃a b,A a b/\B a b/\C a b/\R a b:=⟨a,b,h0,h1,h2,r⟩
theorem Kx {α β:Type}{A B C D R:α->β->Prop}{a:α}{b:β}(h0:A a b)(h1:B a b)(h2:C a b)(h3:D a b)(r:R a b):∃a b,A a b/\B a b/\C a b/\D a b/\R a b:=⟨a,b,h0,h1,h2,h3,r⟩
theorem jj25 {α β:Type}{A B C D E R:α->β->Prop}{a:α}{b:β}(h0:A a b)(h1:B a b)(h2:C a b)(h3:D a b)(h4:E a b)(r:R a b):∃a b,A a b/\B a b/\C a b/\D a b/\E a b/\R a b:=⟨a,b,h0,h1,h2,h3,h4,r⟩
theorem jj30 {α β γ:Type}{R:α->β->γ->Prop}{a:α}{b:β}{c:γ}(r:R a b c):∃a b c,R a b c:=⟨a,b,c,r⟩
theorem D6 {α β γ δ:Type}{A B C R:α->β->γ->δ->Prop}{a:α}{b:β}{c:γ}{d:δ}(h0:A a b c d)(h1:B a b c d)(h2:C a b c d)(r:R a b c d):∃a b c d,A a b c d/\B a b c d/\C a b c d/\R a b c d:=⟨a,b,c,d,h0,h1,h2,r⟩
theorem jj60 {α β γ δ ε ζ:Type}{R:α->β->γ->δ->ε->ζ->Prop}{a:α}{b:β}{c:γ}{d:δ}{e:ε}{f:ζ}(r:R a b c d e f):∃a b c d e f,R a b c d e f:=⟨a,b,c,d,e,f,r⟩
theorem Fg {A R:Prop}{G:Prop}(h:A/\R)(k:A->R->G):G:=let ⟨h0,r⟩:=h;k h0 r
theorem Bu {A B R:Prop}{G:Prop}(h:A/\B/\R)(k:A->B->R->G):G:=let ⟨h0,h1,r⟩:=h;k h0 h1 r
theorem Ox {A B C R:Prop}{G:Prop}(h:A/\B/\C/\R)(k:A->B->C->R->G):G:=let ⟨h0,h1,h2,r⟩:=h;k h0 h1 h2 r
theorem Ii {A B C D R:Prop}{G:Prop}(h:A/\B/\C/\D/\R)(k:A->B->C->D->R->G):G:=let ⟨h0,h1,h2,h3,r⟩:=h;k h0 h1 h2 h3 r
theorem G7 {A B C D E R:Prop}{G:Prop}(h:A/\B/\C/\D/\E/\R)(k:A->B->C->D->E->R->G):G:=let ⟨h0,h1,h2,h3,h4,r⟩:=h;k h0 h1 h2 h3 h4 r
theorem Am {α:Type}{A R:α->Prop}{G:Prop}(h:∃a,A a/\R a)(k:∀a,A a->R a->G):G:=let ⟨a,h0,r⟩:=h;k a h0 r
theorem Bk {α:Type}{A B R:α->Prop}{G:Prop}(h:∃a,A a/\B a/\R a)(k:∀a,A a->B a->R a->G):G:=let ⟨a,h0,h1,r⟩:=h;k a h0 h1 r
theorem Q1 {α:Type}{A B C R:α->Prop}{G:Prop}(h:∃a,A a/\B a/\C a/\R a)(k:∀a,A a->B a->C a->R a->G):G:=let ⟨a,h0,h1,h2,r⟩:=h;k a h0 h1 h2 r
theorem Ow {α:Type}{A B C D R:α->Prop}{G:Prop}(h:∃a,A a/\B a/\C a/\D a/\R a)(k:∀a,A a->B a->C a->D a->R a->G):G:=let ⟨a,h0,h1,h2,h3,r⟩:=h;k a h0 h1 h2 h3 r
theorem dd15 {α:Type}{A B C D E R:α->Prop}{G:Prop}(h:∃a,A a/\B a/\C a/\D a/\E a/\R a)(k:∀a,A a->B a->C a->D a->E a->R a->G):G:=let ⟨a,h0,h1,h2,h3,h4,r⟩:=h;k a h0 h1 h2 h3 h4 r
theorem Gi {α β:Type}{R:α->β->Prop}{G:Prop}(h:∃a b,R a b)(k:∀a b,R a b->G):G:=let ⟨a,b,r⟩:=h;k a b r
theorem Co {α β:Type}{A R:α->β->Prop}{G:Prop}(h:∃a b,A a b/\R a b)(k:∀a b,A a b->R a b->G):G:=let ⟨a,b,h0,r⟩:=h;k a b h0 r
theorem A0 {α β:Type}{A B R:α->β->Prop}{G:Prop}(h:∃a b,A a b/\B a b/\R a b)(k:∀a b,A a b->B a b->R a b->G):G:=let ⟨a,b,h0,h1,r⟩:=h;k a b h0 h1 r
theorem Gh {α β:Type}{A B C R:α->β->Prop}{G:Prop}(h:∃a b,A a b/\B a b/\C a b/\R a b)(k:∀a b,A a b->B a b->C a b->R a b->G):G:=let ⟨a,b,h0,h1,h2,r⟩:=h;k a b h0 h1 h2 r
theorem Yb {α β:Type}{A B C D R:α->β->Prop}{G:Prop}(h:∃a b,A a b/\B a b/\C a b/\D a b/\R a b)(k:∀a b,A a b->B a b->C a b->D a b->R a b->G):G:=let ⟨a,b,h0,h1,h2,h3,r⟩:=h;k a b h0 h1 h2 h3 r
theorem Mg {α β:Type}{A B C D E R:α->β->Prop}{G:Prop}(h:∃a b,A a b/\B a b/\C a b/\D a b/\E a b/\R a b)(k:∀a b,A a b->B a b->C a b->D a b->E a b->R a b->G):G:=let ⟨a,b,h0,h1,h2,h3,h4,r⟩:=h;k a b h0 h1 h2 h3 h4 r
theorem Jg {α β γ:Type}{R:α->β->γ->Prop}{G:Prop}(h:∃a b c,R a b c)(k:∀a b c,R a b c->G):G:=let ⟨a,b,c,r⟩:=h;k a b c r
theorem Gg {α β γ:Type}{A R:α->β->γ->Prop}{G:Prop}(h:∃a b c,A a b c/\R a b c)(k:∀a b c,A a b c->R a b c->G):G:=let ⟨a,b,c,h0,r⟩:=h;k a b c h0 r
theorem Gz {α β γ:Type}{A B R:α->β->γ->Prop}{G:Prop}(h:∃a b c,A a b c/\B a b c/\R a b c)(k:∀a b c,A a b c->B a b c->R a b c->G):G:=let ⟨a,b,c,h0,h1,r⟩:=h;k a b c h0 h1 r
theorem Jf {α β γ:Type}{A B C R:α->β->γ->Prop}{G:Prop}(h:∃a b c,A a b c/\B a b c/\C a b c/\R a b c)(k:∀a b c,A a b c->B a b c->C a b c->R a b c->G):G:=let ⟨a,b,c,h0,h1,h2,r⟩:=h;k a b c h0 h1 h2 r
theorem Kz {α β γ:Type}{A B C D R:α->β->γ->Prop}{G:Prop}(h:∃a b c,A a b c/\B a b c/\C a b c/\D a b c/\R a b c)(k:∀a b c,A a b c->B a b c->C a b c->D a b c->R a b c->G):G:=let ⟨a,b,c,h0,h1,h2,h3,r⟩:=h;k a b c h0 h1 h2 h3 r
theorem Rj {α β γ:Type}{A B C D E R:α->β->γ->Prop}{G:Prop}(h:∃a b c,A a b c/\B a b c/\C a b c/\D a b c/\E a b c/\R a b c)(k:∀a b c,A a b c->B a b c->C a b c->D a b c->E a b c->R a b c->G):G:=let ⟨a,b,c,h0,h1,h2,h3,h4,r⟩:=h;k a b c h0 h1 h2 h3 h4 r
theorem dd40 {α β γ δ:Type}{R:α->β->γ->δ->Prop}{G:Prop}(h:∃a b c d,R a b c d)(k:∀a b c d,R a b c d->G):G:=let ⟨a,b,c,d,r⟩:=h;k a b c d r
theorem dd41 {α β γ δ:Type}{A R:α->β->γ->δ->Prop}{G:Prop}(h:∃a b c d,A a b c d/\R a b c d)(k:∀a b c d,A a b c d->R a b c d->G):G:=let ⟨a,b,c,d,h0,r⟩:=h;k a b c d h0 r
theorem Ut {α β γ δ:Type}{A B R:α->β->γ->δ->Prop}{G:Prop}(h:∃a b c d,A a b c d/\B a b c d/\R a b c d)(k:∀a b c d,A a b c d->B a b c d->R a b c d->G):G:=let ⟨a,b,c,d,h0,h1,r⟩:=h;k a b c d h0 h1 r
theorem Q0 {α β γ δ:Type}{A B C R:α->β->γ->δ->Prop}{G:Prop}(h:∃a b c d,A a b c d/\B a b c d/\C a b c d/\R a b c d)(k:∀a b c d,A a b c d->B a b c d->C a b c d->R a b c d->G):G:=let ⟨a,b,c,d,h0,h1,h2,r⟩:=h;k a b c d h0 h1 h2 r
theorem Us {α β γ δ:Type}{A B C D R:α->β->γ->δ->Prop}{G:Prop}(h:∃a b c d,A a b c d/\B a b c d/\C a b c d/\D a b c d/\R a b c d)(k:∀a b c d,A a b c d->B a b c d->C a b c d->D a b c d->R a b c d->G):G:=let ⟨a,b,c,d,h0,h1,h2,h3,r⟩:=h;k a b c d h0 h1 h2 h3 r
theorem F3 {α β γ δ:Type}{A B C D E R:α->β->γ->δ->Prop}{G:Prop}(h:∃a b c d,A a b c d/\B a b c d/\C a b c d/\D a b c d/\E a b c d/\R a b c d)(k:∀a b c d,A a b c d->B a b c d->C a b c d->D a b c d->E a b c d->R a b c d->G):G:=let ⟨a,b,c,d,h0,h1,h2,h3,h4,r⟩:=h;k a b c d h0 h1 h2 h3 h4 r
theorem dd51 {α β γ δ ε:Type}{A R:α->β->γ->δ->ε->Prop}{G:Prop}(h:∃a b c d e,A a b c d e/\R a b c d e)(k:∀a b c d e,A a b c d e->R a b c d e->G):G:=let ⟨a,b,c,d,e,h0,r⟩:=h;k a b c d e h0 r
theorem dd53 {α β γ δ ε:Type}{A B C R:α->β->γ->δ->ε->Prop}{G:Prop}(h:∃a b c d e,A a b c d e/\B a b c d e/\C a b c d e/\R a b c d e)(k:∀a b c d e,A a b c d e->B a b c d e->C a b c d e->R a b c d e->G):G:=let ⟨a,b,c,d,e,h0,h1,h2,r⟩:=h;k a b c d e h0 h1 h2 r
theorem dd54 {α β γ δ ε:Type}{A B C D R:α->β->γ->δ->ε->Prop}{G:Prop}(h:∃a b c d e,A a b c d e/\B a b c d e/\C a b c d e/\D a b c d e/\R a b c d e)(k:∀a b c d e,A a b c d e->B a b c d e->C a b c d e->D a b c d e->R a b c d e->G):G:=let ⟨a,b,c,d,e,h0,h1,h2,h3,r⟩:=h;k a b c d e h0 h1 h2 h3 r
theorem We {α β γ δ ε:Type}{A B C D E R:α->β->γ->δ->ε->Prop}{G:Prop}(h:∃a b c d e,A a b c d e/\B a b c d e/\C a b c d e/\D a b c d e/\E a b c d e/\R a b c d e)(k:∀a b c d e,A a b c d e->B a b c d e->C a b c d e->D a b c d e->E a b c d e->R a b c d e->G):G:=let ⟨a,b,c,d,e,h0,h1,h2,h3,h4,r⟩:=h;k a b c d e h0 h1 h2 h3 h4 r
theorem Dp {α β γ δ ε ζ:Type}{R:α->β->γ->δ->ε->ζ->Prop}{G:Prop}(h:∃a b c d e f,R a b c d e f)(k:∀a b c d e f,R a b c d e f->G):G:=let ⟨a,b,c,d,e,f,r⟩:=h;k a b c d e f r
theorem dd61 {α β γ δ ε ζ:Type}{A R:α->β->γ->δ->ε->ζ->Prop}{G:Prop}(h:∃a b c d e f,A a b c d e f/\R a b c d e f)(k:∀a b c d e f,A a b c d e f->R a b c d e f->G):G:=let ⟨a,b,c,d,e,f,h0,r⟩:=h;k a b c d e f h0 r
theorem Ri {α β γ δ ε ζ:Type}{A B C D R:α->β->γ->δ->ε->ζ->Prop}{G:Prop}(h:∃a b c d e f,A a b c d e f/\B a b c d e f/\C a b c d e f/\D a b c d e f/\R a b c d e f)(k:∀a b c d e f,A a b c d e f->B a b c d e f->C a b c d e f->D a b c d e f->R a b c d e f->G):G:=let ⟨a,b,c,d,e,f,h0,h1,h2,h3,r⟩:=h;k a b c d e f h0 h1 h2 h3 r
theorem Wd {α β γ δ ε ζ:Type}{A B C D E R:α->β->γ->δ->ε->ζ->Prop}{G:Prop}(h:∃a b c d e f,A a b c d e f/\B a b c d e f/\C a b c d e f/\D a b c d e f/\E a b c d e f/\R a b c d e f)(k:∀a b c d e f,A a b c d e f->B a b c d e f->C a b c d e f->D a b c d e f->E a b c d e f->R a b c d e f->G):G:=let ⟨a,b,c,d,e,f,h0,h1,h2,h3,h4,r⟩:=h;k a b c d e f h0 h1 h2 h3 h4 r
abbrev Key:=Sum Int Str
noncomputable def N0:Key->Value->Bool
 | .inl k,v=>Value.isInt k v
 | .inr x,v=>Value.isStrOf x v
noncomputable def keyH (w:World):Key->Int
 | .inl k=>hashInt k
 | .inr x=>hashStr w x
theorem Cy:∀{k:Key} {v:Value},N0 k v=true->(∃i t,k=Sum.inl i/\v=Value.int i t)\/(∃x t,k=Sum.inr x/\v=Value.str x t)
 | .inl i,v,h=>by
  obtain⟨t,e⟩:=Value.isInt_shape (k:=i) (v:=v) h;exact .inl (Ck i t rfl e)
 | .inr x,v,h=>by
  obtain⟨t,e⟩:=Value.isStrOf_shape (x:=x) (v:=v) h;exact .inr (Ck x t rfl e)
theorem Aa9 (i:Int)(t:Tok):N0 (.inl i) (.int i t)=true:=by simp[N0,Value.isInt]
theorem Aa8 (x:Str)(t:Tok):N0 (.inr x) (.str x t)=true:=by simp[N0,Value.isStrOf]
theorem key_ll (a b:Int):decide ((Sum.inl a:Key)=Sum.inl b)=(a==b):=by
 by_cases e:a=b
 .subst e;simp
 .have h:¬(Sum.inl a:Key)=Sum.inl b:=λq=>e (Sum.inl.inj q);rw[LC h];exact(beq_eq_false_iff_ne.mpr e).symm
theorem key_rr (a b:Str):decide ((Sum.inr a:Key)=Sum.inr b)=decide (a=b):=by
 by_cases e:a=b
 .subst e;simp
 .have h:¬(Sum.inr a:Key)=Sum.inr b:=λq=>e (MD q);rw[LC h,LC e]
theorem key_lr (a:Int)(b:Str):decide ((Sum.inl a:Key)=Sum.inr b)=false:=LC (λq=>nomatch q)
theorem key_rl (a:Str)(b:Int):decide ((Sum.inr a:Key)=Sum.inl b)=false:=LC (λq=>nomatch q)
noncomputable def Ci (prog:Program)(w:World):PySem.KeyKind prog w Key where
 is:=N0
 hash:=keyH w
 inj:=λv a b ha hb=>by
  rcases Cy ha with⟨i,t,rfl,rfl⟩|⟨x,t,rfl,rfl⟩
  .rcases Cy hb with⟨j,u,rfl,e⟩|⟨y,u,rfl,e⟩
   .injection e with e1 _;rw[e1]
   .exact nomatch e
  .rcases Cy hb with⟨j,u,rfl,e⟩|⟨y,u,rfl,e⟩
   .exact nomatch e
   .injection e with e1 _;rw[e1]
 byValue:=λk v h=>by
  rcases Cy h with⟨i,t,rfl,rfl⟩|⟨x,t,rfl,rfl⟩<;>rfl
 pyHash:=λI h=>by
  rcases Cy I with⟨i,t,rfl,rfl⟩|⟨x,t,rfl,rfl⟩
  .exact wpAny_pyHash_int h
  .exact wpAny_pyHash_str h
 eqBool:=λhu I h=>by
  rcases Cy hu with⟨i,t,rfl,rfl⟩|⟨x,t,rfl,rfl⟩
  .rcases Cy I with⟨j,u,rfl,rfl⟩|⟨y,u,rfl,rfl⟩
   .rw [key_ll]at h;exact wpAny_eqBool_int h
   .rw [key_lr]at h;exact SeqAt.EqAt.int_str i t y u _ _ _ _ h
  .rcases Cy I with⟨j,u,rfl,rfl⟩|⟨y,u,rfl,rfl⟩
   .rw [key_rl]at h;exact SeqAt.EqAt.str_int x t j u _ _ _ _ h
   .rw [key_rr]at h;exact wpAny_eqBool_str h
 «strs»:=λk x t v h=>by
  rcases Cy h with⟨i,u,rfl,e⟩|⟨y,u,rfl,e⟩
  .exact nomatch e
  .injection e with e1 _
   subst e1;cases v<;>rfl
theorem Vp (prog:Program)(w:World)(i:Int)(t:Tok):(Ci prog w).is (.inl i) (.int i t)=true:=Aa9 i t
theorem Vo (prog:Program)(w:World)(x:Str)(t:Tok):(Ci prog w).is (.inr x) (.str x t)=true:=Aa8 x t
inductive V where
 | BO|bl (b:Bool)|int (i:Int)|str (x:Str)|byt (b:Array UInt8)|flt (b:UInt64)|ref (a:Addr)|ty (n:String)
 deriving DecidableEq
def RelV:V->Value->Prop
 | .BO,u=>u=Value.none
 | .bl b,u=>u=Value.bool b
 | .int i,u=>∃t,u=Value.int i t
 | .str x,u=>∃t,u=Value.str x t
 | .byt b,u=>∃t,u=Value.bytes b t
 | .flt b,u=>∃t,u=Value.float b t
 | .ref a,u=>u=Value.ref a
 | .ty n,u=>u=Value.type n
abbrev AG:List V->List Value->Prop:=Paired RelV
theorem AG.length (r:AG xs us):xs.length=us.length:=Paired.length r
theorem AG.get:∀{xs:List V} {us:List Value} {i:Nat} {x:V},AG xs us->xs[i]?=some x->∃u,us[i]?=some u/\RelV x u
 | _,_,_,_,.nil,e=>by simp at e
 | _,_,0,_,.cons r _,e=>by simp at e;subst e;exact Ae rfl r
 | _,_,i+1,x,.cons _ t,e=>by
  refine Am (AG.get (i:=i) (x:=x) t (by simpa using e)) λu h1 h2=>Ar u (by simpa using h1) h2
theorem AG.append:∀{xs ys:List V} {us ws:List Value},AG xs us->AG ys ws->AG (xs++ys) (us++ws)
 | _,_,_,_,.nil,s=>s
 | _,_,_,_,.cons r t,s=>.cons r (AG.append t s)
theorem AG.take:∀{xs:List V} {us:List Value} (n:Nat),AG xs us->AG (xs.take n) (us.take n)
 | _,_,0,_=>.nil
 | _,_,_+1,.nil=>.nil
 | _,_,n+1,.cons r t=>.cons r (AG.take n t)
theorem AG.drop:∀{xs:List V} {us:List Value} (n:Nat),AG xs us->AG (xs.drop n) (us.drop n)
 | _,_,0,r=>r
 | _,_,_+1,.nil=>.nil
 | _,_,n+1,.cons _ t=>AG.drop n t
theorem AG.none_of:∀{xs:List V} {us:List Value} {i:Nat},AG xs us->xs[i]?=none->us[i]?=none:=fun {xs us i} r e=>by
 have h1:=r.length;have h2:xs.length<=i:=ON.mp e;exact ON.mpr (by omega)
def EB:Option V->Option Value->Prop
 | some v,some u=>RelV v u
 | none,none=>True
 | _,_=>False
def KV {κ:Type}:List (κ×V)->List (κ×Value)->Prop:=Paired λ(p:κ×V) (q:κ×Value)=>p.1=q.1/\RelV p.2 q.2
noncomputable def kV:Key->V
 | .inl i=>.int i
 | .inr x=>.str x
inductive HO where
  | lst (xs:List V)
  | tup (xs:List V)
  | dK (kvs:List (Key×V))|dT (kvs:List (List Key×V))
  | set (S:Int->Bool) (n:Nat)
  | ins (C dx:Addr) (fs:List (Str×V))
  | own (x:Addr)
  | xd (fs:List (Str×V))
  | met (f x:Addr)
  | rng (lo hi:Int)
  | DZ (o:Obj) (u:HO)
  | tbl (ps:Array Value)
  | ext (φ:Heap->Prop)
abbrev Hp:=Addr->Option HO
noncomputable def upd (H:Hp)(a:Addr)(o:HO):Hp:=λb=>if b=a then some o else H b
theorem Aj:upd H a o a=some o:=by unfold upd;rw[JN rfl]
theorem Ak (h:b≠a):upd H a o b=H b:=by unfold upd;rw[JP h]
theorem Ln:upd (upd H a o) a u=upd H a u:=by
 funext b;unfold upd;split<;>rfl
theorem Bb {H:Hp}{a b:Addr}(h:H a=some o)(h':H b=some u)(d:o≠u):a≠b:=by
 intro e;subst e;rw[h]at h';exact d (KR h')
theorem Ah {H:Hp}{a b:Addr}(h:H a=some o)(h':H b=none):a≠b:=by
 intro e;subst e;rw[h]at h';cases h'
section
variable (P:Program)(w:World)
def AX (H:Hp)(h:Heap)(a:Addr):HO->Prop
 | .lst xs=>xs.length<=sizeLine/\∃(its:List Value) (n:Nat),AG xs its/\h.get? a=some {cls:=.type "list",data:=.seq its.toArray n}
 | .tup xs=>xs.length<=sizeLine/\∃its:List Value,AG xs its/\IsTup h a its.toArray
 | .dK kvs=>kvs.length<=sizeLine/\(a==sysModules)=false/\∃vs,KV kvs vs/\h.DictOf (Ci P w) a vs
 | .dT kvs=>kvs.length<=sizeLine/\(a==sysModules)=false/\∃xs:List (List Key×Addr×Value),
   Paired (λ(p:List Key×V) (q:List Key×Addr×Value)=>p.1=q.1/\H q.2.1=some (.tup (p.1.map kV))/\RelV p.2 q.2.2) kvs xs /\
   ∃o es ep,h.get? a=some o/\o.ExactDict/\o.data=.dict es ep/\es.toList=xs.map (entryOfKey (tupleKind (Ci P w)))/\(xs.map (·.1)).Nodup
 | .set S n=>h.SetOf (intKind P w) a S n
 | .ins C dx fs=>H dx=some (.own a)/\fs.length<=1000/\dx≠a/\h.get? a=some (PySem.W.instObj C dx) /\
   ∃mA,h.Ns1 dx mA/\(∀f,EB (fs.lookup f) (mA f))/\PySem.Within mA (fs.map (·.1))
 | .own _=>∃o,h.get? a=some o
 | .xd fs=>∃mA,h.Ns1 a mA/\∀f,EB (fs.lookup f) (mA f)
 | .rng lo hi=>∃t u v,h.get? a=some {cls:=.type "range",data:=.fields #[.int lo t,.int hi u,.int 1 v]}
 | .DZ o u=>h.get? a=some o/\AX H h a u
 | .tbl ps=>h.get? a=some {cls:=.none,data:=.fields ps}
 | .met f x=>h.get? a=some (PySem.W.methodObj (.ref f) (.ref x))
 | .ext φ=>φ h/\(∃o,h.get? a=some o)/\∀h1 h2:Heap,φ h1->(∀o,h1.get? a=some o->h2.get? a=some o)->φ h2
def CL (H:Hp)(h:Heap):Prop:=∀a o,H a=some o->AX P w H h a o
end
section
theorem AX.lt (x:AX P w H h a o):a<h.objs.size:=by
 cases o with
 | lst xs=>refine Fg x λ_ I=>?_;refine Co I λ_ _ _ e=>?_;exact JK e
 | tup xs=>refine Fg x λ_ I=>?_;refine Am I λ_ _ p=>?_;exact p.lt
 | dK kvs=>refine Bu x λ_ _ I=>?_;refine Am I λ_ _ O=>?_;refine Gg O λo _ _ e _=>?_;exact JK e
 | dT kvs=>refine Bu x λ_ _ I=>?_;refine Am I λ_ _ O=>?_;refine Gg O λo _ _ e _=>?_;exact JK e
 | set S n=>refine dd41 x λo _ _ _ e _=>?_;exact JK e
 | ins C dx fs=>refine Ii x λ_ _ _ e _=>?_;exact JK e
 | own y=>obtain⟨_,e⟩:=x;exact JK e
 | xd fs=>refine Am x λ_ I _=>?_;obtain⟨_,_,_,e,_⟩:=I;exact JK e
 | rng lo hi=>refine Jg x λ_ _ _ e=>?_;exact JK e
 | DZ ob u=>obtain⟨e,_⟩:=x;exact JK e
 | tbl ps=>exact JK (show h.get? a=some _ from x)
 | met f y=>exact JK (show h.get? a=some _ from x)
 | ext φ=>refine Bu x λ_ I _=>?_;obtain⟨_,e⟩:=I;exact JK e
theorem Paired.mapP {α β:Type}{F G:α->β->Prop}:∀{I:List α} {O:List β},Paired F I O->(∀a b,F a b->G a b)->Paired G I O
 | _,_,.nil,_=>.nil
 | _,_,.cons r t,f=>.cons (f _ _ r) (Paired.mapP t f)
theorem AX.EJ (x:AX P w H h a o)(k:∀b u,(b=a\/H b=some (.own a))->h.get? b=some u->h'.get? b=some u)
  (ho:∀b,H b=some (.own a)->H' b=some (.own a))(ht:∀b xs,H b=some (.tup xs)->H' b=some (.tup xs)):AX P w H' h' a o:=by
 induction o with
 | lst xs=>refine Fg x λz I=>?_;refine Co I λits n r e=>?_;exact⟨z,(Ck its n r (k _ _ (.inl rfl) e))⟩
 | tup xs=>refine Fg x λz I=>?_;refine Am I λits r O=>?_;refine Am O λob e c=>?_;exact⟨z,(Ar its r (Ar ob (k _ _ (.inl rfl) e) c))⟩
 | dK kvs=>refine Bu x λz y I=>?_;refine Am I λvs r O=>?_;refine Gg O λob es ep e c=>?_;exact Bc z y (Ar vs r (Mc ob es ep (k _ _ (.inl rfl) e) c))
 | dT kvs=>
  refine Bu x λz y I=>?_;refine Am I λxs r O=>?_;refine Gg O λob es ep e c=>Bc z y (Ar xs (Paired.mapP r λp q z=>(Bc z.1 (ht _ _ z.2.1) z.2.2)) (Mc ob es ep (k _ _ (.inl rfl) e) c))
 | set S n=>refine dd41 x λob es ep t e c=>?_;exact ii41 ob es ep t (k _ _ (.inl rfl) e) c
 | ins C dx fs=>
  refine Ii x λd z ne e I=>?_;refine Am I λmA O r=>?_;obtain⟨od,es,ep,Y,c⟩:=O;exact Du (ho _ d) z ne (k _ _ (.inl rfl) e) (Ar mA (Mc od es ep (k _ _ (.inr d) Y) c) r)
 | own y=>obtain⟨ob,e⟩:=x;exact⟨ob,k _ _ (.inl rfl) e⟩
 | xd fs=>refine Am x λmA I r=>?_;obtain⟨od,es,ep,e,c⟩:=I;exact Ar mA (Mc od es ep (k _ _ (.inl rfl) e) c) r
 | rng lo hi=>refine Jg x λt u v e=>?_;exact Rh t u v (k _ _ (.inl rfl) e)
 | DZ ob u ih=>obtain⟨e,q⟩:=x;exact⟨k _ _ (.inl rfl) e,ih q⟩
 | tbl ps=>
  have e:h.get? a=some {cls:=.none,data:=.fields ps}:=x
  show h'.get? a=some {cls:=.none,data:=.fields ps}
  exact k a _ (.inl rfl) e
 | met f y=>
  have e:h.get? a=some (PySem.W.methodObj (.ref f) (.ref y)):=x
  show h'.get? a=some (PySem.W.methodObj (.ref f) (.ref y))
  exact k a _ (.inl rfl) e
 | ext φ=>refine Bu x λp I st=>?_;obtain⟨o,e⟩:=I;exact Bc (st _ _ p λo q=>k _ _ (.inl rfl) q) ⟨o,k _ _ (.inl rfl) e⟩ st
theorem CL.lt (x:CL P w H h)(e:H a=some o):a<h.objs.size:=(x a o e).lt
theorem CL.fresh (x:CL P w H h)(e:h.objs.size<=a):H a=none:=by
 cases q:H a with
 | none=>rfl
 | some u=>exact absurd (KA (x.lt q) e) (MJ _)
theorem CL.kept (x:CL P w H h)(k:∀b u,h.get? b=some u->h'.get? b=some u):CL P w H h':=λa o e=>
 (x a o e).EJ (λb u _ q=>k b u q) (λ_ q=>q) λ_ _ q=>q
theorem CL.laid (x:CL P w H h)(k:∀b u,h.get? b=some u->h'.get? b=some u)(I:h.objs.size<=a)(new:AX P w (upd H a o) h' a o):CL P w (upd H a o) h':=λb u e=>by
 have hn:=x.fresh I;by_cases hb:b=a
 .subst hb;rw[Aj]at e;cases e;exact new
 .rw [Ak hb]at e;exact(x b u e).EJ (λc v _ q=>k c v q) (λc q=>by rw[Ak (Ah q hn)];exact q) λc xs q=>by rw[Ak (Ah q hn)];exact q
end
def Rd (H:Hp)(a:Addr)(u:HO):Prop:=H a=some u\/∃o,H a=some (.DZ o u)
theorem Rd.of (h:H a=some u):Rd H a u:=.inl h
theorem Rd.ok (r:Rd H a u)(x:CL P w H h):AX P w H h a u:=by
 rcases r with r|⟨o,r⟩
 .exact x a u r
 .obtain⟨_,q⟩:=x a _ r;exact q
def Mut:Option HO->Prop
 | some (.lst _)=>True
 | some (.dK _)=>True
 | some (.dT _)=>True
 | some (.set _ _)=>True
 | some (.ins _ _ _)=>True
 | some (.ext _)=>True
 | _=>False
section
theorem CL.write (ok:CL P w H h)(O:Mut (H x))(he:e=x\/H e=some (.own x))(k:∀b u,b≠e->h.get? b=some u->h'.get? b=some u)(a1:∃u,h'.get? e=some u)
  (new:AX P w (upd H x o') h' x o'):CL P w (upd H x o') h':=λb u q=>by
 have a0:∀c y,H c=some (.own y)->c≠x:=λc y r z=>by subst z;rw[r]at O;exact O
 have a2:∀c xs,H c=some (.tup xs)->c≠x:=λc xs r z=>by subst z;rw[r]at O;exact O
 by_cases hb:b=x
 .subst hb;rw[Aj]at q;cases q;exact new
 .rw [Ak hb]at q;by_cases Y:b=e
  .have q':H b=some (.own x):=by
    rcases he with z|z
    .exact absurd (Y.trans z) hb
    .rw [Y];exact z
   rw[q]at q';cases q';obtain⟨v,hv⟩:=a1;exact⟨v,by rw[Y];exact hv⟩
  .refine (ok b u q).EJ (λc v I r=>k c v ?_ r) (λc r=>by rw[Ak (a0 c b r)];exact r) λc xs r=>by rw[Ak (a2 c xs r)];exact r
   rcases I with rfl|I
   .exact Y
   .rintro rfl
    rcases he with z|z
    .exact a0 c b I z
    .rw [I]at z;cases z;exact hb rfl
end
structure Un (fs ex:List Addr)(H H':Hp)(h h':Heap):Prop where
 keep:∀b o,h.get? b=some o->H b=none->b∉fs->b∉ex->h'.get? b=some o
 slot:∀b o,h.get? b=some o->H b=none->b∈fs->b∉ex->∃sl,h'.get? b=some {o with slots:=sl}
 free:∀b o,h.get? b=some o->H b=none->b∉ex->H' b=none
 there:∀b o,h.get? b=some o->b∉ex->∃o',h'.get? b=some o'
 AE:∀b xs,H b=some (.tup xs)->H' b=some (.tup xs)
 DS:∀b o u,H b=some (.DZ o u)->H' b=some (.DZ o u)
 ES:∀b ps,H b=some (.tbl ps)->∃more,H' b=some (.tbl (ps++more))
section
theorem Un.any (u:Un fs ex H H1 h h1)(q:h.get? b=some ob)(n:H b=none)(hx:b∉ex):∃sl,h1.get? b=some {ob with slots:=sl}:=by
 by_cases hb:b∈fs
 .exact u.slot b ob q n hb hx
 .exact⟨ob.slots,u.keep b ob q n hb hx⟩
theorem Un.kept (k:∀b u,h.get? b=some u->h'.get? b=some u):Un fs ex H H h h':=
 ⟨λb ob q _ _ _=>k b ob q,λb ob q _ _ _=>⟨ob.slots,k b ob q⟩,λ_ _ _ n _=>n,λb ob q _=>⟨ob,k b ob q⟩,λ_ _ q=>q,λ_ _ _ q=>q,λ_ ps q=>⟨#[],by rw[q];simp⟩⟩
theorem Un.refl:Un fs ex H H h h:=Un.kept λ_ _ q=>q
theorem Un.laid (k:∀b u,h.get? b=some u->h'.get? b=some u)(I:h.objs.size<=a)(hn:H a=none):Un fs ex H (upd H a o) h h' where
 keep:=λb u q _ _ _=>k b u q
 slot:=λb u q _ _ _=>⟨u.slots,k b u q⟩
 free:=λb u q n _=>by rw[Ak (KC (KA (JK q) I))];exact n
 there:=λb u q _=>⟨u,k b u q⟩
 AE:=λb xs q=>by rw[Ak (Ah q hn)];exact q
 DS:=λb u xs q=>by rw[Ak (Ah q hn)];exact q
 ES:=λb ps q=>⟨#[],by rw[Ak (Ah q hn),q];simp⟩
theorem Un.write (I:Mut (H x))(he:e=x\/H e=some (.own x))(k:∀b u,b≠e->h.get? b=some u->h'.get? b=some u)(Y:∃u,h'.get? e=some u):Un fs ex H (upd H x o) h h':=by
 have hx:∀b,H b=none->b≠x:=λb n z=>by subst z;rw[n]at I;exact I
 have hb:∀b,H b=none->b≠e:=λb n z=>by
  subst z
  rcases he with r|r
  .exact hx b n r
  .rw [n]at r;cases r
 have hm:∀b u,H b=some u->¬Mut (some u)->b≠x:=λb u q nm z=>by subst z;rw[q]at I;exact nm I
 refine⟨λb u q n _ _=>k b u (hb b n) q,λb u q n _ _=>⟨u.slots,k b u (hb b n) q⟩,λb u q n _=>by rw[Ak (hx b n)];exact n,λb u q _=>?_,
  λb xs q=>by rw[Ak (hm b _ q λz=>z)];exact q,λb u xs q=>by rw[Ak (hm b _ q λz=>z)];exact q,λb ps q=>⟨#[],by rw[Ak (hm b _ q λz=>z),q];simp⟩⟩
 by_cases O:b=e
 .subst O;exact Y
 .exact⟨u,k b u O q⟩
end
noncomputable def trk (h:Heap)(H:Hp):List Addr:=(List.range h.objs.size).filter λa=>(H a).isSome
noncomputable def Ur (h:Heap)(H:Hp):Heap:=PySem.W.hideAll h (trk h H)
theorem Ab2 (h:Heap)(H:Hp):(Ur h H).objs.size=h.objs.size:=PySem.W.hideAll_size _ _
theorem Al4 (e:h.get? b=some o)(n:H b=none):(Ur h H).get? b=some o:=
 PySem.W.hideAll_get _ e λhm=>by
  have q:(H b).isSome=true:=(List.mem_filter.mp hm).2;rw[n]at q;simp at q
theorem of_hidT (e:(Ur h H).get? b=some o):h.get? b=some o/\H b=none:=by
 have I:h.get? b=some o:=PySem.W.of_hideAll (trk h H) e;refine⟨I,?_⟩
 cases q:H b with
 | none=>rfl
 | some x=>
  have hm:b∈trk h H:=List.mem_filter.mpr ⟨List.mem_range.mpr (JK I),by simp[q]⟩;have z:(Ur h H).get? b=none:=PySem.W.hideAll_none (trk h H) hm;rw[z]at e;cases e
structure Mod (K:PySem.W.Frag)(mg:Str->Option Value)(base:Heap):Prop where
 kin:K.In base
 glob:base.Ns mainGlobals mg
 blt:∃mb,base.Ns builtinsNs mb/\∀x:Str,x≠"__name__"->mb x=bootBuiltins x
 nolimit:base.NoLimit
structure Cx where
 prog:Program
 w:World
 K:PySem.W.Frag
 mg:Str->Option Value
 base:Heap
 A:Around
 N:List Str
 s₀:Shared
 H₀:Hp
 env:Env
 outer:List Env
 stack:List Env
 ex:List Addr
 fn:Str->Bool
 calm:Bool
 pn:List (Addr×Obj)
 xe:Value->Shared->Prop
noncomputable def EC (l:List Env):List Addr:=l.filterMap (·.frame)
abbrev Cx.fs (X:Cx):List Addr:=EC X.outer
def Vis (sc:Scope)(x:Str):Prop:=sc.names.lookup x=some .local\/sc.names.lookup x=some .cell\/sc.names.lookup x=some .free
def Loc (sc:Scope)(x:Str):Prop:=sc.names.lookup x=some .local\/sc.names.lookup x=some .cell
def Look (env:Env)(h:Heap)(m:Str->Option Value)(x:Str)(u:Value):Prop:=
 (env.kindOf x=some .local/\m x=some u)\/((env.kindOf x=some .cell\/env.kindOf x=some .free)/\∃c,env.cells.lookup x=some c/\h.IsCell c (some u))
structure Cx.Ok (X:Cx):Prop where
 mod:Mod X.K X.mg X.base
 kind:X.env.scope.kind=.function
 glob:X.env.globals=mainGlobals
 blt:X.env.builtins=builtinsNs
 above:X.s₀.heap.objs.size<=X.env.locals
 inj:∀x y c,X.env.cells.lookup x=some c->X.env.cells.lookup y=some c->x=y
 has:∀x,(X.env.kindOf x=some .cell\/X.env.kindOf x=some .free)->∃c,X.env.cells.lookup x=some c
 cab:∀x c,X.fn x=true->X.env.cells.lookup x=some c->X.s₀.heap.objs.size<=c
 hd:X.calm=true->X.A.handled=none
 frames:X.A.frames=some X.stack
 stk:X.stack=X.outer\/(X.stack=X.env::X.outer/\X.env.frame=some X.env.locals)
 exf:∀b∈X.ex,b≠X.env.locals/\∀x c,X.env.cells.lookup x=some c->c≠b
 bs:∀b o,X.base.get? b=some o->X.s₀.heap.get? b=some o/\X.H₀ b=none
 IS:X.base.objs.size<=X.s₀.heap.objs.size
 HL:∀b o,X.base.get? b=some o->b∉X.ex
 GX:∀b∈X.ex,b∉X.fs
 AC:X.s₀.heap.FunFrames X.base X.outer
 frf:∀b∈X.fs,X.H₀ b=none
structure Inv (X:Cx)(pins:List (Addr×Obj))(σ:List (Option V))(H:Hp)(s:Shared):Prop where
 ok:X.Ok
 os:s.os=X.s₀.os
 bare:AllBare s.gens
 base:Un X.fs X.ex X.H₀ H X.s₀.heap s.heap
 loc:∃m,s.heap.Ns X.env.locals m/\∀(i:Nat) (x:Str) (v:V),X.N[i]?=some x->σ[i]?=some (some v)->Vis X.env.scope x->∃u,RelV v u/\Look X.env s.heap m x u
 cell:∀x c,X.env.cells.lookup x=some c->∃v,s.heap.IsCell c v
 free:H X.env.locals=none
 BZ:∀x c,X.env.cells.lookup x=some c->H c=none
 pin:∀p∈X.pn++pins,s.heap.get? p.1=some p.2/\H p.1=none/\p.1≠X.env.locals/\p.1∉X.fs/\∀v,p.2.data≠.cell v
 AR:CL X.prog X.w H s.heap
 len:σ.length=X.N.length
section
variable {X:Cx}{pins:List (Addr×Obj)}{σ:List (Option V)}{H H':Hp}{s:Shared}{h':Heap}
theorem Cx.Ok.nofr (ok:X.Ok)(e:X.base.get? b=some o):b∉X.fs:=λhb=>by
 have:=(ok.AC.mem hb).1;rw[e]at this;cases this
theorem Inv.bs (I:Inv X pins σ H s):∀b o,X.base.get? b=some o->s.heap.get? b=some o/\H b=none:=λb o e=>
 ⟨I.base.keep b o (I.ok.bs b o e).1 (I.ok.bs b o e).2 (I.ok.nofr e) (I.ok.HL b o e),I.base.free b o (I.ok.bs b o e).1 (I.ok.bs b o e).2 (I.ok.HL b o e)⟩
theorem Inv.bk (I:Inv X pins σ H s):∀b o,X.base.get? b=some o->s.heap.get? b=some o:=λb o e=>(I.bs b o e).1
theorem Inv.mod (I:Inv X pins σ H s):Mod X.K X.mg X.base:=I.ok.mod
theorem Inv.DR (I:Inv X pins σ H s):X.K.In s.heap:=I.ok.mod.kin.keeps I.bk
theorem Inv.lt (I:Inv X pins σ H s):X.env.locals<s.heap.objs.size:=let ⟨_,hn,_⟩:=I.loc;hn.lt
theorem Inv.sz (I:Inv X pins σ H s):X.s₀.heap.objs.size<=s.heap.objs.size:=JY I.ok.above (Nat.le_of_lt I.lt)
theorem Inv.nofs (I:Inv X pins σ H s)(h:s.heap.objs.size<=a):a∉X.fs:=λhb=>by
 refine Fg (I.ok.AC.mem hb) λ_ Y=>?_;refine Am Y λo O _=>absurd (KA (JK O) (JY I.sz h)) (MJ _)
theorem Inv.cne (I:Inv X pins σ H s):∀x c,X.env.cells.lookup x=some c->c≠X.env.locals:=λx c e z=>by
 refine Co (I.cell x c e) λv o O hd=>?_;refine Am I.loc λm Y _=>?_;obtain⟨o',es,ep,a1,a0,_⟩:=Y;rw[z,a1]at O;cases O;rw[a0]at hd;cases hd
theorem Inv.AC (I:Inv X pins σ H s):s.heap.FunFrames X.base X.outer:=by
 have all:∀(l:List Env),(∀b∈EC l,b∈X.fs)->X.s₀.heap.FunFrames X.base l->s.heap.FunFrames X.base l:=by
  intro l
  induction l with
  | nil=>intro _ _;trivial
  | cons env r ih=>
   intro hs hl;refine Bu hl λhk z1 hr=>?_;obtain⟨L,o,hf,hn,Y,hd⟩:=z1;have O:L∈X.fs:=hs L (by unfold EC;rw[NE,hf];exact JJ);obtain⟨sl,e⟩:=I.base.slot L o Y (I.ok.frf L O) O λz=>I.ok.GX L z O;exact Bc hk (Cj L _ hf hn e hd) (ih (λb hb=>hs b (by unfold EC;rw[NE,hf];exact JE _ hb)) hr)
 exact all X.outer (λ_ hb=>hb) I.ok.AC
theorem Inv.stack (I:Inv X pins σ H s):s.heap.FunFrames X.base X.stack:=by
 rcases I.ok.stk with e|⟨e,hf⟩
 .rw [e];exact I.AC
 .rw [e];refine Am I.loc λm hn _=>?_;refine .cons (by rw[I.ok.kind];decide) hf hn (Heap.get?_none_of_le (JY I.ok.IS I.ok.above)) I.AC
theorem Inv.GW (I:Inv X pins σ H s):∀b∈EC X.stack,b∈X.env.locals::X.fs:=λb hb=>by
 rcases I.ok.stk with e|⟨e,hf⟩
 .rw [e]at hb;exact JE _ hb
 .rw [e]at hb;unfold EC at hb;rw[NE,hf]at hb;exact hb
theorem Inv.FP (I:Inv X pins σ H s):∀b∈EC X.stack,H b=none:=λb hb=>by
 rcases JC.mp (I.GW b hb)with e|hb
 .rw [e];exact I.free
 .refine Fg (I.ok.AC.mem hb) λ_ Y=>?_;refine Am Y λo O _=>I.base.free b o O (I.ok.frf b hb) λz=>I.ok.GX b z hb
theorem Inv.step {g':Array GenState}{t':Nat}{d':Drawn}{ch:List Addr}(I:Inv X pins σ H s)
  (a0:∀b∈ch,(b∈X.ex\/X.s₀.heap.objs.size<=b)/\b≠X.env.locals/\(∀x c,X.env.cells.lookup x=some c->c≠b)/\∀p∈X.pn++pins,p.1≠b)
  (keep:∀b o,b≠X.env.locals->b∉X.fs->b∉ch->s.heap.get? b=some o->H b=none->h'.get? b=some o)
  (slot:∀b o,b≠X.env.locals->b∈X.fs->b∉ch->s.heap.get? b=some o->H b=none->∃sl,h'.get? b=some {o with slots:=sl})(free:∀b o,b∉ch->s.heap.get? b=some o->H b=none->H' b=none)
  (there:∀b o,b∉ch->s.heap.get? b=some o->∃o',h'.get? b=some o')
  (AE:∀b xs,H b=some (.tup xs)->H' b=some (.tup xs))(DS:∀b o u,H b=some (.DZ o u)->H' b=some (.DZ o u))(ES:∀b ps,H b=some (.tbl ps)->∃more,H' b=some (.tbl (ps++more)))
  (ns:∀m,s.heap.Ns X.env.locals m->h'.Ns X.env.locals m)(AR:CL X.prog X.w H' h')(hg:AllBare g') :
  Inv X pins σ H' {s with heap:=h',gens:=g',drawn:=d',toks:=t'}:=by
 have a3:∀b o,X.s₀.heap.get? b=some o->b≠X.env.locals:=λb o e=>KC (KA (JK e) I.ok.above);have a2:∀b o,X.s₀.heap.get? b=some o->b∉X.ex->b∉ch:=λb o e hx hb=>by
  rcases(a0 b hb).1 with z|z
  .exact hx z
  .exact absurd (KA (JK e) z) (MJ _)
 have a4:∀x c,X.env.cells.lookup x=some c->∀v,s.heap.IsCell c v->h'.IsCell c v:=λx c e v ⟨o,O,hd⟩=>by
  have a1:c∉ch:=λz=>(a0 c z).2.2.1 x c e rfl;by_cases hc:c∈X.fs
  .obtain⟨sl,q⟩:=slot c o (I.cne x c e) hc a1 O (I.BZ x c e);exact Ae q hd
  .exact Ar o (keep c o (I.cne x c e) hc a1 O (I.BZ x c e)) hd
 refine⟨I.ok,I.os,hg,⟨λb o e n hb hx=>?_,λb o e n hb hx=>?_,λb o e n hx=>?_,λb o e hx=>?_,λb xs e=>AE b xs (I.base.AE b xs e),λb o xs e=>DS b o xs (I.base.DS b o xs e),λb ps e=>?_⟩,?_,λx c e=>?_,?_,λx c e=>?_,λp hp=>?_,AR,I.len⟩
 .exact keep b o (a3 b o e) hb (a2 b o e hx) (I.base.keep b o e n hb hx) (I.base.free b o e n hx)
 .obtain⟨sl,e1⟩:=I.base.slot b o e n hb hx;obtain⟨a5,Y⟩:=slot b _ (a3 b o e) hb (a2 b o e hx) e1 (I.base.free b o e n hx);exact⟨a5,Y⟩
 .obtain⟨o',e1⟩:=I.base.there b o e hx;exact free b o' (a2 b o e hx) e1 (I.base.free b o e n hx)
 .obtain⟨o',e1⟩:=I.base.there b o e hx;exact there b o' (a2 b o e hx) e1
 .obtain⟨m1,e1⟩:=I.base.ES b ps e;obtain⟨m2,Y⟩:=ES b _ e1;exact⟨m1++m2,by rw[Y,Array.append_assoc]⟩
 .refine Am I.loc λm hn hl=>Ar m (ns m hn) λi x v e1 Y e3=>Am (hl i x v e1 Y e3) λu r l=>Ar u r ?_
  rcases l with l|⟨k,c,e,z⟩
  .exact .inl l
  .exact .inr ⟨k,(Ar c e (a4 x c e _ z))⟩
 .obtain⟨v,z⟩:=I.cell x c e;exact⟨v,a4 x c e v z⟩
 .refine Am I.loc λm z1 _=>?_;obtain⟨o,_,_,O,_⟩:=z1;exact free _ o (λz=>(a0 _ z).2.1 rfl) O I.free
 .refine Co (I.cell x c e) λv o O hd=>free c o (λz=>(a0 c z).2.2.1 x c e rfl) O (I.BZ x c e)
 .refine Ii (I.pin p hp) λe n ne nf d=>?_;have a1:p.1∉ch:=λz=>(a0 p.1 z).2.2.2 p hp rfl;exact Du (keep p.1 p.2 ne nf a1 e n) (free p.1 p.2 a1 e n) ne nf d
theorem Inv.un (I:Inv X pins σ H s)(u:Un X.fs [] H H' s.heap h')(AR:CL X.prog X.w H' h'):Inv X pins σ H' {s with heap:=h',toks:=t'}:=by
 refine Am (id I.loc) λm z1 _=>?_;obtain⟨o,es,ep,O,r⟩:=z1;obtain⟨sl,hL⟩:=u.any O I.free (by simp)
 exact I.step (g':=s.gens) (d':=s.drawn) (ch:=[]) (λ_ z=>nomatch z) (λb o _ hb _ e n=>u.keep b o e n hb (by simp)) (λb o _ hb _ e n=>u.slot b o e n hb (by simp)) (λb o _ e n=>u.free b o e n (by simp)) (λb o _ e=>u.there b o e (by simp)) u.AE u.DS u.ES (λm' hm=>by
  refine Gg hm λo' a1 a0 Y r'=>?_;rw[O]at Y;cases Y
  exact(Mc _ a1 a0 hL r')) AR I.bare
theorem Inv.call (I:Inv X pins σ H s)(u:Un (EC X.stack) ch H H' s.heap h')(AR:CL X.prog X.w H' h')(hg:AllBare g')
  (a0:∀b∈ch,(b∈X.ex\/X.s₀.heap.objs.size<=b)/\b≠X.env.locals/\(∀x c,X.env.cells.lookup x=some c->c≠b)/\∀p∈X.pn++pins,p.1≠b) :
  Inv X pins σ H' {s with heap:=h',gens:=g',drawn:=d',toks:=t'}:=by
 refine Am (id I.loc) λm z1 _=>?_;obtain⟨o,es,ep,ho,r⟩:=z1;obtain⟨sl,Y⟩:=u.any ho I.free λz=>(a0 _ z).2.1 rfl
 exact I.step (ch:=ch) a0 (λb o Y hb O e n=>u.keep b o e n (λz=>(JC.mp (I.GW b z)).elim Y hb) O) (λb o _ _ O e n=>u.any e n O) (λb o O e n=>u.free b o e n O) (λb o O e=>u.there b o e O) u.AE u.DS u.ES (λm' hm=>by
  refine Gg hm λo' a3 a2 a1 r'=>?_;rw[ho]at a1;cases a1
  exact(Mc _ a3 a2 Y r')) AR hg
theorem Inv.turned (I:Inv X pins σ H s)(k:∀b o,b≠it->s.heap.get? b=some o->h'.get? b=some o)(hn:H it=none)(Y:it≠X.env.locals)
  (h1:it∈X.ex\/X.s₀.heap.objs.size<=it)(h2:∀x c,X.env.cells.lookup x=some c->c≠it)(h3:∀p∈X.pn++pins,p.1≠it):Inv X pins σ H {s with heap:=h',toks:=t'}:=by
 have a0:∀b u,H b=some u->b≠it:=λb u e z=>by rw[z,hn]at e;cases e
 refine I.step (g':=s.gens) (d':=s.drawn) (ch:=[it]) (λb hb=>?_) (λb o _ _ O e _=>k b o (λz=>O (by simp[z])) e) (λb o _ _ O e _=>⟨o.slots,k b o (λz=>O (by simp[z])) e⟩) (λ_ _ _ _ n=>n)
  (λb o O e=>⟨o,k b o (λz=>O (by simp[z])) e⟩) (λ_ _ e=>e) (λ_ _ _ e=>e) (λb ps e=>⟨#[],by rw[e];simp⟩) (λm hm=>?_) (λb u e=>?_) I.bare
 .have e:b=it:=by simpa using hb
  subst e;exact C6 h1 Y h2 h3
 .refine Gg hm λo es ep ho r=>Mc o es ep (k _ o (NI Y) ho) r
 .refine (I.AR b u e).EJ (λc v O q=>k c v ?_ q) (λ_ q=>q) λ_ _ q=>q
  rcases O with z|z
  .rw [z];exact a0 b u e
  .exact a0 c _ z
theorem Inv.tok (I:Inv X pins σ H s)(t:Nat):Inv X pins σ H {s with toks:=t}:=I.un (h':=s.heap) (t':=t) Un.refl I.AR
theorem Inv.kept (I:Inv X pins σ H s)(k:∀b u,s.heap.get? b=some u->h'.get? b=some u):Inv X pins σ H {s with heap:=h',toks:=t'}:=I.un (Un.kept k) (I.AR.kept k)
theorem Inv.laid (I:Inv X pins σ H s)(k:∀b u,s.heap.get? b=some u->h'.get? b=some u)(O:s.heap.objs.size<=a)(new:AX X.prog X.w (upd H a o) h' a o) :
  Inv X pins σ (upd H a o) {s with heap:=h',toks:=t'}:=I.un (Un.laid k O (I.AR.fresh O)) (I.AR.laid k O new)
theorem Inv.write (I:Inv X pins σ H s)(O:Mut (H x))(he:e=x\/H e=some (.own x))(k:∀b u,b≠e->s.heap.get? b=some u->h'.get? b=some u)(Y:∃u,h'.get? e=some u)
  (new:AX X.prog X.w (upd H x o) h' x o):Inv X pins σ (upd H x o) {s with heap:=h',toks:=t'}:=I.un (Un.write O he k Y) (I.AR.write O he k Y new)
theorem Inv.IC (I:Inv X pins σ H s)(h:∀p∈Y,s.heap.get? p.1=some p.2/\H p.1=none/\p.1≠X.env.locals/\p.1∉X.fs/\∀v,p.2.data≠.cell v):Inv X Y σ H s:=
 ⟨I.ok,I.os,I.bare,I.base,I.loc,I.cell,I.free,I.BZ,λp O=>(JV.mp O).elim (λz=>I.pin p (LQ _ z)) (h p),I.AR,I.len⟩
theorem Qp {N:List Str}(O:N.Nodup){i j:Nat}{x:Str}(a:N[i]?=some x)(b:N[j]?=some x):i=j:=by
 obtain⟨h1,e1⟩:=List.getElem?_eq_some_iff.mp a;obtain⟨h2,I⟩:=List.getElem?_eq_some_iff.mp b;exact(List.getElem_inj O).mp (e1.trans I.symm)
theorem Mp {E:Value->Shared->Prop}{Q:Unit->Shared->Prop}(I:Inv X pins σ H s)(hN:X.N.Nodup)(hi:X.N[i]?=some x)(hx:Loc X.env.scope x)(r:RelV v u)
  (h:∀s',Inv X pins (σ.set i (some v)) H s'->(∃a,Heap.SameBut a s.heap s'.heap/\(a=X.env.locals\/X.env.cells.lookup x=some a))->Q () s')(hf:X.fn x=true\/X.env.scope.names.lookup x=some .local:=by first|exact .inl rfl|exact .inr rfl|assumption):wpAny M A (storeName X.env x u) Q E s:=by
 refine Am (id I.loc) λm hn hl=>?_;have a9:(X.env.scope.kind==.class||(X.env.scope.kind==.module&&X.env.locals !=X.env.globals))=false:=by rw[I.ok.kind];rfl
 have a3:i<σ.length:=by rw[I.len];exact(List.getElem?_eq_some_iff.mp hi).1
 have cne:=I.cne;have a6:∀{a:Addr} {h':Heap},(∃o,s.heap.get? a=some o/\H a=none)->Heap.SameBut a s.heap h'->CL X.prog X.w H h':=fun {a h'} ha hs b ob e=>by
  refine Am ha λ_ _ a5=>(I.AR b ob e).EJ (λc w' O q=>(hs.2 c ?_).trans q) (λ_ q=>q) λ_ _ q=>q;rintro rfl
  rcases O with rfl|O
  .rw [a5]at e;cases e
  .rw [a5]at O;cases O
 rcases hx with hk|hk
 .refine wpAny_storeName_local hk hn (λh' a7 hs=>(Gg (id hn) λoL _ _ a8 _=>(h _ ⟨I.ok,I.os,I.bare,⟨λb o e n hb hx=>?_,λb o e n hb hx=>?_,I.base.free,λb o e hx=>?_,I.base.AE,I.base.DS,I.base.ES⟩,(Ae a7 λj y v' e1 Y e3=>?_),λy c e=>?_,I.free,I.BZ,λp hp=>?_,a6 (Ar oL a8 I.free) hs,by simpa using I.len⟩ (Ae hs (.inl rfl))))) a9
  .exact (hs.2 b (KC (KA (JK e) I.ok.above))).trans (I.base.keep b o e n hb hx)
  .obtain⟨sl,e1⟩:=I.base.slot b o e n hb hx;exact⟨sl,(hs.2 b (KC (KA (JK e) I.ok.above))).trans e1⟩
  .obtain⟨o',e1⟩:=I.base.there b o e hx;exact⟨o',(hs.2 b (KC (KA (JK e) I.ok.above))).trans e1⟩
  .by_cases hj:j=i
   .subst hj;rw[hi]at e1;cases e1;rw[List.getElem?_set_self a3]at Y;cases Y;exact Ar u r (.inl ⟨hk,by simp⟩)
   .rw [List.getElem?_set_ne (NI hj)]at Y;refine Am (hl j y v' e1 Y e3) λu' r' q=>Ar u' r' ?_;rcases q with⟨k,e⟩|⟨k,c,e,z⟩
    .refine .inl ⟨k,?_⟩;have:y≠x:=λe=>hj (Qp hN e1 (e▸hi));simp[this,e]
    .exact .inr ⟨k,(Ar c e (z.sameBut hs (cne y c e)))⟩
  .obtain⟨w',z⟩:=I.cell y c e;exact⟨w',z.sameBut hs (cne y c e)⟩
  .refine Ii (I.pin p hp) λe n ne nf d=>Du ((hs.2 p.1 ne).trans e) n ne nf d
 .have a0:X.fn x=true:=by
   rcases hf with z|z
   .exact z
   .rw [z]at hk;cases hk
  obtain⟨c,O⟩:=I.ok.has x (.inl hk);obtain⟨w',z⟩:=I.cell x c O;refine wpAny_storeName_cell I.ok.kind hk O z (λh' a1 hs=>Am (id z) λoc a4 aA=>h {s with heap:=h'} ⟨I.ok,I.os,I.bare,⟨λb o e n hb hx=>?_,λb o e n hb hx=>?_,I.base.free,λb o e hx=>?_,I.base.AE,I.base.DS,I.base.ES⟩,(Ar m (hn.sameBut hs (NI (cne x c O))) λj y v' e1 Y e3=>?_),λy c' e=>?_,I.free,I.BZ,λp hp=>?_,a6 (Ar oc a4 (I.BZ x c O)) hs,by simpa using I.len⟩ (Ar c hs (.inr O)))
  .exact (hs.2 b (KC (KA (JK e) (I.ok.cab x c a0 O)))).trans (I.base.keep b o e n hb hx)
  .obtain⟨sl,e1⟩:=I.base.slot b o e n hb hx;exact⟨sl,(hs.2 b (KC (KA (JK e) (I.ok.cab x c a0 O)))).trans e1⟩
  .obtain⟨o',e1⟩:=I.base.there b o e hx;exact⟨o',(hs.2 b (KC (KA (JK e) (I.ok.cab x c a0 O)))).trans e1⟩
  .by_cases hj:j=i
   .subst hj;rw[hi]at e1;cases e1;rw[List.getElem?_set_self a3]at Y;cases Y;exact Ar u r (.inr ⟨.inl hk,(Ar c O a1)⟩)
   .rw [List.getElem?_set_ne (NI hj)]at Y;refine Am (hl j y v' e1 Y e3) λu' r' q=>Ar u' r' ?_
    rcases q with q|⟨k,c',e,z'⟩
    .exact .inl q
    .refine .inr ⟨k,(Ar c' e (z'.sameBut hs ?_))⟩;rintro rfl;exact hj (Qp hN e1 (I.ok.inj _ _ _ e O▸hi))
  .by_cases a2:c'=c
   .subst a2;exact⟨_,a1⟩
   .obtain⟨w2,z2⟩:=I.cell y c' e;exact⟨w2,z2.sameBut hs a2⟩
  .refine Ii (I.pin p hp) λe n ne nf d=>Du ((hs.2 p.1 ?_).trans e) n ne nf d;intro q;rw[q,a4]at e;have q':oc=p.2:=KR e;exact d w' (by rw[← q'];exact aA)
theorem Pm {E:Value->Shared->Prop}{Q:Unit->Shared->Prop}(I:Inv X pins σ H s)(Y:X.N.Nodup)(hi:X.N[i]?=some x)(hx:Loc X.env.scope x)(r:RelV v u)
  (h:∀s',Inv X pins (σ.set i (some v)) H s'->Q () s')(hf:X.fn x=true\/X.env.scope.names.lookup x=some .local:=by first|exact .inl rfl|exact .inr rfl|assumption):wpAny M A (storeName X.env x u) Q E s:=
 Mp I Y hi hx r (λs' O _=>h s' O) hf
theorem Inv.HI (I:Inv X pins σ H s)(O:s'.os=s.os)(u:Un (EC X.stack) ch H H' s.heap s'.heap)(AR:CL X.prog X.w H' s'.heap)(hg:AllBare s'.gens)
  (Y:∀b∈ch,(b∈X.ex\/X.s₀.heap.objs.size<=b)/\b≠X.env.locals/\(∀x c,X.env.cells.lookup x=some c->c≠b)/\∀p∈X.pn++pins,p.1≠b):Inv X pins σ H' s':=by
 obtain⟨h',g',d',t',o'⟩:=s';have e:o'=s.os:=O;subst e;exact I.call (g':=g') (t':=t') (d':=d') u AR hg Y
end
abbrev XK:=Value->Option Addr->Hp->Prop
abbrev St:=List (Option V)
abbrev VK:=V->Hp->Prop
abbrev TE:=St->Hp->VK->Prop
abbrev TT:=St->Hp->(Bool->Hp->Prop)->Prop
abbrev TA:=St->Hp->(List V->Hp->Prop)->Prop
structure Ends where
 nx:St->Hp->Prop
 rt:VK
 bk:St->Hp->Prop:=λ_ _=>False
 ct:St->Hp->Prop:=λ_ _=>False
abbrev TS:=Ends->St->Hp->Prop
def EP (X:Cx)(pins:List (Addr×Obj))(σ:St)(Q:VK)(u:Value)(s':Shared):Prop:=∃v H',Inv X pins σ H' s'/\RelV v u/\Q v H'
def TP (X:Cx)(pins:List (Addr×Obj))(σ:St)(Q:Bool->Hp->Prop)(b:Bool)(s':Shared):Prop:=∃H',Inv X pins σ H' s'/\Q b H'
def AP (X:Cx)(pins:List (Addr×Obj))(σ:St)(Q:List V->Hp->Prop)(us:List Value)(s':Shared):Prop:=∃vs H',Inv X pins σ H' s'/\AG vs us/\Q vs H'
def SP (X:Cx)(pins:List (Addr×Obj))(D:Ends)(f:Flow)(s':Shared):Prop:=
 match f with
 | .next=>∃σ' H',Inv X pins σ' H' s'/\D.nx σ' H'
 | .brk=>∃σ' H',Inv X pins σ' H' s'/\D.bk σ' H'
 | .cont=>∃σ' H',Inv X pins σ' H' s'/\D.ct σ' H'
 | .ret u=>∃v σ' H',Inv X pins σ' H' s'/\RelV v u/\D.rt v H'
def PE (X:Cx)(e:Expr)(t:TE):Prop:=
 ∀(pins:List (Addr×Obj)) (s:Shared) (σ:St) (H:Hp) (Q:VK),Inv X pins σ H s->t σ H Q->wpAny (model X.prog X.w) X.A (eval e X.env) (EP X pins σ Q) X.xe s
def PT (X:Cx)(e:Expr)(t:TT):Prop:=
 ∀(pins:List (Addr×Obj)) (s:Shared) (σ:St) (H:Hp) (Q:Bool->Hp->Prop),Inv X pins σ H s->t σ H Q->wpAny (model X.prog X.w) X.A (isTrue e X.env (eval e X.env)) (TP X pins σ Q) X.xe s
def PW (X:Cx)(e:Expr)(t:TT):Prop:=
 ∀(whole:Sem Value) (pins:List (Addr×Obj)) (s:Shared) (σ:St) (H:Hp) (Q:Bool->Hp->Prop),Inv X pins σ H s->t σ H Q->wpAny (model X.prog X.w) X.A (isTrue e X.env whole) (TP X pins σ Q) X.xe s
theorem PW.pt (h:PW X e t):PT X e t:=h _
def PA (X:Cx)(es:List Expr)(t:TA):Prop:=
 ∀(pos:Pos) (pins:List (Addr×Obj)) (s:Shared) (σ:St) (H:Hp) (Q:List V->Hp->Prop),Inv X pins σ H s->t σ H Q->wpAny (model X.prog X.w) X.A (spliced (backTo pos (starEach es X.env))) (AP X pins σ Q) X.xe s
def PS (X:Cx)(st:Stmt)(t:TS):Prop:=
 ∀(pins:List (Addr×Obj)) (s:Shared) (σ:St) (H:Hp) (D:Ends),Inv X pins σ H s->t D σ H->wpAny (model X.prog X.w) X.A (exec st X.env) (SP X pins D) X.xe s
def IH (X:Cx)(st:List Stmt)(t:TS):Prop:=
 ∀(pins:List (Addr×Obj)) (s:Shared) (σ:St) (H:Hp) (D:Ends),Inv X pins σ H s->t D σ H->wpAny (model X.prog X.w) X.A (execs st X.env) (SP X pins D) X.xe s
theorem AV {α:Type}{t:Sem α}{Q I:α->Shared->Prop}{M:Model}{A:Around}{E:Value->Shared->Prop}(h:wpAny M A t Q E s)(O:∀a s,Q a s->I a s):wpAny M A t I E s:=MY h O λ_ _ x=>x
section
variable {X:Cx}
def Zz (i:Nat):TE:=λσ H Q=>∃v,σ[i]?=some (some v)/\Q v H
def tC (v:V):TE:=λ_ H Q=>Q v H
theorem Ah5 (hN:X.N[i]?=some x)(hv:Vis X.env.scope x)(hd:(x==("__debug__":Str))=false:=by decide)(a0:(x==("__classdict__":Str))=false:=by decide):PE X (.Name x pos) (Zz i):=by
 intro pins s σ H Q I h;obtain⟨v,e,h⟩:=h;obtain⟨m,hn,hl⟩:=I.loc;obtain⟨u,r,l⟩:=hl i x v hN e hv;have fin:EP X pins σ Q u s:=⟨v,H,I,r,h⟩;rcases l with⟨hk,hm⟩|⟨hk,c,O,Y⟩
 .exact wpAny_Name (wpAny_loadName_local I.ok.kind hk hn hm fin) hd
 .rcases hk with hk|hk
  .exact wpAny_Name (wpAny_loadName_cell I.ok.kind hk O Y fin) hd
  .exact wpAny_Name (wpAny_loadName_free I.ok.kind hk O Y fin a0) hd
theorem Ah7 {i j pos}:PE X (.Constant (.int i) j pos) (tC (.int i)):=λ_ _ _ H _ I h=>wpAny_Constant_int (Ao (.int i) H (I.tok _) ⟨_,rfl⟩ h)
theorem pe_bl {b j pos}:PE X (.Constant (.bool b) j pos) (tC (.bl b)):=λ_ _ _ H _ I h=>Constant_bool (Ao (.bl b) H I rfl h)
theorem pe_non {j pos}:PE X (.Constant .none j pos) (tC .BO):=λ_ _ _ H _ I h=>Constant_none (Ao .BO H I rfl h)
theorem pe_str {x j pos}:PE X (.Constant (.str x) j pos) (tC (.str x)):=λ_ _ _ H _ I h=>Calls.Constant_str (Ao (.str x) H (I.tok _) ⟨_,rfl⟩ h)
def Gl (X:Cx)(x:Str):Prop:=X.env.kindOf x=some .globalImplicit
theorem Fz {E:Value->Shared->Prop}{Q:Value->Shared->Prop}(I:Inv X pins σ H s)(hg:Gl X x)(hm:X.mg x=some u)(h:Q u s)
  (hd:(x==("__debug__":Str))=false:=by decide):wpAny (model X.prog X.w) X.A (eval (.Name x pos) X.env) Q E s:=
 Calls.Name_function_global I.ok.kind hg (Calls.loadGlobal_global (by rw[I.ok.glob];exact I.mod.glob.keeps I.bk) hm h) hd
theorem Li {E:Value->Shared->Prop}{Q:Value->Shared->Prop}(I:Inv X pins σ H s)(hg:Gl X x)(hm:X.mg x=none)(O:bootBuiltins x=some u)(h:Q u s)
  (hn:x≠"__name__":=by decide)(hd:(x==("__debug__":Str))=false:=by decide):wpAny (model X.prog X.w) X.A (eval (.Name x pos) X.env) Q E s:=by
 refine Am I.mod.blt λmb h1 h2=>?_;exact Calls.Name_function_global I.ok.kind hg (Calls.loadGlobal_builtin (by rw[I.ok.glob];exact I.mod.glob.keeps I.bk) hm (by rw[I.ok.blt];exact h1.keeps I.bk) ((h2 x hn).trans O) h) hd
theorem Yw (hg:Gl X x)(hm:X.mg x=some u)(r:RelV v u)(hd:(x==("__debug__":Str))=false:=by decide):PE X (.Name x pos) (tC v):=
 λ_ _ _ H _ I h=>Fz I hg hm (Ao v H I r h) hd
theorem pe_bltn (hg:Gl X x)(hm:X.mg x=none)(O:bootBuiltins x=some u)(r:RelV v u)(hn:x≠"__name__":=by decide)(hd:(x==("__debug__":Str))=false:=by decide):PE X (.Name x pos) (tC v):=
 λ_ _ _ H _ I h=>Li I hg hm O (Ao v H I r h) hn hd
variable {a b:Expr}{ta tb:TE}{pos:Pos}
def PC (X:Cx)(op:CmpOp)(a b:Expr)(t:TE):Prop:=
 ∀(pins:List (Addr×Obj)) (s:Shared) (σ:St) (H:Hp) (Q:VK),Inv X pins σ H s->t σ H Q ->
  wpAny (model X.prog X.w) X.A (eval a X.env) (λv I=>wpAny (model X.prog X.w) X.A (eval b X.env) (λu O=>wpAny (model X.prog X.w) X.A (compareOp op v u) (EP X pins σ Q) X.xe O) X.xe I) X.xe s
def tB (t:TE):TT:=λσ H Q=>t σ H λx H1=>∃c,x=.bl c/\Q c H1
theorem Xi (h:PC X op a b t)(h1:behindInMarks op b=false:=by first|exact O _ (by decide) (by decide)|rfl):PE X (.Compare a [op] [b] pos) t:=λpins s σ H Q I hw=>wpAny_Compare1 (h pins s σ H Q I hw) h1
theorem pt_cmp (h:PC X op a b t)(h1:behindInMarks op b=false:=by first|exact a0 _ (by decide) (by decide)|rfl):PT X (.Compare a [op] [b] pos) (tB t):=by
 intro pins s σ H Q I hw;refine wpAny_isTrue_Compare1 (AV (h pins s σ H _ I hw) λv s1 h1=>AV h1 λu s2 h2=>AV h2 λc s3 ⟨x,H1,O,r1,Y⟩=>?_) h1;refine Am Y λd z1 q=>?_;subst z1;cases r1;exact MB (Ar H1 O q)
theorem pt_val (h:PE X e t)(he:∀whole,isTrue e X.env whole=(do let v ← whole;standAt e.pos;holding [v] (truthy v)):=by intro _;rfl):PT X e (tB t):=by
 intro pins s σ H Q I hw;refine isTrue_plain (AV (h pins s σ H _ I hw) λv s1 ⟨x,H1,O,r1,Y⟩=>?_) (he _);refine Am Y λd z1 q=>?_;subst z1;cases r1;exact MB (Ar H1 O q)
variable {tA tB':TT}{rest:List Expr}
def tAnd (t u:TT):TT:=λσ H Q=>t σ H λc H1=>if c=true then u σ H1 Q else Q false H1
def tOr (t u:TT):TT:=λσ H Q=>t σ H λc H1=>if c=true then Q true H1 else u σ H1 Q
def tNot (t:TT):TT:=λσ H Q=>t σ H λc H1=>Q (!c) H1
theorem Ap4 (ha:PT X a tA):PW X (.BoolOp .And [a] pos) tA:=by
 intro O pins s σ H Q I h;refine isTrue_and (AV (ha pins s σ H Q I h) λc s1 e=>?_)
 cases c with
 | true=>exact isTrue_and_nil e
 | false=>exact e
theorem pw_or1 (ha:PT X a tA):PW X (.BoolOp .Or [a] pos) tA:=by
 intro O pins s σ H Q I h;refine isTrue_or (AV (ha pins s σ H Q I h) λc s1 e=>?_)
 cases c with
 | false=>exact isTrue_or_nil e
 | true=>exact e
theorem pw_and (ha:PT X a tA)(hb:PW X (.BoolOp .And (b::rest) pos) tB'):PW X (.BoolOp .And (a::b::rest) pos) (tAnd tA tB'):=by
 intro wh pins s σ H Q I h;refine isTrue_and (AV (ha pins s σ H _ I h) λc s1 ⟨H1,O,Y⟩=>?_)
 cases c with
 | true=>exact hb wh pins s1 σ H1 Q O Y
 | false=>exact Ar H1 O Y
theorem pw_or (ha:PT X a tA)(hb:PW X (.BoolOp .Or (b::rest) pos) tB'):PW X (.BoolOp .Or (a::b::rest) pos) (tOr tA tB'):=by
 intro wh pins s σ H Q I h;refine isTrue_or (AV (ha pins s σ H _ I h) λc s1 ⟨H1,O,Y⟩=>?_)
 cases c with
 | true=>exact Ar H1 O Y
 | false=>exact hb wh pins s1 σ H1 Q O Y
theorem pt_not (ha:PT X a tA):PT X (.UnaryOp .Not a pos) (tNot tA):=by
 intro pins s σ H Q I h;exact isTrue_not (ha pins s σ H (λc H1=>Q (!c) H1) I h)
def tAndV (ta tb:TE):TE:=λσ H Q=>ta σ H λx H1=>∃c,x=.bl c/\if c=true then tb σ H1 Q else Q (.bl false) H1
def tOrV (ta tb:TE):TE:=λσ H Q=>ta σ H λx H1=>∃c,x=.bl c/\if c=true then Q (.bl true) H1 else tb σ H1 Q
def tNotV (ta:TE):TE:=λσ H Q=>ta σ H λx H1=>∃c,x=.bl c/\Q (.bl (!c)) H1
theorem pe_one {op}(h:PE X a t):PE X (.BoolOp op [a] pos) t:=λpins s σ H Q I hw=>BoolOp_one (h pins s σ H Q I hw)
theorem pe_and (ha:PE X a ta)(hb:PE X (.BoolOp .And (b::rest) pos) tb):PE X (.BoolOp .And (a::b::rest) pos) (tAndV ta tb):=by
 intro pins s σ H Q I h;refine BoolOp_and (AV (ha pins s σ H _ I h) λv s1 ⟨x,H1,Y,r1,O⟩=>?_);obtain⟨c,rfl,O⟩:=O;cases r1;refine MB ?_
 cases c with
 | true=>exact hb pins s1 σ H1 Q Y O
 | false=>exact Ao (.bl false) H1 Y rfl O
theorem pe_or (ha:PE X a ta)(hb:PE X (.BoolOp .Or (b::rest) pos) tb):PE X (.BoolOp .Or (a::b::rest) pos) (tOrV ta tb):=by
 intro pins s σ H Q I h;refine BoolOp_or (AV (ha pins s σ H _ I h) λv s1 ⟨x,H1,Y,r1,O⟩=>?_);obtain⟨c,rfl,O⟩:=O;cases r1;refine MB ?_
 cases c with
 | false=>exact hb pins s1 σ H1 Q Y O
 | true=>exact Ao (.bl true) H1 Y rfl O
theorem pe_not (ha:PE X a ta):PE X (.UnaryOp .Not a pos) (tNotV ta):=by
 intro pins s σ H Q I h;refine UnaryOp_ (AV (ha pins s σ H _ I h) λv s1 ⟨x,H1,Y,r1,O⟩=>?_);obtain⟨c,rfl,O⟩:=O;cases r1;exact not_of (MB ⟨.bl (!c),H1,Y,rfl,O⟩)
end
def AW (K:PySem.W.Frag)(H:Hp)(a:Addr)(xs:List V):Prop:=
 Rd H a (.lst xs) \/
  ∃(o:Obj) (its:Array Value) (n:Nat),K.lookup a=some o/\o.cls=.type "list"/\o.dict=none/\o.data=.seq its n/\its.size<=sizeLine/\AG xs its.toList
def BW (K:PySem.W.Frag)(H:Hp)(a:Addr)(xs:List V):Prop:=
 Rd H a (.tup xs) \/
  ∃(o:Obj) (its:Array Value) (n:Nat),K.lookup a=some o/\o.cls=.type "tuple"/\o.data=.seq its n/\its.size<=sizeLine/\AG xs its.toList
noncomputable def absV:Value->Option V
 | .none=>some .BO
 | .bool b=>some (.bl b)
 | .int i _=>some (.int i)
 | .str x _=>some (.str x)
 | .bytes b _=>some (.byt b)
 | .float b _=>some (.flt b)
 | .ref a=>some (.ref a)
 | .type n=>some (.ty n)
 | _=>none
theorem RelV.abs (r:RelV x u):absV u=some x:=by
 cases x with
 | BO=>cases r;rfl
 | bl _=>cases r;rfl
 | int _=>obtain⟨t,rfl⟩:=r;rfl
 | str _=>obtain⟨t,rfl⟩:=r;rfl
 | byt _=>obtain⟨t,rfl⟩:=r;rfl
 | flt _=>obtain⟨t,rfl⟩:=r;rfl
 | ref _=>cases r;rfl
 | ty _=>cases r;rfl
theorem RelV.inj (r:RelV x u)(q:RelV y u):x=y:=KR (r.abs.symm.trans q.abs)
theorem AG.inj:∀{xs ys:List V} {us:List Value},AG xs us->AG ys us->xs=ys
 | _,_,_,.nil,.nil=>rfl
 | _,_,_,.cons r t,.cons I t'=>by rw[r.inj I,AG.inj t t']
section
theorem AW.of {K:PySem.W.Frag}(h:H a=some (.lst xs)):AW K H a xs:=.inl (.inl h)
theorem BW.of {K:PySem.W.Frag}(h:H a=some (.tup xs)):BW K H a xs:=.inl (.inl h)
theorem Inv.list (I:Inv X pins σ H s)(h:AW X.K H a xs):∃its:List Value,AG xs its/\PlainL s.heap a its.toArray/\xs.length<=sizeLine:=by
 rcases h with h|⟨o,its,n,hk,O,hd,hs,hz,r⟩
 .refine Fg (h.ok I.AR) λz Y=>?_;refine Co Y λits n r e=>B4 its r (Cj _ n e rfl rfl rfl) z
 .refine B4 its.toList r (Cj o n (I.DR a o hk) O hd (by simpa using hs)) ?_;have e:=r.length;simp only[NP]at e;omega
theorem Inv.tuple (I:Inv X pins σ H s)(h:BW X.K H a xs):∃its:List Value,AG xs its/\IsTup s.heap a its.toArray/\xs.length<=sizeLine:=by
 rcases h with h|⟨o,its,n,hk,O,hs,hz,r⟩
 .refine Fg (h.ok I.AR) λz Y=>?_;refine Am Y λits r p=>B4 its r p z
 .refine B4 its.toList r (B4 o (I.DR a o hk) O ⟨n,by simpa using hs⟩) ?_;have e:=r.length;simp only[NP]at e;omega
theorem Inv.HM (I:Inv X pins σ H s)(h:AW X.K H a xs)(h':AW X.K H a ys):xs=ys:=by
 refine Bk (I.list h) λits r O _=>?_;obtain⟨o,n,e,_,_,d⟩:=O;refine Bk (I.list h') λits' r' O _=>?_;obtain⟨o',n',Y,_,_,d'⟩:=O;rw[e]at Y;cases Y;rw[d]at d'
 injection d' with d1 _
 have:its=its':=by simpa using LB Array.toList d1
 subst this;exact r.inj r'
theorem Inv.GQ (I:Inv X pins σ H s)(h:BW X.K H a xs)(h':BW X.K H a ys):xs=ys:=by
 refine Bk (I.tuple h) λits r O _=>?_;obtain⟨o,e,_,n,d⟩:=O;refine Bk (I.tuple h') λits' r' O _=>?_;obtain⟨o',Y,_,n',d'⟩:=O;rw[e]at Y;cases Y;rw[d]at d'
 injection d' with d1 _
 have:its=its':=by simpa using LB Array.toList d1
 subst this;exact r.inj r'
end
abbrev Cx.GF (X:Cx)(E:Value->Shared->Prop):Cx:={X with xe:=E}
abbrev Cx.nox (X:Cx):Cx:=X.GF λ_ _=>False
theorem Cx.Ok.GF {X:Cx}(ok:X.Ok)(E:Value->Shared->Prop):(X.GF E).Ok:=
 ⟨ok.mod,ok.kind,ok.glob,ok.blt,ok.above,ok.inj,ok.has,ok.cab,ok.hd,ok.frames,ok.stk,ok.exf,ok.bs,ok.IS,ok.HL,ok.GX,ok.AC,ok.frf⟩
theorem Cx.Ok.DI {X:Cx}{E:Value->Shared->Prop}(ok:(X.GF E).Ok):X.Ok:=
 ⟨ok.mod,ok.kind,ok.glob,ok.blt,ok.above,ok.inj,ok.has,ok.cab,ok.hd,ok.frames,ok.stk,ok.exf,ok.bs,ok.IS,ok.HL,ok.GX,ok.AC,ok.frf⟩
section
variable {E:Value->Shared->Prop}
theorem Inv.GF (I:Inv X pins σ H s)(E:Value->Shared->Prop):Inv (X.GF E) pins σ H s:=⟨I.ok.GF E,I.os,I.bare,I.base,I.loc,I.cell,I.free,I.BZ,I.pin,I.AR,I.len⟩
theorem Inv.DI (I:Inv (X.GF E) pins σ H s):Inv X pins σ H s:=⟨I.ok.DI,I.os,I.bare,I.base,I.loc,I.cell,I.free,I.BZ,I.pin,I.AR,I.len⟩
theorem SP.DI (h:SP (X.GF E) pins D f s'):SP X pins D f s':=by
 cases f with
 | next=>refine Co h λσ' H' I q=>?_;exact Ck σ' H' I.DI q
 | brk=>refine Co h λσ' H' I q=>?_;exact Ck σ' H' I.DI q
 | cont=>refine Co h λσ' H' I q=>?_;exact Ck σ' H' I.DI q
 | ret u=>refine Gz h λv σ' H' I r q=>?_;exact X8 v σ' H' I.DI r q
theorem IH.nox {st:List Stmt}{t:TS}(h:IH X.nox st t):IH X st t:=λpins s σ H D I hw=>
 MY (h pins s σ H D (I.GF _) hw) (λ_ _ q=>q.DI) λ_ _ z=>False.elim z
end
section
variable {X:Cx}{st:Stmt}{rest:List Stmt}{t u:TS}{e:Expr}{te:TE}{pos:Pos}
def Js:TS:=λD σ H=>D.nx σ H
def Sq (t u:TS):TS:=λD σ H=>t {D with nx:=u D} σ H
theorem Ap8:IH X [] Js:=λ_ _ σ H _ I h=>wpAny_execs_nil (Ck σ H I h)
theorem Ag5 (h1:PS X st t)(h2:IH X rest u):IH X (st::rest) (Sq t u):=by
 intro pins s σ H D I h;refine wpAny_execs_cons (AV (h1 pins s σ H {D with nx:=u D} I h) λf s1 q=>?_)
 cases f with
 | next=>
  obtain⟨σ',H',O,q⟩:=q;exact h2 pins s1 σ' H' D O q
 | ret v=>exact q
 | brk=>exact q
 | cont=>exact q
theorem Yu (h1:PS X st t):IH X [st] t:=by
 intro pins s σ H D I h;refine wpAny_execs_cons (AV (h1 pins s σ H D I h) λf s1 q=>?_)
 cases f with
 | next=>exact wpAny_execs_nil q
 | ret v=>exact q
 | brk=>exact q
 | cont=>exact q
theorem Inv.quiet (I:Inv X pins σ H s):interactive X.env=false:=by simp[interactive,I.ok.kind]
def tDrop (te:TE):TS:=λD σ H=>te σ H λ_ H1=>D.nx σ H1
theorem Yv (he:PE X e te)(hs:swapsWith e none pos.line X.env=pure false:=by rfl):PS X (.Expr e pos) (tDrop te):=by
 intro pins s σ H D I h;exact wpAny_Expr_any (AV (he pins s σ H _ I h) λv s1 ⟨x,H1,O,r1,Y⟩=>(Ck σ H1 O Y)) I.quiet hs
def tRet (te:TE):TS:=λD σ H=>te σ H D.rt
theorem ps_ret (he:PE X e te):PS X (.Return (some e) pos) (tRet te):=by
 intro pins s σ H D I h;exact wpAny_Return_some (AV (he pins s σ H _ I h) λv s1 ⟨x,H1,O,r1,Y⟩=>(X8 x σ H1 O r1 Y))
def An6 (c:TT)(t u:TS):TS:=λD σ H=>c σ H λb H1=>if b=true then t D σ H1 else u D σ H1
theorem ps_if (hc:PT X c tc)(ha:IH X a t)(hb:IH X b u):PS X (.If c a b pos) (An6 tc t u):=by
 intro pins s σ H D I h;refine wpAny_If (AV (hc pins s σ H _ I h) λd s1 ⟨H1,O,Y⟩=>?_)
 cases d with
 | true=>exact ha pins s1 σ H1 D O Y
 | false=>exact hb pins s1 σ H1 D O Y
def Ad6:TS:=λ_ _ _=>False
theorem Ag7:PS X st Ad6:=λ_ _ _ _ _ _ h=>h.elim
end
abbrev TG:=V->St->Hp->(St->Hp->Prop)->Prop
abbrev TGs:=List V->St->Hp->(St->Hp->Prop)->Prop
def PG (X:Cx)(I:Expr)(t:TG):Prop:=
 ∀(pins:List (Addr×Obj)) (s:Shared) (σ:St) (H:Hp) (v:V) (u:Value) (Q:St->Hp->Prop),Inv X pins σ H s->RelV v u->t v σ H Q ->
  wpAny (model X.prog X.w) X.A (assign I X.env u) (λ_ s'=>∃σ' H',Inv X pins σ' H' s'/\Q σ' H') X.xe s
def PGs (X:Cx)(ts:List Expr)(t:TGs):Prop:=
 ∀(pins:List (Addr×Obj)) (s:Shared) (σ:St) (H:Hp) (vs:List V) (us:List Value) (Q:St->Hp->Prop),Inv X pins σ H s->AG vs us->t vs σ H Q ->
  wpAny (model X.prog X.w) X.A (assignInOrder ((assignEach ts X.env).map (·.2)) us) (λ_ s'=>∃σ' H',Inv X pins σ' H' s'/\Q σ' H') X.xe s
section
def Dw (i:Nat):TG:=λv σ H Q=>Q (σ.set i (some v)) H
theorem pg_name (Y:X.N.Nodup)(hi:X.N[i]?=some x)(hx:Loc X.env.scope x)(hf:X.fn x=true\/X.env.scope.names.lookup x=some .local:=by first|exact .inl rfl|exact .inr rfl|assumption):PG X (.Name x pos) (Dw i):=by
 intro pins s σ H v u Q I r h;exact wpAny_assign_Name (Pm I Y hi hx r (λs' O=>(Ck _ H O h)) hf)
def gNil:TGs:=λvs σ H Q=>vs=[]/\Q σ H
def gCons (t:TG)(u:TGs):TGs:=λvs σ H Q=>∃v r,vs=v::r/\t v σ H λσ' H'=>u r σ' H' Q
theorem pgs_nil:PGs X [] gNil:=by
 intro pins s σ H vs us Q I r h;obtain⟨e,h⟩:=h;subst e;cases r;exact assignInOrder_nil (Ck σ H I h)
theorem Ah4 (h1:PG X e t)(h2:PGs X es u)
  (hs:(assignEach (e::es) X.env).map (·.2)=assign e X.env::(assignEach es X.env).map (·.2):=by rfl):PGs X (e::es) (gCons t u):=by
 intro pins s σ H vs us Q I r h;obtain⟨v,vr,e1,h⟩:=h;subst e1
 cases r with
 | cons r rr=>
  rw[hs];refine assignInOrder_cons (AV (h1 pins s σ H _ _ _ I r h) λ_ s1 ⟨σ1,H1,O,Y⟩=>h2 pins s1 σ1 H1 _ _ Q O rr Y)
def gTup (K:PySem.W.Frag)(n:Nat)(t:TGs):TG:=λv σ H Q=>∃a xs,v=.ref a/\BW K H a xs/\xs.length=n/\t xs σ H Q
theorem pg_tup (hc:X.calm=true)(h:PGs X es t)
  (hn:(assignEach es X.env).length=n:=by rfl)(a0:(assignEach es X.env).findIdx? (·.1)=none:=by rfl):PG X (.Tuple es k pos) (gTup X.K n t):=by
 intro pins s σ H v u Q I r hw;obtain⟨a,xs,e1,hq,hl,hw⟩:=hw;subst e1;cases r;obtain⟨its,O,ht,hz⟩:=I.tuple hq;refine assign_Tuple_tuple (I.ok.hd hc) ht (by simp[hn,← hl,O.length]) a0 λh' hx=>?_;have Y:Inv X pins σ H {s with heap:=h'}:=I.kept (t':=s.toks) λb o e=>hx b o (KC (JK e)) e;exact h pins _ σ H xs _ Q Y (by simpa using O) hw
def Sw (te:TE)(g:TG):TS:=λD σ H=>te σ H λx H1=>g x σ H1 D.nx
theorem ps_set (hN:X.N.Nodup)(hi:X.N[i]?=some x)(hx:Loc X.env.scope x)(he:PE X e te)(hs:swapsWith e (some (.Name x a0)) pos.line X.env=pure false:=by rfl)(hf:X.fn x=true\/X.env.scope.names.lookup x=some .local:=by first|exact .inl rfl|exact .inr rfl|assumption) :
  PS X (.Assign [.Name x a0] e pos) (Sw te (Dw i)):=by
 intro pins s σ H D I h;refine wpAny_Assign_Name (AV (he pins s σ H _ I h) λv s1 ⟨y,H1,O,r1,q1⟩=>(Pm O hN hi hx r1 (λs2 Y=>(Ck _ H1 Y q1)) hf)) hs
end
section
end
structure It where
 go:Nat->Hp->Prop
 FY:Nat->Hp->V->Hp->Prop
 stop:Nat->Hp->Prop
def Jr (X:Cx)(pins:List (Addr×Obj))(H:Hp)(b:Addr):Prop:=
 H b=none/\b≠X.env.locals/\b∉X.fs/\(b∈X.ex\/X.s₀.heap.objs.size<=b)/\(∀x c,X.env.cells.lookup x=some c->c≠b)/\∀p∈X.pn++pins,p.1≠b
theorem Inv.HX (I:Inv X pins σ H s)(hb:s.heap.objs.size<=b)(hn:H' b=none):Jr X pins H' b:=by
 refine El hn (LS (KA I.lt hb)) (I.nofs hb) (.inr (JY I.sz hb)) (λx c e z=>?_) λp O z=>?_
 .obtain⟨v,q⟩:=I.cell x c e;exact absurd (KA q.lt (by rw[z];exact hb)) (MJ _)
 .exact absurd (KA (JK (I.pin p O).1) (by rw[z];exact hb)) (MJ _)
structure Turn (P:Program)(w:World)(K:PySem.W.Frag)(tg:Expr)(J:It)(fp:List Addr)(it:Addr)(tn:Nat->Heap->Prop):Prop where
 mem:it∈fp
 obj:∀i h,tn i h->∀b∈fp,∃o,h.get? b=some o/\∀v,o.data≠.cell v
 keep:∀i h h',tn i h->(∀b∈fp,∀o,h.get? b=some o->h'.get? b=some o)->tn i h'
 item:∀(X:Cx),X.prog=P->X.w=w->X.K=K->X.calm=true->∀(i:Nat) (pins:List (Addr×Obj)) (s:Shared) (σ:St) (H:Hp) (E:Value->Shared->Prop),Inv X pins σ H s->(∀b∈fp,Jr X pins H b)->tn i s.heap->J.go i H ->
  wpAny (model P w) X.A (pyNext (.ref it)) (λr s1=>∃u,r=some u /\
   wpAny (model P w) X.A (letOwnedTupleGo tg (.ref it) u) (λ_ s2=>∃x H',Inv X pins σ H' s2/\RelV x u/\J.FY i H x H'/\tn (i+1) s2.heap/\∀b∈fp,H' b=none) E s1) E s
 done:∀(X:Cx),X.prog=P->X.w=w->X.K=K->X.calm=true->∀(i:Nat) (pins:List (Addr×Obj)) (s:Shared) (σ:St) (H:Hp) (E:Value->Shared->Prop),Inv X pins σ H s->(∀b∈fp,Jr X pins H b)->tn i s.heap->J.stop i H ->
  wpAny (model P w) X.A (pyNext (.ref it)) (λr s1=>r=none/\Inv X pins σ H s1) E s
 self:∀(A:Around) (i:Nat) (s:Shared) (Q:Value->Shared->Prop) (E:Value->Shared->Prop),tn i s.heap->Q (.ref it) s->wpAny (model P w) A (pyIter (.ref it)) Q E s
abbrev TI:=St->Hp->(It->Hp->Prop)->Prop
def PIE (X:Cx)(pins:List (Addr×Obj))(σ:St)(tg:Expr)(R:It->Hp->Prop)(I:Value)(s2:Shared):Prop:=
 ∃(it:Addr) (fp:List Addr) (tn:Nat->Heap->Prop) (J:It) (H':Hp),I=.ref it/\Inv X pins σ H' s2/\Turn X.prog X.w X.K tg J fp it tn/\tn 0 s2.heap/\(∀b∈fp,Jr X pins H' b)/\R J H'
def PI (X:Cx)(tg iter:Expr)(I:TI):Prop:=
 ∀(pins:List (Addr×Obj)) (s:Shared) (σ:St) (H:Hp) (R:It->Hp->Prop),Inv X pins σ H s->I σ H R ->
  wpAny (model X.prog X.w) X.A (eval iter X.env) (λv s1=>wpAny (model X.prog X.w) X.A (pyIter v) (PIE X pins σ tg R) X.xe s1) X.xe s
theorem Zg {E:Value->Shared->Prop}{Q:Unit->Shared->Prop}(Y:s.heap.get? it=some o)(O:o.cls=.type n)(hd:o.data=.fields vs)
   (hn:["enumerate","zip","dict_itemiterator","dict_reverseitemiterator","odict_iterator","itertools.zip_longest","itertools.pairwise"].contains n=false)(I:Q () s):wpAny M A (letOwnedTupleGo tg (.ref it) u) Q E s:=by
 unfold letOwnedTupleGo;cases tg<;>first
   | exact JF I
   | (cases u<;>first
       | exact JF I
       | (refine JA (wpAny_load Y ?_)
          rw[O,hd]
          show wpAny M A (if(["enumerate","zip","dict_itemiterator","dict_reverseitemiterator","odict_iterator","itertools.zip_longest","itertools.pairwise"].contains n&&vs[0]?==some (rawInt _))=true then _ else _) Q E s
          rw[JP (by intro h;rw[hn,Bool.false_and]at h;cases h)]
          exact JF I))
noncomputable def IZ (K:PySem.W.Frag)(a:Addr):It:=
 ⟨λi H=>∃xs x,AW K H a xs/\xs[i]?=some x,λi H x H'=>H'=H/\∀xs,AW K H a xs->xs[i]?=some x,λi H=>∃xs,AW K H a xs/\xs.length<=i⟩
noncomputable def IJ (K:PySem.W.Frag)(a:Addr):It:=
 ⟨λi H=>∃xs x,BW K H a xs/\xs[i]?=some x,λi H x H'=>H'=H/\∀xs,BW K H a xs->xs[i]?=some x,λi H=>∃xs,BW K H a xs/\xs.length<=i⟩
noncomputable def Itr (lo:Int)(n:Nat):It:=⟨λi _=>i<n,λi H x H'=>H'=H/\x=.int (lo+i),λi _=>n<=i⟩
theorem Zv {P:Program}{w:World}{K:PySem.W.Frag}{tg:Expr}(a it:Addr):Turn P w K tg (IZ K a) [it] it (λi h=>h.IsListIter it a i) where
 mem:=by simp
 obj:=λi h st b hb=>by
  have e:b=it:=by simpa using hb
  subst e;refine Bk st λo e c d=>?_;exact Ar o e λv z=>by rw[d]at z;cases z
 keep:=λi h h' st k=>st.at λo e=>k it (by simp) o e
 item:=by
  intro X hP hw hK hc i pins s σ H E I hf st hg;subst hP hw hK;refine Co hg λxs x O hx=>Bk (I.list O) λits rv p hz=>Am (rv.get hx) λu hu ru=>G7 (hf it (by simp)) λY f1 f2 f3 f4 f5=>wpAny_pyNext_list_item st p.isList (x:=u) (by simpa using hu) λh' a0 sb=>?_;have I1:Inv X pins σ H {s with heap:=h'}:=I.turned (t':=s.toks) (λb o hb e=>(sb.2 b hb).trans e) Y f1 f3 f4 f5;refine Bk (id a0) λo e c d=>?_;exact Ar u rfl (Zg (s:={s with heap:=h'}) e c d (by decide) (Jp x H I1 ru ⟨rfl,λys hy=>by rw[I.HM hy O];exact hx⟩ a0 λb hb=>(hf b hb).1))
 done:=by
  intro X hP hw hK hc i pins s σ H E I hf st hg;subst hP hw hK;refine Am hg λxs O hx=>Bk (I.list O) λits rv p hz=>G7 (hf it (by simp)) λY f1 f2 f3 f4 f5=>?_;have hl:=rv.length;exact wpAny_pyNext_list_end (I.ok.hd hc) st p.isList (by simp;omega) λh' eb=>⟨rfl,I.turned (t':=s.toks) (λb o hb e=>eb b o hb e) Y f1 f3 f4 f5⟩
 self:=λ_ _ _ _ _ st h=>wpAny_pyIter_listiter st h
theorem Wn {P:Program}{w:World}{K:PySem.W.Frag}{tg:Expr}(a it:Addr):Turn P w K tg (IJ K a) [it] it (λi h=>h.IsTupleIter it a i) where
 mem:=by simp
 obj:=λi h st b hb=>by
  have e:b=it:=by simpa using hb
  subst e;refine Bk st λo e c d=>?_;exact Ar o e λv z=>by rw[d]at z;cases z
 keep:=λi h h' st k=>st.at λo e=>k it (by simp) o e
 item:=by
  intro X hP hw hK hc i pins s σ H E I hf st hg;subst hP hw hK;refine Co hg λxs x O hx=>Bk (I.tuple O) λits rv p hz=>Am (rv.get hx) λu hu ru=>G7 (hf it (by simp)) λY f1 f2 f3 f4 f5=>wpAny_pyNext_tuple_item st (show s.heap.IsTuple a its.toArray from p) (x:=u) (by simpa using hu) λh' a0 sb=>?_;have I1:Inv X pins σ H {s with heap:=h'}:=I.turned (t':=s.toks) (λb o hb e=>(sb.2 b hb).trans e) Y f1 f3 f4 f5;refine Bk (id a0) λo e c d=>?_;exact Ar u rfl (Zg (s:={s with heap:=h'}) e c d (by decide) (Jp x H I1 ru ⟨rfl,λys hy=>by rw[I.GQ hy O];exact hx⟩ a0 λb hb=>(hf b hb).1))
 done:=by
  intro X hP hw hK hc i pins s σ H E I hf st hg;subst hP hw hK;refine Am hg λxs O hx=>Bk (I.tuple O) λits rv p hz=>G7 (hf it (by simp)) λY f1 f2 f3 f4 f5=>?_;have hl:=rv.length;exact wpAny_pyNext_tuple_end (I.ok.hd hc) st (show s.heap.IsTuple a its.toArray from p) (by simp;omega) λh' eb=>⟨rfl,I.turned (t':=s.toks) (λb o hb e=>eb b o hb e) Y f1 f3 f4 f5⟩
 self:=λ_ _ _ _ _ st h=>wpAny_pyIter_tupleiter st h
theorem Wp {P:Program}{w:World}{K:PySem.W.Frag}(it:Addr)(lo:Int)(n:Nat):Turn P w K tg (Itr lo n) [it] it (λi h=>IsRangeIter h it (lo+(i:Nat)*1) ((n:Int)-(i:Nat)) 1) where
 mem:=by simp
 obj:=λi h st b hb=>by
  have e:b=it:=by simpa using hb
  subst e;exact Ae st λv z=>by
   have z':Data.fields _=Data.cell v:=z;cases z'
 keep:=λi h h' st k=>k it (by simp) _ st
 item:=by
  intro X hP hw hK hc i pins s σ H E I hf st hg;subst hP hw hK;refine G7 (hf it (by simp)) λO Y f2 f3 f4 f5=>?_;have W:=Walks.range (prog:=X.prog) (w:=X.w) (I.ok.hd hc) it lo 1 n;refine W.item i s _ _ hg st λv h' tk hv a0 kk=>?_;obtain⟨t,rfl⟩:=hv;have I1:Inv X pins σ H {s with heap:=h',toks:=tk}:=I.turned (λb o hb e=>kk b o (by simpa using hb) e) O Y f3 f4 f5;refine Ae rfl (Zg (s:={s with heap:=h',toks:=tk}) (n:="range_iterator") a0 rfl rfl (by decide) (Jp (.int (lo+i)) H I1 ⟨t,?_⟩ ⟨rfl,rfl⟩ a0 λb hb=>(hf b hb).1));rw[Int.mul_one]
 done:=by
  intro X hP hw hK hc i pins s σ H E I hf st hg;subst hP hw hK;refine G7 (hf it (by simp)) λO Y f2 f3 f4 f5=>?_;exact wpAny_pyNext_range_end (I.ok.hd hc) st (by have:n<=i:=hg;omega) λh' eb=>⟨rfl,I.turned (t':=s.toks) (λb o hb e=>eb b o hb e) O Y f3 f4 f5⟩
 self:=λ_ _ _ _ _ st h=>wpAny_pyIter_rangeiter st h
section
def Al3 (K:PySem.W.Frag)(tl:TE):TI:=λσ H R=>tl σ H λx H1=>∃a,x=.ref a/\(∃xs,AW K H1 a xs)/\R (IZ K a) H1
def iTup (K:PySem.W.Frag)(tl:TE):TI:=λσ H R=>tl σ H λx H1=>∃a,x=.ref a/\(∃xs,BW K H1 a xs)/\R (IJ K a) H1
theorem Aq5 (hl:PE X l tl):PI X tg l (Al3 X.K tl):=by
 intro pins s σ H R I h;refine AV (hl pins s σ H _ I h) λv s1 ⟨x,H1,O,r1,q1⟩=>?_;refine Bk q1 λa e z1 q=>?_;obtain⟨xs,Y⟩:=z1;subst e;cases r1;refine Bk (O.list Y) λits rv p hz=>MI p.isList (Ff s1.heap.objs.size [s1.heap.objs.size] _ _ H1 rfl (O.kept (t':=s1.toks) λb o e=>JD _ e) (Zv a _) (B0 (JS _ rfl) rfl rfl) (λb hb=>?_) q);have e:b=s1.heap.objs.size:=by simpa using hb
 subst e;exact O.HX (JG _) (O.AR.fresh (JG _))
theorem pi_tup (hl:PE X l tl):PI X tg l (iTup X.K tl):=by
 intro pins s σ H R I h;refine AV (hl pins s σ H _ I h) λv s1 ⟨x,H1,O,r1,q1⟩=>?_;refine Bk q1 λa e z1 q=>?_;obtain⟨xs,Y⟩:=z1;subst e;cases r1;refine Bk (O.tuple Y) λits rv p hz=>wpAny_pyIter_tuple (show s1.heap.IsTuple a its.toArray from p) (Ff s1.heap.objs.size [s1.heap.objs.size] _ _ H1 rfl (O.kept (t':=s1.toks) λb o e=>JD _ e) (Wn a _) (B0 (JS _ rfl) rfl rfl) (λb hb=>?_) q);have e:b=s1.heap.objs.size:=by simpa using hb
 subst e;exact O.HX (JG _) (O.AR.fresh (JG _))
theorem Af1 {pins:List (Addr×Obj)}{σ:St}{H:Hp}{s:Shared}{R:It->Hp->Prop}{E:Value->Shared->Prop}{lo hi:Int}{t u v:Tok}{tk:Nat}(I:Inv X pins σ H s)(h1:-(2 ^ 62)<=lo)(h2:lo<2 ^ 62)(h3:-(2 ^ 62)<=hi)(h4:hi<2 ^ 62)
  (q:R (Itr lo (hi-lo).toNat) H):wpAny (model X.prog X.w) X.A (pyIter (.ref s.heap.objs.size)) (PIE X pins σ tg R) E {s with heap:=s.heap.push {cls:=.type "range",data:=.fields #[.int lo t,.int hi u,.int 1 v]},toks:=tk}:=by
 refine wpAny_pyIter_range (IsRange.new ..) (small_one h1 h2 h3 h4) ?_;have O:Inv X pins σ H {s with heap:=s.heap.push {cls:=.type "range",data:=.fields #[.int lo t,.int hi u,.int 1 v]},toks:=tk}:=I.kept λb o e=>JD _ e;refine Ff ((s.heap.push {cls:=.type "range",data:=.fields #[.int lo t,.int hi u,.int 1 v]}).objs.size) [(s.heap.push {cls:=.type "range",data:=.fields #[.int lo t,.int hi u,.int 1 v]}).objs.size] _ _ H rfl
  (O.kept (t':=tk) λb o e=>JD _ e) (Wp _ lo (hi-lo).toNat) ?_ (λb hb=>?_) q
 .have e1:lo+((0:Nat):Int)*1=lo:=by simp
  have Y:(((hi-lo).toNat:Nat):Int)-((0:Nat):Int)=Builtin.Range.rangeSize lo hi 1:=by rw[rangeSize_one];split<;>omega
  show IsRangeIter _ _ (lo+((0:Nat):Int)*1) ((((hi-lo).toNat:Nat):Int)-((0:Nat):Int)) 1
  rw[e1,Y];exact JS _ rfl
 .have e:b=(s.heap.push {cls:=.type "range",data:=.fields #[.int lo t,.int hi u,.int 1 v]}).objs.size:=by simpa using hb
  subst e;exact O.HX (JG _) (O.AR.fresh (JG _))
def iRng1 (ta:TA):TI:=λσ H R=>ta σ H λvs H1=>∃j:Int,vs=[.int j]/\-(2 ^ 62)<=j/\j<2 ^ 62/\R (Itr 0 j.toNat) H1
theorem Aa0 (hg:Gl X "range")(hm:X.mg "range"=none)(ha:PA X [a] ta)(hs:starEach [a] X.env=[(false,eval a X.env)]:=by rfl):PI X tg (.Call (.Name "range" p) [a] [] pos) (iRng1 ta):=by
 intro pins s σ H R I h;refine Call_ (Li I hg hm boot_range (MQ (AV (ha pos pins s σ H _ I h) λus s1 ⟨vs,H1,Y,r1,O⟩=>?_) hs rfl));obtain⟨j,e,O,q2,q⟩:=O;subst e
 cases r1 with
 | cons r rr=>
  cases rr;obtain⟨t,rfl⟩:=r;exact call_range_1 (Af1 Y (by omega) (by omega) O q2 (by simpa using q))
def An7 (O:TI)(g:TG)(tb:TS):TS:=λD σ H=>O σ H λJ H1=>∃W:Nat->Nat->St->Hp->Prop,(∃m,W 0 m σ H1)/\∀i m σ H,W i m σ H ->
 (J.stop i H/\D.nx σ H)\/(J.go i H/\∃N:St->Hp->Prop,(∀σ' H',N σ' H'->∃I,I<m/\W (i+1) I σ' H')/\∀x H',J.FY i H x H'->g x σ H' λσ2 H2=>tb {D with nx:=N,ct:=N,bk:=D.nx} σ2 H2)
noncomputable def M8 (fp:List Addr)(h:Heap):List (Addr×Obj):=fp.filterMap λb=>(h.get? b).map λo=>(b,o)
theorem Fr (hb:b∈fp)(e:h.get? b=some o):(b,o)∈M8 fp h:=List.mem_filterMap.mpr (Ar b hb (by rw[e];rfl))
theorem Aa5 (O:p∈M8 fp h):p.1∈fp/\h.get? p.1=some p.2:=by
 refine Am (List.mem_filterMap.mp O) λb hb e=>?_
 cases q:h.get? b with
 | none=>rw[q]at e;cases e
 | some o=>
  rw[q]at e;have I:(b,o)=p:=KR e;subst I;exact⟨hb,q⟩
theorem Inv.pinned (I:Inv X pins σ H s)(hf:∀b∈fp,Jr X pins H b)(ho:∀b∈fp,∃o,s.heap.get? b=some o/\∀v,o.data≠.cell v):Inv X (pins++M8 fp s.heap) σ H s:=
 I.IC λp hp=>(JV.mp hp).elim (λz=>I.pin p (JZ _ z)) λz=>by
  obtain⟨hb,e⟩:=Aa5 z;refine Ox (hf p.1 hb) λY f1 f2 _=>Am (ho p.1 hb) λo O d=>?_;rw[e]at O;cases O;exact Du e Y f1 f2 d
theorem Inv.DD (I:Inv X (pins++Y) σ H s):Inv X pins σ H s:=I.IC λp O=>I.pin p (JZ _ (LQ _ O))
theorem ps_for (hp:PassesOwn (model X.prog X.w) X.A X.env X.xe)(hc:X.calm=true)(hi:PI X tg iter wi)(hg:PG X tg g)(hb:IH X a8 tb)
  (hs:∀x,foldedSetIterable iter X.env x=pure x:=by intro _;rfl):PS X (.For tg iter a8 [] pos) (An7 wi g tb):=by
 intro pins s σ H D a4 h;refine wpAny_For (AV (hi pins s σ H _ a4 h) λv s1 h1=>AV h1 λaA s2 h2=>?_) hs;refine We h2 λit fp tn J H2 e I2 T a7 f2 z1=>?_;refine Am z1 λW z2 a9=>?_;obtain⟨m0,w0⟩:=z2;subst e;have a1:∀{H':Hp},(∀b∈fp,H' b=none)->∀b∈fp,Jr X pins H' b:=λhn b hb=>⟨hn b hb,(f2 b hb).2⟩;refine codeAny_forLoop_any (λn s'=>∃i σ' H',Inv X pins σ' H' s'/\tn i s'.heap/\(∀b∈fp,H' b=none)/\W i n σ' H') ?_ m0 (Ek 0 σ H2 I2 a7 (λb hb=>(f2 b hb).1) w0);rintro n s3 ⟨i,σ3,H3,I3,a3,a2,w3⟩;rcases a9 i n σ3 H3 w3 with⟨stop,qn⟩|⟨go,N,hN,step⟩
 .refine OU hp (AV (T.done X rfl rfl rfl hc i pins s3 σ3 H3 X.xe I3 (a1 a2) a3 stop) λr s4 ⟨hr,I4⟩=>?_);subst hr;exact wpAny_execs_nil (Ck σ3 H3 I4 qn)
 .refine OU hp (AV (T.item X rfl rfl rfl hc i pins s3 σ3 H3 X.xe I3 (a1 a2) a3 go) λr s4 ⟨u,hr,h4⟩=>?_);subst hr;refine OU hp (AV h4 λ_ s5 ⟨x,H5,I5,r5,y5,a0,a6⟩=>?_);have a5:=I5.pinned (a1 a6) (T.obj _ _ a0);refine OU hp (AV (hg _ s5 σ3 H5 x u _ a5 r5 (step x H5 y5)) λ_ s6 ⟨σ6,H6,I6,q6⟩=>OU hp (AV (hb _ s6 σ6 H6 _ I6 q6) λf s7 Y=>?_));have again:∀{σ7:St} {I:Hp},Inv X (pins++M8 fp s5.heap) σ7 I s7->N σ7 I->∃m,m<n/\∃i σ' H',Inv X pins σ' H' s7/\tn i s7.heap/\(∀b∈fp,H' b=none)/\W i m σ' H':=fun {σ7 I} O n7=>by
   refine Am (hN σ7 I n7) λm' hm w7=>Ar m' hm (Ek (i+1) σ7 I O.DD (T.keep _ _ _ a0 λb hb o e=>(O.pin (b,o) (JZ _ (JZ _ (Fr hb e)))).1) (λb hb=>(Am (T.obj _ _ a0 b hb) λo e d=>((O.pin (b,o) (JZ _ (JZ _ (Fr hb e)))).2.1))) w7)
  cases f with
  | next=>refine Co Y λσ7 I O n7=>?_;exact again O n7
  | cont=>refine Co Y λσ7 I O n7=>?_;exact again O n7
  | brk=>obtain⟨σ7,I,O,Y⟩:=Y;exact⟨σ7,I,O.DD,Y⟩
  | ret v=>obtain⟨x7,σ7,I,O,r7,Y⟩:=Y;exact⟨x7,σ7,I,O.DD,r7,Y⟩
end
theorem Kj {K:PySem.W.Frag}{a:Addr}{xs:List V}{g:TG}{tb:TS}{D:Ends}{σ:St}{H:Hp}(Pv:Nat->St->Hp->Prop)(h0:Pv 0 σ H)(hl:∀i σ H,i<=xs.length->Pv i σ H->AW K H a xs)
  (hs:∀i x σ H,xs[i]?=some x->Pv i σ H->g x σ H λσ2 H2=>tb {D with nx:=Pv (i+1),ct:=Pv (i+1),bk:=D.nx} σ2 H2)(hd:∀σ H,Pv xs.length σ H->D.nx σ H) :
  ∃W:Nat->Nat->St->Hp->Prop,(∃m,W 0 m σ H)/\∀i m σ H,W i m σ H ->
   ((IZ K a).stop i H/\D.nx σ H)\/((IZ K a).go i H/\∃N:St->Hp->Prop,(∀σ' H',N σ' H'->∃I,I<m/\W (i+1) I σ' H')/\∀x H',(IZ K a).FY i H x H'->g x σ H' λσ2 H2=>tb {D with nx:=N,ct:=N,bk:=D.nx} σ2 H2):=by
 refine Ar (λi m σ H=>m=xs.length-i/\i<=xs.length/\Pv i σ H) (B4 xs.length (by simp) (KY _) h0) ?_;rintro i m σ H ⟨rfl,hi,p⟩;have q:=hl i σ H hi p;by_cases O:i<xs.length
 .refine .inr ⟨(Ck xs (xs[i]) q (by simp[O])),(Ar (Pv (i+1)) (λσ' H' Y=>(Cv (xs.length-(i+1)) (by omega) rfl O Y)) λx H' y=>?_)⟩;obtain⟨e,y⟩:=y;subst e;exact hs i x σ _ (y xs q) p
 .have e:i=xs.length:=by omega
  subst e;exact .inl ⟨(Ar xs q (JG _)),hd σ H p⟩
theorem Zi {K:PySem.W.Frag}{a:Addr}{xs:List V}{g:TG}{tb:TS}{D:Ends}{σ:St}{H:Hp}(Pv:Nat->St->Hp->Prop)(h0:Pv 0 σ H)(hl:∀i σ H,i<=xs.length->Pv i σ H->BW K H a xs)
  (hs:∀i x σ H,xs[i]?=some x->Pv i σ H->g x σ H λσ2 H2=>tb {D with nx:=Pv (i+1),ct:=Pv (i+1),bk:=D.nx} σ2 H2)(hd:∀σ H,Pv xs.length σ H->D.nx σ H) :
  ∃W:Nat->Nat->St->Hp->Prop,(∃m,W 0 m σ H)/\∀i m σ H,W i m σ H ->
   ((IJ K a).stop i H/\D.nx σ H)\/((IJ K a).go i H/\∃N:St->Hp->Prop,(∀σ' H',N σ' H'->∃I,I<m/\W (i+1) I σ' H')/\∀x H',(IJ K a).FY i H x H'->g x σ H' λσ2 H2=>tb {D with nx:=N,ct:=N,bk:=D.nx} σ2 H2):=by
 refine Ar (λi m σ H=>m=xs.length-i/\i<=xs.length/\Pv i σ H) (B4 xs.length (by simp) (KY _) h0) ?_;rintro i m σ H ⟨rfl,hi,p⟩;have q:=hl i σ H hi p;by_cases O:i<xs.length
 .refine .inr ⟨(Ck xs (xs[i]) q (by simp[O])),(Ar (Pv (i+1)) (λσ' H' Y=>(Cv (xs.length-(i+1)) (by omega) rfl O Y)) λx H' y=>?_)⟩;obtain⟨e,y⟩:=y;subst e;exact hs i x σ _ (y xs q) p
 .have e:i=xs.length:=by omega
  subst e;exact .inl ⟨(Ar xs q (JG _)),hd σ H p⟩
theorem Gk {lo:Int}{n:Nat}{g:TG}{tb:TS}{D:Ends}{σ:St}{H:Hp}(Pv:Nat->St->Hp->Prop)(h0:Pv 0 σ H)
  (hs:∀i σ H,i<n->Pv i σ H->g (.int (lo+i)) σ H λσ2 H2=>tb {D with nx:=Pv (i+1),ct:=Pv (i+1),bk:=D.nx} σ2 H2)(hd:∀σ H,Pv n σ H->D.nx σ H) :
  ∃W:Nat->Nat->St->Hp->Prop,(∃m,W 0 m σ H)/\∀i m σ H,W i m σ H ->
   ((Itr lo n).stop i H/\D.nx σ H)\/((Itr lo n).go i H/\∃N:St->Hp->Prop,(∀σ' H',N σ' H'->∃O,O<m/\W (i+1) O σ' H')/\∀x H',(Itr lo n).FY i H x H'->g x σ H' λσ2 H2=>tb {D with nx:=N,ct:=N,bk:=D.nx} σ2 H2):=by
 refine Ar (λi m σ H=>m=n-i/\i<=n/\Pv i σ H) (B4 n (by simp) (KY _) h0) ?_;rintro i m σ H ⟨rfl,hi,p⟩;by_cases I:i<n
 .refine .inr ⟨I,(Ar (Pv (i+1)) (λσ' H' Y=>(Cv (n-(i+1)) (by omega) rfl I Y)) λx H' y=>?_)⟩;obtain⟨e,y⟩:=y;subst e y;exact hs i σ _ I p
 .have e:i=n:=by omega
  subst e;exact .inl ⟨JG _,hd σ H p⟩
abbrev R2:=V->V->Hp->VK->Prop
def CV (X:Cx)(f:Value->Value->Sem Value)(r:R2):Prop:=
 ∀(pins:List (Addr×Obj)) (s:Shared) (σ:St) (H:Hp) (x y:V) (v u:Value) (Q:VK),Inv X pins σ H s->RelV x v->RelV y u->r x y H Q ->
  wpAny (model X.prog X.w) X.A (f v u) (EP X pins σ Q) X.xe s
def UnR (X:Cx)(f:Value->Sem Value)(r:V->Hp->VK->Prop):Prop:=
 ∀(pins:List (Addr×Obj)) (s:Shared) (σ:St) (H:Hp) (x:V) (v:Value) (Q:VK),Inv X pins σ H s->RelV x v->r x H Q ->
  wpAny (model X.prog X.w) X.A (f v) (EP X pins σ Q) X.xe s
def Ex (X:Cx)(f:Value)(r:List V->Hp->VK->Prop):Prop:=
 ∀(pins:List (Addr×Obj)) (s:Shared) (σ:St) (H:Hp) (xs:List V) (us:List Value) (Q:VK),Inv X pins σ H s->AG xs us->r xs H Q ->
  wpAny (model X.prog X.w) X.A (call f us) (EP X pins σ Q) X.xe s
def IG (r:R2)(ta tb:TE):TE:=λσ H Q=>ta σ H λx H1=>tb σ H1 λy H2=>r x y H2 Q
def tUn (r:V->Hp->VK->Prop)(ta:TE):TE:=λσ H Q=>ta σ H λx H1=>r x H1 Q
def rI (C:Int->Int->Prop)(g:Int->Int->V):R2:=λx y H Q=>∃i j,x=.int i/\y=.int j/\C i j/\Q (g i j) H
def rI0 (g:Int->Int->V):R2:=λx y H Q=>∃i j,x=.int i/\y=.int j/\Q (g i j) H
def rU (g:Int->V):V->Hp->VK->Prop:=λx H Q=>∃i,x=.int i/\Q (g i) H
section
theorem binT (ha:PE X a ta)(hb:PE X b tb){pins:List (Addr×Obj)}{s:Shared}{σ:St}{H:Hp}{R:V->V->Hp->Prop}(I:Inv X pins σ H s)
  (h:ta σ H λx H1=>tb σ H1 λy H2=>R x y H2){Q:Value->Shared->Prop}{f:Value->Value->Sem Value}
  (hf:∀v u s2 x y H2,Inv X pins σ H2 s2->RelV x v->RelV y u->R x y H2->wpAny (model X.prog X.w) X.A (f v u) Q X.xe s2) :
  wpAny (model X.prog X.w) X.A (eval a X.env) (λv s₁=>wpAny (model X.prog X.w) X.A (eval b X.env) (λu s₂=>wpAny (model X.prog X.w) X.A (f v u) Q X.xe s₂) X.xe s₁) X.xe s:=by
 refine AV (ha pins s σ H _ I h) λv s1 ⟨x,H1,O,r1,q1⟩=>AV (hb pins s1 σ H1 _ O q1) λu s2 ⟨y,H2,Y,r2,q2⟩=>hf v u s2 x y H2 Y r1 r2 q2
theorem pe_op (Y:CV X (binaryOp op) r)(ha:PE X a ta)(hb:PE X b tb):PE X (.BinOp a op b pos) (IG r ta tb):=by
 intro pins s σ H Q I h;exact wpAny_BinOp (binT ha hb I h λv u s2 x y H2 O rx ry q=>Y pins s2 σ H2 x y v u Q O rx ry q)
theorem pe_un {r:V->Hp->VK->Prop}(Y:UnR X (unaryOp op) r)(ha:PE X a ta):PE X (.UnaryOp op a pos) (tUn r ta):=by
 intro pins s σ H Q I h;exact UnaryOp_ (AV (ha pins s σ H _ I h) λv s1 ⟨x,H1,O,r1,q1⟩=>Y pins s1 σ H1 x v Q O r1 q1)
theorem opI {f:Value->Value->Sem Value}{C:Int->Int->Prop}{g:Int->Int->Int}
  (rule:∀(i j:Int) (t u:Tok) (s:Shared) (Q:Value->Shared->Prop) (E:Value->Shared->Prop),C i j->Q (.int (g i j) s.toks) {s with toks:=s.toks+1}->wpAny (model X.prog X.w) X.A (f (.int i t) (.int j u)) Q E s) :
  CV X f (rI C λi j=>.int (g i j)):=by
 intro pins s σ H x y v u Q I Y ry h;refine Gh h λi j z1 z2 O q=>?_;subst z1 z2;obtain⟨t,rfl⟩:=Y;obtain⟨t',rfl⟩:=ry;exact rule i j t t' s _ _ O (Ao (.int (g i j)) H (I.tok _) ⟨_,rfl⟩ q)
theorem opI0 {f:Value->Value->Sem Value}{g:Int->Int->Int}
  (rule:∀(i j:Int) (t u:Tok) (s:Shared) (Q:Value->Shared->Prop) (E:Value->Shared->Prop),Q (.int (g i j) s.toks) {s with toks:=s.toks+1}->wpAny (model X.prog X.w) X.A (f (.int i t) (.int j u)) Q E s) :
  CV X f (rI0 λi j=>.int (g i j)):=by
 intro pins s σ H x y v u Q I O Y h;refine A0 h λi j z1 z2 q=>?_;subst z1 z2;obtain⟨t,rfl⟩:=O;obtain⟨t',rfl⟩:=Y;exact rule i j t t' s _ _ (Ao (.int (g i j)) H (I.tok _) ⟨_,rfl⟩ q)
theorem opB0 {f:Value->Value->Sem Value}{g:Int->Int->Bool}
  (rule:∀(i j:Int) (t u:Tok) (s:Shared) (Q:Value->Shared->Prop) (E:Value->Shared->Prop),Q (.bool (g i j)) s->wpAny (model X.prog X.w) X.A (f (.int i t) (.int j u)) Q E s) :
  CV X f (rI0 λi j=>.bl (g i j)):=by
 intro pins s σ H x y v u Q I O Y h;refine A0 h λi j z1 z2 q=>?_;subst z1 z2;obtain⟨t,rfl⟩:=O;obtain⟨t',rfl⟩:=Y;exact rule i j t t' s _ _ (Ao (.bl (g i j)) H I rfl q)
def CDiv (i j:Int):Prop:=0<j/\j<1073741824
def CMul (i j:Int):Prop:=(-(2 ^ 64)<i/\i<2 ^ 64)\/(-(2 ^ 64)<j/\j<2 ^ 64)
theorem CMul.ok (h:CMul i j):IntMulOk i j:=by
 rcases h with⟨h1,h2⟩|⟨h1,h2⟩
 .exact .of_left (intBits_le_64 h1 h2)
 .exact .of_right (intBits_le_64 h1 h2)
theorem Fa:CV X (binaryOp .Add) (rI0 λi j=>.int (i+j)):=opI0 λ_ _ _ _ _ _ _ q=>add_int q
theorem Fk:CV X (binaryOp .Sub) (rI0 λi j=>.int (i-j)):=opI0 λ_ _ _ _ _ _ _ q=>sub_int q
theorem Fm:CV X (binaryOp .Mult) (rI CMul λi j=>.int (i*j)):=opI λ_ _ _ _ _ _ _ I q=>mul_int q I.ok
theorem Br:CV X (binaryOp .FloorDiv) (rI CDiv λi j=>.int (i/j)):=opI λi j _ _ _ _ _ I q=>by
 have h1:(0:Int)<j:=I.1;have h2:j<1073741824:=I.2;exact floordiv_int (by omega) (by rw[Int.fdiv_eq_ediv_of_nonneg i (by omega)];exact q) (.inl (PyProof.noPylong_small (by omega)))
theorem Bh:CV X (binaryOp .Mod) (rI (λ_ j=>0<j) λi j=>.int (i%j)):=opI λi j _ _ _ _ _ I q=>by
 have h1:(0:Int)<j:=I;exact mod_int' (by omega) (by rw[Int.fmod_eq_emod_of_nonneg i (by omega)];exact q)
theorem unI {f:Value->Sem Value}{g:Int->Int}
  (rule:∀(i:Int) (t:Tok) (s:Shared) (Q:Value->Shared->Prop) (E:Value->Shared->Prop),Q (.int (g i) s.toks) {s with toks:=s.toks+1}->wpAny (model X.prog X.w) X.A (f (.int i t)) Q E s) :
  UnR X f (rU λi=>.int (g i)):=by
 intro pins s σ H x v Q I O h;refine Am h λi Y q=>?_;subst Y;obtain⟨t,rfl⟩:=O;exact rule i t s _ _ (Ao (.int (g i)) H (I.tok _) ⟨_,rfl⟩ q)
theorem Ad2:UnR X (unaryOp .USub) (rU λi=>.int (-i)):=unI λ_ _ _ _ _ q=>neg_int q
end
noncomputable def scal:V->V->Bool
 | .BO,.BO=>true|.BO,.int _=>true|.int _,.BO=>true|.BO,.bl _=>true|.bl _,.BO=>true|.BO,.str _=>true|.str _,.BO=>true
 | .int _,.int _=>true|.bl _,.bl _=>true|.str _,.str _=>true|.byt _,.byt _=>true
 | .int _,.str _=>true|.str _,.int _=>true|.bl _,.str _=>true|.str _,.bl _=>true
 | _,_=>false
def rEq:R2:=λx y H Q=>scal x y=true/\Q (.bl (decide (x=y))) H
theorem dec_int:decide (V.int i=V.int j)=(i==j):=by
 rw[MU];simp
theorem dec_bl:decide (V.bl i=V.bl j)=(i==j):=by
 rw[MU];simp
theorem Je:decide (V.str i=V.str j)=(i==j):=by
 rw[MU];simp
theorem dec_byt:decide (V.byt i=V.byt j)=(i.toList==j.toList):=by
 rw[MU];cases i;cases j;simp
section
theorem Em (I:Inv X pins σ H s)(q:Q (.bl k) H)(e:k=k'):EP X pins σ Q (.bool k') s:=by
 subst e;exact Ao (.bl k) H I rfl q
theorem B9:CV X (compareOp .Eq) rEq:=by
 intro pins s σ H x y v u Q I Y O h;obtain⟨hs,q⟩:=h
 cases x with
 | BO=>
  cases Y
  cases y with
  | BO=>cases O;exact PySem.EqNone.eq_none_none (Em I q (by simp))
  | bl j=>cases O;exact PySem.EqNone.eq_none_bool (Em I q (by simp))
  | int j=>obtain⟨t',rfl⟩:=O;exact PySem.EqNone.eq_none_int (Em I q (by simp))
  | str j=>obtain⟨t',rfl⟩:=O;exact PySem.EqNone.eq_none_str (Em I q (by simp))
  | _=>exact absurd (show false=true from hs) KQ
 | bl i=>
  cases Y
  cases y with
  | BO=>cases O;exact PySem.EqNone.eq_bool_none (Em I q (by simp))
  | bl j=>cases O;exact eq_bool (Em I q dec_bl)
  | str j=>obtain⟨t',rfl⟩:=O;exact PySem.EqMixed.eq_bool_str (Em I q (by simp))
  | _=>exact absurd (show false=true from hs) KQ
 | int i=>
  obtain⟨t,rfl⟩:=Y
  cases y with
  | BO=>cases O;exact PySem.EqNone.eq_int_none (Em I q (by simp))
  | int j=>obtain⟨t',rfl⟩:=O;exact eq_int (Em I q dec_int)
  | str j=>obtain⟨t',rfl⟩:=O;exact PySem.EqMixed.eq_int_str (Em I q (by simp))
  | _=>exact absurd (show false=true from hs) KQ
 | str i=>
  obtain⟨t,rfl⟩:=Y
  cases y with
  | BO=>cases O;exact PySem.EqNone.eq_str_none (Em I q (by simp))
  | bl j=>cases O;exact PySem.EqMixed.eq_str_bool (Em I q (by simp))
  | int j=>obtain⟨t',rfl⟩:=O;exact PySem.EqMixed.eq_str_int (Em I q (by simp))
  | str j=>obtain⟨t',rfl⟩:=O;exact eq_str (Em I q Je)
  | _=>exact absurd (show false=true from hs) KQ
 | byt i=>
  obtain⟨t,rfl⟩:=Y
  cases y with
  | byt j=>obtain⟨t',rfl⟩:=O;exact PySem.W.eq_bytes (Em I q dec_byt)
  | _=>exact absurd (show false=true from hs) KQ
 | _=>cases y<;>exact absurd (show false=true from hs) KQ
theorem Vh:CV X (compareOp .Lt) (rI0 λi j=>.bl (decide (i<j))):=opB0 λ_ _ _ _ _ _ _ q=>lt_int q
theorem Qi:CV X (compareOp .LtE) (rI0 λi j=>.bl (decide (i<=j))):=opB0 λ_ _ _ _ _ _ _ q=>le_int q
theorem F1:CV X (compareOp .Gt) (rI0 λi j=>.bl (decide (j<i))):=opB0 λ_ _ _ _ _ _ _ q=>gt_int q
theorem op_ge:CV X (compareOp .GtE) (rI0 λi j=>.bl (decide (j<=i))):=opB0 λ_ _ _ _ _ _ _ q=>ge_int q
theorem op_isN:CV X (compareOp .Is) (λx y H Q=>y=.BO/\Q (.bl (decide (x=.BO))) H):=by
 intro pins s σ H x y v u Q I O Y h;obtain⟨rfl,q⟩:=h;cases Y;refine is_none_gen (Em I q ?_);cases x<;>first
  | (cases O;rfl)
  | (obtain⟨t,rfl⟩:=O;rfl)
theorem Aj2 (b:Expr)(h:op≠.In:=by decide)(h2:op≠.NotIn:=by decide):behindInMarks op b=false:=by
 have e1:(op==CmpOp.In)=false:=by cases op<;>first|rfl|exact absurd rfl h
 have I:(op==CmpOp.NotIn)=false:=by cases op<;>first|rfl|exact absurd rfl h2
 cases b<;>simp[behindInMarks,e1,I]
theorem pe_cmpR (Y:CV X (compareOp op) r)(ha:PE X a ta)(hb:PE X b tb)(hm:behindInMarks op b=false):PE X (.Compare a [op] [b] pos) (IG r ta tb):=by
 intro pins s σ H Q I h;exact wpAny_Compare1 (binT ha hb I h λv u s2 x y H2 O rx ry q=>Y pins s2 σ H2 x y v u Q O rx ry q) hm
def U5 (t:TE):TT:=λσ H Q=>t σ H λx H'=>∃k,x=.bl k/\Q k H'
theorem Ap7 (ho:CV X (compareOp op) r)(ha:PE X a ta)(hb:PE X b tb)(hm:behindInMarks op b=false):PT X (.Compare a [op] [b] pos) (U5 (IG r ta tb)):=by
 intro pins s σ H Q I h
 refine wpAny_isTrue_Compare1 (AV (ha pins s σ H _ I h) λv s1 ⟨x,H1,O,r1,q1⟩=>AV (hb pins s1 σ H1 _ O q1) λu s2 ⟨y,H2,Y,r2,q2⟩=>
  AV (ho pins s2 σ H2 x y v u _ Y r1 r2 q2) λc s3 ⟨z,H3,I3,r3,k,e,q3⟩=>?_) hm
 subst e;cases r3;exact MB (Ar H3 I3 q3)
def Sv (r O:R2)(ta tb Y:TE):TE:=λσ H Q=>ta σ H λx H1=>tb σ H1 λy H2=>r x y H2 λz H3=>∃k,z=.bl k /\
 (if k=true then Y σ H3 λw' I=>O y w' I Q else Q (.bl false) H3)
theorem Ai1 (ho:CV X (compareOp op) r)(a2:CV X (compareOp a0) r')(ha:PE X a ta)(hb:PE X b tb)(hc:PE X c tc)
  (hm:lastMarks [op,a0] [b,c]=false:=by with_unfolding_all rfl):PE X (.Compare a [op,a0] [b,c] pos) (Sv r r' ta tb tc):=by
 intro pins s σ H Q a1 h
 refine Compare_chain (AV (ha pins s σ H _ a1 h) λv s1 ⟨x,H1,I1,r1,q1⟩=>chain_link (AV (hb pins s1 σ H1 _ I1 q1) λu s2 ⟨y,H2,I2,Y,q2⟩=>
  AV (ho pins s2 σ H2 x y v u _ I2 r1 Y q2) λd s3 ⟨z,H3,I,r3,k,e,O⟩=>?_)) hm
 subst e;cases r3;refine MB ?_
 cases k with
 | false=>exact ite_ff (Ao (.bl false) H3 I rfl O)
 | true=>exact ite_tt (chain_last (AV (hc pins s3 σ H3 _ I O) λw' s4 ⟨z',H4,I4,r4,q4⟩=>a2 pins s4 σ H4 y z' u w' Q I4 Y r4 q4))
theorem Ag4 (ho:CV X (compareOp op) r)(a2:CV X (compareOp a0) r')(ha:PE X a ta)(hb:PE X b tb)(hc:PE X c tc)
  (hm:lastMarks [op,a0] [b,c]=false:=by with_unfolding_all rfl):PT X (.Compare a [op,a0] [b,c] pos) (U5 (Sv r r' ta tb tc)):=by
 intro pins s σ H Q a1 h
 refine isTrue_chain (AV (ha pins s σ H _ a1 h) λv s1 ⟨x,H1,I1,r1,q1⟩=>test_link (AV (hb pins s1 σ H1 _ I1 q1) λu s2 ⟨y,H2,I2,Y,q2⟩=>
  AV (ho pins s2 σ H2 x y v u _ I2 r1 Y q2) λd s3 ⟨z,H3,I,r3,k,e,O⟩=>?_)) hm
 subst e;cases r3;refine MB ?_
 cases k with
 | false=>
  refine Am O λk' e' q'=>?_;cases e';exact ite_ff (Ar H3 I q')
 | true=>
  refine ite_tt (test_last (AV (hc pins s3 σ H3 _ I O) λw' s4 ⟨z',H4,I4,r4,q4⟩=>AV (a2 pins s4 σ H4 y z' u w' _ I4 Y r4 q4) λd' s5 ⟨z2,H5,I5,r5,k2,e2,q5⟩=>?_));subst e2;cases r5;exact MB (Ar H5 I5 q5)
theorem Qt:(sizeLine:Nat)<2 ^ 63:=by rw[KU];decide
theorem Lg:CV X (binaryOp .Add) (λx y H Q=>∃i j,x=.str i/\y=.str j/\i.length+j.length<=sizeLine/\Q (.str (i++j)) H):=by
 intro pins s σ H x y v u Q I Y ry h;refine Gh h λi j z1 z2 O q=>?_;subst z1 z2;obtain⟨t,rfl⟩:=Y;obtain⟨t',rfl⟩:=ry;exact add_str (λt' tk=>(Ao (.str (i++j)) H (I.tok _) ⟨_,rfl⟩ q)) O
theorem K4 (r:AG [x] us):∃u,us=[u]/\RelV x u:=by
 cases r with
 | cons I O=>cases O;exact Ae rfl I
theorem Yf (r:AG [x,y] us):∃u I,us=[u,I]/\RelV x u/\RelV y I:=by
 cases r with
 | cons O Y=>
  cases Y with
  | cons r3 r4=>cases r4;exact Au rfl O r3
theorem Se (hc:X.calm=true):Ex X (.builtin "max") (λxs H Q=>∃i j,xs=[.int i,.int j]/\Q (.int (if j>i then j else i)) H):=by
 intro pins s σ H xs us Q I r h;refine Co h λi j Y q=>?_;subst Y;refine A0 (Yf r) λu w' Y z2 z3=>?_;subst Y;obtain⟨t,rfl⟩:=z2;obtain⟨t',rfl⟩:=z3;refine max_two_ints (I.ok.hd hc) λh' tk k=>(Ao _ H (I.kept k) ?_ q);by_cases O:j>i
 .rw [JN O,JN O];exact⟨_,rfl⟩
 .rw [JP O,JP O];exact⟨_,rfl⟩
theorem Np:Ex X (.type "int") (λxs H Q=>(∃i,xs=[.int i]/\Q (.int i) H)\/∃k,xs=[.bl k]/\Q (.int (if k then 1 else 0)) H):=by
 intro pins s σ H xs us Q I r h;rcases h with⟨i,rfl,q⟩|⟨k,rfl,q⟩
 .refine Am (K4 r) λu O z2=>?_;subst O;obtain⟨t,rfl⟩:=z2;exact call_int_int (Ao (.int i) H I ⟨_,rfl⟩ q)
 .refine Am (K4 r) λu O Y=>?_;subst O;cases Y;exact call_int_bool (Ao (.int (if k then 1 else 0)) H (I.tok _) ⟨_,rfl⟩ q)
end
structure IP (h:Heap)(x dx C:Addr)(mA:Str->Option Value):Prop where
 obj:h.get? x=some (PySem.W.instObj C dx)
 ns:h.Ns1 dx mA
 ne:dx≠x
theorem Aa6 {h:Heap}{dx:Addr}{mA:Str->Option Value}(n:h.Ns1 dx mA):∃od,h.get? dx=some od/\∀name,PySem.W.lookIn name od=some (mA name):=by
 refine Kz n λo es ep O hd hk _ hm=>Ar o O λname=>?_;have e:=hm name;unfold nsFind findBy at e;rw[← Array.find?_toList]at e;unfold PySem.W.lookIn;rw[hd];dsimp only;split
 .rename_i y q;rw[q]at e;exact LB some e
 .rename_i q;rw[q]at e;have a:es.toList.any (·.refKey)=false:=by
   rw[List.any_eq_false];intro y Y;refine Gi (hk y (Array.mem_toList_iff.mp Y)) λz t a0=>?_;simp[DictEntry.refKey,a0]
  have I:¬es.toList.any (·.refKey)=true:=by rw[a];exact KQ
  rw[JP I];exact LB some e
theorem IP.look (I:IP h x dx C mA):∃od,PySem.W.InstAt h x (PySem.W.instObj C dx) C (some od)/\∀name,PySem.W.lookIn name od=some (mA name):=
 let ⟨od,O,hl⟩:=Aa6 I.ns
 (Ar od ⟨I.obj,rfl,rfl,O⟩ hl)
section
variable {prog:Program}{w:World}{A:Around}{E:Value->Shared->Prop}{s:Shared}{K:PySem.W.Frag}{x dx C f:Addr}{mA:Str->Option Value}{name:Str}{v:Value}
theorem get_map {Q:Value->Shared->Prop}(X:K.In s.heap)(I:IP s.heap x dx C mA)(hg:PySem.W.plainGet K C name=true)(O:PySem.W.hasDictIn K C=true)
  (ha:PySem.W.findIn K (.ref C) name=some none)(Y:mA name=some v)(a0:PySem.W.handedIn v=true)(h:Q v {s with toks:=s.toks+1}) :
  wpAny (model prog w) A (getAttr (.ref x) name a1) Q E s:=by
 refine Am I.look λod J hl=>PySem.W.get_value X J (PySem.W.plainGet_of hg).1 (PySem.W.findObj_own O ha rfl (by rw[hl,Y])) a0 h
theorem Ao2 {Q:Unit->Shared->Prop}(X:K.In s.heap)(I:IP s.heap x dx C mA)
  (hs:PySem.W.findIn K (.ref C) "__setattr__"=some (some (.builtin "object.__setattr__")))(hp:PySem.W.plainOver K C=true)(ht:PySem.W.takerIn K C name=some none)(hh:PySem.W.hasDictIn K C=true)
  (hw:PySem.Within mA ns)(hsz:ns.length<=sizeLine)
  (h:∀h',IP h' x dx C (λy=>if y=name then some v else mA y)->Heap.SameBut dx s.heap h'->Q () {s with heap:=h',toks:=s.toks+2}) :
  wpAny (model prog w) A (setAttr (.ref x) name v) Q E s:=by
 refine Am I.look λod J hl=>PySem.W.set_plain X J hs (PySem.W.osa_open (s:={s with toks:=s.toks+1}) (r:=none) X J hp ht λb=>Am (PySem.W.any_some hh) λcd hc a1=>?_);have hx:s.heap.get? x=some ⟨.ref C,some dx,.plain,#[]⟩:=I.obj;refine JA (JF (JA (JA (wpAny_loadPart hx (JA (PySem.W.Looks.here (s:={s with toks:=s.toks+1}) (PySem.W.looks_clsIn X hc) ?_))))));rw[a1];refine JF (a:=some dx) (JA (JF (JA (wpAny_nsSet1 (s:={s with toks:=s.toks+1}) I.ns λh' O Y=>Gz (O.count (PySem.Within.cons name v hw)) λoD a5 a4 a3 a2 a0=>?_))));refine JA (wpAny_lookBehind a3 (by rw[a2];exact pastItsLine_dict (JY a0 (by rw[JR];omega))) (JF (h _ ⟨(Y.2 _ (NI I.ne)).trans I.obj,O,I.ne⟩ Y)))
theorem Aj5 {R:Result->Shared->Prop}(X:K.In s.heap)(hm:PySem.W.makesIn K C=true)
   (hi:PySem.W.findIn K (.ref C) "__init__"=some (some (.ref f)))(hf:PySem.W.typeIn K (.ref f)=some (.type "function"))
   (h:codeAny (model prog w) (A.under (.builtin "type.__call__" ⟨.ref C::vs,kw⟩)) (.call (.ref f) ⟨.ref (s.heap.objs.size+1)::vs,kw⟩) (PySem.W.InitBack (s.heap.objs.size+1) R)
     {s with heap:=(s.heap.push PySem.W.emptyDict).push (PySem.W.instObj C s.heap.objs.size)}) :
   codeAny (model prog w) A (.call (.ref C) ⟨vs,kw⟩) R s:=by
 obtain⟨I,g,d,t,os⟩:=s;exact PySem.W.make_core (PySem.W.makes_of X hm) (PySem.W.looks_findIn X hi) (λself=>PySem.W.bind_fn X self hf) (.inl rfl) h
end
noncomputable def G5 (f:Str)(v:V):List (Str×V)->List (Str×V)
 | []=>[(f,v)]
 | (g,x)::r=>if g=f then(g,v)::r else(g,x)::G5 f v r
theorem Cq (f g:Str)(v:V):∀fs:List (Str×V),(G5 f v fs).lookup g=if g=f then some v else fs.lookup g
 | []=>by
  show List.lookup g [(f,v)]=_
  by_cases h:g=f
  .have hb:(g==f)=true:=PK.mpr h;simp only[List.lookup,hb,JN h]
  .have hb:(g==f)=false:=beq_eq_false_iff_ne.mpr h;simp only[List.lookup,hb,JP h]
 | (k,x)::r=>by
  have I:=Cq f g v r;rw[show G5 f v ((k,x)::r)=(if k=f then(k,v)::r else(k,x)::G5 f v r)from rfl];by_cases hk:k=f
  .rw [JN hk];by_cases h:g=k
   .have hb:(g==k)=true:=PK.mpr h;simp only[List.lookup,hb,JN (h.trans hk)]
   .have hb:(g==k)=false:=beq_eq_false_iff_ne.mpr h;simp only[List.lookup,hb,JP (λe:g=f=>h (e.trans hk.symm))]
  .rw [JP hk];by_cases h:g=k
   .have hb:(g==k)=true:=PK.mpr h;simp only[List.lookup,hb,JP (λe:g=f=>hk (h.symm.trans e))]
   .have hb:(g==k)=false:=beq_eq_false_iff_ne.mpr h;simp only[List.lookup,hb];exact I
theorem Nf (f:Str)(v:V):∀fs:List (Str×V),f∈(G5 f v fs).map (·.1)/\∀g,g∈fs.map (·.1)->g∈(G5 f v fs).map (·.1)
 | []=>⟨by simp[G5],λg h=>by simp at h⟩
 | (k,x)::r=>by
  obtain⟨i1,i2⟩:=Nf f v r;rw[show G5 f v ((k,x)::r)=(if k=f then(k,v)::r else(k,x)::G5 f v r)from rfl];by_cases hk:k=f
  .rw [JN hk];subst hk;exact⟨by simp,λg h=>by simpa using h⟩
  .rw [JP hk];refine⟨?_,λg h=>?_⟩
   .rw [JX];exact JE _ i1
   .rw [JX]at h ⊢
    rcases JC.mp h with e|e
    .exact JC.mpr (.inl e)
    .exact JE _ (i2 g e)
theorem Nx (f:Str)(v:V):∀fs:List (Str×V),(G5 f v fs).length<=fs.length+1
 | []=>by simp[G5]
 | (k,x)::r=>by
  have I:=Nx f v r;rw[show G5 f v ((k,x)::r)=(if k=f then(k,v)::r else(k,x)::G5 f v r)from rfl];by_cases hk:k=f
  .rw [JN hk,JR,JR];omega
  .rw [JP hk,JR,JR];omega
theorem EB.some_of (r:EB (some v) o):∃u,o=some u/\RelV v u:=by
 cases o with
 | none=>exact(show False from r).elim
 | some u=>exact Ar u rfl r
theorem Ab4 (r:RelV v u):PySem.W.handedIn u=true:=by
 cases v with
 | BO=>cases(show u=Value.none from r);rfl
 | bl b=>cases(show u=Value.bool b from r);rfl
 | int i=>obtain⟨t,e⟩:=(show ∃t,u=Value.int i t from r);cases e;rfl
 | str x=>obtain⟨t,e⟩:=(show ∃t,u=Value.str x t from r);cases e;rfl
 | byt b=>obtain⟨t,e⟩:=(show ∃t,u=Value.bytes b t from r);cases e;rfl
 | flt b=>obtain⟨t,e⟩:=(show ∃t,u=Value.float b t from r);cases e;rfl
 | ref a=>cases(show u=Value.ref a from r);rfl
 | ty n=>cases(show u=Value.type n from r);rfl
section
theorem Uq (AR:CL P w H h)(e:H a=some (.ins C dx fs)):∃mA,IP h a dx C mA/\(∀f,EB (fs.lookup f) (mA f))/\PySem.Within mA (fs.map (·.1))/\fs.length<=1000/\H dx=some (.own a):=by
 refine Ii ((show AX P w H h a (.ins C dx fs)from AR a _ e)) λd z ne ob I=>?_;refine Bk I λmA n r q=>Ou mA ⟨ob,n,ne⟩ r q z d
end
structure Cls (K:PySem.W.Frag)(C:Addr):Prop where
 pg:PySem.W.plainGet K C Str.empty=true
 hd:PySem.W.hasDictIn K C=true
 po:PySem.W.plainOver K C=true
 sa:PySem.W.findIn K (.ref C) "__setattr__"=some (some (.builtin "object.__setattr__"))
theorem Cls.get {K:PySem.W.Frag}{C:Addr}(c:Cls K C)(f:Str):PySem.W.plainGet K C f=true:=c.pg
def BL (K:PySem.W.Frag)(C:Addr)(f:Str):Prop:=PySem.W.findIn K (.ref C) f=some none
theorem BL.taker {K:PySem.W.Frag}{C:Addr}{f:Str}(n:BL K C f):PySem.W.takerIn K C f=some none:=by
 unfold PySem.W.takerIn;rw[show PySem.W.findIn K (.ref C) f=some none from n];rfl
section
variable {E:Value->Shared->Prop}
theorem X9 {Q:Value->Shared->Prop}(I:Inv X pins σ H s)(e:H a=some (.ins C dx fs))(c:Cls X.K C)(n:BL X.K C f)(l:fs.lookup f=some v)
  (h:∀u s',Inv X pins σ H s'->RelV v u->Q u s'):wpAny (model X.prog X.w) A (getAttr (.ref a) f b) Q E s:=by
 refine Ow (Uq I.AR e) λmA O r _ _ _=>?_;refine Am (EB.some_of (v:=v) (o:=mA f) (by rw[← l];exact r f)) λu hu Y=>get_map I.DR O (c.get f) c.hd n hu (Ab4 Y) (h u _ (I.tok _) Y)
theorem Xa {Q:Unit->Shared->Prop}(I:Inv X pins σ H s)(e:H a=some (.ins C dx fs))(c:Cls X.K C)(n:BL X.K C f)(hl:fs.length<1000)(ry:RelV y u)
  (h:∀s',Inv X pins σ (upd H a (.ins C dx (G5 f y fs))) s'->Q () s'):wpAny (model X.prog X.w) A (setAttr (.ref a) f u) Q E s:=by
 refine Ow (Uq I.AR e) λmA O r wi _ ho=>?_;have hz:(fs.map (·.1)).length<=sizeLine:=by rw[JB,KU];omega
 refine Ao2 I.DR O c.sa c.po n.taker c.hd wi hz λh' Y sb=>h _ ?_;have hd:∃o,h'.get? dx=some o:=let ⟨o,_,_,e',_⟩:=Y.ns;⟨o,e'⟩
 refine I.write (x:=a) (e:=dx) (by rw[e];exact True.intro) (.inr ho) (λb q hb z=>(sb.2 b hb).trans z) hd ?_;refine Du (by rw[Ak O.ne];exact ho) ?_ O.ne Y.obj (B0 Y.ns (λg=>?_) λg hg=>?_)
 .have:=Nx f y fs;omega
 .show EB ((G5 f y fs).lookup g) (if g=f then some u else mA g)
  rw[Cq];by_cases q:g=f
  .rw [JN q,JN q];exact ry
  .rw [JP q,JP q];exact r g
 .by_cases q:g=f
  .rw [q];exact(Nf f y fs).1
  .refine (Nf f y fs).2 g (wi g λz=>hg ?_)
   show(if g=f then some u else mA g)=none
   rw[JP q];exact z
theorem Inv.made (I:Inv X pins σ H s):Inv X pins σ (upd (upd H s.heap.objs.size (.own (s.heap.objs.size+1))) (s.heap.objs.size+1) (.ins C s.heap.objs.size []))
  {s with heap:=(s.heap.push PySem.W.emptyDict).push (PySem.W.instObj C s.heap.objs.size)}:=by
 have e1:(s.heap.push PySem.W.emptyDict).get? s.heap.objs.size=some PySem.W.emptyDict:=JS s.heap rfl;have Y:((s.heap.push PySem.W.emptyDict).push (PySem.W.instObj C s.heap.objs.size)).get? (s.heap.objs.size+1)=some (PySem.W.instObj C s.heap.objs.size):=by
  have:=JS (s.heap.push PySem.W.emptyDict) (o:=PySem.W.instObj C s.heap.objs.size) rfl
  rwa [ME]at this
 have e3:(s.heap.push PySem.W.emptyDict).Ns s.heap.objs.size (λ_=>none):=(Ek PySem.W.emptyDict (#[]) _ e1 rfl (λe he=>absurd he (by simp)) λ_=>rfl);have O:=I.laid (a:=s.heap.objs.size) (o:=.own (s.heap.objs.size+1)) (h':=s.heap.push PySem.W.emptyDict) (t':=s.toks) (λb u q=>JD _ q) (JG _) ⟨_,e1⟩;refine O.laid (a:=s.heap.objs.size+1) (o:=.ins C s.heap.objs.size []) (t':=s.toks) (λb u q=>JD _ q) (OI (ME _ _)) ?_;have ne:s.heap.objs.size≠s.heap.objs.size+1:=KC (Nat.lt_succ_self _);refine Du (by rw[Ak ne,Aj]) (KY _) ne Y (B4 (λ_=>none) ((Heap.Ns1.of_empty e3).at λo q=>JD _ q) (λ_=>True.intro) λy hy=>absurd rfl hy)
theorem attr_of {Q:Value->Shared->Prop}(hb:attributeBase e f env (eval e env)=eval e env)
  (h:wpAny (model prog w) A (eval e env) (λo I=>wpAny (model prog w) A (getAttr o f true) Q E I) E s):wpAny (model prog w) A (eval (.Attribute e f pos) env) Q E s:=
 Attribute_any_ h (by rw[arm_eval_Attribute,hb])
end
def tFld (K:PySem.W.Frag)(ta:TE)(f:Str):TE:=λσ H Q=>ta σ H λx H1=>∃a C dx fs v,x=.ref a/\H1 a=some (.ins C dx fs)/\Cls K C/\BL K C f/\fs.lookup f=some v/\Q v H1
def sFld (K:PySem.W.Frag)(ta I:TE)(f:Str):TS:=λD σ H=>I σ H λy H1=>ta σ H1 λx H2=>∃a C dx fs,x=.ref a/\H2 a=some (.ins C dx fs)/\Cls K C/\BL K C f/\fs.length<1000 /\
 D.nx σ (upd H2 a (.ins C dx (G5 f y fs)))
section
theorem pe_fld (he:PE X e ta)(hb:attributeBase e f X.env (eval e X.env)=eval e X.env):PE X (.Attribute e f pos) (tFld X.K ta f):=by
 intro pins s σ H Q I h;refine attr_of hb (AV (he pins s σ H _ I h) λu s1 ⟨x,H1,O,rx,a,C,dx,fs,v,ex,ea,c,n,l,q⟩=>?_);subst ex;obtain rfl:u=Value.ref a:=rx;exact X9 O ea c n l λu' s2 Y ru=>(Ao v H1 Y ru q)
theorem ps_fld (ha:PE X o ta)(hv:PE X O tv)(hs:swapsWith O (some (.Attribute o f a0)) pos.line X.env=pure false):PS X (.Assign [.Attribute o f a0] O pos) (sFld X.K ta tv f):=by
 intro pins s σ H D I h;refine plainObj_wpAny_Assign_Attribute (AV (hv pins s σ H _ I h) λu s1 ⟨y,H1,Y,ry,q⟩=>AV (ha pins s1 σ H1 _ Y q) λov s2 ⟨x,H2,I2,rx,a,C,dx,fs,ex,ea,c,n,l,q2⟩=>?_) hs;subst ex;obtain rfl:ov=Value.ref a:=rx;exact Xa I2 ea c n l ry λs3 I3=>(Ck σ _ I3 q2)
end
section
variable {E:Value->Shared->Prop}{Q:Value->Shared->Prop}
inductive FC (K:PySem.W.Frag)(H:Hp):V->Value->Prop where
 | BO:FC K H .BO (.type "NoneType")
 | bl (x:Bool):FC K H (.bl x) (.type "bool")
 | int (i:Int):FC K H (.int i) (.type "int")
 | str (x:Str):FC K H (.str x) (.type "str")
 | flt (x:UInt64):FC K H (.flt x) (.type "float")
 | lst {a:Addr} {xs:List V} (e:H a=some (.lst xs)):FC K H (.ref a) (.type "list")
 | DZ {a:Addr} {o:Obj} {xs:List V} (e:H a=some (.DZ o (.lst xs))):FC K H (.ref a) (.type "list")
 | tup {a:Addr} {xs:List V} (e:H a=some (.tup xs)):FC K H (.ref a) (.type "tuple")
 | dK {a:Addr} {kvs:List (Key×V)} (e:H a=some (.dK kvs)):FC K H (.ref a) (.type "dict")
 | dT {a:Addr} {kvs:List (List Key×V)} (e:H a=some (.dT kvs)):FC K H (.ref a) (.type "dict")
 | ins {a C dx:Addr} {fs:List (Str×V)} (e:H a=some (.ins C dx fs)) (cl:Cls K C) (ha:PySem.W.findIn K (.ref C) "__class__"=some (some (.builtin "object.__class__")))
   (hn:PySem.W.specialIn K (.builtin "object.__class__") "__get__"=some (some (.builtin "getset_descriptor.__get__")))(htk:PySem.W.takesIn K (.builtin "object.__class__")=some true)
   (hm:PySem.W.mroIn K C (.type "object")=some true):FC K H (.ref a) (.ref C)
theorem Ab1 (I:Inv X pins σ H s)(O:RelV x u)(ty:FC X.K H x t)(e:PySem.W.kitOne X.K t c=some b)(h:∀tk,Q (.bool b) {s with toks:=tk}) :
  wpAny (model X.prog X.w) A (call (.builtin "isinstance") [u,c]) Q E s:=by
 cases ty with
 | BO=>cases(show u=Value.none from O);exact LX PySem.W.kitx_none I.DR True.intro e (λz=>nomatch z) h
 | bl y=>cases(show u=Value.bool y from O);exact LX PySem.W.kitx_bool I.DR True.intro e (λz=>nomatch z) h
 | int i=>obtain⟨t,q⟩:=(show ∃t,u=Value.int i t from O);cases q;exact LX PySem.W.kitx_int I.DR True.intro e (λz=>nomatch z) h
 | str y=>obtain⟨t,q⟩:=(show ∃t,u=Value.str y t from O);cases q;exact LX PySem.W.kitx_str I.DR True.intro e (λz=>nomatch z) h
 | flt y=>obtain⟨t,q⟩:=(show ∃t,u=Value.float y t from O);cases q;exact LX PySem.W.kitx_float I.DR True.intro e (λz=>nomatch z) h
 | @lst a xs ea=>
  cases(show u=Value.ref a from O);refine Fg ((show AX X.prog X.w H s.heap a (.lst xs)from I.AR a _ ea)) λ_ Y=>?_;refine Co Y λ_ n _ h1=>LX PySem.W.kitx_list I.DR (Ae h1 rfl) e (λz=>nomatch z) h
 | @DZ a ob xs ea=>
  cases(show u=Value.ref a from O);refine Bu ((show AX X.prog X.w H s.heap a (.DZ ob (.lst xs))from I.AR a _ ea)) λ_ _ Y=>?_;refine Co Y λ_ n _ h1=>LX PySem.W.kitx_list I.DR (Ae h1 rfl) e (λz=>nomatch z) h
 | @tup a xs ea=>
  cases(show u=Value.ref a from O);refine Fg ((show AX X.prog X.w H s.heap a (.tup xs)from I.AR a _ ea)) λ_ Y=>?_;refine Am Y λ_ _ p=>Bk p λo h1 h2 _=>LX PySem.W.kitx_tuple I.DR (Ar o h1 h2) e (λz=>nomatch z) h
 | @dK a kvs ea=>
  cases(show u=Value.ref a from O);refine Bu ((show AX X.prog X.w H s.heap a (.dK kvs)from I.AR a _ ea)) λ_ _ Y=>?_;refine Am Y λvs _ p=>Gz p λo es ep h1 h2 _=>LX PySem.W.kitx_dict I.DR (Ar o h1 h2.1) e (λz=>nomatch z) h
 | @dT a kvs ea=>
  cases(show u=Value.ref a from O);refine Bu ((show AX X.prog X.w H s.heap a (.dT kvs)from I.AR a _ ea)) λ_ _ Y=>?_;refine Am Y λxs _ z2=>?_;refine Gz z2 λo es ep h1 h2 _=>LX PySem.W.kitx_dict I.DR (Ar o h1 h2.1) e (λz=>nomatch z) h
 | @ins a C dx fs ea cl ha hn htk hm=>
  cases(show u=Value.ref a from O);refine Am (Uq I.AR ea) λmA a0 _=>Am a0.look λod J _=>LX (PySem.W.kitx_own (cl.get _) cl.hd ha hn htk hm) I.DR J e (λz=>nomatch z) h
end
structure BB (k:Nat)(A:Around):Prop where
 hd:A.handled=none
 dp:A.depth+3*k+5<recursionLimit
 un:A.units+16*k+200<cLine
theorem BB.mono (r:BB k A)(h:j<=k):BB j A:=⟨r.hd,by have:=r.dp;omega,by have:=r.un;omega⟩
theorem BB.deeper (r:BB (k+1) A)(env:Env):BB k (A.deeper env):=
 ⟨r.hd,by have:=r.dp;show A.depth+1+3*k+5<_;omega,by have:=r.un;show A.units+3+16*k+200<_;omega⟩
theorem Xv {A:Around}{C:Addr}{us:List Value}{kw:List (Str×Value)}:(A.under (.builtin "type.__call__" ⟨.ref C::us,kw⟩)).depth=A.depth+1:=by
 first|rfl|simp[Around.under,Code.weight,Code.isCreation,Code.isGuard,Code.isCaller,Code.frames,Code.isFrame,guardIds]
theorem Xu {A:Around}{C:Addr}{us:List Value}{kw:List (Str×Value)}:(A.under (.builtin "type.__call__" ⟨.ref C::us,kw⟩)).units=A.units+1:=by
 first|rfl|simp[Around.under,Code.cUnits,Code.frames,Code.isFrame]
theorem BB.make (r:BB (k+1) A)(C:Addr)(us:List Value)(kw:List (Str×Value)):BB k (A.under (.builtin "type.__call__" ⟨.ref C::us,kw⟩)):=
 ⟨r.hd,by have:=r.dp;rw[Xv];omega,by have:=r.un;rw[Xu];omega⟩
theorem BB.depth (r:BB k A):A.depth<recursionLimit:=by have:=r.dp;omega
theorem BB.units (r:BB k A):A.units+64<cLine:=by have:=r.un;omega
def Q5:TA:=λ_ H Q=>Q [] H
def F6 (ta:TE)(tr:TA):TA:=λσ H Q=>ta σ H λx H1=>tr σ H1 λxs H2=>Q (x::xs) H2
section
theorem pa_nil:PA X [] Q5:=λ_ _ _ _ H Q I h=>Calls.spliced_nil (Ao [] H I .nil h)
theorem pa_cons (ha:PE X e te)(hr:PA X es t)(hs:starEach (e::es) X.env=(false,eval e X.env)::starEach es X.env:=by rfl):PA X (e::es) (F6 te t):=by
 intro pos pins s σ H Q I h;rw[hs]
 show wpAny _ _ (spliced ((false,eval e X.env)::backTo pos (starEach es X.env))) _ _ s
 refine OX (AV (ha pins s σ H _ I h) λu s1 ⟨x,H1,O,r1,q1⟩=>AV (hr pos pins s1 σ H1 _ O q1) λus s2 ⟨xs,H2,Y,r2,q2⟩=>(Ao (x::xs) H2 Y (.cons r1 r2) q2))
def An5 (t:TA):TE:=λσ H Q=>t σ H λxs H1=>xs.length<=sizeLine/\∀p,H1 p=none->Q (.ref p) (upd H1 p (.tup xs))
def Ad7 (t:TA):TE:=λσ H Q=>t σ H λxs H1=>xs.length<=sizeLine/\∀p,H1 p=none->Q (.ref p) (upd H1 p (.lst xs))
theorem pe_tup {x1}(h:PA X es t):PE X (.Tuple es x1 pos) (An5 t):=by
 intro pins s σ H Q I Y;refine wpAny_Tuple_spliced (AV (h pos pins s σ H _ I Y) λus s1 ⟨xs,H1,O,r,z,q⟩=>⟨by rw[← r.length];exact z,?_⟩);have hf:H1 s1.heap.objs.size=none:=O.AR.fresh (JG _);refine Ao (.ref s1.heap.objs.size) (upd H1 s1.heap.objs.size (.tup xs)) (O.laid (t':=s1.toks) (λb u e=>JD _ e) (JG _) ?_) rfl (q _ hf);exact⟨z,(Ar us r (B0 (JS _ rfl) rfl ⟨_,rfl⟩))⟩
theorem pe_lst (h:PA X es t):PE X (.List es pos) (Ad7 t):=by
 intro pins s σ H Q I Y;refine wpAny_List_spliced (AV (h pos pins s σ H _ I Y) λus s1 ⟨xs,H1,O,r,z,q⟩=>⟨by rw[← r.length];exact z,?_⟩);have hf:H1 s1.heap.objs.size=none:=O.AR.fresh (JG _);refine Ao (.ref s1.heap.objs.size) (upd H1 s1.heap.objs.size (.lst xs)) (O.laid (t':=s1.toks) (λb u e=>JD _ e) (JG _) ?_) rfl (q _ hf);exact⟨z,(Ck us 0 r (JS _ rfl))⟩
end
abbrev Sp:=List V->Hp->VK->XK->Prop
abbrev IV:=List Env->Hp->Shared->XK->Value->Shared->Prop
structure HA (P:Program)(w:World)(K:PySem.W.Frag)(mg:Str->Option Value)(base:Heap)(A:Around)(outer:List Env)(s:Shared)(H:Hp):Prop where
 frames:A.frames=some outer
 mod:Mod K mg base
 bs:∀b o,base.get? b=some o->s.heap.get? b=some o/\H b=none
 IS:base.objs.size<=s.heap.objs.size
 AC:s.heap.FunFrames base outer
 frf:∀b∈EC outer,H b=none
 AR:CL P w H s.heap
 bare:AllBare s.gens
def CE (outer:List Env)(P:Program)(w:World)(H:Hp)(s:Shared)(Q:VK)(u:Value)(s':Shared):Prop:=
 ∃v H',s'.os=s.os/\AllBare s'.gens/\Un (EC outer) [] H H' s.heap s'.heap/\CL P w H' s'.heap/\RelV v u/\Q v H'
def CR (CX:IV)(outer:List Env)(P:Program)(w:World)(H:Hp)(s:Shared)(Q:VK)(E:XK)(r:Result)(s':Shared):Prop:=
 match r with
 | .ok (.ret u)=>CE outer P w H s Q u s'
 | .ok _=>False
 | .error e=>CX outer H s E e s'
structure AI (P:Program)(w:World)(K:PySem.W.Frag)(mg:Str->Option Value)(base:Heap)(CX:IV)(k:Nat)(f:Addr)(fd:FuncData)(ps:List Str)(sp:Sp):Prop where
 len:∀vs H Q E,sp vs H Q E->vs.length=ps.length
 run:∀(A:Around) (outer:List Env) (s:Shared) (H:Hp) (args:Args) (us:List Value) (vs:List V) (Q:VK) (E:XK),BB k A->HA P w K mg base A outer s H->BindsTo s fd args (ps.zip us)->AG vs us->sp vs H Q E ->
  codeAny (model P w) A (.call (.ref f) args) (CR CX outer P w H s Q E) s
theorem AI.mono {P:Program}{w:World}{K:PySem.W.Frag}{mg:Str->Option Value}{base:Heap}{CX:IV}{j k:Nat}{f:Addr}{fd:FuncData}{ps:List Str}{sp:Sp}(F:AI P w K mg base CX j f fd ps sp)(h:j<=k) :
  AI P w K mg base CX k f fd ps sp:=⟨F.len,λA outer s H args us vs Q E hr=>F.run A outer s H args us vs Q E (hr.mono h)⟩
theorem HA.make {P:Program}{w:World}{K:PySem.W.Frag}{mg:Str->Option Value}{base:Heap}{A:Around}{outer:List Env}{s:Shared}{H:Hp}(e:HA P w K mg base A outer s H)(C:Addr)(us:List Value)(kw:List (Str×Value)) :
  HA P w K mg base (A.under (.builtin "type.__call__" ⟨.ref C::us,kw⟩)) outer s H:=⟨by first|exact e.frames|(simpa [Around.under,Code.envs,Code.isFrame,pushEnvs]using e.frames),e.mod,e.bs,e.IS,e.AC,e.frf,e.AR,e.bare⟩
section
theorem Inv.env0 (I:Inv X pins σ H s):HA X.prog X.w X.K X.mg X.base X.A X.stack s H:=
 ⟨I.ok.frames,I.ok.mod,I.bs,JY I.ok.IS I.sz,I.stack,I.FP,I.AR,I.bare⟩
theorem Inv.after (I:Inv X pins σ H s)(h:CE X.stack X.prog X.w H s Q u s'):EP X pins σ Q u s':=by
 refine Mg h λv H' os bare un AR r q=>?_;obtain⟨O,g,d,t,Y⟩:=s';obtain rfl:Y=s.os:=os;exact Ao v H' (I.call (h':=O) (g':=g) (d':=d) (t':=t) (ch:=[]) un AR bare (λb z=>absurd z (by simp))) r q
end
def Jt (sp:Sp)(dvs:List V)(E:XK)(t:TA):TE:=λσ H Q=>t σ H λvs H1=>sp (vs++dvs) H1 Q E
def tMake (C:Addr)(sp:Sp)(dvs:List V)(E:XK)(t:TA):TE:=λσ H Q=>t σ H λvs H1=>∀x dx,H1 x=none->H1 dx=none->dx≠x ->
 sp (.ref x::(vs++dvs)) (upd (upd H1 dx (.own x)) x (.ins C dx [])) (λv H2=>v=.BO/\Q (.ref x) H2) E
def Binds (K:PySem.W.Frag)(fd:FuncData)(ps:List Str)(ds:List Value):Prop:=
 ∀(s:Shared) (us:List Value),K.In s.heap->(us++ds).length=ps.length->BindsTo s fd ⟨us,[]⟩ (ps.zip (us++ds))
theorem Binds.all {K:PySem.W.Frag}(h:∀us:List Value,us.length=ps.length->bindArgs fd ⟨us,[]⟩=pure (ps.zip us)):Binds K fd ps []:=λs us _ hl=>by
 rw[NB]at hl ⊢;exact .of_eq (h us hl)
def Fx (CX:IV)(X:Cx)(E:XK):Prop:=∀(pins:List (Addr×Obj)) (σ:St) (H:Hp) (s:Shared) (e:Value) (s':Shared),Inv X pins σ H s->CX X.stack H s E e s'->X.xe e s'
section
theorem Xe (F:AI X.prog X.w X.K X.mg X.base CX k f fd ps sp)(hr:BB k X.A)(hb:Binds X.K fd ps ds)(hd:AG dvs ds)(hx:Fx CX X E)
  (I:Inv X pins σ H s)(r:AG vs us)(h:sp (vs++dvs) H Q E):wpAny (model X.prog X.w) X.A (call (.ref f) us) (EP X pins σ Q) X.xe s:=by
 have Y:AG (vs++dvs) (us++ds):=r.append hd;have hl:(us++ds).length=ps.length:=by rw[← Y.length];exact F.len _ _ _ _ h
 refine wpAny_call (NJ (F.run X.A X.stack s H ⟨us,[]⟩ (us++ds) (vs++dvs) Q E hr I.env0 (hb s us I.DR hl) Y h) λr s' O=>?_)
 cases r with
 | error e=>exact hx pins σ H s e s' I O
 | ok fl=>
  cases fl with
  | ret u=>exact I.after O
  | next=>exact False.elim O
  | brk=>exact False.elim O
  | cont=>exact False.elim O
theorem Yx (F:AI X.prog X.w X.K X.mg X.base CX k f fd ps sp)(hr:BB k X.A)(hg:Gl X x)(hm:X.mg x=some (.ref f))(hk:PySem.W.keepIn X.K (.ref f)=true)(hb:Binds X.K fd ps ds)(hd:AG dvs ds)(hx:Fx CX X E)
  (ha:PA X (e::es) t)(Y:(x==("__debug__":Str))=false:=by decide)(he:starEach (e::es) X.env=(false,eval e X.env)::starEach es X.env:=by rfl)(a0:(backTo pos (starEach es X.env)).any (·.1)=false:=by rfl) :
  PE X (.Call (.Name x p) (e::es) [] pos) (Jt sp dvs E t):=by
 intro pins s σ H Q I h;refine MM (Fz I hg hm (NV (h₀:=X.base) I.ok.mod.kin hk (AV (ha pos pins s σ H _ I h) λus s1 ⟨vs,H1,O,r,q⟩=>⟨O.DR,Xe F hr hb hd hx O r q⟩) he a0) Y)
theorem Ai4 (F:AI X.prog X.w X.K X.mg X.base CX k f fd ps sp)(hr:BB k X.A)(hg:Gl X x)(hm:X.mg x=some (.ref f))(hk:PySem.W.keepIn X.K (.ref f)=true)(hb:Binds X.K fd ps ds)(hd:AG dvs ds)(hx:Fx CX X E)
  (O:(x==("__debug__":Str))=false:=by decide):PE X (.Call (.Name x p) [] [] pos) (Jt sp dvs E Q5):=by
 intro pins s σ H Q I h;refine MM (Fz I hg hm (PySem.W.callWith_K0 I.DR hk (Xe (us:=[]) F hr hb hd hx I .nil h)) O)
structure Mk (K:PySem.W.Frag)(C f:Addr):Prop where
 makes:PySem.W.makesIn K C=true
 init:PySem.W.findIn K (.ref C) "__init__"=some (some (.ref f))
 fn:PySem.W.isFn K (.ref f)=true
 kp:PySem.W.keepIn K (.ref C)=true
theorem Ae9 (M:Mk X.K C f)(F:AI X.prog X.w X.K X.mg X.base CX k f fd ps sp)(hr:BB (k+1) X.A)(hb:Binds X.K fd ps ds)(hd:AG dvs ds)
  (hx:Fx CX X E)(I:Inv X pins σ H s)(r:AG vs us)
  (h:∀x dx,H x=none->H dx=none->dx≠x->sp (.ref x::(vs++dvs)) (upd (upd H dx (.own x)) x (.ins C dx [])) (λv H2=>v=.BO/\Q (.ref x) H2) E) :
  wpAny (model X.prog X.w) X.A (call (.ref C) us) (EP X pins σ Q) X.xe s:=by
 have hq:=h (s.heap.objs.size+1) s.heap.objs.size (I.AR.fresh (OZ _)) (I.AR.fresh (JG _)) (KC (Nat.lt_succ_self _));have Y:=Inv.made (C:=C) I;have r2:AG (V.ref (s.heap.objs.size+1)::(vs++dvs)) (Value.ref (s.heap.objs.size+1)::(us++ds)):=.cons rfl (r.append hd);have hl:(Value.ref (s.heap.objs.size+1)::us++ds).length=ps.length:=by
  have e:=r2.length;rw[F.len _ _ _ _ hq]at e;exact e.symm
 refine wpAny_call (Aj5 (f:=f) I.DR M.makes M.init (PK.mp M.fn) (NJ (F.run _ X.stack _ _ ⟨Value.ref (s.heap.objs.size+1)::us,[]⟩ (Value.ref (s.heap.objs.size+1)::(us++ds)) _ _ E (hr.make C us [])
  (Y.env0.make C us []) (hb _ (Value.ref (s.heap.objs.size+1)::us) Y.DR hl) r2 hq) λr s' O=>?_))
 cases r with
 | error e=>exact hx pins σ _ _ e s' Y O
 | ok fl=>
  cases fl with
  | ret u=>
   refine Gh (Y.after O) λv H' I3 rv ev q3=>?_;subst ev;exact⟨rv,(Ao (V.ref (s.heap.objs.size+1)) H' I3 rfl q3)⟩
  | next=>exact False.elim O
  | brk=>exact False.elim O
  | cont=>exact False.elim O
theorem pe_make (M:Mk X.K C f)(F:AI X.prog X.w X.K X.mg X.base CX k f fd ps sp)(hr:BB (k+1) X.A)(hg:Gl X x)(hm:X.mg x=some (.ref C))(hb:Binds X.K fd ps ds)(hd:AG dvs ds)(hx:Fx CX X E)
  (ha:PA X (e::es) t)(Y:(x==("__debug__":Str))=false:=by decide)(he:starEach (e::es) X.env=(false,eval e X.env)::starEach es X.env:=by rfl)(a0:(backTo pos (starEach es X.env)).any (·.1)=false:=by rfl) :
  PE X (.Call (.Name x p) (e::es) [] pos) (tMake C sp dvs E t):=by
 intro pins s σ H Q I h;refine MM (Fz I hg hm (NV (h₀:=X.base) I.ok.mod.kin M.kp (AV (ha pos pins s σ H _ I h) λus s1 ⟨vs,H1,O,r,q⟩=>⟨O.DR,Ae9 M F hr hb hd hx O r q⟩) he a0) Y)
end
section
end
structure AD (N P:List Str)(sc:Scope):Prop where
 kind:sc.kind=.function
 co:sc.isCoroutine=false
 gen:sc.isGenerator=false
 nd:N.Nodup
 pre:N.take P.length=P
 par:∀x∈P,sc.names.lookup x=some .local\/sc.names.lookup x=some .cell
 HU:∀y∈sc.names,y.2≠.free
theorem Sg {kindOf:Str->Option NameKind}:∀{binds:List (Str×Value)} {m:Str->Option Value},(∀v,(x,v)∉binds)->bindL kindOf binds m x=m x
 | [],_,_=>rfl
 | (n,v)::r,m,h=>by
  unfold bindL;rw[Sg λw hw=>h w (JE _ hw)];split
  .have:x≠n:=by rintro rfl;exact h v JJ
   simp[this]
  .rfl
theorem Sj {kindOf:Str->Option NameKind}:∀{binds:List (Str×Value)} {m:Str->Option Value},(∀v,(x,v)∉binds)->bindC kindOf binds m x=m x
 | [],_,_=>rfl
 | (n,v)::r,m,h=>by
  unfold bindC;rw[Sj λw hw=>h w (JE _ hw)];split
  .rfl
  .have:x≠n:=by rintro rfl;exact h v JJ
   simp[this]
theorem Sh {kindOf:Str->Option NameKind}{x:Str}{v:Value}:∀{P:List Str} {vs:List Value} {i:Nat} {m:Str->Option Value},P.Nodup->P[i]?=some x->vs[i]?=some v->kindOf x=some .local ->
  bindL kindOf (P.zip vs) m x=some v
 | [],_,_,_,_,h,_,_=>by simp at h
 | _::_,[],_,_,_,_,h,_=>by simp at h
 | p::P,w::vs,0,m,nd,h1,h2,hk=>by
  simp at h1 h2;subst h1 h2
  show bindL kindOf ((p,w)::P.zip vs) m p=_
  unfold bindL;rw[Sg λv I=>(ML.mp nd).1 (List.of_mem_zip I).1,JN hk];simp
 | p::P,w::vs,i+1,m,nd,h1,h2,hk=>by
  show bindL kindOf ((p,w)::P.zip vs) m x=_
  unfold bindL;exact Sh (i:=i) (ML.mp nd).2 (by simpa using h1) (by simpa using h2) hk
theorem Sl {kindOf:Str->Option NameKind}{x:Str}{v:Value}:∀{P:List Str} {vs:List Value} {i:Nat} {m:Str->Option Value},P.Nodup->P[i]?=some x->vs[i]?=some v->kindOf x≠some .local ->
  bindC kindOf (P.zip vs) m x=some v
 | [],_,_,_,_,h,_,_=>by simp at h
 | _::_,[],_,_,_,_,h,_=>by simp at h
 | p::P,w::vs,0,m,nd,h1,h2,hk=>by
  simp at h1 h2;subst h1 h2
  show bindC kindOf ((p,w)::P.zip vs) m p=_
  unfold bindC;rw[Sj λv I=>(ML.mp nd).1 (List.of_mem_zip I).1,JP hk];simp
 | p::P,w::vs,i+1,m,nd,h1,h2,hk=>by
  show bindC kindOf ((p,w)::P.zip vs) m x=_
  unfold bindC;exact Sl (i:=i) (ML.mp nd).2 (by simpa using h1) (by simpa using h2) hk
noncomputable def start (N:List Str)(vs:List V):St:=vs.map some++List.replicate (N.length-vs.length) none
noncomputable def Nl (CX:IV)(P:Program)(w:World)(K:PySem.W.Frag)(mg:Str->Option Value)(base:Heap)(N:List Str)(qual:Str)(scope:Scope)(f:Addr)(I:Value)(A:Around)(outer:List Env)(s:Shared)(H:Hp)(E:XK):Cx where
 prog:=P
 w:=w
 K:=K
 mg:=mg
 base:=base
 A:=A.deeper (envOfC qual scope s.heap.objs.size f I)
 N:=N
 s₀:=s
 H₀:=H
 env:=envOfC qual scope s.heap.objs.size f I
 outer:=outer
 stack:=envOfC qual scope s.heap.objs.size f I::outer
 ex:=[]
 calm:=true
 fn:=λ_=>true
 pn:=[]
 xe:=λe s'=>wpAny (model P w) (A.deeper (envOfC qual scope s.heap.objs.size f I)) (leaving (envOfC qual scope s.heap.objs.size f I) e) (λ_ O=>CX outer H s E e O) (λY O=>CX outer H s E Y O) s'
theorem Wh {sc:Scope}{n:Nat}{x:Str}(h:sc.names.lookup x=some .cell):∃c,(cellsFrom n sc.names []).lookup x=some c:=by
 have q:=PySem.W.cellsFrom_some sc.names n [] (.inl h);exact Option.isSome_iff_exists.mp q
theorem Rz {CX:IV}{P:Program}{w:World}{K:PySem.W.Frag}
  (S:AD N ps scope)(hd:A.handled=none)(I:HA P w K mg base A outer s H)(hl:vs.length=ps.length)(r:AG vs us)
  (x:InCallC s s.heap.objs.size (bindL (envOfC qual scope s.heap.objs.size f cd).kindOf (ps.zip us) λ_=>none) (cellsFrom (s.heap.objs.size+1) scope.names []) (bindC (envOfC qual scope s.heap.objs.size f cd).kindOf (ps.zip us) λ_=>none) s1) :
  Inv (Nl CX P w K mg base N qual scope f cd A outer s H E) [] (start N vs) H s1:=by
 have a2:ps.length<=N.length:=by have:=LB List.length S.pre;rw[LG]at this;omega
 refine Co x.done λh1 tk z1 hk=>?_;subst z1;have a0:∀b:Addr,b∉(Nl CX P w K mg base N qual scope f cd A outer s H E).ex:=λb z=>absurd (show b∈([]:List Addr)from z) (by simp)
 refine⟨⟨I.mod,S.kind,rfl,rfl,JG _,λy z c h1 h2=>?_,λy O=>?_,λy c _ h=>?_,λ_=>hd,Around.frames_deeper I.frames,.inr ⟨rfl,rfl⟩,λb z=>absurd z (a0 b),I.bs,I.IS,λb _ _=>a0 b,λb z=>absurd z (a0 b),I.AC,I.frf⟩,
  rfl,I.bare,Un.kept hk,(Ae x.toInCall.ns λi y v h1 h2 h3=>?_),λy c h=>⟨_,x.cell y c h⟩,I.AR.fresh (JG _),λy c h=>?_,λp Y=>absurd (show p∈([]:List (Addr×Obj))from Y) (by simp),I.AR.kept hk,?_⟩
 .exact name_of_addr x.apart (MH h1) (MH h2)
 .have O:scope.names.lookup y=some .cell\/scope.names.lookup y=some .free:=O
  rcases O with O|O
  .exact Wh O
  .exact absurd rfl (S.HU _ (MH O))
 .exact Nat.le_of_lt (x.above y c (MH h))
 .have hi:i<vs.length:=by
   unfold start at h2;by_cases hi:i<vs.length
   .exact hi
   .rw [List.getElem?_append_right (by simpa using hi)]at h2;rw[List.getElem?_replicate]at h2;split at h2<;>cases h2
  have ha:vs[i]?=some v:=by
   unfold start at h2;rw[List.getElem?_append_left (by simpa using hi),KH]at h2
   cases e:vs[i]? with
   | none=>rw[e]at h2;cases h2
   | some a=>rw[e]at h2;cases h2;rfl
  refine Am (r.get ha) λu hu rv=>?_;have Y:ps[i]?=some y:=by
   rw[← S.pre,List.getElem?_take_of_lt (by omega)];exact h1
  have a1:ps.Nodup:=by rw[← S.pre];exact S.nd.sublist (NK _ _)
  refine Ar u rv ?_
  rcases S.par y (JU Y)with k|k
  .exact .inl ⟨k,Sh a1 Y hu k⟩
  .obtain⟨c,e⟩:=Wh (n:=s.heap.objs.size+1) k;refine .inr ⟨.inl k,(Ar c e ?_)⟩;have q:=x.cell y c e;rw[Sl a1 Y hu (by show scope.names.lookup y≠_;rw[k];decide)]at q;exact q
 .exact I.AR.fresh (Nat.le_of_lt (x.above y c (MH h)))
 .unfold start
  show _=N.length
  rw[JH,JB,MA];omega
theorem fn_of {CX:IV}{P:Program}{w:World}{K:PySem.W.Frag}{mg:Str->Option Value}{base:Heap}{k:Nat}{f:Addr}{name qual:Str}{params:Arguments}{Y:List Stmt}{scope:Scope}{dV kV doc pm cdv ct oc:Value}{an od:Option Addr}
   {osl:Array (Option Value)}{N ps:List Str}{sp:Sp}(lk:K.lookup f=some ⟨oc,od,.func (PySem.W.fnOf name qual params Y scope dV kV doc pm an cdv ct),osl⟩)(a2:PySem.W.codeIn K cdv qual=true)(S:AD N ps scope)
   (len:∀vs H Q E,sp vs H Q E->vs.length=ps.length)
   (a4:∀(A:Around) (outer:List Env) (s:Shared) (H:Hp) (vs:List V) (Q:VK) (E:XK),BB k (A.deeper (envOfC qual scope s.heap.objs.size f cdv))->sp vs H Q E ->
     ∃t,IH (Nl CX P w K mg base N qual scope f cdv A outer s H E) Y t/\t {nx:=λ_ H'=>Q .BO H',rt:=Q} (start N vs) H) :
   AI P w K mg base CX (k+1) f (PySem.W.fnOf name qual params Y scope dV kV doc pm an cdv ct) ps sp:=by
 refine⟨len,λA outer s H args us vs Q E hr I hb r a0=>?_⟩;have hl:=len _ _ _ _ a0;have KX:K.In s.heap:=I.mod.kin.keeps λb o e=>(I.bs b o e).1;have a3:s.heap.NoLimit:=I.mod.nolimit.keeps λb o e=>(I.bs b o e).1;have a5:∀y∈ps.zip us,scope.names.lookup y.1=some .local\/(scope.names.lookup y.1=some .cell/\((cellsFrom (s.heap.objs.size+1) scope.names []).lookup y.1).isSome=true):=λ⟨n,v⟩ hy=>by
   rcases S.par n (List.of_mem_zip hy).1 with q|q
   . exact .inl q
   . exact .inr ⟨q,PySem.W.cellsFrom_some _ _ _ (.inl q)⟩
 refine codeAny_call_function hr.depth (KX _ _ lk) rfl S.co S.gen rfl (PySem.W.codeRec_of KX a2) (hb _ _ _ _ (wpAny_newFunctionEnv_cells S.kind a5 λenv he s1 x=>?_));subst he;refine⟨a3.keeps x.toInCall.keep,codeAny_func ?_⟩;refine Am (a4 A outer s H vs Q E (hr.deeper _) a0) λt ht hq=>?_;have a1:Inv (Nl CX P w K mg base N qual scope f cdv A outer s H E) [] (start N vs) H s1:=Rz S hr.hd I hl r x;refine MY (ht [] s1 (start N vs) H _ a1 hq) (λfl s' hs=>?_) λe s' hs=>hs;have fin:∀{σ':St} {H':Hp} {v:V} {u:Value},Inv (Nl CX P w K mg base N qual scope f cdv A outer s H E) [] σ' H' s'->RelV v u->Q v H'->CE outer P w H s Q u s':=
   fun {σ' H' v u} J O q=>(Md v H' J.os J.bare J.base J.AR O q)
 cases fl with
 | ret u=>
   refine Gz hs λv σ' H' J O q=>fin J O q
 | next=>
   refine Co hs λσ' H' J q=>fin (v:=V.BO) (u:=Value.none) J rfl q
 | brk=>
   refine Co hs λ_ _ _ q=>False.elim q
 | cont=>
   refine Co hs λ_ _ _ q=>False.elim q
section
variable {X:Cx}{x:Str}{p pos:Pos}{e:Expr}{es:List Expr}{t:TA}{id T:String}{r:List V->Hp->VK->Prop}
def tCB (r:List V->Hp->VK->Prop)(t:TA):TE:=λσ H Q=>t σ H λvs H1=>r vs H1 Q
theorem Ai3 (Y:Ex X (.builtin id) r)(hg:Gl X x)(hm:X.mg x=none)(hv:bootBuiltins x=some (.builtin id))(ha:PA X (e::es) t)(hn:x≠"__name__":=by decide)(a0:(x==("__debug__":Str))=false:=by decide)
  (he:starEach (e::es) X.env=(false,eval e X.env)::starEach es X.env:=by rfl)(a1:(backTo pos (starEach es X.env)).any (·.1)=false:=by rfl):PE X (.Call (.Name x p) (e::es) [] pos) (tCB r t):=by
 intro pins s σ H Q I h;refine MM (Li I hg hm hv (PyProof.Rows.callWith_builtin1 (AV (ha pos pins s σ H _ I h) λus s1 ⟨vs,H1,O,r1,q1⟩=>Y pins s1 σ H1 vs us Q O r1 q1) he a1) hn a0)
theorem Aa2 (Y:Ex X (.type T) r)(hg:Gl X x)(hm:X.mg x=none)(hv:bootBuiltins x=some (.type T))(ha:PA X (e::es) t)(hn:x≠"__name__":=by decide)(a0:(x==("__debug__":Str))=false:=by decide)
  (he:starEach (e::es) X.env=(false,eval e X.env)::starEach es X.env:=by rfl)(a1:(backTo pos (starEach es X.env)).any (·.1)=false:=by rfl):PE X (.Call (.Name x p) (e::es) [] pos) (tCB r t):=by
 intro pins s σ H Q I h;refine MM (Li I hg hm hv (MQ (AV (ha pos pins s σ H _ I h) λus s1 ⟨vs,H1,O,r1,q1⟩=>Y pins s1 σ H1 vs us Q O r1 q1) he a1) hn a0)
end
end L2
namespace HT
open PySem PyProof.Rows
section
open PySem.SeqAt
open PySem.AutoSeq1 (wpAny_loadPart')
open PySem.MeetsSeq PySem.MeetsSeq2 PySem.MeetsSeq3
end
section
variable {E:Value->Shared->Prop}
theorem cat_tup {Q:Value->Shared->Prop}(ht:IsTup s.heap t vs.toArray)(hb:IsTup s.heap b ws.toArray)(hv:vs≠[])
  (h1:ws=[]->Q (.ref t) s)(h2:ws≠[]->Q (.ref s.heap.objs.size) {s with heap:=s.heap.push {cls:=.type "tuple",data:=.seq (vs++ws).toArray}})
  (hsz:vs.length+ws.length<=sizeLine):wpAny (model prog w) A (binaryOp .Add (.ref t) (.ref b)) Q E s:=by
 obtain⟨⟨cls,dd,data,sl⟩,I,Y,n,hd⟩:=id ht;obtain⟨⟨a4,a0,data2,a3⟩,O,a1,n2,a2⟩:=id hb;simp only at Y hd a1 a2;subst Y hd a1 a2;have e:vs.toArray++ws.toArray=(vs++ws).toArray:=by simp
 by_cases hw:ws=[]
 .exact concat_meets ⟨_,I,rfl⟩ ⟨_,O,rfl⟩ noFill_tuple_add seq_tuple_add PySem.F.slot_tuple_add Of (OS _ _)
   (tuple_addW1 t b vs.toArray ws.toArray n n2 dd a0 sl a3 (by simpa using hv) (by simp[hw])) ⟨I,O,h1 hw⟩
 .refine concat_meets ⟨_,I,rfl⟩ ⟨_,O,rfl⟩ noFill_tuple_add seq_tuple_add PySem.F.slot_tuple_add Of (OS _ _)
   (tuple_addW2 t b vs.toArray ws.toArray n n2 dd a0 sl a3 (by simpa using hv) (by simpa using hw) (by rw[JQ,JQ];exact hsz)) ⟨I,O,?_⟩
  rw[e];exact h2 hw
noncomputable def BA (n d:Nat):Option Int->Nat
 | none=>d
 | some v=>if v<0 then(v+(n:Int)).toNat else min v.toNat n
theorem EV (n d:Nat):BA n d none=d:=rfl
theorem BX (n d k:Nat):BA n d (some (k:Int))=min k n:=by
 show(if(k:Int)<0 then((k:Int)+(n:Int)).toNat else min (k:Int).toNat n)=min k n
 rw[JP (by omega),PF]
theorem sIx_le (n d:Nat)(hd:d<=n)(o:Option Int):BA n d o<=n:=by
 cases o with
 | none=>exact hd
 | some v=>
  show(if v<0 then(v+(n:Int)).toNat else min v.toNat n)<=n
  by_cases I:v<0
  .rw [JN I];omega
  .rw [JP I];exact Nat.min_le_right _ _
theorem GV (v:Int)(n d:Nat):(if v<0 then max (v+(n:Int)) 0 else min v (n:Int))=((BA n d (some v):Nat):Int):=by
 show(if v<0 then max (v+(n:Int)) 0 else min v (n:Int))=(((if v<0 then(v+(n:Int)).toNat else min v.toNat n):Nat):Int)
 by_cases I:v<0
 .simp only[JN I];omega
 .simp only[JP I];omega
theorem Ye (lo hi:Option Int)(n:Nat):Builtin.Slice.sliceAdjust lo hi 1 (n:Int)=(((BA n 0 lo:Nat):Int),((BA n n hi:Nat):Int)):=by
 have h1:¬((1:Int)<0):=by omega
 unfold Builtin.Slice.sliceAdjust;simp only[h1,PN];refine Prod.ext ?_ ?_
 .cases lo with
  | none=>rfl
  | some v=>exact GV v n 0
 .cases hi with
  | none=>rfl
  | some v=>exact GV v n n
theorem Xh (i j:Nat):Builtin.Slice.slicePlaces (i:Int) (j:Int) 1=j-i:=by
 unfold Builtin.Slice.slicePlaces;have h1:(1:Int)>0:=by omega
 simp only[h1,NW,Int.ediv_one];split<;>omega
theorem ED {Q:Option Int->Shared->Prop}(p:IsPart v o)(h:Q o s):wpAny (model prog w) A (Builtin.Slice.slicePartIndex v) Q E s:=by
 cases p with
 | none=>exact slicePart_none h
 | int i t=>exact slicePart_int h
theorem CM {sl:Addr}{I O:Value}{lo hi:Option Int}{n:Nat}{Q:Int×Int×Nat->Shared->Prop}(hs:s.heap.IsSliceOf sl I O .none)(pl:IsPart I lo)(pu:IsPart O hi)
  (h:Q (((BA n 0 lo:Nat):Int),1,BA n n hi-BA n 0 lo) s):wpAny (model prog w) A (Builtin.Slice.sliceApplied (.ref sl) (pure (n:Int))) Q E s:=by
 obtain⟨os,a0,a1,Y⟩:=id hs;unfold Builtin.Slice.sliceApplied Builtin.Slice.sliceFields;refine JA (JA (KE a0 Y (x:=I) rfl (JA (KE a0 Y (x:=O) rfl (JA (KE a0 Y (x:=.none) rfl (JF (JA (slicePart_none ?_)))))))))
 show wpAny _ _ (if((1:Int)==0)=true then _ else _) _ _ s
 rw[JP (by decide)];refine JA (ED pl (JA (ED pu (JA (JF ?_)))))
 show wpAny _ _ (match Builtin.Slice.sliceAdjust lo hi 1 (n:Int)with|(lo,hi)=>pure (lo,(1:Int),Builtin.Slice.slicePlaces lo hi 1)) _ _ s
 rw[Ye lo hi n]
 show wpAny _ _ (pure (((BA n 0 lo:Nat):Int),(1:Int),Builtin.Slice.slicePlaces ((BA n 0 lo:Nat):Int) ((BA n n hi:Nat):Int) 1)) _ _ s
 rw[Xh];exact JF h
theorem Ah1 (xs:Array Value)(i k:Nat):((List.range k).filterMap λ(m:Nat)=>xs[((i:Int)+(m:Int)*1).toNat]?).toArray=((xs.toList.drop i).take k).toArray:=by
 have e:(λ(m:Nat)=>xs[((i:Int)+(m:Int)*1).toNat]?)=λm=>xs[i+m]?:=by
  funext m;have:((i:Int)+(m:Int)*1).toNat=i+m:=by omega
  rw[this]
 rw[e];have:=pick_run xs i k;rw[List.filterMap_map]at this;have I:((λx=>xs[x]?)∘λx=>i+x)=λm=>xs[i+m]?:=rfl;rw[I]at this;rw[this]
theorem EH {t sl:Addr}{I:Array Value}{Y vu:Value}{lo hi:Option Int}{Q:Value->Shared->Prop}(ht:IsTup s.heap t I)(hs:s.heap.IsSliceOf sl Y vu .none)(pl:IsPart Y lo)(pu:IsPart vu hi)
  (hw:¬(BA I.size 0 lo=0/\BA I.size I.size hi=I.size))
  (h:Q (.ref s.heap.objs.size) {s with heap:=s.heap.push {cls:=.type "tuple",data:=.seq ((I.toList.drop (BA I.size 0 lo)).take (BA I.size I.size hi-BA I.size 0 lo)).toArray}})
  (hsz:I.size<=sizeLine):wpAny (model prog w) A (getItem (.ref t) (.ref sl)) Q E s:=by
 have O:sizeOk (.seq ((I.toList.drop (BA I.size 0 lo)).take (BA I.size I.size hi-BA I.size 0 lo)).toArray):=by
  show((I.toList.drop (BA I.size 0 lo)).take (BA I.size I.size hi-BA I.size 0 lo)).toArray.size<=sizeLine
  rw[JQ,LG,MN,NP];omega
 have hj:BA I.size I.size hi<=I.size:=sIx_le _ _ (JG _) hi;obtain⟨os,a3,a1,a4⟩:=id hs;have a0:s.TypeIs (.ref sl) "slice":=⟨os,a3,a1⟩;unfold getItem
 try with_reducible refine MR ?_
 first|refine JA (JF ?_)|skip
 refine JA (wpAny_sequenceKey ht.typeIs (by decide) ?_)
 refine JA (KW (name:=Str.ofString "__getitem__") ht.typeIs KP
  (LY KP ht.typeIs entry_tuple_getitem ?_ (args_tuple_getitem _ _)))
 show wpAny _ _ (Builtin.Tuple.tupleItemsOf (.ref t) >>= _) _ _ s
 refine JA (tupleItemsOf_ ht (JA (OJ a0 ?_)));rw[JN (by decide)];refine JA (CM hs pl pu ?_);have a2:¬((((BA I.size 0 lo:Nat):Int)==0&&(1:Int)==1&&(BA I.size I.size hi-BA I.size 0 lo)==I.size)=true):=by
  intro q;rw[JW,JW]at q;have q1:((BA I.size 0 lo:Nat):Int)=0:=eq_of_beq q.1.1;have q2:BA I.size I.size hi-BA I.size 0 lo=I.size:=eq_of_beq q.2;exact hw ⟨by omega,by omega⟩
 show wpAny _ _ (if(((BA I.size 0 lo:Nat):Int)==0&&(1:Int)==1&&(BA I.size I.size hi-BA I.size 0 lo)==I.size)=true then _ else _) _ _ s
 rw[JP a2,Ah1]
 first
  | exact JA (m:=Builtin.Tuple.tupleExact _) (LH (JF (Ae rfl (JF h))) O)
  | exact JA (m:=Builtin.Tuple.tupleExact _) (LH (JA (JF (JF ⟨_,rfl,JF h⟩))) O)
  | exact JA (JA (m:=Builtin.Tuple.tupleExact _) (LH (JF (JF ⟨_,rfl,JF h⟩)) O))
  | exact JA (JA (m:=Builtin.Tuple.tupleExact _) (LH (JF ⟨_,rfl,JF h⟩) O))
end
end HT
namespace L2
open PySem PySem.Spec PyProof.Rows
abbrev TO:=St->Hp->(Option Int->Hp->Prop)->Prop
def PO (X:Cx)(e:Option Expr)(t:TO):Prop:=
 ∀(pins:List (Addr×Obj)) (s:Shared) (σ:St) (H:Hp) (Q:Option Int->Hp->Prop),Inv X pins σ H s->t σ H Q ->
  wpAny (model X.prog X.w) X.A (evalPart e X.env) (λu s'=>∃o H',Inv X pins σ H' s'/\IsPart u o/\Q o H') X.xe s
def Ss:TO:=λ_ H Q=>Q none H
def tPart (t:TE):TO:=λσ H Q=>t σ H λx H1=>∃i,x=.int i/\Q (some i) H1
section
variable {X:Cx}{e:Expr}{te:TE}{lo hi:Option Expr}{tl th:TO}{pos p2:Pos}
theorem Aq3:PO X none Ss:=by
 intro pins s σ H Q I h;rw[evalPart_none];exact JF (Ao none H I .none h)
theorem Aq2 (h:PE X e te):PO X (some e) (tPart te):=by
 intro pins s σ H Q I hw;rw[evalPart_some];refine AV (h pins s σ H _ I hw) λu s1 ⟨x,H1,O,r1,Y⟩=>?_;refine Am Y λi z1 q=>?_;subst z1;obtain⟨t,rfl⟩:=r1;exact Ao (some i) H1 O (.int i t) q
def SlR (X:Cx)(r:V->Option Int->Option Int->Hp->VK->Prop):Prop:=
 ∀(pins:List (Addr×Obj)) (s:Shared) (σ:St) (H:Hp) (x:V) (v I O:Value) (lo hi:Option Int) (sl:Addr) (Q:VK),Inv X pins σ H s->RelV x v->s.heap.IsSliceOf sl I O .none->IsPart I lo->IsPart O hi->r x lo hi H Q ->
  ∃T id,typeLookup (.type T) "__getitem__"=pure (some (.builtin id))/\s.TypeIs v T/\wpAny (model X.prog X.w) X.A (getItem v (.ref sl)) (EP X pins σ Q) X.xe s
def tSl (r:V->Option Int->Option Int->Hp->VK->Prop)(te:TE)(tl th:TO):TE:=λσ H Q=>te σ H λx H1=>tl σ H1 λl H2=>th σ H2 λu H3=>r x l u H3 Q
theorem Ah6 {r:V->Option Int->Option Int->Hp->VK->Prop}(hr:SlR X r)(he:PE X e te)(hl:PO X lo tl)(hu:PO X hi th):PE X (.Subscript e (.Slice lo hi none p2) pos) (tSl r te tl th):=by
 intro pins s σ H Q a0 h;refine Subscript_ (AV (he pins s σ H _ a0 h) λv s1 ⟨x,H1,I1,r1,q1⟩=>wpAny_Slice (AV (hl pins s1 σ H1 _ I1 q1) λO s2 ⟨l,H2,I2,pl,q2⟩=>AV (hu pins s2 σ H2 _ I2 q2) λY I ⟨u,H3,I3,pu,q3⟩=>?_));rw[evalPart_none];refine JF ?_;have I4:Inv X pins σ H3 {I with heap:=I.heap.push {cls:=.type "slice",data:=.fields #[O,Y,.none]}}:=I3.kept (t':=I.toks) λb ob q=>JD _ q;refine A0 (hr pins {I with heap:=I.heap.push {cls:=.type "slice",data:=.fields #[O,Y,.none]}} σ H3 x v O Y l u I.heap.objs.size Q I4 r1 (Heap.IsSliceOf.new ..) pl pu q3) λT id hT ht hg=>?_
 show wpAny (model X.prog X.w) X.A (subscriptTail e (.Slice lo hi none p2) v (.ref I.heap.objs.size)) (EP X pins σ Q) X.xe {I with heap:=I.heap.push {cls:=.type "slice",data:=.fields #[O,Y,.none]}}
 exact tail_any (ops:=[.ref I.heap.objs.size,v]) ht hT hg (by with_unfolding_all rfl)
noncomputable def Ec (xs:List V)(lo hi:Option Int):List V:=(xs.drop (HT.BA xs.length 0 lo)).take (HT.BA xs.length xs.length hi-HT.BA xs.length 0 lo)
theorem Km (xs:List V)(lo hi:Option Int):(Ec xs lo hi).length<=xs.length:=by
 unfold Ec;rw[LG,MN];omega
def rSlT (K:PySem.W.Frag):V->Option Int->Option Int->Hp->VK->Prop:=λx lo hi H Q=>∃a xs,x=.ref a/\BW K H a xs /\
 ¬(HT.BA xs.length 0 lo=0/\HT.BA xs.length xs.length hi=xs.length)/\∀p,H p=none->Q (.ref p) (upd H p (.tup (Ec xs lo hi)))
theorem E6:SlR X (rSlT X.K):=by
 intro pins s σ H x v vl vu lo hi sl Q I rx hs pl pu h;refine Gh h λa xs z1 hx hw q=>?_;subst z1;cases rx;refine Bk (I.tuple hx) λits r ht Y=>?_;have O:its.toArray.size=xs.length:=by rw[JQ];exact r.length.symm
 refine Ao "tuple" _ KP.lookup ht.typeIs ?_;refine HT.EH ht hs pl pu (by rw[O];exact hw) ?_ (by rw[O];exact Y);rw[O];refine Ao (.ref s.heap.objs.size) _ (I.laid (t':=s.toks) (o:=.tup (Ec xs lo hi)) (λb ob q=>JD _ q) (JG _) ?_) rfl (q _ (I.AR.fresh (JG _)));exact⟨JY (Km xs lo hi) Y,(Ae ((r.drop (HT.BA xs.length 0 lo)).take (HT.BA xs.length xs.length hi-HT.BA xs.length 0 lo)) (IsTup.new _ _))⟩
def rCatT (K:PySem.W.Frag):R2:=λx y H Q=>∃a b xs ys,x=.ref a/\y=.ref b/\BW K H a xs/\BW K H b ys/\xs≠[]/\xs.length+ys.length<=sizeLine /\
 (ys=[]->Q (.ref a) H)/\(ys≠[]->∀p,H p=none->Q (.ref p) (upd H p (.tup (xs++ys))))
theorem AG.FU (r:AG xs us):us=[]↔xs=[]:=by
 cases r with
 | nil=>simp
 | cons _ _=>simp
theorem op_catT:CV X (binaryOp .Add) (rCatT X.K):=by
 intro pins s σ H x y v u Q I rx ry h;refine F3 h λa b xs ys z1 z2 ha hb hx z3=>?_;refine Bu z3 λhz q1 q2=>?_;subst z1 z2;cases rx;cases ry;refine Bk (I.tuple ha) λits Y p1 _=>Bk (I.tuple hb) λa0 O p2 _=>?_;refine HT.cat_tup p1 p2 (λz=>hx (Y.FU.mp z)) (λz=>(Ao (.ref a) H I rfl (q1 (O.FU.mp z)))) (λz=>(Ao (.ref s.heap.objs.size) _ (I.laid (t':=s.toks) (o:=.tup (xs++ys)) (λb ob q=>JD _ q) (JG _) ?_) rfl (q2 (λw=>z (O.FU.mpr w)) _ (I.AR.fresh (JG _))))) (by rw[← Y.length,← O.length];exact hz);exact⟨by rw[JH];exact hz,(Ae (Y.append O) (IsTup.new _ _))⟩
end
noncomputable def ixN (n:Nat)(i:Int):Option Nat:=if 0<=i then(if i<n then some i.toNat else none)else if -(n:Int)<=i then some (i+n).toNat else none
noncomputable def EL {α:Type}(xs:List α)(i:Int):Option α:=(ixN xs.length i).bind λj=>xs[j]?
theorem ixN_seq (h:ixN n i=some j):seqIndex? i n=some j/\j<n/\-(n:Int)<=i/\i<n:=by
 unfold ixN at h;by_cases h0:0<=i
 .rw [JN h0]at h;by_cases h1:i<n
  .rw [JN h1]at h;have e:i.toNat=j:=KR h;exact C6 (by rw[seqIndex_of h0 h1,e]) (by omega) (by omega) h1
  .rw [JP h1]at h;cases h
 .rw [JP h0]at h;by_cases h1:-(n:Int)<=i
  .rw [JN h1]at h;have e:(i+n).toNat=j:=KR h;exact C6 (by rw[seqIndex_neg (by omega) h1,e]) (by omega) h1 (by omega)
  .rw [JP h1]at h;cases h
theorem Uw {α:Type}{xs:List α}{i:Int}{v:α}(h:EL xs i=some v):∃j,seqIndex? i xs.length=some j/\xs[j]?=some v/\j<xs.length/\-(xs.length:Int)<=i/\i<xs.length:=by
 unfold EL at h
 cases e:ixN xs.length i with
 | none=>rw[e]at h;cases h
 | some j=>
  rw[e]at h;refine Ox (ixN_seq e) λh1 h2 h3 h4=>Ou j h1 h h2 h3 h4
theorem Bg {α:Type}{xs:List α}{j:Nat}{v:α}(h:xs[j]?=some v):EL xs (j:Int)=some v:=by
 have I:j<xs.length:=(List.getElem?_eq_some_iff.mp h).1;have e:ixN xs.length (j:Int)=some j:=by
  unfold ixN;rw[JN (by omega),JN (by omega)];simp
 unfold EL;rw[e];exact h
def Uy (b:Expr):Prop:=∀o i,subscripted b false o i=operate [o,i] (getItem o i)
def IxR (X:Cx)(r:R2):Prop:=
 ∀(O I:Expr) (pins:List (Addr×Obj)) (s:Shared) (σ:St) (H:Hp) (x y:V) (v u:Value) (Q:VK),Inv X pins σ H s->RelV x v->RelV y u->r x y H Q ->
  subscripted I false v u=operate [v,u] (getItem v u)->wpAny (model X.prog X.w) X.A (subscriptTail O I v u) (EP X pins σ Q) X.xe s
def MtR (X:Cx)(id:String)(r:V->List V->Hp->VK->Prop):Prop:=
 ∀(pins:List (Addr×Obj)) (s:Shared) (σ:St) (H:Hp) (x:V) (xs:List V) (v:Value) (us:List Value) (Q:VK),Inv X pins σ H s->RelV x v->AG xs us->r x xs H Q ->
  wpAny (model X.prog X.w) X.A (call (.builtin id) (v::us)) (EP X pins σ Q) X.xe s
section
variable {X:Cx}{a b:Expr}{ta tb:TE}{pos:Pos}
theorem pe_ix (hr:IxR X r)(ha:PE X a ta)(hb:PE X b tb)(hs:Uy b):PE X (.Subscript a b pos) (IG r ta tb):=by
 intro pins s σ H Q I h;exact Subscript_ (binT ha hb I h λv u s2 x y H2 O Y ry q=>hr a b pins s2 σ H2 x y v u Q O Y ry q (hs _ _))
def rIxL (K:PySem.W.Frag):R2:=λx y H Q=>∃p xs i v,x=.ref p/\y=.int i/\AW K H p xs/\EL xs i=some v/\Q v H
def Ve (K:PySem.W.Frag):R2:=λx y H Q=>∃p xs i v,x=.ref p/\y=.int i/\BW K H p xs/\EL xs i=some v/\Q v H
def rIxS:R2:=λx y H Q=>∃z i c,x=.str z/\y=.int i/\z.length<=sizeLine/\EL z.cps.toList i=some c/\Q (.str ⟨#[c]⟩) H
theorem Dj:IxR X (rIxL X.K):=by
 intro a2 a1 pins s σ H x y v u Q I rx ry h hs;refine Us h λp xs i z z1 z2 hq he q=>?_;subst z1 z2;cases rx;obtain⟨t,rfl⟩:=ry;refine Bk (I.list hq) λits r Y hz=>Ow (Uw he) λj h1 h2 h3 h4 h5=>Am (r.get h2) λw ew a0=>?_;have hl:=r.length;have hn:=Qt;have fin:EP X pins σ Q w s:=(Ao z H I a0 q);by_cases h0:0<=i
 .have O:i.toNat=j:=by
   rw[seqIndex_of h0 h5]at h1;exact KR h1
  exact item_listR Y.isList h0 (by omega) (by rw[O];simpa using ew) fin hs
 .have O:(i+(its.toArray.size:Int)).toNat=j:=by
   rw[seqIndex_neg (by omega) h4]at h1;rw[JQ,← hl];exact KR h1
  exact subscriptTail_builtinR (x:=w) Y.isList.typeIs slot_list_getitem.lookup
   (wpAny_getItem_list_neg (Q:=λr s'=>r=w/\EP X pins σ Q r s') Y.isList (by omega) (by rw[JQ]<;>omega) (by omega) (by rw[O];simpa using ew) ⟨rfl,fin⟩) hs
theorem Lj:IxR X (Ve X.K):=by
 intro a2 a1 pins s σ H x y v u Q I rx ry h hs;refine Us h λp xs i z z1 z2 hq he q=>?_;subst z1 z2;cases rx;obtain⟨t,rfl⟩:=ry;refine Bk (I.tuple hq) λits r O hz=>Ow (Uw he) λj h1 h2 h3 h4 h5=>Am (r.get h2) λw Y a0=>?_;have hl:=r.length;have hn:=Qt;have fin:EP X pins σ Q w s:=(Ao z H I a0 q);exact subscriptTail_builtinR (x:=w) O.typeIs slot_tuple_getitem.lookup
  (getItem_tuple (j:=j) (Q:=λr s'=>r=w/\EP X pins σ Q r s') O (by omega) (by omega) (by rw[JQ,← hl];exact h1) (by simpa using Y) ⟨rfl,fin⟩) hs
theorem Al2:IxR X rIxS:=by
 intro a1 a0 pins s σ H x y v u Q I rx ry h hs;refine Kz h λz i c z1 z2 hz he q=>?_;subst z1 z2;obtain⟨t,rfl⟩:=rx;obtain⟨t',rfl⟩:=ry;refine Ow (Uw he) λj h1 h2 h3 h4 Y=>?_;have hl:z.cps.toList.length=z.length:=by simp[Str.length]
 rw[hl]at h1 h4 Y;have hn:=Qt
 exact tail_any (typeIs_str s z t) slot_str_getitem.lookup (getItem_str (c:=c) (by
  have e1:decide (i < -(2 ^ 63:Int))=false:=LC (by omega);have O:decide (i>=2 ^ 63)=false:=LC (by omega)
  rw[e1,O,Bool.or_false]) (by rw[h1];simpa using h2) (Ao (.str ⟨#[c]⟩) H (I.tok _) ⟨_,rfl⟩ q)) hs
theorem Ti (lo hi:Option Int)(n:Nat):(sliceBounds lo hi none n).1=((HT.BA n 0 lo:Nat):Int)/\(sliceBounds lo hi none n).2.1=((HT.BA n n hi:Nat):Int)/\(sliceBounds lo hi none n).2.2=1:=by
 refine Bc ?_ ?_ rfl
 .cases lo with
  | none=>simp[sliceBounds,HT.BA]
  | some i=>
   simp only[sliceBounds,HT.BA,Option.getD_none,show(1:Int)>0 by decide,NW];by_cases h:i<0
   .simp only[h,NW]<;>omega
   .simp only[h,PN]<;>omega
 .cases hi with
  | none=>simp[sliceBounds,HT.BA]
  | some i=>
   simp only[sliceBounds,HT.BA,Option.getD_none,show(1:Int)>0 by decide,NW];by_cases h:i<0
   .simp only[h,NW]<;>omega
   .simp only[h,PN]<;>omega
theorem Q7 (its:List Value)(lo hi:Option Int):slicePick its.toArray lo hi none=((its.drop (HT.BA its.length 0 lo)).take (HT.BA its.length its.length hi-HT.BA its.length 0 lo)).toArray:=by
 refine Bu (Ti lo hi its.toArray.size) λh1 h2 h3=>?_;unfold slicePick;rw[h1,h2,h3];simp only[sliceRange_one,pick_run,JQ]<;>rfl
def rSlL (K:PySem.W.Frag):V->Option Int->Option Int->Hp->VK->Prop:=λx lo hi H Q=>∃a xs,x=.ref a/\AW K H a xs/\∀p,H p=none->Q (.ref p) (upd H p (.lst (Ec xs lo hi)))
theorem O8:SlR X (rSlL X.K):=by
 intro pins s σ H x v vl vu lo hi sl Q I rx hs Y pu h;refine A0 h λa xs z1 hx q=>?_;subst z1;cases rx;refine Bk (I.list hx) λits r ht O=>?_;have a0:=r.length;refine Ao "list" _ slot_list_getitem.lookup ht.isList.typeIs ?_;refine wpAny_getItem_list_slice ht.isList hs Y pu .none (by simp) ?_ (by rw[JQ]<;>omega);rw[Q7,← a0];refine Ao (.ref s.heap.objs.size) _ (I.laid (t':=s.toks) (o:=.lst (Ec xs lo hi)) (λb ob q=>JD _ q) (JG _) ?_) rfl (q _ (I.AR.fresh (JG _)));exact⟨JY (Km xs lo hi) O,(Ck _ 0 ((r.drop (HT.BA xs.length 0 lo)).take (HT.BA xs.length xs.length hi-HT.BA xs.length 0 lo)) (JS _ rfl))⟩
noncomputable def Kk:V->Bool
 | .BO=>true
 | .bl _=>true
 | .int _=>true
 | .str _=>true
 | _=>false
noncomputable def eqV:V->V->Bool
 | .BO,.BO=>true
 | .bl a,.bl b=>a==b
 | .bl a,.int b=>(if a then 1 else 0)==b
 | .int a,.bl b=>a==(if b then 1 else 0)
 | .int a,.int b=>a==b
 | .str a,.str b=>a==b
 | _,_=>false
theorem eqAt_V (Y:RelV y u)(I:RelV x v)(fy:Kk y=true)(O:Kk x=true):SeqAt.EqAt A s u v (eqV y x):=by
 cases y with
 | BO=>
  cases Y
  cases x with
  | BO=>cases I;exact SeqAt.EqAt.same _
  | bl b=>cases I;exact SeqAt.EqAt.none_bool b
  | int b=>obtain⟨t,rfl⟩:=I;exact SeqAt.EqAt.none_int b t
  | str b=>obtain⟨t,rfl⟩:=I;exact SeqAt.EqAt.none_str b t
  | _=>exact absurd (show false=true from O) KQ
 | bl a=>
  cases Y
  cases x with
  | BO=>cases I;exact SeqAt.EqAt.bool_none a
  | bl b=>cases I;exact SeqAt.EqAt.bool_bool a b
  | int b=>obtain⟨t,rfl⟩:=I;exact SeqAt.EqAt.bool_int a b t
  | str b=>obtain⟨t,rfl⟩:=I;exact SeqAt.EqAt.bool_str a b t
  | _=>exact absurd (show false=true from O) KQ
 | int a=>
  obtain⟨t',rfl⟩:=Y
  cases x with
  | BO=>cases I;exact SeqAt.EqAt.int_none a t'
  | bl b=>cases I;exact SeqAt.EqAt.int_bool a t' b
  | int b=>obtain⟨t,rfl⟩:=I;exact SeqAt.EqAt.int_int a t' b t
  | str b=>obtain⟨t,rfl⟩:=I;exact SeqAt.EqAt.int_str a t' b t
  | _=>exact absurd (show false=true from O) KQ
 | str a=>
  obtain⟨t',rfl⟩:=Y
  cases x with
  | BO=>cases I;exact SeqAt.EqAt.str_none a t'
  | bl b=>cases I;exact SeqAt.EqAt.str_bool a t' b
  | int b=>obtain⟨t,rfl⟩:=I;exact SeqAt.EqAt.str_int a t' b t
  | str b=>obtain⟨t,rfl⟩:=I;exact SeqAt.EqAt.str_str a t' b t
  | _=>exact absurd (show false=true from O) KQ
 | _=>exact absurd (show false=true from fy) KQ
noncomputable def HW (x:V)(u:Value):Bool:=match u with
 | .none=>eqV .BO x
 | .bool b=>eqV (.bl b) x
 | .int i _=>eqV (.int i) x
 | .str z _=>eqV (.str z) x
 | _=>false
theorem Al7 (r:RelV y u)(f:Kk y=true):HW x u=eqV y x:=by
 cases y with
 | BO=>cases r;rfl
 | bl b=>cases r;rfl
 | int i=>obtain⟨t,rfl⟩:=r;rfl
 | str z=>obtain⟨t,rfl⟩:=r;rfl
 | _=>exact absurd (show false=true from f) KQ
theorem Mi:∀{xs:List V} {us:List Value},AG xs us->xs.all Kk=true->us.any (HW x)=xs.any λy=>eqV y x
 | _,_,.nil,_=>rfl
 | y::xs,u::us,.cons r t,f=>by
  rw[LP,JW]at f;rw[NL,NL,Al7 r f.1,Mi t f.2]
theorem Ke (O:RelV x v)(I:Kk x=true):∀{xs:List V} {us:List Value},AG xs us->xs.all Kk=true->∀u∈us,SeqAt.EqAt A s u v (HW x u)
 | _,_,.nil,_=>λu hu=>by cases hu
 | y::xs,u::us,.cons r t,f=>λY hu=>by
  rw[LP,JW]at f
  rcases JC.mp hu with rfl|hu
  .rw [Al7 r f.1];exact eqAt_V r O f.1 I
  .exact Ke O I t f.2 Y hu
noncomputable def GZ (x:V)(xs:List V):Bool:=xs.any λy=>eqV y x
def rIn (K:PySem.W.Frag)(I:Bool):R2:=λx y H Q=>∃p xs,y=.ref p/\(AW K H p xs\/BW K H p xs)/\Kk x=true/\xs.all Kk=true/\Q (.bl (if I then !GZ x xs else GZ x xs)) H
theorem Ic:CV X (compareOp .In) (rIn X.K false):=by
 intro pins s σ H x y v u Q I rx ry h;refine Yb h λp xs z1 O fx fs q=>?_;subst z1;cases ry
 rcases O with O|O
 .refine Bk (I.list O) λits r Y hz=>SeqAt.in_listAt (HW x) Y.isList (λw hw=>Ke rx fx r fs w (by simpa using hw)) (Ao (.bl _) H I rfl ?_);rw[show its.toArray.any (HW x)=its.any (HW x)by simp,Mi r fs];exact q
 .refine Bk (I.tuple O) λits r Y hz=>SeqAt.in_tupleAt (HW x) Y (λw hw=>Ke rx fx r fs w (by simpa using hw)) (Ao (.bl _) H I rfl ?_);rw[show its.toArray.any (HW x)=its.any (HW x)by simp,Mi r fs];exact q
theorem I0:CV X (compareOp .NotIn) (rIn X.K true):=by
 intro pins s σ H x y v u Q I rx ry h;refine Yb h λp xs z1 O fx fs q=>?_;subst z1;cases ry
 rcases O with O|O
 .refine Bk (I.list O) λits r Y hz=>SeqAt.notIn_listAt (HW x) Y.isList (λw hw=>Ke rx fx r fs w (by simpa using hw)) (Ao (.bl _) H I rfl ?_);rw[show its.toArray.any (HW x)=its.any (HW x)by simp,Mi r fs];exact q
 .refine Bk (I.tuple O) λits r Y hz=>SeqAt.notIn_tupleAt (HW x) Y (λw hw=>Ke rx fx r fs w (by simpa using hw)) (Ao (.bl _) H I rfl ?_);rw[show its.toArray.any (HW x)=its.any (HW x)by simp,Mi r fs];exact q
theorem Ji:Ex X (.builtin "len") (λxs H Q=>∃p ys,xs=[.ref p]/\(AW X.K H p ys\/BW X.K H p ys)/\Q (.int ys.length) H):=by
 intro pins s σ H xs us Q I r h;refine A0 h λp ys z1 O q=>?_;subst z1;refine Am (K4 r) λu z1 rx=>?_;subst z1;cases rx;have hn:=Qt
 rcases O with O|O
 .refine Bk (I.list O) λits r' Y hz=>?_;have a0:=r'.length;exact Calls.call_len_list Y.isList (by simp only[JQ]<;>omega) (Ao (.int ys.length) H (I.tok _) ⟨s.toks+1,by rw[JQ,a0]⟩ q)
 .refine Bk (I.tuple O) λits r' Y hz=>?_;have a0:=r'.length;exact len_tuple Y (by simp only[JQ]<;>omega) (Ao (.int ys.length) H (I.tok _) ⟨s.toks+1,by rw[JQ,a0]⟩ q)
theorem Mh:Ex X (.builtin "len") (λxs H Q=>∃z,xs=[.str z]/\z.length<=sizeLine/\Q (.int z.length) H):=by
 intro pins s σ H xs us Q I r h;refine Bk h λz O hz q=>?_;subst O;refine Am (K4 r) λu O Y=>?_;subst O;obtain⟨t,rfl⟩:=Y;have hn:=Qt;exact len_str (by omega) (Ao (.int z.length) H (I.tok _) ⟨_,rfl⟩ q)
theorem Uv:Ex X (.type "list") (λxs H Q=>∃p ys,xs=[.ref p]/\(AW X.K H p ys\/BW X.K H p ys)/\∀l,H l=none->Q (.ref l) (upd H l (.lst ys))):=by
 intro pins s σ H xs us Q a0 r h;refine A0 h λp ys Y hq q=>?_;subst Y;refine Am (K4 r) λu Y rx=>?_;subst Y;cases rx;have fin:∀(its:List Value),AG ys its->ys.length<=sizeLine->∀(h':Heap) (I:Nat),(∀b o',s.heap.get? b=some o'->h'.get? b=some o') ->
   h'.get? s.heap.objs.size=some {cls:=.type "list",dict:=none,data:=.seq its.toArray I,slots:=#[]}->EP X pins σ Q (.ref s.heap.objs.size) {s with heap:=h'}:=λits O hz h' I kp e=>
  (Ao (.ref s.heap.objs.size) _ (a0.laid (t':=s.toks) kp (JG _) (show AX X.prog X.w _ h' _ (.lst ys)from⟨hz,(Ck its I O e)⟩)) rfl (q _ (a0.AR.fresh (JG _))))
 rcases hq with hq|hq
 .refine Bk (a0.list hq) λits O pl hz=>?_;have a1:=O.length;refine Bk pl.isList λo ho hc Y=>?_;obtain⟨n,hd⟩:=Y;exact call_list_seq p (.inl rfl) ho hc hd (λh' I kp e=>fin its O hz h' I kp e) (by simp only[JQ]<;>omega)
 .refine Bk (a0.tuple hq) λits O pl hz=>?_;have a1:=O.length;refine Bk pl λo ho hc Y=>?_;obtain⟨n,hd⟩:=Y;exact call_list_seq p (.inr rfl) ho hc hd (λh' I kp e=>fin its O hz h' I kp e) (by simp only[JQ]<;>omega)
theorem Ea:Ex X (.type "tuple") (λxs H Q=>∃p ys,xs=[.ref p]/\((AW X.K H p ys/\∀l,H l=none->Q (.ref l) (upd H l (.tup ys)))\/(BW X.K H p ys/\Q (.ref p) H))):=by
 intro pins s σ H xs us Q I r h;obtain⟨p,ys,rfl,h⟩:=h;obtain⟨u,rfl,rx⟩:=K4 r;cases rx;rcases h with⟨O,q⟩|⟨O,q⟩
 .obtain⟨its,r',Y,hz⟩:=I.list O;have a0:=r'.length;refine call_tuple_list Y.isList (λh' kp=>?_) (by simp only[JQ]<;>omega);have I1:Inv X pins σ H {s with heap:=h'}:=I.kept (t':=s.toks) kp;have I2:Inv X pins σ (upd H h'.objs.size (.tup ys)) {s with heap:=h'.push {cls:=.type "tuple",data:=.seq its.toArray}}:=
   I1.laid (t':=s.toks) (λb o e=>JD _ e) (JG _) (show AX X.prog X.w _ _ _ (.tup ys)from⟨hz,(Ar its r' (IsTup.new _ _))⟩)
  exact Ao (.ref h'.objs.size) _ I2 rfl (q _ (I1.AR.fresh (JG _)))
 .refine Bk (I.tuple O) λits r' Y hz=>call_tuple_same Y (Ao (.ref p) H I rfl q)
def tyV (K:PySem.W.Frag)(T:String)(x:V)(H:Hp):Prop:=match x with
 | .str _=>T="str"
 | .int _=>T="int"
 | .ref p=>(T="list"/\∃xs,AW K H p xs)\/(T="tuple"/\∃o,K.lookup p=some o/\o.cls=.type "tuple"/\o.dict=none) \/
   (T="dict"/\((∃kvs,H p=some (.dK kvs))\/∃kvs,H p=some (.dT kvs)))\/(T="set"/\∃S n,H p=some (.set S n))
 | _=>False
theorem Ad3 (I:Inv X pins σ H s)(r:RelV x v)(ty:tyV X.K T x H) :
  s.TypeIs v T/\∀a,v=.ref a->∃ob,s.heap.get? a=some ob/\ob.dict=none:=by
 cases x with
 | str z=>
  obtain⟨t,rfl⟩:=r;cases(show T="str" from ty);exact⟨typeIs_str s z t,λ_ e=>nomatch e⟩
 | int i=>
  obtain⟨t,rfl⟩:=r;cases(show T="int" from ty);exact⟨typeIs_int s i t,λ_ e=>nomatch e⟩
 | ref p=>
  cases r;rcases ty with⟨rfl,xs,hq⟩|⟨rfl,o,hk,hc,hd⟩|⟨rfl,hk⟩|⟨rfl,S,n,hk⟩
  .refine Bk (I.list hq) λits _ pl _=>⟨pl.isList.typeIs,λa e=>?_⟩;cases e;refine Gh pl λo n e c hd _=>Ar o e hd
  .refine⟨(Ar o (I.DR p o hk) hc),λa e=>?_⟩;cases e;exact Ar o (I.DR _ o hk) hd
  .have z:∃o,s.heap.get? p=some o/\o.ExactDict:=by
    rcases hk with⟨kvs,hk⟩|⟨kvs,hk⟩
    .refine Bu (I.AR p _ hk) λ_ _ Y=>?_;refine Am Y λ_ _ z2=>?_;refine Gz z2 λo _ _ e ex _=>Ar o e ex
    .refine Bu (I.AR p _ hk) λ_ _ Y=>?_;refine Am Y λ_ _ z2=>?_;refine Gz z2 λo _ _ e ex _=>Ar o e ex
   refine Am z λo e ex=>⟨(Ar o e ex.1),λa O=>?_⟩;cases O;exact Ar o e ex.2.1
  .refine Ut (I.AR p _ hk) λo _ _ _ e ex _=>⟨(Ar o e ex.1),λa O=>?_⟩;cases O;exact Ar o e ex.2.1
 | _=>exact False.elim ty
def tBM0 (K:PySem.W.Frag)(T:String)(r:V->List V->Hp->VK->Prop)(to:TE):TE:=λσ H Q=>to σ H λx H1=>tyV K T x H1/\r x [] H1 Q
def tBM (K:PySem.W.Frag)(T:String)(r:V->List V->Hp->VK->Prop)(to:TE)(t:TA):TE:=λσ H Q=>to σ H λx H1=>tyV K T x H1/\t σ H1 λxs H2=>r x xs H2 Q
variable {o e:Expr}{es:List Expr}{to:TE}{t:TA}{name:Str}{apos cpos:Pos}{T id:String}{r:V->List V->Hp->VK->Prop}
theorem pe_bm0 (pa:PlainAttrs T)(slot:Slot T name id)(a0:typeOf (.builtin id)=pure (.type "method_descriptor"))(hm:MtR X id r)(ho:PE X o to)
  (a1:attributeBase o name X.env (eval o X.env)=eval o X.env:=by rfl)(a2:(apos.endLine==cpos.line)=true:=by rfl):PE X (.Call (.Attribute o name apos) [] [] cpos) (tBM0 X.K T r to):=by
 intro pins s σ H Q I h;refine wpAny_Call_method0_late a1 a2 (AV (ho pins s σ H _ I h) λv s1 ⟨x,H1,O,Y,ty,q1⟩=>?_);obtain⟨h1,h2⟩:=Ad3 O Y ty;exact Md T id pa slot a0 h1 h2 (Calls.callWith_builtin rfl (PySem.evalArgs_none (hm pins s1 σ H1 x [] v [] Q O Y .nil q1)))
theorem pe_bm (pa:PlainAttrs T)(slot:Slot T name id)(a1:typeOf (.builtin id)=pure (.type "method_descriptor"))(hm:MtR X id r)(ho:PE X o to)(ha:PA X (e::es) t)
   (a3:attributeBase o name X.env (eval o X.env)=eval o X.env:=by rfl)
   (a2:((backTo cpos (starEach (e::es) X.env)).all (λx=>!x.1)&&(backToKw cpos (keywordEach [] X.env)).all (λx=>x.1.isSome)
     && decide ((e::es).length+([]:List Keyword).length+(if([]:List Keyword).isEmpty then 0 else 1)<30))=true:=by rfl)
   (a4:(apos.endLine==cpos.line)=true:=by rfl)(hs:starEach (e::es) X.env=(false,eval e X.env)::starEach es X.env:=by rfl)(a5:(backTo cpos (starEach es X.env)).any (·.1)=false:=by rfl) :
   PE X (.Call (.Attribute o name apos) (e::es) [] cpos) (tBM X.K T r to t):=by
 intro pins s σ H Q a0 h;refine wpAny_Call_method_late a3 a2 a4 rfl (AV (ho pins s σ H _ a0 h) λv s1 ⟨x,H1,I,Y,ty,q1⟩=>?_);obtain⟨h1,h2⟩:=Ad3 I Y ty;refine Md T id pa slot a1 h1 h2 ?_;have O:=ha cpos pins s1 σ H1 _ I q1;rw[hs]at O ⊢;refine Calls.callWith_builtin (by show(false||(backTo cpos (starEach es X.env)).any (·.1))=false;rw[a5]<;>rfl) (Calls.evalArgs_plain ?_);exact AV O λus s2 ⟨vs,H2,I2,r2,q2⟩=>hm pins s2 σ H2 x vs v us Q I2 Y r2 q2
end
def MtM (X:Cx)(id:String)(r:V->List V->Hp->VK->Prop):Prop:=
 ∀(pins:List (Addr×Obj)) (s:Shared) (σ:St) (H:Hp) (x:V) (xs:List V) (v:Value) (us:List Value) (Q:VK),Inv X pins σ H s->RelV x v->AG xs us->r x xs H Q ->
  wpAny (model X.prog X.w) X.A (call (.builtin id) (v::us)) (EP X pins σ Q) X.xe s
theorem AG.one:∀{x:V} {us:List Value},AG [x] us->∃u,us=[u]/\RelV x u
 | _,_,.cons r .nil=>(Ae rfl r)
theorem AG.zero:∀{us:List Value},AG [] us->us=[]
 | _,.nil=>rfl
theorem AG.dropLast (h:AG xs us):AG xs.dropLast us.dropLast:=by
 induction h with
 | nil=>exact .nil
 | cons r t I=>
  cases t with
  | nil=>exact .nil
  | cons q t'=>exact .cons r I
theorem AG.reverse (h:AG xs us):AG xs.reverse us.reverse:=by
 induction h with
 | nil=>exact .nil
 | cons r t I=>rw[List.reverse_cons,List.reverse_cons];exact AG.append I (.cons r .nil)
theorem Ya {α:Type}(l:List α):l.eraseIdx (l.length-1)=l.dropLast:=by
 induction l with
 | nil=>rfl
 | cons a r I=>
  cases r with
  | nil=>rfl
  | cons b r=>
   have e:(a::b::r).length-1=((b::r).length-1)+1:=by
    have h1:(a::b::r).length=r.length+2:=rfl;have h2:(b::r).length=r.length+1:=rfl;omega
   rw[e,List.eraseIdx_cons_succ,I]
   all_goals rfl
section
theorem Inv.lset {its its':List Value}{n:Nat}{f:Array Value->Array Value}{t':Nat}(I:Inv X pins σ H s)(O:H l=some (.lst xs))
  (e:s.heap.get? l=some {cls:=.type "list",data:=.seq its.toArray n})(hf:f its.toArray=its'.toArray)(Y:AG ys its')(hz:ys.length<=sizeLine) :
  Inv X pins σ (upd H l (.lst ys)) {s with heap:=s.heap.update l (Obj.mapSeq f),toks:=t'}:=by
 have q:=PySem.IsL.update e f;rw[hf]at q;refine I.write (x:=l) (e:=l) (by rw[O];exact trivial) (.inl rfl) (λb' u hb hu=>(NF s.heap (Obj.mapSeq f) (NI hb)).trans hu) ⟨_,q⟩ ?_;exact⟨hz,(Ck its' _ Y q)⟩
theorem Inv.lnew (I:Inv X pins σ H s)(O:AG ys its)(Y:ys.length<=sizeLine) :
  Inv X pins σ (upd H s.heap.objs.size (.lst ys)) {s with heap:=s.heap.push {cls:=.type "list",data:=.seq its.toArray},toks:=t'}:=
 I.laid (λ_ _ q=>JD _ q) (JG _) ⟨Y,(Ck its 0 O (JS _ rfl))⟩
theorem Inv.fresh (I:Inv X pins σ H s):H s.heap.objs.size=none:=I.AR.fresh (JG _)
theorem Inv.IA (I:Inv X pins σ H s)(O:H l=some (.lst xs)):xs.length<=sizeLine/\∃(its:List Value) (n:Nat),AG xs its/\xs.length=its.length/\s.heap.get? l=some {cls:=.type "list",data:=.seq its.toArray n}:=by
 refine Fg (I.AR l _ O) λz Y=>?_;refine Co Y λits n r e=>⟨z,(Ao its n r r.length e)⟩
end
section
def Ao6:V->List V->Hp->VK->Prop:=λx vs H Q=>∃l xs y,x=.ref l/\vs=[y]/\H l=some (.lst xs)/\xs.length<sizeLine/\Q .BO (upd H l (.lst (xs++[y])))
theorem Ew:MtM X "list.append" Ao6:=by
 intro pins s σ H x vs v us Q I rx rv h;refine Kz h λl xs y O z2 Y hz q=>?_;subst O z2;cases rx;refine Am rv.one λu O ru=>?_;subst O;refine Fg (I.IA Y) λz O=>?_;refine A0 O λits n r hl e=>?_;refine OY F.slot_list_append (Ae e rfl) F.entry_list_append (F.args_list_append_2 _ _) (PySem.list_append l its.toArray n u (by rw[JQ];omega)) ⟨e,Ao .BO _ (I.lset (its':=its++[u]) Y e (by simp) (r.append (.cons ru .nil)) ?_) rfl q⟩;rw[JH,KJ];omega
def rPop:V->List V->Hp->VK->Prop:=λx vs H Q=>∃l xs y,x=.ref l/\vs=[]/\H l=some (.lst xs)/\xs[xs.length-1]?=some y/\Q y (upd H l (.lst xs.dropLast))
theorem Nd:MtM X "list.pop" rPop:=by
 intro pins s σ H x vs v us Q I rx rv h;refine Kz h λl xs y O z2 Y hy q=>?_;subst O z2;cases rx;have a0:=rv.zero;subst a0;refine Fg (I.IA Y) λz O=>?_;refine A0 O λits n r hl e=>Am (r.get hy) λu hu ru=>?_;have a1:its.toArray[its.toArray.size-1]?=some u:=by
  show its.toArray[its.length-1]?=some u
  rw[← Array.getElem?_toList,← hl];exact hu
 refine OY F.slot_list_pop (Ae e rfl) F.entry_list_pop (F.args_list_pop_1 _) (MeetsSeq.list_pop_last l its.toArray n u a1 (by rw[JQ];omega)) ⟨e,Ao y _ (I.lset (its':=its.dropLast) Y e ?_ r.dropLast ?_) ru q⟩
 .show its.toArray.eraseIdxIfInBounds (its.toArray.size-1)=its.dropLast.toArray
  rw[JQ,List.eraseIdxIfInBounds_toArray,Ya]
 .rw [List.length_dropLast];omega
def Af2:V->List V->Hp->VK->Prop:=λx vs H Q=>∃l xs,x=.ref l/\vs=[]/\H l=some (.lst xs)/\Q .BO (upd H l (.lst xs.reverse))
theorem Xr:MtM X "list.reverse" Af2:=by
 intro pins s σ H x vs v us Q I rx rv h;refine Gh h λl xs O z2 Y q=>?_;subst O z2;cases rx;have a0:=rv.zero;subst a0;refine Fg (I.IA Y) λz O=>?_;refine A0 O λits n r hl e=>?_;refine OY F.slot_list_reverse (Ae e rfl) F.entry_list_reverse (F.args_list_reverse_1 _) (AutoSeq1.list_reverse_list_0 l its.toArray n (by rw[JQ];omega)) ⟨e,Ao .BO _ (I.lset (its':=its.reverse) Y e (by simp) r.reverse ?_) rfl q⟩;rw[List.length_reverse];omega
def Ao5:R2:=λx y H Q=>∃l b xs zs,x=.ref l/\y=.ref b/\H l=some (.lst xs)/\H b=some (.lst zs)/\xs.length+zs.length<=sizeLine/\∀p,H p=none->Q (.ref p) (upd H p (.lst (xs++zs)))
theorem Bj:CV X (binaryOp .Add) Ao5:=by
 intro pins s σ H x y v u Q I rx ry h;refine F3 h λl b xs zs O Y hH hB hz q=>?_;subst O Y;cases rx;cases ry;refine Fg (I.IA hH) λz O=>?_;refine A0 O λits n r hl e=>?_;refine Fg (I.IA hB) λY O=>?_;refine A0 O λa0 n2 r2 a1 e2=>?_;refine PySem.P.add_list e e2 ?_ (by rw[JQ,JQ];omega);have ea:its.toArray++a0.toArray=(its++a0).toArray:=by simp
 rw[ea];exact Ao (.ref _) _ (I.lnew (t':=s.toks) (r.append r2) (by rw[JH];omega)) rfl (q _ I.fresh)
end
section
variable {E:Value->Shared->Prop}
end
section
end
end L2
namespace Att
open PySem PySem.W PySem.Calls PyProof.Rows
theorem Ot:∀(ns:List Int) (vs:List Value),WellAll P h vs (ns.map WData.int)->IntsAre vs ns:=by
 intro ns
 induction ns with
 | nil=>
  intro vs w;rw[NG]at w;cases w;exact .nil
 | cons n ns I=>
  intro vs w;rw[JX]at w
  cases w with
  | cons a b=>
   cases a;exact .cons _ _ (I _ b)
theorem Z6 {l:OpenLaw}{n:Nat}(hn:l.most=some n){P:Params}{h:Heap}{args:List WData}{a0:List Value}
  (Y:l.row.toRowW.claim.pre args=true)(a2:WellAll P h a0 args) :
  ∃a vs ns,a0=[Value.ref a]/\args=[WData.list (ns.map WData.int)]/\h.get? a=some {cls:=.type "list",data:=.seq vs.toArray}/\IntsAre vs ns/\ns.length<=n:=by
 have a1:WShape.hasAll [] args [.list .int]=true:=(pre_splitW Y).1;have O:l.pre.holds [] {args:=args}=true:=(pre_splitW Y).2;obtain⟨d,r,rfl,h1,h2⟩:=hasAllW_cons a1;obtain rfl:=hasAllW_nil h2;obtain⟨xs,rfl,h3⟩:=hasW_list h1;obtain⟨ns,rfl⟩:=items_int h3;have a4:ns.length<=n:=by
  unfold OpenLaw.pre at O;have h4:(WTm.not (.lt (.lit (.int (n:Int))) (.len (.arg 0)))).holds [] {args:=[.list (ns.map .int)]}=true:=by
   have h4:=(holds_andW O).1;rw[hn]at h4;exact h4
  have I:=condW_of h4 (w_not (w_lt w_lit (w_len_list (w_arg rfl))));rw[JB]at I;refine Nat.le_of_not_lt λq=>?_;have q':(n:Int)<((ns.length:Nat):Int):=by omega
  first
   | (rw[JO q']at I;exact absurd I (by decide))
   | (simp at I;omega)
 cases a2 with
 | cons w1 w2=>
  cases w2
  cases w1 with
  | list ho a3=>exact⟨_,_,ns,rfl,rfl,ho,Ot ns _ a3,a4⟩
theorem Z9 (l:OpenLaw)(args:List WData):l.row.toRowW.claim.post args (.bool true) args=true:=
 postW_of (r:=l.row.toRowW) (X:=(true==true))
  (show WShape.has [] (.bool true) .bool=true by first|rfl|decide|simp[WShape.has,WShape.arms,WShape.armsAll])
  (show(WTm.eq .res (.lit (.bool true))).value [] {args:=args,res:=some (.bool true),after:=args}=some (.bool (true==true))from w_eq_bool (w_res rfl) w_lit) rfl
theorem HK {l:OpenLaw}{n:Nat}{q:Program}{a0:List Str}{XP:(Str->Option Value)->Heap->Prop}{YP:World->Heap->Prop}{d:DefRec}
   (hn:l.most=some n)(a3:d.params.defaults=[])
   (call:∀(w:World) (s₀ I:Shared) (mg mb:Str->Option Value) (O:Addr) (o:Obj) (pm Y doc:Value) (a:Addr) (vs:List Value) (ns:List Int),
     Ground q a0 [] XP w s₀ mg mb I.heap->YP w I.heap ->
     I.heap.get? O=some o->o.data=.func (docDef d.name d.params d.body d.scope pm Y doc)->I.heap.CodeRec Y d.name->mg d.name=some (.ref O) ->
     I.heap.get? a=some {cls:=.type "list",data:=.seq vs.toArray}->IntsAre vs ns->ns.length<=n->I.gens=#[] ->
     codeAny (model l.prog w) callerA (.call (.ref O) ⟨[.ref a],[]⟩) (λr s'=>r=.ok (.ret (.bool true))/\OldK I.heap s'.heap/\s'.os=I.os/\AllBare s'.gens) I) :
   WalkO q a0 XP YP l.row.toRowW d [] (λf vs=>PySem.call f vs):=by
 intro w s₀ I mg mb G a1 O o pm Y doc dV kV ho hd a2 hD a4 hg args aD as a8 aC aB a5 aA;obtain rfl:dV=.none:=Dflts.none hD a3;obtain rfl:kV=.none:=Dflts.noKw hD;obtain⟨a,vs,ns,rfl,rfl,a7,a9,a6⟩:=Z6 hn a8 a5;refine enter_call (NJ (call w s₀ I mg mb O o pm Y doc a vs ns G a1 ho (fd_plain hd) a2 a4 a7 a9 a6 hg) λr s' hq=>?_);obtain⟨rfl,h2,h3,h4⟩:=hq;exact⟨.inl ⟨.bool true,.bool true,[],rfl,λ_=>rfl,.bool true,Z9 l _,λ_=>⟨List.Pairwise.nil,λ_ hm=>(nomatch hm)⟩⟩,h2,h3,h4⟩
section
variable {prog:Program}{w:World}{A:Around}{E:Value->Shared->Prop}{s:Shared}{K:Frag}
end
end Att
namespace L2
open PySem PySem.Spec PyProof.Rows
theorem Ro:∀{vs:List Value} {ns:List Int},IntsAre vs ns->AG (ns.map V.int) vs
 | _,_,.nil=>.nil
 | _,_,.cons n t h=>.cons ⟨t,rfl⟩ (Ro h)
def Only (H:Hp):Prop:=∀b,H b=none\/∃o xs,H b=some (.DZ o (.lst xs))
theorem Ak0 {P:Program}{w:World}{K:PySem.W.Frag}{mg mb:Str->Option Value}{CX:IV}{k:Nat}{fa a:Addr}{fd:FuncData}{x:Str}{sp:Sp}{I:Shared}{vs:List Value}{ns:List Int}
  (KX:K.In I.heap)(a1:I.heap.Ns mainGlobals mg)(hb:I.heap.Ns builtinsNs mb)(a5:∀x:Str,x≠"__name__"->mb x=bootBuiltins x)(a8:I.heap.NoLimit)(hg:I.gens=#[])
  (ha:I.heap.get? a=some {cls:=.type "list",data:=.seq vs.toArray})(hi:IntsAre vs ns)(hl:ns.length<=sizeLine)(hr:BB k callerA)
  (F:∀base:Heap,K.In base->base.Ns mainGlobals mg->AI P w K mg base CX k fa fd [x] sp)(aB:∀(s:Shared) (u:Value),BindsTo s fd ⟨[u],[]⟩ [(x,u)])
  (a6:∀H:Hp,Only H->AW K H a (ns.map V.int)->sp [.ref a] H (λv _=>v=.bl true) λ_ _ _=>False)
  (a4:∀H e s',CX [] H I (λ_ _ _=>False) e s'->False) :
  codeAny (model P w) callerA (.call (.ref fa) ⟨[.ref a],[]⟩) (λr s'=>r=.ok (.ret (.bool true))/\OldK I.heap s'.heap/\s'.os=I.os/\AllBare s'.gens) I:=by
 have rv:=Ro hi;have aA:=hi.length;have a2:∀H:Hp,Only H->AW K H a (ns.map V.int)->CL P w H I.heap->(∀b,H b≠none->b=a)->(H a≠none->K.lookup a=none) ->
   codeAny (model P w) callerA (.call (.ref fa) ⟨[.ref a],[]⟩) (λr s'=>r=.ok (.ret (.bool true))/\OldK I.heap s'.heap/\s'.os=I.os/\AllBare s'.gens) I:=by
  intro H hO hS AR hA hK;have a3:∀{b:Addr} {o:Obj},I.heap.get? b=some o->H b=none->(Ur I.heap H).get? b=some o:=λe n=>Al4 e n;have a7:∀{b:Addr} {o:Obj} {es:Array DictEntry} {ep:Nat},I.heap.get? b=some o->o.data=.dict es ep->H b=none:=fun {b o es ep} e d=>by
   cases q:H b with
   | none=>rfl
   | some u=>
    have e':b=a:=hA b (by rw[q];simp);subst e';rw[ha]at e;cases e;have d':Data.seq vs.toArray _=Data.dict es ep:=d;cases d'
  have Y:∀{b:Addr} {m:Str->Option Value},I.heap.Ns b m->(Ur I.heap H).Ns b m:=fun {b m} ⟨o,es,ep,e,d,r⟩=>(X8 o es ep (a3 e (a7 e d)) d r)
  have a0:K.In (Ur I.heap H):=λb o e=>a3 (KX b o e) (by
   cases q:H b with
   | none=>rfl
   | some u=>
    have e':b=a:=hA b (by rw[q];simp);subst e'
    rw[hK (by rw[q];simp)]at e;cases e)
  have hM:Mod K mg (Ur I.heap H):=⟨a0,Y a1,(Ar mb (Y hb) a5),let ⟨mc,h1,h2⟩:=a8;(Ar mc (Y h1) h2)⟩;have e0:HA P w K mg (Ur I.heap H) callerA [] I H:=⟨rfl,hM,λb o e=>of_hidT e,OI (Ab2 _ _),trivial,λb hb=>absurd (show b∈([]:List Addr)from hb) (by simp),AR,.of_eq hg⟩;refine NJ ((F _ a0 (Y a1)).run callerA [] I H ⟨[.ref a],[]⟩ [.ref a] [.ref a] _ _ hr e0 (aB I (.ref a)) (.cons rfl .nil) (a6 H hO hS)) λr s' h=>?_
  cases r with
  | error e=>exact(a4 H e s' h).elim
  | ok fl=>
   cases fl with
   | next=>exact False.elim h
   | brk=>exact False.elim h
   | cont=>exact False.elim h
   | ret u=>
    refine Mg h λv H' os bare un a9 r' q=>?_;have q':v=.bl true:=q;subst q';obtain rfl:u=Value.bool true:=r';refine C6 rfl (OldK.of_keep λb o e=>?_) os bare
    cases q:H b with
    | none=>exact un.keep b o e q (by intro z;exact absurd (show b∈([]:List Addr)from z) (by simp)) (by simp)
    | some u=>
     rcases hO b with z|⟨ob,xs,z⟩
     .rw [q]at z;cases z
     .have z2:=un.DS b ob _ z;obtain⟨e1,_⟩:=AR b _ z;obtain⟨e2,_⟩:=a9 b _ z2;rw[e]at e1;cases e1;exact e2
 cases hk:K.lookup a with
 | some o=>
  have e:=KX a o hk;rw[ha]at e;cases e;refine a2 (λ_=>none) (λ_=>.inl rfl) (.inr (Kh _ vs.toArray _ hk rfl rfl rfl (by rw[JQ,aA];exact hl) (by simpa using rv))) (λb u z=>by have O:(none:Option HO)=some u:=z;cases O) (λb z=>absurd rfl z) λz=>absurd rfl z
 | none=>
  refine a2 (λb=>if b=a then some (.DZ {cls:=.type "list",data:=.seq vs.toArray} (.lst (ns.map V.int)))else none) (λb=>?_) (.inl (.inr ⟨{cls:=.type "list",data:=.seq vs.toArray},JN rfl⟩)) (λb u z=>?_) (λb z=>?_) λ_=>hk
  .by_cases hb:b=a
   .exact .inr (L7 (JN hb))
   .exact .inl (JP hb)
  .by_cases hb:b=a
   .have O:=(JN hb).symm.trans z;cases O;subst hb;exact Bc ha (by rw[JB];exact hl) (Ck vs _ rv ha)
   .have O:=(JP hb).symm.trans z;cases O
  .by_cases hb:b=a
   .exact hb
   .exact absurd (JP hb) z
theorem walk_of {l:PySem.W.OpenLaw}{n k:Nat}{q:Program}{a9:List Str}{XP:(Str->Option Value)->Heap->Prop}{Y:World->Heap->Prop}{d:DefRec}{K:Params->PySem.W.Frag}{CX:World->IV}{sp:World->Sp}{x:Str}
   (hn:l.most=some n)(a5:n<=sizeLine)(a3:d.params.defaults=[])(hr:BB k callerA)
   (hY:∀(w:World) (h:Heap),Y w h->(K w.params).In h)
   (F:∀(w:World) (mg:Str->Option Value) (I:Addr) (h:Heap),(K w.params).In h->h.Ns mainGlobals mg->mg d.name=some (.ref I) ->
     ∃fd:FuncData,(∀(s:Shared) (u:Value),BindsTo s fd ⟨[u],[]⟩ [(x,u)]) /\
       ∀base:Heap,(K w.params).In base->base.Ns mainGlobals mg->AI l.prog w (K w.params) mg base (CX w) k I fd [x] (sp w))
   (a6:∀(w:World) (H:Hp) (a:Addr) (ns:List Int),ns.length<=n->Only H->AW (K w.params) H a (ns.map V.int)->sp w [.ref a] H (λv _=>v=.bl true) λ_ _ _=>False)
   (a2:∀(w:World) (H:Hp) (s:Shared) (e:Value) (s':Shared),CX w [] H s (λ_ _ _=>False) e s'->False) :
   PySem.W.WalkO q a9 XP Y l.row.toRowW d [] (λf vs=>PySem.call f vs):=by
 refine Att.HK hn a3 λw s₀ s₁ mg mb I o pm cd doc a vs ns G a1 ho hd aA a4 a7 a8 a0 hg=>?_;have O:=hY w _ a1;refine Am (F w mg I _ O G.T.g a4) λfd hb hF=>Ak0 O G.T.g G.T.b G.T.builtins G.T.nolimit hg a7 a8 (JY a0 a5) hr hF hb (λH hO hS=>a6 w H a ns a0 hO hS) λH e s'=>a2 w H s₁ e s'
def inClass (s:Stmt)(j:Nat):Stmt:=match s with
 | .ClassDef _ _ _ I _ _ _ _ _ _ _=>I.getD j (.Pass ⟨0,0,0,0⟩)
 | _=>.Pass ⟨0,0,0,0⟩
def Dk (s:Stmt):Arguments:=match s with
 | .FunctionDef _ a _ _ _ _ _ _ _ _=>a
 | _=>{posonlyargs:=[],args:=[],vararg:=none,kwonlyargs:=[],kw_defaults:=[],kwarg:=none,defaults:=[]}
def Cn (s:Stmt):List Stmt:=match s with
 | .FunctionDef _ _ b _ _ _ _ _ _ _=>b
 | _=>[]
def Aq (s:Stmt):Scope:=match s with
 | .FunctionDef _ _ _ _ _ _ sc _ _ _=>sc
 | _=>{kind:=.function,names:=[],isGenerator:=false,isCoroutine:=false}
abbrev BV:IV:=λ_ _ _ _ _ _=>False
abbrev E0:XK:=λ_ _ _=>False
theorem pass0:Fx BV X E0:=λ_ _ _ _ _ _ _ h=>h.elim
structure BE (K:PySem.W.Frag)(x qual:Str)(st:Stmt)(f:Addr)(fd:FuncData):Prop where
 ex:∃(oc:Value) (od:Option Addr) (kV doc pm:Value) (an:Option Addr) (cdv ct:Value) (osl:Array (Option Value)),
  fd=PySem.W.fnOf x qual (Dk st) (Cn st) (Aq st) .none kV doc pm an cdv ct/\K.lookup f=some ⟨oc,od,.func fd,osl⟩/\PySem.W.codeIn K cdv qual=true
 kp:PySem.W.keepIn K (.ref f)=true
section
variable {P:Program}{w:World}{K:PySem.W.Frag}{mg:Str->Option Value}{base:Heap}
theorem BE.ok {x qual:Str}{st:Stmt}{f:Addr}{fd:FuncData}{N ps:List Str}{k:Nat}{sp:Sp}(F:BE K x qual st f fd)(S:AD N ps (Aq st))(len:∀vs H Q E,sp vs H Q E->vs.length=ps.length)
   (a1:∀(cdv:Value) (A:Around) (outer:List Env) (s:Shared) (H:Hp) (vs:List V) (Q:VK) (E:XK),BB k (A.deeper (envOfC qual (Aq st) s.heap.objs.size f cdv))->sp vs H Q E ->
     ∃t,IH (Nl BV P w K mg base N qual (Aq st) f cdv A outer s H E).nox (Cn st) t/\t {nx:=λ_ H'=>Q .BO H',rt:=Q} (start N vs) H):AI P w K mg base BV (k+1) f fd ps sp:=by
 refine Dp F.ex λoc od kV doc pm an I=>?_;refine Gz I λcdv ct osl O lk Y=>?_;subst O;refine fn_of lk Y S len λA outer s H vs Q E hr a0=>Am (a1 cdv A outer s H vs Q E hr a0) λt h q=>Ar t h.nox q
theorem BE.binds {x qual:Str}{st:Stmt}{f:Addr}{fd:FuncData}{ps:List Str}(F:BE K x qual st f fd)
  (h:∀(kV doc pm:Value) (an:Option Addr) (cdv ct:Value) (us:List Value),us.length=ps.length->bindArgs (PySem.W.fnOf x qual (Dk st) (Cn st) (Aq st) .none kV doc pm an cdv ct) ⟨us,[]⟩=pure (ps.zip us)):Binds K fd ps []:=by
 refine Dp F.ex λoc od kV doc pm an I=>?_;refine Gz I λcdv ct osl O lk Y=>?_;subst O;exact .all (h kV doc pm an cdv ct)
theorem F5 {x qual:Str}{st:Stmt}{f:Addr}{oc:Value}{od an:Option Addr}{osl:Array (Option Value)}{kV doc pm cdv ct:Value}(l:K.lookup f=some ⟨oc,od,.func (PySem.W.fnOf x qual (Dk st) (Cn st) (Aq st) .none kV doc pm an cdv ct),osl⟩)
  (c:PySem.W.codeIn K cdv qual=true)(k:PySem.W.keepIn K (.ref f)=true):BE K x qual st f (PySem.W.fnOf x qual (Dk st) (Cn st) (Aq st) .none kV doc pm an cdv ct):=⟨(Ct oc od kV doc pm an (X8 cdv ct osl rfl l c)),k⟩
end
theorem Dn (hr:BB k A):A.units+1<cLine:=KS (Nat.add_le_add_left (by decide:1<=64) _) hr.units
section
theorem pv (i:Nat)(I:X.N[i]?=some x:=by rfl)(O:Vis X.env.scope x:=by first|exact Or.inl rfl|exact Or.inr (Or.inl rfl)|exact Or.inr (Or.inr rfl))(hd:(x==("__debug__":Str))=false:=by decide)
  (Y:(x==("__classdict__":Str))=false:=by decide):PE X (.Name x pos) (Zz i):=Ah5 I O hd Y
end
theorem G6 {A B:Prop}(h:B):if false=true then A else B:=by
 rw[JP KQ];exact h
theorem Ht {A B:Prop}(h:A):if true=true then A else B:=by
 rw[JN rfl];exact h
theorem Bw {c A B:Prop}[Decidable c](h1:c->A)(h2:¬c->B):if c then A else B:=by
 by_cases h:c
 .rw [JN h];exact h1 h
 .rw [JP h];exact h2 h
def AA (H H':Hp):Prop:=∀b o,H b=some o->H' b=some o
theorem AA.refl (H:Hp):AA H H:=λ_ _ h=>h
theorem AA.trans (a:AA H H1)(b:AA H1 H2):AA H H2:=λc o h=>b c o (a c o h)
theorem AA.free (e:AA H H')(h:H' l=Option.none):H l=Option.none:=by
 cases q:H l with
 | none=>rfl
 | some o=>
  rw[e l o q]at h;cases h
theorem AA.seq {K:PySem.W.Frag}{H H':Hp}{a:Addr}{xs:List V}(e:AA H H')(h:AW K H a xs):AW K H' a xs:=by
 rcases h with(h|⟨o,h⟩)|h
 .exact .inl (.inl (e _ _ h))
 .exact .inl (.inr ⟨o,e _ _ h⟩)
 .exact .inr h
section
variable {R:Result->Shared->Prop}
theorem Uu (I:Nat->Shared->Prop)
   (a6:∀n s,I n s->wpAny (model prog w) A (pyNext it) (λr O=>match r with
     | none=>R (.ok .next) O
     | some v=>wpAny (model prog w) A (letOwnedTupleGo a0 it v) (λ_ a4=>wpAny (model prog w) A (assign a0 env v) (λ_ s₂=>
         wpAny (model prog w) A (forIn a3 true λc r=>if r=true then do let ok ← isTrue c env (eval c env);pure (ForInStep.yield ok)else pure (ForInStep.yield r)) (λok Y=>
           if ok=true then wpAny (model prog w) A (eval a2 env) (λx s₄=>
             wpAny (model prog w) A (call (.builtin "list.append") [a1,x]) (λ_ s₅=>∃m,m<n/\I m s₅) (λ_ _=>False) s₄) (λ_ _=>False) Y
           else ∃m,m<n/\I m Y) (λ_ _=>False) s₂) (λ_ _=>False) a4) (λ_ _=>False) O) (λ_ _=>False) s)
   (n:Nat)(h:I n s) :
   codeAny (model prog w) A (.compLoop (.ListComp a2 [⟨a0,iter,a3,0⟩] scope pos) 0 it a1 env) R s:=by
 have nv:∀{α:Type} {t:Sem α} {Q:α->Shared->Prop} {E':Value->Shared->Prop} {s':Shared},wpAny (model prog w) A t Q (λ_ _=>False) s'->wpAny (model prog w) A t Q E' s':=
   λh=>MY h (λ_ _ q=>q) λ_ _ z=>z.elim
 refine codeAny_loop rfl I (λn s hI=>?_) n h
 show wpAny _ A ((compTurn (.ListComp a2 [⟨a0,iter,a3,0⟩] scope pos) 0 it a1 env).onRaise (λx=>do noteFrame x env;theTreesLotGoes x)) _ _ s
 refine wpAny_noted (nv ?_);rw[compTurn_list];refine JA (wpAny_standAt (JA (AV (a6 n s hI) (λr O h₁=>?_))))
 cases r with
 | none=>exact JF h₁
 | some v=>
   refine JA (AV h₁ (λ_ a4 a5=>JA (AV a5 (λ_ s₂ h₂=>JA (AV h₂ (λok Y h₃=>?_))))))
   cases ok with
   | false=>exact JF ⟨rfl,h₃⟩
   | true=>
     exact JA (JA (AV h₃ (λx s₄ h₄=>JA (AV h₄ (λ_ s₅ h₅=>JF (JF ⟨rfl,h₅⟩))))))
end
noncomputable def CB (X:Cx)(N':List Str)(scope:Scope)(cl:List (Str×Addr))(I:Shared)(H3:Hp)(ex:List Addr):Cx where
 prog:=X.prog
 w:=X.w
 K:=X.K
 mg:=X.mg
 base:=X.base
 A:=X.A
 N:=N'
 s₀:=I
 H₀:=H3
 env:=compEnvC scope cl I.heap.objs.size X.env
 outer:=X.stack
 stack:=X.stack
 ex:=ex
 fn:=λ_=>false
 calm:=X.calm
 pn:=[]
 xe:=λ_ _=>False
noncomputable def Jq (n:Nat)(js:List Nat)(σ:St):St:=List.replicate n none++js.map λj=>(σ[j]?).join
structure At (X:Cx)(scope:Scope)(cl:List (Str×Addr))(N':List Str)(n:Nat)(js:List Nat):Prop where
 HN:closureFor scope X.env=pure cl
 kind:scope.kind=.function
 HB:∀y∈scope.names,y.2≠.cell
 names:∀y∈scope.names,y.2=.local->scope.names.lookup y.1=some .local
 len:N'.length=n+js.length
 sub:∀x c,cl.lookup x=some c->X.env.cells.lookup x=some c
 has:∀x,scope.names.lookup x=some .free->∃c,cl.lookup x=some c
 cap:∀k j,js[k]?=some j->∃x,N'[n+k]?=some x/\X.N[j]?=some x/\scope.names.lookup x=some .free/\(X.env.kindOf x=some .cell\/X.env.kindOf x=some .free)
theorem Gs {env:Env}:∀{names:List (Str×NameKind)} {x:Str} {k:NameKind},(∀y∈names,y.2≠.cell) ->
  (names.map λ(n,k)=>if(k==NameKind.free&&env.scope.kind==.function&&env.kindOf n==some .cell)then(n,NameKind.cell)else(n,k)).lookup x=some k->k=.cell\/k=.free->names.lookup x=some .free
 | [],_,_,_,h,_=>by simp at h
 | (n,k')::r,x,k,O,h,hk=>by
  have Y:=@Gs env r x k (λy hy=>O y (JE _ hy));have h':List.lookup x ((if(k'==NameKind.free&&env.scope.kind==.function&&env.kindOf n==some .cell)=true then(n,NameKind.cell)else(n,k'))::(r.map λ(n,k)=>if(k==NameKind.free&&env.scope.kind==.function&&env.kindOf n==some .cell)then(n,NameKind.cell)else(n,k)))=some k:=h;have hn:k'≠.cell:=O (n,k') JJ;by_cases I:(k'==NameKind.free&&env.scope.kind==.function&&env.kindOf n==some .cell)=true
  .rw [JN I]at h';have hf:k'=.free:=by
    simp only[JW,PK]at I;exact I.1.1
   subst hf
   cases hx:x==n with
   | true=>simp[MO,hx]
   | false=>
    simp only[MO,hx]at h' ⊢;exact Y h' hk
  .rw [JP I]at h'
   cases hx:x==n with
   | true=>
    simp only[MO,hx,Option.some.injEq]at h' ⊢;subst h'
    rcases hk with z|z
    .exact absurd z hn
    .exact z
   | false=>
    simp only[MO,hx]at h' ⊢;exact Y h' hk
section
theorem At.inner (c:At X scope cl N' n js)(h:(compEnvC scope cl 0 X.env).kindOf x=some .cell\/(compEnvC scope cl 0 X.env).kindOf x=some .free) :
  scope.names.lookup x=some .free:=by
 rcases h with h|h
 .exact Gs c.HB h (.inl rfl)
 .exact Gs c.HB h (.inr rfl)
theorem F9 {env:Env}:∀{names:List (Str×NameKind)} {x:Str},names.lookup x=some .free ->
  (names.map λ(n,k)=>if(k==NameKind.free&&env.scope.kind==.function&&env.kindOf n==some .cell)then(n,NameKind.cell)else(n,k)).lookup x=some .cell \/
  (names.map λ(n,k)=>if(k==NameKind.free&&env.scope.kind==.function&&env.kindOf n==some .cell)then(n,NameKind.cell)else(n,k)).lookup x=some .free
 | [],_,h=>by simp at h
 | (n,k)::r,x,h=>by
  have I:=@F9 env r x
  show List.lookup x ((if(k==NameKind.free&&env.scope.kind==.function&&env.kindOf n==some .cell)=true then(n,NameKind.cell)else(n,k))::_)=_\/List.lookup x ((if(k==NameKind.free&&env.scope.kind==.function&&env.kindOf n==some .cell)=true then(n,NameKind.cell)else(n,k))::_)=_
  cases hx:x==n with
  | true=>
   simp only[MO,hx,Option.some.injEq]at h;subst h;split<;>simp[MO,hx]
  | false=>
   simp only[MO,hx]at h;split<;>(simp only[MO,hx];exact I h)
theorem Vy (c:At X scope cl N' n js)(I:Inv X pins σ H s)
  (f:∀b∈fp,Jr X pins H b)(fo:∀b∈fp,b<s.heap.objs.size)(a0:∃m,h₁.Ns s.heap.objs.size m)(hk:∀b o,s.heap.get? b=some o->h₁.get? b=some o) :
  Inv (CB X N' scope cl s H fp) [] (Jq n js σ) H {s with heap:=h₁,toks:=tk}:=by
 obtain⟨m,a0⟩:=a0
 refine⟨⟨I.ok.mod,c.kind,I.ok.glob,I.ok.blt,JG _,λx y a h1 h2=>I.ok.inj x y a (c.sub x a h1) (c.sub y a h2),λx hx=>c.has x (c.inner hx),λx a h=>(nomatch h),I.ok.hd,I.ok.frames,.inl rfl,
  λb hb=>⟨KC (fo b hb),λx a h=>(f b hb).2.2.2.2.1 x a (c.sub x a h)⟩,I.bs,JY I.ok.IS I.sz,λb o e hb=>?_,λb hb z=>?_,I.stack,I.FP⟩,
  rfl,I.bare,Un.kept hk,(Ar m a0 λi x v h1 h2 h3=>?_),λx a h=>?_,I.AR.fresh (JG _),λx a h=>I.BZ x a (c.sub x a h),λp hp=>absurd (show p∈([]:List (Addr×Obj))from hp) (by simp),I.AR.kept hk,?_⟩
 .rcases (f b hb).2.2.2.1 with z|z
  .exact I.ok.HL b o e z
  .exact absurd (KA (JK e) (JY I.ok.IS z)) (MJ _)
 .rcases JC.mp (I.GW b z)with q|q
  .exact (f b hb).2.1 q
  .exact (f b hb).2.2.1 q
 . -- a captured name
  unfold Jq at h2;by_cases hi:i<n
  .rw [List.getElem?_append_left (by simpa using hi),List.getElem?_replicate]at h2;rw[JN hi]at h2;cases h2
  .rw [List.getElem?_append_right (by simpa using hi),MA,KH]at h2
   cases e:js[i-n]? with
   | none=>rw[e]at h2;cases h2
   | some j=>
    rw[e]at h2;have O:(σ[j]?).join=some v:=KR h2;have hj:σ[j]?=some (some v):=by
     cases q:σ[j]? with
     | none=>rw[q]at O;cases O
     | some o=>rw[q]at O;exact LB some O
    refine Q1 (c.cap (i-n) j e) λy e1 e2 e3 e4=>?_;have a3:n+(i-n)=i:=by omega
    rw[a3]at e1;have a2:N'[i]?=some x:=h1;rw[e1]at a2;cases a2;refine Am I.loc λm0 a6 a4=>?_;have a5:Vis X.env.scope x:=by
     rcases e4 with z|z
     .exact .inr (.inl z)
     .exact .inr (.inr z)
    refine Am (a4 j x v e2 hj a5) λu r l=>Ar u r (.inr ⟨?_,?_⟩)
    .exact F9 (env:=X.env) e3
    .rcases l with⟨k,_⟩|⟨_,a,ea,ha⟩
     .rcases e4 with z|z
      .rw [z]at k;cases k
      .rw [z]at k;cases k
     .obtain⟨a',a1⟩:=c.has x e3;have:=c.sub x a' a1;rw[ea]at this;cases this;refine Ar a a1 (Am ha λo Y hd=>Ar o (hk _ _ Y) hd)
 .refine Co (I.cell x a (c.sub x a h)) λv o Y hd=>Ck v o (hk _ _ Y) hd
 .show (Jq n js σ).length=N'.length
  unfold Jq;rw[JH,MA,JB,c.len]
theorem Wg (I:Inv X pins σ H s)(f:∀b∈fp,Jr X pins H b)
  (J:Inv (CB X N' scope cl s H fp) [] σ' H' s'):Inv X pins σ H' s':=
 I.HI (ch:=fp) J.os J.base J.AR J.bare λb hb=>(C6 ((f b hb).2.2.2.1) ((f b hb).2.1) ((f b hb).2.2.2.2.1) ((f b hb).2.2.2.2.2))
theorem Ku (I:Inv X pins σ H s)(J:Inv X pins σ' H' s')(O:H' s.heap.objs.size=none)(hs:Heap.SameBut s.heap.objs.size s'.heap h'):Inv X pins σ' H' {s' with heap:=h'}:=by
 refine J.turned (t':=s'.toks) (λb o hb e=>(hs.2 b hb).trans e) O (LS I.lt) (.inr I.sz) (λx c e z=>?_) λp Y z=>?_
 .obtain⟨v,q⟩:=I.cell x c e;exact absurd q.lt (by rw[z];exact MJ _)
 .exact absurd (JK (I.pin p Y).1) (by rw[z];exact MJ _)
end
def PTS (X:Cx)(I:List Expr)(tt:TT):Prop:=
 ∀(pins:List (Addr×Obj)) (s:Shared) (σ:St) (H:Hp) (Q:Bool->Hp->Prop),Inv X pins σ H s->tt σ H Q ->
  wpAny (model X.prog X.w) X.A (forIn I true λc r=>if r=true then do let ok ← isTrue c X.env (eval c X.env);pure (ForInStep.yield ok)else pure (ForInStep.yield r)) (TP X pins σ Q) X.xe s
def tYes:TT:=λ_ H Q=>Q true H
theorem Ap6:PTS X [] tYes:=λ_ _ _ H _ I h=>wpAny_tests_nil (Ar H I h)
theorem Ap5 (h:PT X c tt):PTS X [c] tt:=λpins s σ H Q I q=>wpAny_tests_one (h pins s σ H Q I q)
def Yi (κ:St->St)(wi:TI)(g:TG)(tt:TT)(te:TE):TE:=λσ H Q=>wi σ H λJ H1=>∀D,H1 D=none->∃W:Nat->Nat->St->Hp->Prop,(∃m,W 0 m (κ σ) (upd H1 D (.lst [])))/\∀i m σ' H',W i m σ' H' ->
 (J.stop i H'/\Q (.ref D) H')\/(J.go i H'/\∃(Ay:V->St->Hp->Prop) (An:St->Hp->Prop),(∀y σ3 O,Ay y σ3 O->∃ys,O D=some (.lst ys)/\ys.length<sizeLine/\∃Y,Y<m/\W (i+1) Y σ3 (upd O D (.lst (ys++[y]))))/\(∀σ3 I,An σ3 I->∃Y,Y<m/\W (i+1) Y σ3 I) /\
   ∀x H2,J.FY i H' x H2->g x σ' H2 λσ3 H3=>tt σ3 H3 λok I=>if ok=true then te σ3 I (λy O=>Ay y σ3 O)else An σ3 I)
section
theorem Wf {E:Value->Shared->Prop}
   {RR:Value->Addr->Result->Shared->Prop}{tn:Nat->Heap->Prop}{W:Addr->Nat->Nat->St->Hp->Prop}{Fi:Addr->Hp->Prop}
   (c:At X scope cl N' n js)(hc:X.calm=true)
   (aJ:∀I H3 fp,PG (CB X N' scope cl I H3 fp) tg g/\PTS (CB X N' scope cl I H3 fp) a8 tt/\PE (CB X N' scope cl I H3 fp) a6 te)
   (a2:Inv X pins σ H s)(T:Turn X.prog X.w X.K tg J fp it tn)(st:tn 0 s.heap)(f:∀b∈fp,Jr X pins H b)
   (w0:∀D,H D=none->∃m,W D 0 m (Jq n js σ) (upd H D (.lst [])))
   (aW:∀D,H D=none->∀i m σ' H',W D i m σ' H'->(J.stop i H'/\Fi D H')\/(J.go i H'/\∃(Ay:V->St->Hp->Prop) (An:St->Hp->Prop),(∀y σ3 Y,Ay y σ3 Y->∃ys,Y D=some (.lst ys)/\ys.length<sizeLine/\∃O,O<m/\W D (i+1) O σ3 (upd Y D (.lst (ys++[y]))))/\(∀σ3 H4,An σ3 H4->∃O,O<m/\W D (i+1) O σ3 H4) /\
     ∀x H2,J.FY i H' x H2->g x σ' H2 λσ3 H3=>tt σ3 H3 λok H4=>if ok=true then te σ3 H4 (λy Y=>Ay y σ3 Y)else An σ3 H4))
   (hR:∀(D:Addr) (I:Shared) (H3 H':Hp) (s':Shared),Inv X pins σ H3 I->Inv X pins σ H' s'->(∃m,s'.heap.Ns I.heap.objs.size m)->H' I.heap.objs.size=none->Fi D H'->RR (.ref D) I.heap.objs.size (.ok .next) s') :
   wpAny (model X.prog X.w) X.A (newList []) (λa4 s₃=>wpAny (model X.prog X.w) X.A (newFunctionEnv scope X.env.globals cl [] X.env.qual none .none (some X.env)) (λaB s₄=>
     codeAny (model X.prog X.w) X.A (.compStart (.ListComp a6 [⟨tg,iter,a8,0⟩] scope pos) 0 (.ref it) a4 {aB with scope:=relabel scope X.env}) (RR a4 aB.locals) s₄) E s₃) E s:=by
 have hD:H s.heap.objs.size=none:=a2.fresh;have I3:=a2.lnew (ys:=[]) (its:=[]) (t':=s.toks) .nil (KY _);refine LH ?_;have f3:∀b∈fp,Jr X pins (upd H s.heap.objs.size (.lst [])) b:=λb hb=>by
   refine Am (T.obj _ _ st b hb) λo e _=>?_;exact⟨by rw[Ak (KC (JK e))];exact(f b hb).1,(f b hb).2⟩
 generalize aM:({s with heap:=s.heap.push {cls:=.type "list",data:=.seq ([]:List Value).toArray},toks:=s.toks}:Shared)=I at I3;have aI:s.heap.push {cls:=.type "list",data:=.seq ([]:List Value).toArray}=I.heap:=by rw[← aM]
 have k3:∀b o,s.heap.get? b=some o->I.heap.get? b=some o:=λb o e=>by rw[← aI];exact JD _ e
 have fo:∀b∈fp,b<I.heap.objs.size:=λb hb=>by
   refine Am (T.obj _ _ st b hb) λo e _=>JK (k3 b o e)
 refine wpAny_newFunctionEnv c.HB (by intro y hy;simp at hy) (λh₁ aU aV=>?_) c.kind;have k4:∀b o,I.heap.get? b=some o->h₁.get? b=some o:=λb o e=>aV.extBut b o (KC (JK e)) (JD _ e);have I4:=Vy (h₁:=h₁) (tk:=I.toks+([]:List (Str×Value)).length) c I3 f3 fo ⟨_,aU⟩ k4;have a9:tn 0 h₁:=T.keep _ _ _ st λb _ o e=>k4 b o (k3 b o e);have a1:∀{H':Hp},(∀b∈fp,H' b=none)->∀b∈fp,Jr (CB X N' scope cl I (upd H s.heap.objs.size (.lst [])) fp) [] H' b:=λhn b hb=>
   (El (hn b hb) (KC (fo b hb)) (I4.ok.GX b hb) (.inl hb) (λx a h=>(f b hb).2.2.2.2.1 x a (c.sub x a h)) λp hp=>absurd (show p∈([]:List (Addr×Obj))from hp) (by simp))
 refine Bu (aJ I (upd H s.heap.objs.size (.lst [])) fp) λhg aN aH=>?_;have tr:=aW _ hD;have aC:codeAny (model X.prog X.w) X.A (.compLoop (.ListComp a6 [⟨tg,iter,a8,0⟩] scope pos) 0 (.ref it) (.ref s.heap.objs.size) (compEnvC scope cl I.heap.objs.size X.env))
     (RR (.ref s.heap.objs.size) I.heap.objs.size) {I with heap:=h₁,toks:=I.toks+([]:List (Str×Value)).length}:=by
   obtain⟨m0,w0⟩:=w0 _ hD;refine Uu (λm s'=>∃i σ' H',Inv (CB X N' scope cl I (upd H s.heap.objs.size (.lst [])) fp) [] σ' H' s'/\tn i s'.heap/\(∀b∈fp,H' b=none)/\W s.heap.objs.size i m σ' H') ?_ m0 (Ek 0 _ _ I4 a9 (λb hb=>(f3 b hb).1) w0);rintro m s5 ⟨i,σ5,Y,I5,aA,a7,w5⟩;rcases tr i m σ5 Y w5 with⟨stop,qF⟩|⟨go,Ay,An,aG,aF,step⟩
   . refine AV (T.done (CB X N' scope cl I (upd H s.heap.objs.size (.lst [])) fp) rfl rfl rfl hc i [] s5 σ5 Y (λ_ _=>False) I5 (a1 a7) aA stop) λr s6 ⟨hr,I6⟩=>?_;subst hr;refine Am I6.loc λm6 aK _=>hR _ I _ Y s6 I3 (Wg I3 f3 I6) ⟨m6,aK⟩ I6.free qF
   . refine AV (T.item (CB X N' scope cl I (upd H s.heap.objs.size (.lst [])) fp) rfl rfl rfl hc i [] s5 σ5 Y (λ_ _=>False) I5 (a1 a7) aA go) λr s6 ⟨u,hr,h6⟩=>?_;subst hr;refine AV h6 λ_ s7 ⟨x,H7,I7,r7,y7,a0,aE⟩=>?_;have aD:=I7.pinned (a1 aE) (T.obj _ _ a0);refine AV (hg _ s7 σ5 H7 x u _ aD r7 (step x H7 y7)) λ_ s8 ⟨σ8,H8,I8,q8⟩=>AV (aN _ s8 σ8 H8 _ I8 q8) λok s9 ⟨H9,I9,q9⟩=>?_;have back:∀{H':Hp} {s':Shared},Inv (CB X N' scope cl I (upd H s.heap.objs.size (.lst [])) fp) ([]++M8 fp s7.heap) σ8 H' s'->(∃O,O<m/\W s.heap.objs.size (i+1) O σ8 H') ->
         ∃O,O<m/\∃i σ' H',Inv (CB X N' scope cl I (upd H s.heap.objs.size (.lst [])) fp) [] σ' H' s'/\tn i s'.heap/\(∀b∈fp,H' b=none)/\W s.heap.objs.size i O σ' H':=fun {H' s'} J' w'=>by
       obtain⟨O,hm,w'⟩:=w';refine⟨O,hm,i+1,σ8,H',J'.DD,T.keep _ _ _ a0 λb hb o e=>(J'.pin (b,o) (JZ _ (JZ _ (Fr hb e)))).1,λb hb=>(Am (T.obj _ _ a0 b hb) λo e d=>((J'.pin (b,o) (JZ _ (JZ _ (Fr hb e)))).2.1)),w'⟩
     cases ok with
     | false=>
       rw[JP (by decide)]at q9 ⊢;exact back I9 (aF _ _ q9)
     | true=>
       rw[JN rfl]at q9 ⊢;refine AV (aH _ s9 σ8 H9 _ I9 q9) λyv aY ⟨y,aX,a3,aQ,qA⟩=>Bk (aG _ _ _ qA) λys a5 aZ aP=>?_;refine Fg (a3.IA a5) λz z1=>?_;refine A0 z1 λits nn r hl e=>?_;refine OY F.slot_list_append (Ae e rfl) F.entry_list_append (F.args_list_append_2 _ _) (PySem.list_append _ its.toArray nn yv (by rw[JQ];omega)) ⟨e,back (a3.lset (its':=its++[yv]) a5 e (by simp) (r.append (.cons aQ .nil)) ?_) aP⟩;rw[JH,KJ];omega
 exact codeAny_compStart_list aC (T.self _ 0 _ _ _ a9 aC)
theorem pe_comp
   (c:At X scope cl N' n js)(hc:X.calm=true)(hi:PI X tg iter wi)
   (a4:∀s3 H3 fp,PG (CB X N' scope cl s3 H3 fp) tg g/\PTS (CB X N' scope cl s3 H3 fp) a6 tt/\PE (CB X N' scope cl s3 H3 fp) a2 te)
   (hs:∀x,foldedSetIterable iter X.env x=pure x:=by intro _;rfl):PE X (.ListComp a2 [⟨tg,iter,a6,0⟩] scope pos) (Yi (Jq n js) wi g tt te):=by
 intro pins s σ H Q a0 h;rw[eval_ListComp];refine NN (use:=none) rfl hs c.HN c.kind c.names (AV (hi pins s σ H _ a0 h) λv s1 h1=>AV h1 λa9 s2 h2=>?_);obtain⟨it,fp,tn,J,H2,e,I2,T,a7,f2,h2⟩:=h2;subst e;have a3:∃W:Addr->Nat->Nat->St->Hp->Prop,(∀D,H2 D=none->∃m,W D 0 m (Jq n js σ) (upd H2 D (.lst [])))/\∀D,H2 D=none->∀i m σ' H',W D i m σ' H' ->
     (J.stop i H'/\Q (.ref D) H')\/(J.go i H'/\∃(Ay:V->St->Hp->Prop) (An:St->Hp->Prop),(∀y σ3 Y,Ay y σ3 Y->∃ys,Y D=some (.lst ys)/\ys.length<sizeLine/\∃m',m'<m/\W D (i+1) m' σ3 (upd Y D (.lst (ys++[y]))))/\(∀σ3 O,An σ3 O->∃m',m'<m/\W D (i+1) m' σ3 O) /\
       ∀x H2,J.FY i H' x H2->g x σ' H2 λσ3 H3=>tt σ3 H3 λok O=>if ok=true then te σ3 O (λy Y=>Ay y σ3 Y)else An σ3 O):=by
   refine⟨λD=>if I:H2 D=none then(h2 D I).choose else λ_ _ _ _=>False,λD I=>?_,λD I=>?_⟩
   . simp only[I,PL];exact(h2 D I).choose_spec.1
   . simp only[I,PL];exact(h2 D I).choose_spec.2
 refine Am a3 λW w0 a8=>Wf (RR:=λa1 C=>compPost (model X.prog X.w) X.A X.xe none (EP X pins σ Q) a1 C) (Fi:=λD H'=>Q (.ref D) H') (W:=W) c hc a4 I2 T a7 f2 w0 a8 ?_;intro D s3 H3 H' s' I3 I' ⟨m,hn⟩ hC q;exact Ar m hn λh' a5=>(Ao (.ref D) H' (Ku I3 I' hC a5) rfl q)
theorem Aq0
   (hN:X.N.Nodup)(a6:X.N[i0]?=some y)(hx:X.env.scope.names.lookup y=some .local)
   (aA:swapsWith (.ListComp a0 [⟨tg,iter,a1,0⟩] scope pos) (some (.Name y py)) aD.line X.env=pure true)
   (c:At X scope cl N' n js)(hc:X.calm=true)(hi:PI X tg iter wi)
   (a7:∀s3 H3 fp,PG (CB X N' scope cl s3 H3 fp) tg g/\PTS (CB X N' scope cl s3 H3 fp) a1 tt/\PE (CB X N' scope cl s3 H3 fp) a0 te)
   (hs:∀x,foldedSetIterable iter X.env x=pure x:=by intro _;rfl):PS X (.Assign [.Name y py] (.ListComp a0 [⟨tg,iter,a1,0⟩] scope pos) aD) (Sw (Yi (Jq n js) wi g tt te) (Dw i0)):=by
 intro pins s σ H D0 a2 h;rw[exec_Assign_Name_used _ _ _ _ aA];refine JA (wpAny_standAt (JA ?_))
 show wpAny _ X.A (do let _ ← comprehension (.ListComp a0 [⟨tg,iter,a1,0⟩] scope pos) scope X.env _ (newList []) false (eval iter X.env) (some (assign (.Name y py) X.env))) _ _ s
 refine JA (AV (NN (use:=some (assign (.Name y py) X.env)) (Q:=λ_ s'=>SP X pins D0 .next s') rfl hs c.HN c.kind c.names (AV (hi pins s σ H _ a2 h) λv s1 h1=>AV h1 λaF s2 h2=>?_))
   λ_ s' hq=>JF (JF hq))
 obtain⟨it,fp,tn,J,H2,e,I2,T,aB,f2,h2⟩:=h2;subst e;have a5:∃W:Addr->Nat->Nat->St->Hp->Prop,(∀D,H2 D=none->∃m,W D 0 m (Jq n js σ) (upd H2 D (.lst [])))/\∀D,H2 D=none->∀i m σ' H',W D i m σ' H' ->
     (J.stop i H'/\D0.nx (σ.set i0 (some (.ref D))) H')\/(J.go i H'/\∃(Ay:V->St->Hp->Prop) (An:St->Hp->Prop),(∀y σ3 Y,Ay y σ3 Y->∃ys,Y D=some (.lst ys)/\ys.length<sizeLine/\∃m',m'<m/\W D (i+1) m' σ3 (upd Y D (.lst (ys++[y]))))/\(∀σ3 O,An σ3 O->∃m',m'<m/\W D (i+1) m' σ3 O) /\
       ∀x H2,J.FY i H' x H2->g x σ' H2 λσ3 H3=>tt σ3 H3 λok O=>if ok=true then te σ3 O (λy Y=>Ay y σ3 Y)else An σ3 O):=by
   refine⟨λD=>if I:H2 D=none then(h2 D I).choose else λ_ _ _ _=>False,λD I=>?_,λD I=>?_⟩
   . simp only[I,PL];exact(h2 D I).choose_spec.1
   . simp only[I,PL];exact(h2 D I).choose_spec.2
 refine Am a5 λW w0 aE=>Wf (RR:=λa4 C=>compPost (model X.prog X.w) X.A X.xe (some (assign (.Name y py) X.env)) (λ_ s'=>SP X pins D0 .next s') a4 C) (Fi:=λD H'=>D0.nx (σ.set i0 (some (.ref D))) H') (W:=W) c hc a7 I2 T aB f2 w0 aE ?_;intro D s3 H3 H' s' I3 I' ⟨m,hn⟩ hC q
 show wpAny _ _ (assign (.Name y py) X.env (.ref D)) _ _ s'
 refine wpAny_assign_Name (Mp (v:=.ref D) I' hN a6 (.inl hx) rfl (λaG a3 ⟨a,aC,ha⟩=>?_) (.inr hx));have a8:s3.heap.objs.size≠a:=by
   rcases ha with z|z
   . rw[z];exact LS I3.lt
   . intro q;obtain⟨v,w⟩:=I3.cell y a z;exact absurd w.lt (by rw[← q];exact MJ _)
 exact Ar m (hn.sameBut aC a8) λh' a9=>(Ck _ H' (Ku I3 a3 hC a9) q)
end
theorem Inv.IE {X:Cx}{pins:List (Addr×Obj)}{σ:St}{H:Hp}{s:Shared}{h':Heap}{t':Nat}{fp:List Addr}{T:Addr}{xs:List V}{its:List Value}(I:Inv X pins σ H s)(f:∀b∈fp,Jr X pins H b)
  (k:∀b o,b∉fp->s.heap.get? b=some o->h'.get? b=some o)(kt:∀b∈fp,∃o,h'.get? b=some o)(Y:s.heap.objs.size<=T)(hx:xs.length<=sizeLine)(hv:AG xs its)(ht:IsTup h' T its.toArray) :
  Inv X pins σ (upd H T (.tup xs)) {s with heap:=h',toks:=t'}:=by
 have hn:H T=none:=I.AR.fresh Y;have nL:X.env.locals∉fp:=λz=>(f _ z).2.1 rfl;refine I.step (g':=s.gens) (d':=s.drawn) (ch:=fp) (λb hb=>(C6 ((f b hb).2.2.2.1) ((f b hb).2.1) ((f b hb).2.2.2.2.1) ((f b hb).2.2.2.2.2))) (λb o _ _ O e _=>k b o O e) (λb o _ _ O e _=>⟨o.slots,k b o O e⟩)
  (λb o _ e n=>by rw[Ak (KC (KA (JK e) Y))];exact n) (λb o O e=>⟨o,k b o O e⟩)
  (λb ys e=>by rw[Ak (Ah e hn)];exact e) (λb o u e=>by rw[Ak (Ah e hn)];exact e) (λb ps e=>⟨#[],by rw[Ak (Ah e hn),e];simp⟩) (λm hm=>?_) (λb u e=>?_) I.bare
 .refine Gg hm λo es ep ho r=>Mc o es ep (k _ o nL ho) r
 .by_cases hb:b=T
  .subst hb;rw[Aj]at e;cases e;exact⟨hx,(Ar its hv ht)⟩
  .rw [Ak hb]at e;have nf:∀c v,H c=some v->c∉fp:=λc v q z=>by rw[(f c z).1]at q;cases q
   refine(I.AR b u e).EJ (λc v O q=>k c v ?_ q) (λc q=>by rw[Ak (Ah q hn)];exact q) λc ys q=>by rw[Ak (Ah q hn)];exact q
   rcases O with z|z
   .rw [z];exact nf b u e
   .exact nf c _ z
theorem Inv.ID {X:Cx}{pins:List (Addr×Obj)}{σ:St}{H:Hp}{s:Shared}{h':Heap}{t':Nat}{fp:List Addr}(I:Inv X pins σ H s)(f:∀b∈fp,Jr X pins H b)
  (k:∀b o,b∉fp->s.heap.get? b=some o->h'.get? b=some o):Inv X pins σ H {s with heap:=h',toks:=t'}:=by
 have nL:X.env.locals∉fp:=λz=>(f _ z).2.1 rfl;refine I.step (g':=s.gens) (d':=s.drawn) (ch:=fp) (λb hb=>(C6 ((f b hb).2.2.2.1) ((f b hb).2.1) ((f b hb).2.2.2.2.1) ((f b hb).2.2.2.2.2))) (λb o _ _ O e _=>k b o O e) (λb o _ _ O e _=>⟨o.slots,k b o O e⟩)
  (λb o _ e n=>n) (λb o O e=>⟨o,k b o O e⟩) (λb ys e=>e) (λb o u e=>e) (λb ps e=>⟨#[],by rw[e];simp⟩) (λm hm=>?_) (λb u e=>?_) I.bare
 .refine Gg hm λo es ep Y r=>Mc o es ep (k _ o nL Y) r
 .have nf:∀c v,H c=some v->c∉fp:=λc v q z=>by rw[(f c z).1]at q;cases q
  refine(I.AR b u e).EJ (λc v O q=>k c v ?_ q) (λc q=>q) λc ys q=>q
  rcases O with z|z
  .rw [z];exact nf b u e
  .exact nf c _ z
theorem Nm {K:PySem.W.Frag}{a D:Addr}{xs:List V}{g:TG}{tt:TT}{te:TE}{σ0:St}{H1:Hp}{Q:Hp->Prop}(Pv:Nat->List V->St->Hp->Prop)(hx:xs.length<=sizeLine)(hD:H1 D=none)(h0:Pv 0 [] σ0 (upd H1 D (.lst [])))
   (hl:∀i ys σ H,i<=xs.length->Pv i ys σ H->AW K H a xs/\H D=some (.lst ys)/\ys.length<=i)
   (hs:∀i x ys σ H,xs[i]?=some x->Pv i ys σ H->g x σ H λσ3 H3=>tt σ3 H3 λok O=>if ok=true then te σ3 O λy I=>I D=some (.lst ys)/\Pv (i+1) (ys++[y]) σ3 (upd I D (.lst (ys++[y])))else Pv (i+1) ys σ3 O)
   (hd:∀ys σ H,Pv xs.length ys σ H->Q H) :
   ∃W:Nat->Nat->St->Hp->Prop,(∃m,W 0 m σ0 (upd H1 D (.lst [])))/\∀i m σ' H',W i m σ' H' ->
     ((IZ K a).stop i H'/\Q H')\/((IZ K a).go i H'/\∃(Ay:V->St->Hp->Prop) (An:St->Hp->Prop),(∀y σ3 I,Ay y σ3 I->∃ys,I D=some (.lst ys)/\ys.length<sizeLine/\∃Y,Y<m/\W (i+1) Y σ3 (upd I D (.lst (ys++[y])))) /\
       (∀σ3 O,An σ3 O->∃Y,Y<m/\W (i+1) Y σ3 O) /\
       ∀x H2,(IZ K a).FY i H' x H2->g x σ' H2 λσ3 H3=>tt σ3 H3 λok O=>if ok=true then te σ3 O (λy I=>Ay y σ3 I)else An σ3 O):=by
 refine Ar (λi m σ H=>m=xs.length-i/\i<=xs.length/\∃ys,Pv i ys σ H) (B4 xs.length (by simp) (KY _) ⟨[],h0⟩) ?_;rintro i m σ H ⟨rfl,hi,ys,p⟩;refine Bu (hl i ys σ H hi p) λq hy a1=>?_;by_cases a0:i<xs.length
 . refine .inr ⟨(Ck xs (xs[i]) q (by simp[a0])),(Ao (λy σ3 I=>I D=some (.lst ys)/\Pv (i+1) (ys++[y]) σ3 (upd I D (.lst (ys++[y])))) (λσ3 O=>Pv (i+1) ys σ3 O)
     (λy σ3 I ⟨e,p'⟩=>(B4 ys e (by omega) (Cv (xs.length-(i+1)) (by omega) rfl a0 ⟨_,p'⟩))) (λσ3 O p'=>(Cv (xs.length-(i+1)) (by omega) rfl a0 ⟨_,p'⟩)) λx H' y=>?_)⟩
   obtain⟨e,y⟩:=y;subst e;exact hs i x ys σ H' (y xs q) p
 . have:i=xs.length:=by omega
   subst this;exact .inl ⟨(Ar xs q (JG _)),hd ys σ H p⟩
theorem B7:Ex X (.builtin "isinstance") (λxs H Q=>∃x n t b,xs=[x,.ty n]/\FC X.K H x t/\PySem.W.kitOne X.K t (.type n)=some b/\Q (.bl b) H):=by
 intro pins s σ H xs us Q I r h;refine Q0 h λx n t b O ty e q=>?_;subst O;refine A0 (Yf r) λu w' O Y r2=>?_;subst O;cases r2;exact Ab1 I Y ty e λtk=>(Ao (.bl b) H (I.tok _) rfl q)
structure AQ (P:Program)(w:World)(K:PySem.W.Frag)(mg:Str->Option Value)(base:Heap)(k:Nat)(x:Str)(ps:List Str)(sp:Sp):Prop where
 ex:∃f fd,AI P w K mg base BV k f fd ps sp/\mg x=some (.ref f)/\PySem.W.keepIn K (.ref f)=true/\Binds K fd ps []
section
theorem pe_fn (F:AQ X.prog X.w X.K X.mg X.base k x ps sp)(hr:BB k X.A)(hg:Gl X x)(ha:PA X (e::es) t)(I:(x==("__debug__":Str))=false:=by decide)
  (he:starEach (e::es) X.env=(false,eval e X.env)::starEach es X.env:=by rfl)(O:(backTo pos (starEach es X.env)).any (·.1)=false:=by rfl):PE X (.Call (.Name x p) (e::es) [] pos) (Jt sp [] E0 t):=by
 refine Gh F.ex λf fd F hm hk hb=>Yx F hr hg hm hk hb .nil pass0 ha I he O
end
theorem pe_gint (hg:Gl X x)(hm:X.mg x=some (.int i t))(hd:(x==("__debug__":Str))=false:=by decide):PE X (.Name x pos) (tC (.int i)):=Yw (v:=.int i) hg hm ⟨t,rfl⟩ hd
theorem Cp:bootBuiltins "isinstance"=some (.builtin "isinstance"):=by decide +kernel
theorem Vv (K:PySem.W.Frag):PySem.W.kitOne K (.type "int") (.type "int")=some true:=by rfl
theorem Um (K:PySem.W.Frag):PySem.W.kitOne K (.type "int") (.type "bool")=some false:=by rfl
theorem At.nil (k:scope.kind=.function)(I:∀y∈scope.names,y.2≠.cell)(hf:∀y∈scope.names,y.2≠.free)(hn:∀y∈scope.names,y.2=.local->scope.names.lookup y.1=some .local)(hl:N'.length=n) :
  At X scope [] N' n []:=
 ⟨closureFor_none hf,k,I,hn,by simpa using hl,λx c h=>(nomatch h),λx h=>absurd rfl (hf _ (MH h)),λk j h=>(by simp at h)⟩
theorem Am6 {xs:List V}{lo:Option Int}(h:x∈Ec xs lo hi):x∈xs:=MF (MZ h)
theorem AA.upd (e:AA H H1)(h:H1 p=none):AA H (upd H1 p o):=λb u q=>by
 rw[Ak (Ah (e b u q) h)];exact e b u q
theorem atI_all {xs:List Int}{i:Int}{P:Int->Prop}(h:∀x∈xs,P x)(h0:0<=i)(h1:i<xs.length):∃c,EL (xs.map V.int) i=some (V.int c)/\P c:=by
 have hk:i.toNat<xs.length:=by omega
 have e:(xs.map V.int)[i.toNat]?=some (V.int xs[i.toNat]):=by simp[hk]
 have:=Bg e;rw[show((i.toNat:Nat):Int)=i by omega]at this;exact Ae this (h _ (OK hk))
theorem Zm {ns:List Int}{k:Int}(h0:0<=k)(h1:k<ns.length):∃c,EL (ns.map V.int) k=some (V.int c):=by
 refine Am (atI_all (P:=λ_=>True) (xs:=ns) (λ_ _=>trivial) h0 h1) λc h _=>⟨c,h⟩
theorem Z1:∀{xs:List Str} {us:List Value},AG (xs.map V.str) us->∃l:List (Str×Tok),l.map (·.1)=xs/\us=strValues l:=by
 intro xs
 induction xs with
 | nil=>intro us h;cases h;exact Ar [] rfl rfl
 | cons x xs O=>
  intro us h
  cases h with
  | cons r t=>
   obtain⟨tk,rfl⟩:=r;refine Am (O t) λl e1 I=>?_;exact Ar ((x,tk)::l) (by simp[e1]) (by rw[I];rfl)
section
end
theorem Ob (I:Str):∀ts:List Str,(Str.join I ts).length<=(ts.map (·.length)).sum+ts.length*I.length
 | []=>KY _
 | [x]=>by simp[Str.join]
 | x::y::r=>by
  have O:=Ob I (y::r);have e:Str.join I (x::y::r)=x++I++Str.join I (y::r):=rfl;rw[e,Str.length_append,Str.length_append];simp only[JX,List.sum_cons,JR,Nat.succ_mul]at O ⊢;omega
section
theorem mt_join:MtR X "str.join" (λx xs H Q=>∃O a ts,x=.str O/\xs=[.ref a]/\AW X.K H a (ts.map V.str)/\(ts.map (·.length)).sum+ts.length*O.length<=16000000/\Q (.str (Str.join O ts)) H):=by
 intro pins s σ H x xs v us Q I rx rv h;refine Kz h λO a ts Y z2 ha hz q=>?_;subst Y z2;obtain⟨t,rfl⟩:=rx;refine Am rv.one λu Y r1=>?_;subst Y;cases r1;refine Bk (I.list ha) λits r pl _=>Am (Z1 r) λl e1 e2=>?_;subst e2;have hg:Builtin.Str.glued O (l.map (·.1))=Str.join O ts:=by rw[e1];exact StrLaws.glued_eq_join O ts
 have a0:Builtin.Str.tooLong ((l.map (·.1)).toArray.foldl (λa p=>a+p.length+O.length) 0)=false:=by
  rw[StrLaws.joinTotal,e1];unfold Builtin.Str.tooLong;exact LC (by rw[KU];omega)
 refine OY F.slot_str_join (typeIs_str _ _ _) F.entry_str_join (F.args_str_join_2 _ _) (meets_str_join_list O t a l a0) ⟨pl.isList,?_⟩;have a1:=Ob O ts;have hsz:(Str.join O ts).length<=sizeLine:=by rw[KU];omega
 cases l with
 | nil=>
  show(Made.str (Builtin.Str.glued O [])).post _ s
  have e:Builtin.Str.glued O []=Str.join O ts:=hg;rw[e];exact⟨hsz,(Ao (.str _) H (I.tok _) ⟨_,rfl⟩ q)⟩
 | cons p r2=>
  cases r2 with
  | nil=>
   have e:p.1=Str.join O ts:=by rw[← e1];rfl
   exact Ao (.str _) H I ⟨p.2,by rw[← e]⟩ q
  | cons p2 r3=>
   show(Made.str (Builtin.Str.glued O ((p::p2::r3).map (·.1)))).post _ s
   rw[hg];exact⟨hsz,(Ao (.str _) H (I.tok _) ⟨_,rfl⟩ q)⟩
theorem Rv:CV X (compareOp .LtE) (λx y H Q=>∃i j,x=.str i/\y=.str j/\Q (.bl (!decide (j.cps.toList<i.cps.toList))) H):=by
 intro pins s σ H x y v u Q I O Y h;refine A0 h λi j z1 z2 q=>?_;subst z1 z2;obtain⟨t,rfl⟩:=O;obtain⟨t',rfl⟩:=Y;exact PySem.P.le_str (Ao (.bl _) H I rfl q)
def rSlS:V->Option Int->Option Int->Hp->VK->Prop:=λx lo hi H Q=>∃z,x=.str z/\z.length<=sizeLine/\Q (.str (Txt.slice z lo hi)) H
theorem Ae8:SlR X rSlS:=by
 intro pins s σ H x v vl vu lo hi sl Q a0 rx hs pl Y h;refine Bk h λz z1 I q=>?_;subst z1;obtain⟨t,rfl⟩:=rx;refine Ao "str" _ F.slot_str_getitem.lookup (typeIs_str _ _ _) ?_;have fin:∀(t':Tok) (k:Nat),EP X pins σ Q (.str (Txt.slice z lo hi) t') {s with toks:=k}:=λt' k=>(Ao (.str _) H (a0.tok _) ⟨_,rfl⟩ q)
 cases pl with
 | none=>
  cases Y with
  | none=>exact NQ (l:=none) (u:=none) (st:=none) hs rfl (post_val_or_str ⟨JY (Txt.slice_le z _ _) I,λt' k=>fin t' k⟩)
  | int j O=>exact NQ (l:=none) (u:=some (j,O)) (st:=none) hs rfl (post_val_or_str ⟨JY (Txt.slice_le z _ _) I,λt' k=>fin t' k⟩)
 | int i ui=>
  cases Y with
  | none=>exact NQ (l:=some (i,ui)) (u:=none) (st:=none) hs rfl (post_val_or_str ⟨JY (Txt.slice_le z _ _) I,λt' k=>fin t' k⟩)
  | int j O=>exact NQ (l:=some (i,ui)) (u:=some (j,O)) (st:=none) hs rfl (post_val_or_str ⟨JY (Txt.slice_le z _ _) I,λt' k=>fin t' k⟩)
end
noncomputable def Its (x:Str):It:=⟨λi _=>i<x.cps.size,λi H v H'=>H'=H/\∃c,x.cps[i]?=some c/\v=.str ⟨#[c]⟩,λi _=>x.cps.size<=i⟩
theorem Ad4 {P:Program}{w:World}{K:PySem.W.Frag}(it:Addr)(x:Str)(t:Tok):Turn P w K (.Name n pos) (Its x) [it] it (λi h=>h.IsStrIter it "str_ascii_iterator" x t i) where
 mem:=by simp
 obj:=λi h st b hb=>by
  have e:b=it:=by simpa using hb
  subst e;refine Bk st λo e c d=>?_;exact Ar o e λv z=>by rw[d]at z;cases z
 keep:=λi h h' st k=>let ⟨o,ho,r⟩:=st;(Ar o (k it (by simp) o ho) r)
 item:=by
  intro X hP hw hK hc i pins s σ H E I hf st hg;subst hP hw hK;refine G7 (hf it (by simp)) λO Y f2 f3 f4 f5=>?_;have W:=Walks.strAscii (prog:=X.prog) (w:=X.w) (I.ok.hd hc) it x t;refine W.item i s _ _ hg st λv h' tk hv a1 kk=>?_;refine Co hv λc t' a0 z1=>?_;subst z1;have I1:Inv X pins σ H {s with heap:=h',toks:=tk}:=I.turned (λb o hb e=>kk b o (by simpa using hb) e) O Y f3 f4 f5;exact Ae rfl (JF (Jp (.str ⟨#[c]⟩) H I1 ⟨t',rfl⟩ ⟨rfl,(Ar c a0 rfl)⟩ a1 λb hb=>(hf b hb).1))
 done:=by
  intro X hP hw hK hc i pins s σ H E I hf st hg;subst hP hw hK;refine G7 (hf it (by simp)) λO Y f2 f3 f4 f5=>?_;have a2:x.cps.size<=i:=hg;exact wpAny_pyNext_ascii_end (I.ok.hd hc) st (by simp;omega) λh' eb=>⟨rfl,I.turned (t':=s.toks) (λb o hb e=>eb b o hb e) O Y f3 f4 f5⟩
 self:=λ_ _ _ _ _ st h=>wpAny_pyIter_striter_ascii st h
def iStr (tl:TE):TI:=λσ H R=>tl σ H λx H1=>∃z,x=.str z/\z.cps.all (·<128)=true/\R (Its z) H1
theorem pi_str (hl:PE X l tl):PI X (.Name n p) l (iStr tl):=by
 intro pins s σ H R I h;refine AV (hl pins s σ H _ I h) λv s1 ⟨x,H1,O,r1,Y⟩=>Bk Y λz e ha q=>?_;subst e;obtain⟨t,rfl⟩:=r1;refine wpAny_pyIter_ascii ha (Ff s1.heap.objs.size [s1.heap.objs.size] _ _ H1 rfl (O.kept (t':=s1.toks) λb o e=>JD _ e) (Ad4 _ z t) (B0 (JS _ rfl) rfl rfl) (λb hb=>?_) q);have e:b=s1.heap.objs.size:=by simpa using hb
 subst e;exact O.HX (JG _) (O.AR.fresh (JG _))
section
variable {κ:Type}[DecidableEq κ]
noncomputable def Bm (kvs:List (κ×V))(k:κ):Option V:=(kvs.find? λI=>decide (I.1=k)).map (·.2)
noncomputable def putK (kvs:List (κ×V))(k:κ)(v:V):List (κ×V):=
 if(kvs.any λI=>decide (I.1=k))=true then kvs.map (λI=>if I.1=k then(I.1,v)else I)else kvs++[(k,v)]
theorem C7 {p:κ×V}{r:List (κ×V)}{k:κ}(e:p.1=k):Bm (p::r) k=some p.2:=by simp[Bm,OA,e]
theorem C8 {p:κ×V}{r:List (κ×V)}{k:κ}(e:¬p.1=k):Bm (p::r) k=Bm r k:=by simp[Bm,OA,e]
theorem Hw (k:κ):∀kvs:List (κ×V),(kvs.any λI=>decide (I.1=k))=(Bm kvs k).isSome
 | []=>rfl
 | p::r=>by
  rw[NL];by_cases e:p.1=k
  .simp only[C7 e,JO e,Bool.true_or,Option.isSome_some]
  .rw [C8 e,LC e,Bool.false_or];exact Hw k r
theorem U4 (k j:κ)(y:V):∀kvs:List (κ×V),Bm (kvs.map λI=>if I.1=k then(I.1,y)else I) j=(Bm kvs j).map λx=>if j=k then y else x
 | []=>rfl
 | p::r=>by
  have O:=U4 k j y r;rw[JX];by_cases h:p.1=k
  .rw [JN h];by_cases e:p.1=j
   .rw [C7 (p:=(p.1,y)) e,C7 e,Option.map_some,JN (e.symm.trans h)]
   .rw [C8 (p:=(p.1,y)) e,C8 e,O]
  .rw [JP h];by_cases e:p.1=j
   .rw [C7 (p:=p) e,C7 e,Option.map_some,JP (λz=>h (e.trans z))]
   .rw [C8 (p:=p) e,C8 e,O]
theorem Rp (k j:κ)(y:V):∀kvs:List (κ×V),Bm kvs k=none->Bm (kvs++[(k,y)]) j=if j=k then some y else Bm kvs j
 | [],_=>by
  by_cases e:k=j
  .rw [JN e.symm];exact C7 (p:=(k,y)) e
  .rw [JP (λz=>e z.symm)];exact C8 (p:=(k,y)) e
 | p::r,hn=>by
  rw[OL];have hk:¬p.1=k:=λz=>by rw[C7 z]at hn;cases hn
  rw[C8 hk]at hn;have I:=Rp k j y r hn;by_cases e:p.1=j
  .rw [C7 e,C7 e,JP (λz=>hk (e.trans z))]
  .rw [C8 e,C8 e,I]
theorem Bx (kvs:List (κ×V))(k j:κ)(y:V):Bm (putK kvs k y) j=if j=k then some y else Bm kvs j:=by
 unfold putK;by_cases a:(kvs.any λI=>decide (I.1=k))=true
 .rw [JN a,U4];rw[Hw]at a;by_cases e:j=k
  .obtain⟨x,hx⟩:=Option.isSome_iff_exists.mp a;rw[JN e,e,hx,Option.map_some,JN rfl]
  .rw [JP e]
   cases Bm kvs j with
   | none=>rfl
   | some x=>rw[Option.map_some,JP e]
 .rw [JP a];refine Rp k j y kvs ?_;rw[Hw]at a
  cases q:Bm kvs k with
  | none=>rfl
  | some x=>rw[q]at a;exact(a rfl).elim
theorem He (kvs:List (κ×V))(k:κ)(v:V):(putK kvs k v).length<=kvs.length+1:=by
 unfold putK;split
 .rw [JB];omega
 .rw [JH,JR,OV];omega
theorem Ag3 {kvs:List (κ×V)}{k:κ}(v:V)(h:Bm kvs k=none):putK kvs k v=kvs++[(k,v)]:=by
 unfold putK;rw[Hw,h];exact JP (by decide)
theorem EB.CT (r:EB o u):o.isSome=u.isSome:=by
 cases o with
 | none=>cases u with
  | none=>rfl
  | some _=>exact(show False from r).elim
 | some _=>cases u with
  | none=>exact(show False from r).elim
  | some _=>rfl
theorem EB.getD (r:EB o u)(I:RelV d d'):RelV (o.getD d) (u.getD d'):=by
 cases o with
 | none=>cases u with
  | none=>exact I
  | some _=>exact(show False from r).elim
 | some _=>cases u with
  | none=>exact(show False from r).elim
  | some _=>exact r
theorem KV.val (r:KV kvs vs)(k:κ):EB (Bm kvs k) (valueAt vs k):=by
 unfold KV at r
 induction r with
 | nil=>exact True.intro
 | @cons p q ps O h t Y=>
  obtain⟨h1,h2⟩:=h;by_cases e:p.1=k
  .have I:q.1=k:=h1.symm.trans e;have b:valueAt (q::O) k=some q.2:=by simp[valueAt,OA,I]
   rw[C7 e,b];exact h2
  .have I:¬q.1=k:=λz=>e (h1.trans z);have b:valueAt (q::O) k=valueAt O k:=by simp[valueAt,OA,I]
   rw[C8 e,b];exact Y
theorem KV.any (r:KV kvs vs)(k:κ):(kvs.any λI=>decide (I.1=k))=vs.any λI=>decide (I.1=k):=by
 unfold KV at r
 induction r with
 | nil=>rfl
 | cons h t O=>rw[NL,NL,O,h.1]
theorem KV.repl (r:KV kvs vs)(k:κ)(Y:RelV y u) :
  KV (kvs.map λI=>if I.1=k then(I.1,y)else I) (vs.map λI=>if I.1=k then(I.1,u)else I):=by
 unfold KV at r ⊢
 induction r with
 | nil=>exact .nil
 | @cons p q ps qs h t O=>
  rw[JX,JX];refine .cons ?_ O;obtain⟨h1,h2⟩:=h;by_cases e:p.1=k
  .rw [JN e,JN (h1.symm.trans e)];exact⟨h1,Y⟩
  .rw [JP e,JP (λz=>e (h1.trans z))];exact⟨h1,h2⟩
theorem KV.put (r:KV kvs vs)(k:κ)(I:RelV y u):KV (putK kvs k y) (stored vs k u):=by
 unfold putK stored;rw[r.any k];by_cases e:(vs.any λO=>decide (O.1=k))=true
 .rw [JN e,JN e];exact r.repl k I
 .rw [JP e,JP e];exact Paired.snoc r ⟨rfl,I⟩
theorem KV.length {kvs:List (κ×V)}{vs:List (κ×Value)}(r:KV kvs vs):kvs.length=vs.length:=Paired.length r
end
theorem L6 (r:RelV (kV k) u):(Ci P w).is k u=true:=by
 cases k with
 | inl i=>obtain⟨t,e⟩:=(show ∃t,u=Value.int i t from r);subst e;exact Vp P w i t
 | inr x=>obtain⟨t,e⟩:=(show ∃t,u=Value.str x t from r);subst e;exact Vo P w x t
theorem Ry:∀{ks:List Key} {us:List Value},AG (ks.map kV) us->ItemsAre (Ci P w) ks us
 | [],_,r=>by rw[NG]at r;cases r;exact .nil
 | k::ks,_,r=>by
  rw[JX]at r
  cases r with
  | cons h t=>exact .cons (L6 h) (Ry t)
abbrev KT (H:Hp):List (List Key×V)->List (List Key×Addr×Value)->Prop:=Paired λp q=>p.1=q.1/\H q.2.1=some (.tup (p.1.map kV))/\RelV p.2 q.2.2
theorem KT.val (r:KT H kvs xs)(k:List Key):EB (Bm kvs k) ((atKey xs k).map (·.2)):=by
 induction r with
 | nil=>exact True.intro
 | @cons p q ps O h t Y=>
  refine Bu h λh1 _ h2=>?_;by_cases e:p.1=k
  .have I:q.1=k:=h1.symm.trans e;have b:atKey (q::O) k=some q.2:=by simp[atKey,OA,I]
   rw[C7 e,b];exact h2
  .have I:¬q.1=k:=λz=>e (h1.trans z);have b:atKey (q::O) k=atKey O k:=by simp[atKey,OA,I]
   rw[C8 e,b];exact Y
theorem KT.repl (r:KT H kvs xs)(k:List Key)(Y:RelV y u) :
  KT H (kvs.map λI=>if I.1=k then(I.1,y)else I) (xs.map (putAt k u)):=by
 induction r with
 | nil=>exact .nil
 | @cons p q ps qs h t O=>
  rw[JX,JX];refine .cons (Bu h λh1 h2 h3=>?_) O;unfold putAt;by_cases e:p.1=k
  .rw [JN e,JN (h1.symm.trans e)];exact Bc h1 h2 Y
  .rw [JP e,JP (λz=>e (h1.trans z))];exact Bc h1 h2 h3
theorem KT.put (r:KT H kvs xs)(k:List Key)(hb:H b=some (.tup (k.map kV)))(I:RelV y u) :
  KT H (putK kvs k y) (storedH xs k b u):=by
 have e:(kvs.any λO=>decide (O.1=k))=(atKey xs k).isSome:=by
  rw[Hw,(r.val k).CT,Option.isSome_map]
 unfold putK storedH;rw[e];by_cases q:(atKey xs k).isSome=true
 .rw [JN q,JN q];exact r.repl k I
 .rw [JP q,JP q];exact Paired.snoc r (Bc rfl hb I)
theorem KT.keeps (r:KT H kvs xs)(ht:∀b ys,H b=some (.tup ys)->H' b=some (.tup ys)):KT H' kvs xs:=
 Paired.mapP r λ_ _ z=>(Bc z.1 (ht _ _ z.2.1) z.2.2)
section
theorem rd_of (ok:CL P w H h)(e:Rd H a u):AX P w H h a u:=e.ok ok
theorem K7 (ok:CL P w H h)(e:Rd H a (.dK kvs)):kvs.length<=sizeLine/\(a==sysModules)=false/\∃vs,KV kvs vs/\h.DictOf (Ci P w) a vs:=
 show AX P w H h a (.dK kvs)from rd_of ok e
theorem Am0 (ok:CL P w H h)(e:H a=some (.dK kvs)):kvs.length<=sizeLine/\(a==sysModules)=false/\∃vs,KV kvs vs/\h.DictOf (Ci P w) a vs:=K7 ok (.inl e)
theorem Ng (ok:CL P w H h)(e:H a=some (.tup (ks.map kV))):(tupleKind (Ci P w)).is h ks a:=by
 refine Fg ((show AX P w H h a (.tup (ks.map kV))from ok a _ e)) λ_ I=>?_;refine Am I λits r O=>?_;refine Bk O λo h1 h2 Y=>?_;obtain⟨n,h3⟩:=Y;exact Ek o its.toArray n h1 h2 h3 (by simpa using Ry r)
theorem Qv (ok:CL P w H h)(e:Rd H a (.dT kvs)):kvs.length<=sizeLine/\(a==sysModules)=false /\
  ∃xs,KT H kvs xs/\h.DictOfH (tupleKind (Ci P w)) a xs:=by
 refine Bu ((show AX P w H h a (.dT kvs)from rd_of ok e)) λz y z1=>?_;refine Am z1 λxs r z2=>?_;refine Kz z2 λo es ep h1 h2 h3 h4 O=>Bc z y (Ar xs r (Kh o es ep h1 h2 h3 h4 (λx hx=>?_) O));have all:∀{l:List (List Key×V)} {m:List (List Key×Addr×Value)},KT H l m->∀x∈m,(tupleKind (Ci P w)).is h x.1 x.2.1:=by
  intro l m q
  induction q with
  | nil=>intro x hx;exact nomatch hx
  | @cons p q ps qs I t Y=>
   intro x hx
   rcases JC.mp hx with e|hx
   .subst e;exact Ng ok (by rw[← I.1];exact I.2.1)
   .exact Y x hx
 exact all r x hx
theorem dt_of (ok:CL P w H h)(e:H a=some (.dT kvs)):kvs.length<=sizeLine/\(a==sysModules)=false /\
  ∃xs,KT H kvs xs/\h.DictOfH (tupleKind (Ci P w)) a xs:=Qv ok (.inl e)
end
def AK (H:Hp)(a:Addr)(y:V)(r:Option V):Prop:=
 (∃kvs k,Rd H a (.dK kvs)/\y=kV k/\r=Bm kvs k)\/∃kvs k b,Rd H a (.dT kvs)/\y=.ref b/\H b=some (.tup (k.map kV))/\r=Bm kvs k
def CW (H:Hp)(a:Addr)(y v:V)(H':Hp):Prop:=
 (∃kvs k,H a=some (.dK kvs)/\y=kV k/\kvs.length<sizeLine/\H'=upd H a (.dK (putK kvs k v))) \/
 ∃kvs k b,H a=some (.dT kvs)/\y=.ref b/\H b=some (.tup (k.map kV))/\kvs.length<sizeLine/\H'=upd H a (.dT (putK kvs k v))
theorem AK.k {H:Hp}{a:Addr}{kvs:List (Key×V)}{k:Key}(e:H a=some (.dK kvs)):AK H a (kV k) (Bm kvs k):=.inl (Ao kvs k (.inl e) rfl rfl)
theorem CW.k {H:Hp}{a:Addr}{kvs:List (Key×V)}{k:Key}{v:V}(e:H a=some (.dK kvs))(hl:kvs.length<sizeLine):CW H a (kV k) v (upd H a (.dK (putK kvs k v))):=.inl (Cj kvs k e rfl hl rfl)
section
variable {E:Value->Shared->Prop}
theorem Inv.big (I:Inv X pins σ H s):sysModules<s.heap.objs.size:=by
 have h:mainGlobals<s.heap.objs.size:=(I.mod.glob.keeps I.bk).lt;exact Nat.lt_trans (by decide) h
theorem Ab9 {Q:Value->Shared->Prop}(hu:A.units+1<cLine)(I:Inv X pins σ H s)(g:AK H a y (some v))(ry:RelV y u)(h:∀O s',Inv X pins σ H s'->RelV v O->Q O s') :
  wpAny (model X.prog X.w) A (getItem (.ref a) u) Q E s:=by
 rcases g with⟨kvs,k,e,Y,l⟩|⟨kvs,k,b,e,Y,eb,l⟩
 .subst Y;refine Bu (K7 I.AR e) λz hd z1=>?_;refine Am z1 λvs a0 dd=>?_;refine Am (EB.some_of (v:=v) (o:=valueAt vs k) (by rw[l];exact a0.val k)) λO hw a1=>wpAny_getItem_of (L6 ry) dd.mapOf hw (h O _ (I.tok _) a1)
 .subst Y;cases(show u=Value.ref b from ry);refine Bu (Qv I.AR e) λz hd z1=>?_;refine Am z1 λxs a0 dd=>?_;refine Am (EB.some_of (v:=v) (o:=(atKey xs k).map (·.2)) (by rw[l];exact a0.val k)) λO hw a1=>Am (Option.map_eq_some_iff.mp hw) λp hp a2=>wpAny_getItem_heap (NY hu) (Ng I.AR eb) dd hp ?_;rw[a2];exact h O _ (I.tok _) a1
theorem d_in {Q:Value->Shared->Prop}(hu:A.units+1<cLine)(I:Inv X pins σ H s)(g:AK H a y o)(ry:RelV y u)(h:∀s',Inv X pins σ H s'->Q (.bool o.isSome) s') :
  wpAny (model X.prog X.w) A (compareOp .In u (.ref a)) Q E s:=by
 rcases g with⟨kvs,k,e,O,l⟩|⟨kvs,k,b,e,O,eb,l⟩
 .subst O;refine Bu (K7 I.AR e) λz hd Y=>?_;refine Am Y λvs a0 dd=>wpAny_in_of (L6 ry) hd dd.mapOf ?_;rw[← (a0.val k).CT,← l];exact h _ (I.tok _)
 .subst O;cases(show u=Value.ref b from ry);refine Bu (Qv I.AR e) λz hd Y=>?_;refine Am Y λxs a0 dd=>wpAny_in_heap (NY hu) (Ng I.AR eb) hd dd ?_;have q:=(a0.val k).CT;rw[Option.isSome_map]at q;rw[← q,← l];exact h _ (I.tok _)
theorem d_notIn {Q:Value->Shared->Prop}(hu:A.units+1<cLine)(I:Inv X pins σ H s)(g:AK H a y o)(ry:RelV y u)(h:∀s',Inv X pins σ H s'->Q (.bool (!o.isSome)) s') :
  wpAny (model X.prog X.w) A (compareOp .NotIn u (.ref a)) Q E s:=by
 rcases g with⟨kvs,k,e,O,l⟩|⟨kvs,k,b,e,O,eb,l⟩
 .subst O;refine Bu (K7 I.AR e) λz hd Y=>?_;refine Am Y λvs a0 dd=>wpAny_notIn_of (L6 ry) hd dd.mapOf ?_;rw[← (a0.val k).CT,← l];exact h _ (I.tok _)
 .subst O;cases(show u=Value.ref b from ry);refine Bu (Qv I.AR e) λz hd Y=>?_;refine Am Y λxs a0 dd=>wpAny_notIn_heap (NY hu) (Ng I.AR eb) hd dd ?_;have q:=(a0.val k).CT;rw[Option.isSome_map]at q;rw[← q,← l];exact h _ (I.tok _)
theorem Pe (I:Inv X pins σ H s)(O:Mut (H a))(hs:Heap.SameBut a s.heap h')(he:∃q,h'.get? a=some q)(new:AX X.prog X.w (upd H a ob) h' a ob) :
  Inv X pins σ (upd H a ob) {s with heap:=h',toks:=t'}:=
 I.write (x:=a) (e:=a) O (.inl rfl) (λb q hb z=>(hs.2 b hb).trans z) he new
theorem Qx (z:kvs.length<=sizeLine)(hd:(a==sysModules)=false)(I:KV kvs vs)(dd:h'.DictOf (Ci P w) a vs) :
  AX P w H' h' a (.dK kvs):=(Bc z hd (Ar vs I dd))
theorem Ab8 {Q:Unit->Shared->Prop}(hu:A.units+1<cLine)(I:Inv X pins σ H s)(g:CW H a y v H')(ry:RelV y u)(rv:RelV v r)(h:∀s',Inv X pins σ H' s'->Q () s') :
  wpAny (model X.prog X.w) A (setItem (.ref a) u r) Q E s:=by
 rcases g with⟨kvs,k,e,ey,l,eH⟩|⟨kvs,k,b,e,ey,eb,l,eH⟩
 .subst ey eH;refine Bu (Am0 I.AR e) λz hd z1=>?_;refine Am z1 λvs O dd=>?_;have hz:vs.length<=sizeLine:=by rw[← O.length];exact z
  have hl:(putK kvs k v).length<=sizeLine:=by have:=He kvs k v;omega
  refine wpAny_setItem_pairs (hsz:=hz) (L6 ry) dd λh' a0 hs=>h _ ?_;have he:∃q,h'.get? a=some q:=let ⟨q,_,_,Y,_⟩:=a0;⟨q,Y⟩
  exact Pe I (by rw[e];exact True.intro) hs he (Qx hl hd (O.put k rv) a0)
 .subst ey eH;cases(show u=Value.ref b from ry);refine Bu (dt_of I.AR e) λz hd z1=>?_;refine Am z1 λxs O dd=>?_;have hz:xs.length<=sizeLine:=by rw[← Paired.length O];exact z
  have hl:(putK kvs k v).length<=sizeLine:=by have:=He kvs k v;omega
  refine wpAny_setItem_heap (hsz:=hz) (NY hu) (Ng I.AR eb) dd λh' a0 hs=>h _ (Rj a0 λq es ep Y h2 h3 h4 _ h5=>?_);refine Pe I (by rw[e];exact True.intro) hs ⟨q,Y⟩ (Bc hl hd (Ae ((O.put k eb rv).keeps λc ys ec=>?_) (Et q es ep Y h2 h3 h4 h5)));rw[Ak (Bb ec e (λz=>nomatch z))];exact ec
end
section
variable {E:Value->Shared->Prop}
theorem d_len {Q:Value->Shared->Prop}(I:Inv X pins σ H s)(e:Rd H a (.dK kvs))(h:∀t s',Inv X pins σ H s'->Q (.int kvs.length t) s'):wpAny (model X.prog X.w) A (call (.builtin "len") [.ref a]) Q E s:=by
 refine Bu (K7 I.AR e) λz hd Y=>?_;refine Am Y λvs O dd=>?_;refine call_len_dict hd dd (by rw[← O.length];rw[KU]at z;omega) ?_;rw[← O.length];exact h _ _ (I.tok _)
end
def Ac4 (i:Expr):Prop:=∀O I,subscripted i false O I=operate [O,I] (getItem O I)
theorem Yk {E:Value->Shared->Prop}{id:String}{Q:Value->Shared->Prop}
  (hl:typeLookup (.type T) "__getitem__"=pure (some (.builtin id)))(hs:Ac4 Y)
  (h:wpAny (model prog w) A (eval a0 env) (λo s₁=>wpAny (model prog w) A (eval Y env) (λi I=>I.TypeIs o T/\wpAny (model prog w) A (getItem o i) Q E I) E s₁) E s) :
  wpAny (model prog w) A (eval (.Subscript a0 Y pos) env) Q E s:=by
 refine Subscript_ (MY h (λo s₁ h₁=>MY h₁ (λi I O=>?_) λ_ _ x=>x) λ_ _ x=>x);obtain⟨hT,O⟩:=O;unfold subscriptTail;refine JA ?_;rw[getitemInPython_of_ne hT.not_modules];refine JA (wpAny_specialOf hT hl ?_);have fin:wpAny (model prog w) A (subscripted Y false o i) (λr s₃=>wpAny (model prog w) A (letTemporaryGo a0 o r >>= λ_=>pure r) Q E s₃) E I:=by
  rw[hs o i];exact wpAny_operating (MY O (λr s₃ h₃=>JA (wpAny_letTemporaryGo (JF h₃))) λ_ _ x=>x)
 first
  | exact JF (JA fin)
  | exact JA (JF (JA fin))
  | exact JA fin
theorem Wc (I:Inv X pins σ H s)(g:AK H a y o):s.TypeIs (.ref a) "dict":=by
 rcases g with⟨kvs,k,e,_,_⟩|⟨kvs,k,b,e,_,_,_⟩
 .refine Bu (K7 I.AR e) λ_ _ O=>?_;refine Am O λvs _ dd=>dd.typeIs
 .refine Bu (Qv I.AR e) λ_ _ O=>?_;refine Am O λxs _ dd=>dd.typeIs
def Ae0 (I ty:TE):TE:=λσ H Q=>I σ H λx H1=>ty σ H1 λy H2=>∃a v,x=.ref a/\AK H2 a y (some v)/\Q v H2
def tDIn (ty I:TE):TE:=λσ H Q=>ty σ H λy H1=>I σ H1 λx H2=>∃a o,x=.ref a/\AK H2 a y o/\Q (.bl o.isSome) H2
def Yh (ty I:TE):TE:=λσ H Q=>ty σ H λy H1=>I σ H1 λx H2=>∃a o,x=.ref a/\AK H2 a y o/\Q (.bl (!o.isSome)) H2
def sDPut (O ty Y:TE):TS:=λD σ H=>Y σ H λv H1=>O σ H1 λx H2=>ty σ H2 λy H3=>∃a I,x=.ref a/\CW H3 a y v I/\D.nx σ I
section
theorem pe_dget (hu:X.A.units+1<cLine)(ho:PE X o td)(hi:PE X i ty)(hs:Ac4 i):PE X (.Subscript o i pos) (Ae0 td ty):=by
 intro pins s σ H Q I h;refine Yk PySem.F.slot_dict_getitem.lookup hs (AV (ho pins s σ H _ I h) λu s1 ⟨x,H1,Y,rx,q1⟩=>AV (hi pins s1 σ H1 _ Y q1) λiv s2 ⟨y,H2,O,ry,a,v,ex,g,q2⟩=>?_);subst ex;obtain rfl:u=Value.ref a:=rx;exact⟨Wc O g,Ab9 hu O g ry λw' s3 I3 a0=>(Ao v H2 I3 a0 q2)⟩
theorem Ai5 (hu:X.A.units+1<cLine)(hi:PE X i ty)(ho:PE X o td):PC X .In i o (tDIn ty td):=by
 intro pins s σ H Q I h;refine AV (hi pins s σ H _ I h) λiv s1 ⟨y,H1,O,ry,q1⟩=>AV (ho pins s1 σ H1 _ O q1) λu s2 ⟨x,H2,Y,rx,a,ov,ex,g,q2⟩=>?_;subst ex;obtain rfl:u=Value.ref a:=rx;exact d_in hu Y g ry λs3 I3=>(Ao (.bl ov.isSome) H2 I3 rfl q2)
theorem Aa3 (hu:X.A.units+1<cLine)(hi:PE X i ty)(ho:PE X o td):PC X .NotIn i o (Yh ty td):=by
 intro pins s σ H Q I h;refine AV (hi pins s σ H _ I h) λiv s1 ⟨y,H1,O,ry,q1⟩=>AV (ho pins s1 σ H1 _ O q1) λu s2 ⟨x,H2,Y,rx,a,ov,ex,g,q2⟩=>?_;subst ex;obtain rfl:u=Value.ref a:=rx;exact d_notIn hu Y g ry λs3 I3=>(Ao (.bl (!ov.isSome)) H2 I3 rfl q2)
theorem Ap9 (hu:X.A.units+1<cLine)(ho:PE X o td)(hi:PE X i ty)(hv:PE X O tv)(hs:swapsWith O (some (.Subscript o i a0)) pos.line X.env=pure false) :
  PS X (.Assign [.Subscript o i a0] O pos) (sDPut td ty tv):=by
 intro pins s σ H D I h;refine wpAny_Assign_Subscript (AV (hv pins s σ H _ I h) λr s1 ⟨v,H1,I1,rv,q1⟩=>AV (ho pins s1 σ H1 _ I1 q1) λu s2 ⟨x,H2,I2,rx,q2⟩=>AV (hi pins s2 σ H2 _ I2 q2) λiv s3 ⟨y,H3,I3,ry,a,Y,ex,g,q3⟩=>?_) hs;subst ex;obtain rfl:u=Value.ref a:=rx;exact Ab8 hu I3 g ry rv λs4 I4=>(Ck σ Y I4 q3)
end
theorem Qy (h:Heap)(hb:sysModules<h.objs.size):AX P w H (h.push {cls:=.type "dict",data:=.dict #[]}) h.objs.size (.dK []):=
 (Bc (KY _) (beq_eq_false_iff_ne.mpr (NI (KC hb))) (Ar [] .nil (Heap.DictOf.new h)))
def Ad8:TE:=λ_ H Q=>∀p,H p=none->Q (.ref p) (upd H p (.dK []))
section
theorem Ah8:PE X (.Dict [] [] pos) Ad8:=λpins s σ H Q I h=>
 wpAny_Dict_empty (Ao (.ref s.heap.objs.size) _ (I.laid (a:=s.heap.objs.size) (o:=.dK []) (t':=s.toks) (λ_ _ q=>JD _ q) (JG _) (Qy s.heap I.big)) rfl (h _ (I.AR.fresh (JG _))))
end
def Wr:List (TE×TE)->St->Hp->(List (V×V)->Hp->Prop)->Prop
 | [],_,H,Q=>Q [] H
 | (tk,I)::r,σ,H,Q=>tk σ H λx H1=>I σ H1 λy H2=>Wr r σ H2 λps H3=>Q ((x,y)::ps) H3
abbrev VV:List (V×V)->List (Value×Value)->Prop:=Paired λp q=>RelV p.1 q.1/\RelV p.2 q.2
def PPs (X:Cx)(pos:Pos)(keys:List (Option Expr))(O:List Expr)(I:List (TE×TE)):Prop:=
 ∀(pins:List (Addr×Obj)) (s:Shared) (σ:St) (H:Hp) (Q:List (V×V)->Hp->Prop),Inv X pins σ H s->Wr I σ H Q ->
  wpAny (model X.prog X.w) X.A (evalPairs (pairTrees keys O X.env pos)) (λvs s'=>∃ps H',Inv X pins σ H' s'/\VV ps vs/\Q ps H') X.xe s
theorem Aq1:PPs X pos [] [] []:=λpins s σ H Q I h=>pairTrees_nil_walk (Ao [] H I .nil h)
theorem Ag9 (hk:PE X k tk)(hv:PE X v tv)(hr:PPs X pos ks vs a1) :
  PPs X pos (some k::ks) (v::vs) ((tk,tv)::a1):=λpins s σ H Q I h=>
 pairTrees_cons_walk (AV (hk pins s σ H _ I h) λu s1 ⟨x,H1,O,rx,q1⟩=>AV (hv pins s1 σ H1 _ O q1) λw2 s2 ⟨y,H2,Y,ry,q2⟩=>
  AV (hr pins s2 σ H2 _ Y q2) λws s3 ⟨ps,H3,I3,a0,q3⟩=>(Ao ((x,y)::ps) H3 I3 (.cons ⟨rx,ry⟩ a0) q3))
noncomputable def Eb (kvs more:List (Key×V)):List (Key×V):=more.foldl (λO I=>putK O I.1 I.2) kvs
theorem KV.merge:∀{more:List (Key×V)} {I:List (Key×Value)} {kvs:List (Key×V)} {vs:List (Key×Value)},KV more I->KV kvs vs->KV (Eb kvs more) (merged vs I):=by
 intro more I kvs vs r;unfold KV at r
 induction r generalizing kvs vs with
 | nil=>intro q;exact q
 | @cons p q ps Y h t O=>
  intro r0;have e:KV (putK kvs p.1 p.2) (stored vs q.1 q.2):=by
   have:=r0.put p.1 h.2;rw[← h.1];exact this
  exact O e
theorem Hs:∀(more kvs:List (Key×V)),(Eb kvs more).length<=kvs.length+more.length
 | [],kvs=>by show kvs.length<=kvs.length+0;omega
 | p::r,kvs=>by
  have h1:=Hs r (putK kvs p.1 p.2);have h2:=He kvs p.1 p.2
  show(Eb (putK kvs p.1 p.2) r).length<=_
  rw[JR];omega
theorem Q3:∀{kvs:List (Key×V)} {ws:List (Value×Value)},VV (kvs.map λO=>(kV O.1,O.2)) ws->∃I,Carries (Ci P w) ws I/\KV kvs I
 | [],_,r=>by rw[NG]at r;cases r;exact Ar [] True.intro .nil
 | p::kvs,_,r=>by
  rw[JX]at r
  cases r with
  | @cons a b as bs h t=>
   refine Am (Q3 (P:=P) (w:=w) t) λI c q=>?_;obtain⟨b1,Y⟩:=b;exact Ar ((p.1,Y)::I) (Bc (L6 h.1) rfl c) (.cons ⟨rfl,h.2⟩ q)
def tDisp (O:List (TE×TE)):TE:=λσ H Q=>∀p,H p=none->Wr O σ (upd H p (.dK [])) λps H2=>H2 p=some (.dK [])/\∃kvs:List (Key×V),ps=kvs.map (λI=>(kV I.1,I.2))/\kvs.length<=15/\Q (.ref p) (upd H2 p (.dK (Eb [] kvs)))
theorem pe_disp (h:PPs X pos keys a0 a3)(a4:keys.all (·.isSome)=true)(hl:keys.length=a0.length)(h0:keys≠[])
  (a1:keys.length<=15):PE X (.Dict keys a0 pos) (tDisp a3):=by
 intro pins s σ H Q I q;have hn:=I.AR.fresh (JG s.heap.objs.size);have I1:=I.laid (a:=s.heap.objs.size) (o:=.dK []) (h':=s.heap.push {cls:=.type "dict",data:=.dict #[]}) (t':=s.toks) (λ_ _ q=>JD _ q) (JG _) (Qy s.heap I.big);refine wpAny_Dict_walk (knd:=Ci X.prog X.w) a4 hl h0 a1 (AV (h pins _ σ _ _ I1 (q _ hn)) λws s2 ⟨ps,H2,O,a2,e,kvs,ep,lk,q2⟩=>?_);subst ep;refine Am (Q3 (P:=X.prog) (w:=X.w) a2) λrs c rk=>?_;refine Bu (Am0 O.AR e) λz hd z1=>?_;refine Am z1 λa5 r0 dd=>?_;cases r0;refine B4 rs c dd λh' Y hs=>(Ao (.ref s.heap.objs.size) _ ?_ rfl q2);have hz:(Eb [] kvs).length<=sizeLine:=by
  have h1:=Hs kvs [];rw[OV]at h1;rw[KU];omega
 have he:∃q,h'.get? s.heap.objs.size=some q:=let ⟨q,_,_,hq,_⟩:=Y;⟨q,hq⟩
 exact Pe O (by rw[e];exact True.intro) hs he (Qx hz hd (rk.merge .nil) Y)
structure M2 (X:Cx)(o:Expr)(m:Str)(apos:Pos)(e f:Expr)(cpos:Pos):Prop where
 base:attributeBase o m X.env (eval o X.env)=eval o X.env
 few:((backTo cpos (starEach [e,f] X.env)).all (λx=>!x.1)&&(backToKw cpos (keywordEach [] X.env)).all (λx=>x.1.isSome)
  && decide (([e,f]:List Expr).length+([]:List Keyword).length+(if([]:List Keyword).isEmpty then 0 else 1)<30))=true
 line:(apos.endLine==cpos.line)=true
 trees:backTo cpos (starEach [e,f] X.env)=[(false,eval e X.env),(false,eval f X.env)]
def IsD (H:Hp)(a:Addr):Prop:=(∃kvs,Rd H a (.dK kvs))\/∃kvs,Rd H a (.dT kvs)
theorem isD_at (I:Inv X pins σ H s)(d:IsD H a) :
  s.TypeIs (.ref a) "dict"/\(∀b,Value.ref a=.ref b->∃ob,s.heap.get? b=some ob/\ob.dict=none)/\(a==sysModules)=false:=by
 rcases d with⟨kvs,e⟩|⟨kvs,e⟩
 .refine Bu (K7 I.AR e) λ_ hd O=>?_;refine Am O λvs _ dd=>Bc dd.typeIs (λb q=>?_) hd;cases q;refine Gz dd λob _ _ h1 h2 _=>Ar ob h1 h2.2.1
 .refine Bu (Qv I.AR e) λ_ hd O=>?_;refine Am O λxs _ dd=>Bc dd.typeIs (λb q=>?_) hd;cases q;refine Gz dd λob _ _ h1 h2 _=>Ar ob h1 h2.2.1
section
variable {E:Value->Shared->Prop}
theorem d_get2 {Q:Value->Shared->Prop}(hu:A.units+1<cLine)(I:Inv X pins σ H s)(g:AK H a y o)(ry:RelV y u)(rd:RelV d r)(h:∀w' s',Inv X pins σ H s'->RelV (o.getD d) w'->Q w' s') :
  wpAny (model X.prog X.w) A (call (.builtin "dict.get") [.ref a,u,r]) Q E s:=by
 rcases g with⟨kvs,k,e,O,l⟩|⟨kvs,k,b,e,O,eb,l⟩
 .subst O;refine Bu (K7 I.AR e) λz hd Y=>?_;refine Am Y λvs a0 dd=>call_meetsIn PySem.F.slot_dict_get dd.typeIs PySem.F.entry_dict_get (PySem.F.args_dict_get_3 _ _ _) (meets_dict_get_default (Ci X.prog X.w) a (L6 ry) hd r) (Ae dd.mapOf (h _ _ (I.tok _) ?_));rw[l];exact(a0.val k).getD rd
 .subst O;cases(show u=Value.ref b from ry);refine Bu (Qv I.AR e) λz hd Y=>?_;refine Am Y λxs a0 dd=>call_meetsIn PySem.F.slot_dict_get dd.typeIs PySem.F.entry_dict_get (PySem.F.args_dict_get_3 _ _ _) (meetsH_dict_get_default (tupleKind (Ci X.prog X.w)) a b hd r) ⟨NY hu,(Ao k xs (Ng I.AR eb) dd (h _ _ (I.tok _) ?_))⟩;rw[l];exact(a0.val k).getD rd
end
def Ad9 (I ty O:TE):TE:=λσ H Q=>I σ H λx H1=>∃a,x=.ref a/\IsD H1 a/\ty σ H1 λy H2=>O σ H2 λz H3=>∃o,AK H3 a y o/\Q (o.getD z) H3
section
theorem Ah9 (hu:X.A.units+1<cLine)(ho:PE X o td)(he:PE X e ty)(hf:PE X f tx)(m:M2 X o "get" apos e f cpos):PE X (.Call (.Attribute o "get" apos) [e,f] [] cpos) (Ad9 td ty tx):=by
 intro pins s σ H Q I h;refine wpAny_Call_method m.base m.few m.line PySem.F.plainAttrs_dict PySem.F.slot_dict_get PySem.F.type_dict_get (AV (ho pins s σ H _ I h) λu s1 ⟨x,H1,O,rx,a,ex,d,q1⟩=>?_);subst ex;obtain rfl:u=Value.ref a:=rx;refine Bu (isD_at O d) λt1 t2 _=>Bc t1 t2 ?_;rw[m.trees]
 refine Calls.callWith_builtin rfl (Calls.evalArgs_plain (OX (AV (he pins s1 σ H1 _ O q1) λiv s2 ⟨y,H2,Y,ry,q2⟩=>
  OX (AV (hf pins s2 σ H2 _ Y q2) λfv s3 ⟨z,H3,I3,rz,ov,g,q3⟩=>Calls.spliced_nil ?_))))
 exact d_get2 hu I3 g ry rz λw' s4 I4 a0=>(Ao _ H3 I4 a0 q3)
end
section
variable {E:Value->Shared->Prop}
end
section
variable {E:Value->Shared->Prop}
end
section
theorem Sf:Ex X (.builtin "len") (λxs H Q=>∃a kvs,xs=[V.ref a]/\H a=some (.dK kvs)/\Q (.int kvs.length) H):=by
 intro pins s σ H xs us Q I r h;refine A0 h λa kvs O ha q=>?_;subst O;refine Am (K4 r) λu O ru=>?_;subst O;cases ru;exact d_len I (.inl ha) λt s' Y=>(Ao (.int kvs.length) H Y ⟨t,rfl⟩ q)
end
section
variable {κ:Type}[DecidableEq κ]
end
theorem At.of (HN:closureFor scope X.env=pure cl)(k:scope.kind=.function)(Y:∀y∈scope.names,y.2≠.cell)
  (hn:∀y∈scope.names,y.2=.local->scope.names.lookup y.1=some .local)(hl:N'.length=n+js.length)(a4:∀p∈cl,X.env.cells.lookup p.1=some p.2)(I:List Str)(a0:cl.map (·.1)=I)(a3:∀y∈scope.names,y.2=.free->y.1∈I)
  (a2:∀q∈js.zip (N'.drop n),X.N[q.1]?=some q.2/\scope.names.lookup q.2=some .free/\(X.env.kindOf q.2=some .cell\/X.env.kindOf q.2=some .free)):At X scope cl N' n js:=by
 refine⟨HN,k,Y,hn,hl,λx c h=>a4 (x,c) (MH h),λx h=>?_,λi j h=>?_⟩
 .have hm:x∈cl.map (·.1):=by rw[a0];exact a3 (x,.free) (MH h) rfl
  cases e:cl.lookup x with
  | some c=>exact⟨c,rfl⟩
  | none=>
   rw[List.lookup_eq_none_iff]at e;refine Am (JT.mp hm) λp hp O=>?_;have:=e p hp;simp[O]at this
 .have hi:i<js.length:=(List.getElem?_eq_some_iff.mp h).1;have a1:i<(N'.drop n).length:=by rw[MN];omega
  have e1:(N'.drop n)[i]?=some (N'.drop n)[i]:=KN a1;have hz:(j,(N'.drop n)[i])∈js.zip (N'.drop n):=by
   refine JU (i:=i) ?_;rw[List.getElem?_zip_eq_some];exact⟨h,e1⟩
  refine Bu (a2 _ hz) λh1 h2 h3=>Cv ((N'.drop n)[i]) ?_ h1 h2 h3;rw[← e1,List.getElem?_drop]
theorem AI.none {P:Program}{w:World}{K:PySem.W.Frag}(h:∀vs H Q E,¬sp vs H Q E):AI P w K mg base BV k f fd ps sp:=
 ⟨λvs H Q E z=>absurd z (h _ _ _ _),λA outer s H args us vs Q E _ _ _ _ z=>absurd z (h _ _ _ _)⟩
theorem Fv {lo:Int}{n:Nat}{D:Addr}{g:TG}{tt:TT}{te:TE}{σ0:St}{H1:Hp}{Q:Hp->Prop}(Pv:Nat->List V->St->Hp->Prop)(hx:n<=sizeLine)(h0:Pv 0 [] σ0 (upd H1 D (.lst [])))
   (hl:∀i ys σ H,i<=n->Pv i ys σ H->H D=some (.lst ys)/\ys.length<=i)
   (hs:∀i ys σ H,i<n->Pv i ys σ H->g (.int (lo+i)) σ H λσ3 H3=>tt σ3 H3 λok O=>if ok=true then te σ3 O λy I=>I D=some (.lst ys)/\Pv (i+1) (ys++[y]) σ3 (upd I D (.lst (ys++[y])))else Pv (i+1) ys σ3 O)
   (hd:∀ys σ H,Pv n ys σ H->Q H) :
   ∃W:Nat->Nat->St->Hp->Prop,(∃m,W 0 m σ0 (upd H1 D (.lst [])))/\∀i m σ' H',W i m σ' H' ->
     ((Itr lo n).stop i H'/\Q H')\/((Itr lo n).go i H'/\∃(Ay:V->St->Hp->Prop) (An:St->Hp->Prop),(∀y σ3 I,Ay y σ3 I->∃ys,I D=some (.lst ys)/\ys.length<sizeLine/\∃Y,Y<m/\W (i+1) Y σ3 (upd I D (.lst (ys++[y])))) /\
       (∀σ3 O,An σ3 O->∃Y,Y<m/\W (i+1) Y σ3 O) /\
       ∀x H2,(Itr lo n).FY i H' x H2->g x σ' H2 λσ3 H3=>tt σ3 H3 λok O=>if ok=true then te σ3 O (λy I=>Ay y σ3 I)else An σ3 O):=by
 refine Ar (λi m σ H=>m=n-i/\i<=n/\∃ys,Pv i ys σ H) (B4 n (by simp) (KY _) ⟨[],h0⟩) ?_;rintro i m σ H ⟨rfl,hi,ys,p⟩;obtain⟨hy,a1⟩:=hl i ys σ H hi p;by_cases a0:i<n
 . refine .inr ⟨a0,(Ao (λy σ3 I=>I D=some (.lst ys)/\Pv (i+1) (ys++[y]) σ3 (upd I D (.lst (ys++[y])))) (λσ3 O=>Pv (i+1) ys σ3 O)
     (λy σ3 I ⟨e,p'⟩=>(B4 ys e (by omega) (Cv (n-(i+1)) (by omega) rfl a0 ⟨_,p'⟩))) (λσ3 O p'=>(Cv (n-(i+1)) (by omega) rfl a0 ⟨_,p'⟩)) λx H' y=>?_)⟩
   obtain⟨rfl,rfl⟩:=y;exact hs i ys σ H' a0 p
 . have:i=n:=by omega
   subst this;exact .inl ⟨JG _,hd ys σ H p⟩
theorem Q2 {K:PySem.W.Frag}{a D:Addr}{xs:List V}{g:TG}{tt:TT}{te:TE}{σ0:St}{H1:Hp}{Q:Hp->Prop}(Pv:Nat->List V->St->Hp->Prop)(hx:xs.length<=sizeLine)(h0:Pv 0 [] σ0 (upd H1 D (.lst [])))
   (hl:∀i ys σ H,i<=xs.length->Pv i ys σ H->BW K H a xs/\H D=some (.lst ys)/\ys.length<=i)
   (hs:∀i x ys σ H,xs[i]?=some x->Pv i ys σ H->g x σ H λσ3 H3=>tt σ3 H3 λok O=>if ok=true then te σ3 O λy I=>I D=some (.lst ys)/\Pv (i+1) (ys++[y]) σ3 (upd I D (.lst (ys++[y])))else Pv (i+1) ys σ3 O)
   (hd:∀ys σ H,Pv xs.length ys σ H->Q H) :
   ∃W:Nat->Nat->St->Hp->Prop,(∃m,W 0 m σ0 (upd H1 D (.lst [])))/\∀i m σ' H',W i m σ' H' ->
     ((IJ K a).stop i H'/\Q H')\/((IJ K a).go i H'/\∃(Ay:V->St->Hp->Prop) (An:St->Hp->Prop),(∀y σ3 I,Ay y σ3 I->∃ys,I D=some (.lst ys)/\ys.length<sizeLine/\∃Y,Y<m/\W (i+1) Y σ3 (upd I D (.lst (ys++[y])))) /\
       (∀σ3 O,An σ3 O->∃Y,Y<m/\W (i+1) Y σ3 O) /\
       ∀x H2,(IJ K a).FY i H' x H2->g x σ' H2 λσ3 H3=>tt σ3 H3 λok O=>if ok=true then te σ3 O (λy I=>Ay y σ3 I)else An σ3 O):=by
 refine Ar (λi m σ H=>m=xs.length-i/\i<=xs.length/\∃ys,Pv i ys σ H) (B4 xs.length (by simp) (KY _) ⟨[],h0⟩) ?_;rintro i m σ H ⟨rfl,hi,ys,p⟩;refine Bu (hl i ys σ H hi p) λq hy a1=>?_;by_cases a0:i<xs.length
 . refine .inr ⟨(Ck xs (xs[i]) q (by simp[a0])),(Ao (λy σ3 I=>I D=some (.lst ys)/\Pv (i+1) (ys++[y]) σ3 (upd I D (.lst (ys++[y])))) (λσ3 O=>Pv (i+1) ys σ3 O)
     (λy σ3 I ⟨e,p'⟩=>(B4 ys e (by omega) (Cv (xs.length-(i+1)) (by omega) rfl a0 ⟨_,p'⟩))) (λσ3 O p'=>(Cv (xs.length-(i+1)) (by omega) rfl a0 ⟨_,p'⟩)) λx H' y=>?_)⟩
   obtain⟨e,y⟩:=y;subst e;exact hs i x ys σ H' (y xs q) p
 . have:i=xs.length:=by omega
   subst this;exact .inl ⟨(Ar xs q (JG _)),hd ys σ H p⟩
structure QE (X:Cx)(e:Expr)(t:TE):Prop where
 go:PE X e t
structure QT (X:Cx)(e:Expr)(t:TT):Prop where
 go:PT X e t
structure QW (X:Cx)(e:Expr)(t:TT):Prop where
 go:PW X e t
structure QA (X:Cx)(es:List Expr)(t:TA):Prop where
 go:PA X es t
structure QS (X:Cx)(s:Stmt)(t:TS):Prop where
 go:PS X s t
structure IB (X:Cx)(ss:List Stmt)(t:TS):Prop where
 go:IH X ss t
structure QG (X:Cx)(e:Expr)(t:TG):Prop where
 go:PG X e t
structure QGs (X:Cx)(es:List Expr)(t:TGs):Prop where
 go:PGs X es t
structure QI (X:Cx)(tg iter:Expr)(t:TI):Prop where
 go:PI X tg iter t
structure QTS (X:Cx)(es:List Expr)(t:TT):Prop where
 go:PTS X es t
structure QO (X:Cx)(e:Option Expr)(t:TO):Prop where
 go:PO X e t
structure QPs (X:Cx)(pos:Pos)(ks:List (Option Expr))(vs:List Expr)(t:List (TE×TE)):Prop where
 go:PPs X pos ks vs t
section
theorem Bq (ha:QE X e te)(hr:QA X es t)(hs:starEach (e::es) X.env=(false,eval e X.env)::starEach es X.env:=by rfl):QA X (e::es) (F6 te t):=⟨pa_cons ha.go hr.go hs⟩
theorem Cg :QA X [] Q5:=⟨pa_nil⟩
theorem Af {i j pos}:QE X (.Constant (.int i) j pos) (tC (.int i)):=⟨Ah7⟩
theorem Ap (I:CV X (binaryOp op) r)(ha:QE X a ta)(hb:QE X b tb):QE X (.BinOp a op b pos) (IG r ta tb):=⟨pe_op I ha.go hb.go⟩
theorem Al (h1:QS X I t):IB X [I] t:=⟨Yu h1.go⟩
theorem Ag (h1:QS X I t)(h2:IB X O u):IB X (I::O) (Sq t u):=⟨Ag5 h1.go h2.go⟩
theorem Aw (he:QE X e te):QS X (.Return (some e) pos) (tRet te):=⟨ps_ret he.go⟩
theorem qe_fn (F:AQ X.prog X.w X.K X.mg X.base k x ps sp)(hr:BB k X.A)(hg:Gl X x)(ha:QA X (e::es) t)(I:(x==("__debug__":Str))=false:=by decide)(he:starEach (e::es) X.env=(false,eval e X.env)::starEach es X.env:=by rfl)(O:(backTo pos (starEach es X.env)).any (·.1)=false:=by rfl):QE X (.Call (.Name x p) (e::es) [] pos) (Jt sp [] E0 t):=⟨pe_fn F hr hg ha.go I he O⟩
theorem Tt (I:CV X (compareOp op) r)(ha:QE X a ta)(hb:QE X b tb)(hm:behindInMarks op b=false):QT X (.Compare a [op] [b] pos) (U5 (IG r ta tb)):=⟨Ap7 I ha.go hb.go hm⟩
theorem Bz (I:QT X c O)(ha:IB X a t)(hb:IB X b u):QS X (.If c a b pos) (An6 O t u):=⟨ps_if I.go ha.go hb.go⟩
theorem Be :IB X [] Js:=⟨Ap8⟩
theorem Ad {x j pos}:QE X (.Constant (.str x) j pos) (tC (.str x)):=⟨pe_str⟩
theorem Tu (I:X.N.Nodup)(O:X.N[i]?=some x)(hx:Loc X.env.scope x)(he:QE X e te)(hs:swapsWith e (some (.Name x Y)) pos.line X.env=pure false:=by rfl)(hf:X.fn x=true\/X.env.scope.names.lookup x=some .local:=by first|exact .inl rfl|exact .inr rfl|assumption):QS X (.Assign [.Name x Y] e pos) (Sw te (Dw i)):=⟨ps_set I O hx he.go hs hf⟩
theorem Bl (I:Ex X (.builtin a1) r)(hg:Gl X x)(hm:X.mg x=none)(O:bootBuiltins x=some (.builtin a1))(ha:QA X (e::es) t)(hn:x≠"__name__":=by decide)(Y:(x==("__debug__":Str))=false:=by decide)(he:starEach (e::es) X.env=(false,eval e X.env)::starEach es X.env:=by rfl)(a0:(backTo pos (starEach es X.env)).any (·.1)=false:=by rfl):QE X (.Call (.Name x p) (e::es) [] pos) (tCB r t):=⟨Ai3 I hg hm O ha.go hn Y he a0⟩
theorem Iy (I:CV X (compareOp op) r)(ha:QE X a ta)(hb:QE X b tb)(hm:behindInMarks op b=false):QE X (.Compare a [op] [b] pos) (IG r ta tb):=⟨pe_cmpR I ha.go hb.go hm⟩
theorem Az (h:QA X es t):QE X (.List es pos) (Ad7 t):=⟨pe_lst h.go⟩
theorem Ys (I:X.N.Nodup)(O:X.N[i]?=some x)(hx:Loc X.env.scope x)(hf:X.fn x=true\/X.env.scope.names.lookup x=some .local:=by first|exact .inl rfl|exact .inr rfl|assumption):QG X (.Name x pos) (Dw i):=⟨pg_name I O hx hf⟩
theorem Dv (hr:IxR X r)(ha:QE X a ta)(hb:QE X b tb)(hs:Uy b):QE X (.Subscript a b pos) (IG r ta tb):=⟨pe_ix hr ha.go hb.go hs⟩
theorem Ho (h:QE X e t)(he:∀whole,isTrue e X.env whole=(do let v ← whole;standAt e.pos;holding [v] (truthy v)):=by intro _;rfl):QT X e (tB t):=⟨pt_val h.go he⟩
theorem Fh {b j pos}:QE X (.Constant (.bool b) j pos) (tC (.bl b)):=⟨pe_bl⟩
theorem Qe (ha:QT X a tA):QT X (.UnaryOp .Not a pos) (tNot tA):=⟨pt_not ha.go⟩
theorem Dq (hg:Gl X x)(hm:X.mg x=none)(I:bootBuiltins x=some u)(r:RelV v u)(hn:x≠"__name__":=by decide)(hd:(x==("__debug__":Str))=false:=by decide):QE X (.Name x pos) (tC v):=⟨pe_bltn hg hm I r hn hd⟩
theorem qw_or (ha:QT X a tA)(hb:QW X (.BoolOp .Or (b::I) pos) tB'):QW X (.BoolOp .Or (a::b::I) pos) (tOr tA tB'):=⟨pw_or ha.go hb.go⟩
theorem Dl (ha:QE X a ta)(hb:QE X (.BoolOp .And (b::I) pos) tb):QE X (.BoolOp .And (a::b::I) pos) (tAndV ta tb):=⟨pe_and ha.go hb.go⟩
theorem Ei (O:PassesOwn (model X.prog X.w) X.A X.env X.xe)(I:X.calm=true)(a0:QI X tg iter Y)(hg:QG X tg g)(hb:IB X a1 tb)(hs:∀x,foldedSetIterable iter X.env x=pure x:=by intro _;rfl):QS X (.For tg iter a1 [] pos) (An7 Y g tb):=⟨ps_for O I a0.go hg.go hb.go hs⟩
theorem Ca (h:QE X e te):QO X (some e) (tPart te):=⟨Aq2 h.go⟩
theorem qe_un {r:V->Hp->VK->Prop}(I:UnR X (unaryOp op) r)(ha:QE X a ta):QE X (.UnaryOp op a pos) (tUn r ta):=⟨pe_un I ha.go⟩
theorem Dz {op}(h:QE X a t):QE X (.BoolOp op [a] pos) t:=⟨pe_one h.go⟩
theorem Af4 (ha:QT X a tA):QW X (.BoolOp .Or [a] pos) tA:=⟨pw_or1 ha.go⟩
theorem Pa (hg:Gl X x)(hm:X.mg x=some (.int i t))(hd:(x==("__debug__":Str))=false:=by decide):QE X (.Name x pos) (tC (.int i)):=⟨pe_gint hg hm hd⟩
theorem Cd {r:V->Option Int->Option Int->Hp->VK->Prop}(hr:SlR X r)(he:QE X e te)(hl:QO X O tl)(hu:QO X I th):QE X (.Subscript e (.Slice O I none p2) pos) (tSl r te tl th):=⟨Ah6 hr he.go hl.go hu.go⟩
theorem Cc (I:Ex X (.type T) r)(hg:Gl X x)(hm:X.mg x=none)(O:bootBuiltins x=some (.type T))(ha:QA X (e::es) t)(hn:x≠"__name__":=by decide)(Y:(x==("__debug__":Str))=false:=by decide)(he:starEach (e::es) X.env=(false,eval e X.env)::starEach es X.env:=by rfl)(a0:(backTo pos (starEach es X.env)).any (·.1)=false:=by rfl):QE X (.Call (.Name x p) (e::es) [] pos) (tCB r t):=⟨Aa2 I hg hm O ha.go hn Y he a0⟩
theorem Lu (pa:PlainAttrs T)(a5:Slot T O I)(a0:typeOf (.builtin I)=pure (.type "method_descriptor"))(hm:MtR X I r)(Y:QE X o a1)(ha:QA X (e::es) t)(a3:attributeBase o O X.env (eval o X.env)=eval o X.env:=by rfl)(a2:((backTo cpos (starEach (e::es) X.env)).all (λx=>!x.1)&&(backToKw cpos (keywordEach [] X.env)).all (λx=>x.1.isSome)&&decide ((e::es).length+([]:List Keyword).length+(if([]:List Keyword).isEmpty then 0 else 1)<30))=true:=by rfl)(a4:(apos.endLine==cpos.line)=true:=by rfl)(hs:starEach (e::es) X.env=(false,eval e X.env)::starEach es X.env:=by rfl)(a6:(backTo cpos (starEach es X.env)).any (·.1)=false:=by rfl):QE X (.Call (.Attribute o O apos) (e::es) [] cpos) (tBM X.K T r a1 t):=⟨pe_bm pa a5 a0 hm Y.go ha.go a3 a2 a4 hs a6⟩
theorem Ia (h1:QG X e t)(h2:QGs X es u)(hs:(assignEach (e::es) X.env).map (·.2)=assign e X.env::(assignEach es X.env).map (·.2):=by rfl):QGs X (e::es) (gCons t u):=⟨Ah4 h1.go h2.go hs⟩
theorem Ai {I}(h:QA X es t):QE X (.Tuple es I pos) (An5 t):=⟨pe_tup h.go⟩
theorem Af7 :QS X I Ad6:=⟨Ag7⟩
theorem Cm :QO X none Ss:=⟨Aq3⟩
theorem Dh (hg:Gl X "range")(hm:X.mg "range"=none)(ha:QA X [a] ta)(hs:starEach [a] X.env=[(false,eval a X.env)]:=by rfl):QI X tg (.Call (.Name "range" p) [a] [] pos) (iRng1 ta):=⟨Aa0 hg hm ha.go hs⟩
theorem Gf (hl:QE X l tl):QI X tg l (Al3 X.K tl):=⟨Aq5 hl.go⟩
theorem Ax (he:QE X e te)(hs:swapsWith e none pos.line X.env=pure false:=by rfl):QS X (.Expr e pos) (tDrop te):=⟨Yv he.go hs⟩
theorem Af9 {j pos}:QE X (.Constant .none j pos) (tC .BO):=⟨pe_non⟩
theorem Dd :QTS X [] tYes:=⟨Ap6⟩
theorem Tx :QGs X [] gNil:=⟨pgs_nil⟩
theorem Xg (I:X.calm=true)(h:QGs X es t)(hn:(assignEach es X.env).length=n:=by rfl)(O:(assignEach es X.env).findIdx? (·.1)=none:=by rfl):QG X (.Tuple es k pos) (gTup X.K n t):=⟨pg_tup I h.go hn O⟩
theorem Lf (pa:PlainAttrs T)(a4:Slot T O I)(a0:typeOf (.builtin I)=pure (.type "method_descriptor"))(hm:MtR X I r)(Y:QE X o a1)(a2:attributeBase o O X.env (eval o X.env)=eval o X.env:=by rfl)(a3:(apos.endLine==cpos.line)=true:=by rfl):QE X (.Call (.Attribute o O apos) [] [] cpos) (tBM0 X.K T r a1):=⟨pe_bm0 pa a4 a0 hm Y.go a2 a3⟩
theorem Ge (ha:QT X a tA):QW X (.BoolOp .And [a] pos) tA:=⟨Ap4 ha.go⟩
theorem Iw (ha:QT X a tA)(hb:QW X (.BoolOp .And (b::I) pos) tB'):QW X (.BoolOp .And (a::b::I) pos) (tAnd tA tB'):=⟨pw_and ha.go hb.go⟩
theorem Af5 (Y:CV X (compareOp op) r)(a0:CV X (compareOp I) r')(ha:QE X a ta)(hb:QE X b tb)(O:QE X c tc)(hm:lastMarks [op,I] [b,c]=false:=by with_unfolding_all rfl):QT X (.Compare a [op,I] [b,c] pos) (U5 (Sv r r' ta tb tc)):=⟨Ag4 Y a0 ha.go hb.go O.go hm⟩
theorem Hq (hl:QE X l tl):QI X tg l (iTup X.K tl):=⟨pi_tup hl.go⟩
theorem qe_or (ha:QE X a ta)(hb:QE X (.BoolOp .Or (b::I) pos) tb):QE X (.BoolOp .Or (a::b::I) pos) (tOrV ta tb):=⟨pe_or ha.go hb.go⟩
theorem Af8 (ha:QE X a ta):QE X (.UnaryOp .Not a pos) (tNotV ta):=⟨pe_not ha.go⟩
theorem Ap2 (hu:X.A.units+1<cLine)(I:QE X o O)(Y:QE X i ty)(hs:Ac4 i):QE X (.Subscript o i pos) (Ae0 O ty):=⟨pe_dget hu I.go Y.go hs⟩
theorem Qg (Y:CV X (compareOp op) r)(a0:CV X (compareOp I) r')(ha:QE X a ta)(hb:QE X b tb)(O:QE X c tc)(hm:lastMarks [op,I] [b,c]=false:=by with_unfolding_all rfl):QE X (.Compare a [op,I] [b,c] pos) (Sv r r' ta tb tc):=⟨Ai1 Y a0 ha.go hb.go O.go hm⟩
theorem O9 (h:QT X c tt):QTS X [c] tt:=⟨Ap5 h.go⟩
theorem qi_str (hl:QE X l tl):QI X (.Name n p) l (iStr tl):=⟨pi_str hl.go⟩
theorem Ao7:QPs X pos [] [] []:=⟨Aq1⟩
theorem J9 (hk:QE X k tk)(I:QE X v O)(hr:QPs X pos ks vs Y):QPs X pos (some k::ks) (v::vs) ((tk,O)::Y):=⟨Ag9 hk.go I.go hr.go⟩
theorem Ap1 (h:QPs X pos keys I Y)(a0:keys.all (·.isSome)=true)(hl:keys.length=I.length)(h0:keys≠[])(O:keys.length<=15):QE X (.Dict keys I pos) (tDisp Y):=⟨pe_disp h.go a0 hl h0 O⟩
theorem qv (i:Nat)(I:X.N[i]?=some x:=by rfl)(O:Vis X.env.scope x:=by first|exact Or.inl rfl|exact Or.inr (Or.inl rfl)|exact Or.inr (Or.inr rfl))(hd:(x==("__debug__":Str))=false:=by decide)(Y:(x==("__classdict__":Str))=false:=by decide):QE X (.Name x pos) (Zz i):=⟨pv i I O hd Y⟩
theorem QW.pt (h:QW X e t):QT X e t:=⟨h.go.pt⟩
theorem E9 (c:At X scope cl N' n js)(Y:X.calm=true)(hi:QI X tg iter wi)(O:∀I H3 fp,QG (CB X N' scope cl I H3 fp) tg g/\QTS (CB X N' scope cl I H3 fp) a1 tt/\QE (CB X N' scope cl I H3 fp) a0 te)(hs:∀x,foldedSetIterable iter X.env x=pure x:=by intro _;rfl):QE X (.ListComp a0 [⟨tg,iter,a1,0⟩] scope pos) (Yi (Jq n js) wi g tt te):=⟨pe_comp c Y hi.go (λI H3 fp=>(Bc ((O I H3 fp).1.go) ((O I H3 fp).2.1.go) ((O I H3 fp).2.2.go))) hs⟩
theorem G9 (hN:X.N.Nodup)(a1:X.N[i0]?=some y)(hx:X.env.scope.names.lookup y=some .local)(a2:swapsWith (.ListComp Y [⟨tg,iter,a0,0⟩] scope pos) (some (.Name y py)) a3.line X.env=pure true)(c:At X scope cl N' n js)(hc:X.calm=true)(hi:QI X tg iter wi)(O:∀I H3 fp,QG (CB X N' scope cl I H3 fp) tg g/\QTS (CB X N' scope cl I H3 fp) a0 tt/\QE (CB X N' scope cl I H3 fp) Y te)(hs:∀x,foldedSetIterable iter X.env x=pure x:=by intro _;rfl):QS X (.Assign [.Name y py] (.ListComp Y [⟨tg,iter,a0,0⟩] scope pos) a3) (Sw (Yi (Jq n js) wi g tt te) (Dw i0)):=⟨Aq0 hN a1 hx a2 c hc hi.go (λI H3 fp=>(Bc ((O I H3 fp).1.go) ((O I H3 fp).2.1.go) ((O I H3 fp).2.2.go))) hs⟩
end
theorem BE.okQ {P:Program}{w:World}{K:PySem.W.Frag}{mg:Str->Option Value}{base:Heap}{x qual:Str}{I:Stmt}{f:Addr}{fd:FuncData}{N ps:List Str}{k:Nat}{sp:Sp}(F:BE K x qual I f fd)(S:AD N ps (Aq I))(len:∀vs H Q E,sp vs H Q E->vs.length=ps.length)(Y:∀(cdv:Value) (A:Around) (outer:List Env) (s:Shared) (H:Hp) (vs:List V) (Q:VK) (E:XK),BB k (A.deeper (envOfC qual (Aq I) s.heap.objs.size f cdv))->sp vs H Q E->∃t,IB (Nl BV P w K mg base N qual (Aq I) f cdv A outer s H E).nox (Cn I) t/\t {nx:=λ_ H'=>Q .BO H',rt:=Q} (start N vs) H):AI P w K mg base BV (k+1) f fd ps sp:=F.ok S len λcdv A outer s H vs Q E hr O=>let ⟨t,h,q⟩:=Y cdv A outer s H vs Q E hr O;(Ar t h.go q)
noncomputable def Ai7 (o:Obj):Obj:={o with data:=.freed}
noncomputable def Ez (h:Heap):List Addr->Heap
 | []=>h
 | a::l=>(Ez h l).update a Ai7
theorem out_get {h:Heap}:(h.update a Ai7).get? a=none:=by
 obtain⟨objs,l⟩:=h
 show(match (objs.modify a Ai7)[a]? with|some ⟨_,_,.freed,_⟩=>none|o=>o)=none
 rw[Array.getElem?_modify,JN rfl]
 cases objs[a]? with
 | none=>rfl
 | some o=>rfl
theorem Gm:∀{l:List Addr} {b:Addr},b∈l->(Ez h l).get? b=none
 | [],b,hb=>by simp at hb
 | a::l,b,hb=>by
  by_cases e:a=b
  .subst e;exact out_get
  .show ((Ez h l).update a Ai7).get? b=none
   rw[NF _ _ e]
   rcases JC.mp hb with q|q
   .exact absurd q.symm e
   .exact Gm q
theorem G8:∀{l:List Addr} {b:Addr},b∉l->(Ez h l).get? b=h.get? b
 | [],b,hb=>rfl
 | a::l,b,hb=>by
  have e:a≠b:=λz=>hb (z▸JJ ..)
  show((Ez h l).update a Ai7).get? b=_
  rw[NF _ _ e];exact G8 λz=>hb (JE _ z)
theorem K3:(Ez h l).StaysIn h:=λb o e=>by
 by_cases hb:b∈l
 .rw [Gm hb]at e;cases e
 .rw [G8 hb]at e;exact e
theorem K5 {h B I:Heap}:∀{l:List Env},h.FunFrames B l->(∀b∈EC l,I.get? b=none)->h.FunFrames I l
 | [],_,_=>trivial
 | env::l,⟨k,⟨L,o,hf,_,Y,hd⟩,r⟩,O=>by
  refine Bc k (Cj L o hf (O L ?_) Y hd) (K5 r λb hb=>O b ?_)
  .show L∈(env::l).filterMap (·.frame)
   rw[NE,hf];exact JJ ..
  .show b∈(env::l).filterMap (·.frame)
   rw[NE,hf];exact JE _ hb
theorem AX.there (x:AX P w H h a o):∃ob,h.get? a=some ob:=by
 cases o with
 | lst xs=>refine Fg x λ_ I=>?_;refine Co I λ_ _ _ e=>?_;exact⟨_,e⟩
 | tup xs=>refine Fg x λ_ I=>?_;refine Am I λ_ _ O=>?_;refine Am O λob e _=>?_;exact⟨_,e⟩
 | dK kvs=>refine Bu x λ_ _ I=>?_;refine Am I λ_ _ O=>?_;refine Gg O λo _ _ e _=>?_;exact⟨_,e⟩
 | dT kvs=>refine Bu x λ_ _ I=>?_;refine Am I λ_ _ O=>?_;refine Gg O λo _ _ e _=>?_;exact⟨_,e⟩
 | set S n=>refine dd41 x λo _ _ _ e _=>?_;exact⟨_,e⟩
 | ins C dx fs=>refine Ii x λ_ _ _ e _=>?_;exact⟨_,e⟩
 | own y=>exact x
 | xd fs=>refine Am x λ_ I _=>?_;obtain⟨_,_,_,e,_⟩:=I;exact⟨_,e⟩
 | rng lo hi=>refine Jg x λ_ _ _ e=>?_;exact⟨_,e⟩
 | DZ ob u=>obtain⟨e,_⟩:=x;exact⟨_,e⟩
 | tbl ps=>exact⟨_,show h.get? a=some _ from x⟩
 | met f y=>exact⟨_,show h.get? a=some _ from x⟩
 | ext φ=>refine Bu x λ_ e _=>?_;exact e
theorem CL.none_of (x:CL P w H h)(e:h.get? a=none):H a=none:=by
 cases q:H a with
 | none=>rfl
 | some o=>obtain⟨ob,r⟩:=(x a o q).there;rw[e]at r;cases r
theorem CL.IM (x:CL P w H h)(k:∀b u o,H b=some o->h.get? b=some u->h'.get? b=some u):CL P w H h':=λa o e=>
 (x a o e).EJ (λb u hb q=>by
   rcases hb with rfl|hb
   . exact k _ u o e q
   . exact k b u _ hb q) (λ_ q=>q) λ_ _ q=>q
theorem CL.track (x:CL P w H h)(hn:H a=none)(new:AX P w (upd H a o) h a o):CL P w (upd H a o) h:=λb u e=>by
 by_cases hb:b=a
 .subst hb;rw[Aj]at e;cases e;exact new
 .rw [Ak hb]at e;exact(x b u e).EJ (λc v _ q=>q) (λc q=>by rw[Ak (Ah q hn)];exact q) λc xs q=>by rw[Ak (Ah q hn)];exact q
def Rec (h:Heap)(e:Addr)(cls:Value):Option Addr->Prop
 | none=>∃I vs,h.get? e=some I/\I.cls=cls/\I.data=.fields vs/\vs[1]?=some .none
 | some T=>∃I vs oT ts,h.get? e=some I/\I.cls=cls/\I.data=.fields vs/\vs[1]?=some (.ref T)/\T≠e/\h.get? T=some oT/\oT.data=.fields ts/\ts[3]?=some .none
theorem Rec.made (x:Heap.MadeExcOf h h' e cls vs):Rec h' e cls none:=by
 refine Am x.there λt q _=>Bp q rfl rfl rfl
structure Noted (l:List Env)(e:Addr)(cls:Value)(T:Option Addr)(h h':Heap)(T':Addr):Prop where
 rc:Rec h' e cls (some T')
 new:h.get? T'=none\/T=some T'
 keep:∀b o,h.get? b=some o->b∉EC l->b≠e->T≠some b->h'.get? b=some o
 slot:∀b o,h.get? b=some o->b∈EC l->∃sl,h'.get? b=some {o with slots:=sl}
section
variable {E:Value->Shared->Prop}
theorem Aj1 (hF:h.FunFrames B (env::outer))(lf:Heap.Left (Ez h (e::(T.toList++EC (env::outer)))) (env::outer) e cls h h'):∃T',Noted (env::outer) e cls T h h' T':=by
 refine Ox lf λst ff I sl=>?_;obtain⟨oe,vs,T',oT,ts,h1,h2,h3,h4,O,Y,h7,h8,h9⟩:=I;refine⟨T',(Ch oe vs oT ts h1 h2 h3 h4 Y (Bc h7 h8 h9)),?_,λb o hb n1 n2 n3=>?_,λb o hb a2=>?_⟩
 .by_cases hm:T'∈e::(T.toList++EC (env::outer))
  .rcases JC.mp hm with q|q
   .exact absurd q Y
   .rcases JV.mp q with q|q
    .cases T with
     | none=>simp at q
     | some t=>simp at q;exact .inr (by rw[q])
    .refine Fg (ff.mem q) λ_ I=>?_;refine Am I λo ho hd=>?_;rw[h7]at ho;cases ho;exact absurd h8 (hd ts)
  .rw [G8 hm]at O;exact .inl O
 .refine st b o ?_;rw[G8 ?_]
  .exact hb
  .intro z
   rcases JC.mp z with z|z
   .exact n2 z
   .rcases JV.mp z with z|z
    .cases T with
     | none=>simp at z
     | some t=>simp at z;exact n3 (by rw[z])
    .exact n1 z
 .refine Fg (hF.mem a2) λ_ I=>?_;refine Am I λo' a0 a1=>?_;rw[hb]at a0;cases a0;exact sl b o hb a1
theorem Vn {Q:Unit->Shared->Prop}(hA:A.frames=some (env::outer))(hL:env.frame=some L)(hF:s.heap.FunFrames B (env::outer))(r:Rec s.heap e cls T)
  (k:∀h' T',Noted (env::outer) e cls T s.heap h' T'->Q () {s with heap:=h'}):wpAny M A (noteFrame (.ref e) env) (λ_ s2=>wpAny M A (setFlight (.ref e) none) Q E s2) E s:=by
 have hB:∀b∈EC (env::outer),(Ez s.heap (e::(T.toList++EC (env::outer)))).get? b=none:=λb hb=>Gm (JE _ (JZ _ hb));have a0:=K5 hF hB;have hE:(Ez s.heap (e::(T.toList++EC (env::outer)))).get? e=none:=Gm (JJ ..);have fin:∀h',Heap.Left (Ez s.heap (e::(T.toList++EC (env::outer)))) (env::outer) e cls s.heap h'->Q () {s with heap:=h'}:=λh' lf=>by
  obtain⟨T',n⟩:=Aj1 hF lf;exact k h' T' n
 cases T with
 | none=>
  refine Gh r λoe vs O z1 Y g4=>?_;subst z1
  show wpAny M A (noteFrame (.ref e) env) _ E s
  unfold noteFrame;simp only[hL];refine JA (KE O Y g4 ?_);rw[JP (by decide)];exact wpAny_newEntry hA a0 hL O K3 hE Y (Array.getElem?_eq_some_iff.mp g4).1 fin
 | some T=>
  refine F3 r λoe vs oT ts O z1 Y g4 g5 z2=>?_;refine Bu z2 λg6 g7 g8=>?_;subst z1;have hT:(Ez s.heap (e::((some T).toList++EC (env::outer)))).get? T=none:=Gm (JE _ (LQ _ (by simp)))
  show wpAny M A (noteFrame (.ref e) env) _ E s
  unfold noteFrame;simp only[hL];refine JA (KE O Y g4 ?_);rw[JN (show(Value.ref T !=Value.none)=true by simp)];refine JA (KE g6 g7 g8 ?_);rw[JP (show ¬(Value.none==rawInt L)=true by simp[rawInt])];refine JA (wpAny_setField g6 g7 (Array.getElem?_eq_some_iff.mp g8).1 ?_);have oth:∀b,b≠T->(s.heap.update T (Obj.mapFields (·.setIfInBounds 3 Value.none))).get? b=s.heap.get? b:=λb hb=>NF _ _ (NI hb);have nr:∀b o,s.heap.get? b=some o->(∀zs,o.data≠.fields zs)->b≠T:=λb o q I z=>by
   rw[z,g6]at q;cases q;exact I ts g7
  refine wpAny_newEntry hA (a0.of_keeps λb o q I=>(Ar o ((oth b (nr b o q I)).trans q) rfl)) hL ((oth e (NI g5)).trans O)
   (λb o q=>(oth b λz=>by rw[z,hT]at q;cases q).trans (K3 b o q)) hE Y (Array.getElem?_eq_some_iff.mp g4).1 ?_
  rintro h' ⟨x1,x2,x3,x4⟩;exact fin h' (C6 x1 x2 x3 λb o q I=>x4 b o ((oth b (nr b o q I)).trans q) I)
end
noncomputable def DP (P:Program)(w:World):IV:=λouter H s E e s'=>∃(a:Addr) (cls:Value) (T:Addr) (H':Hp),e=.ref a/\s'.os=s.os/\AllBare s'.gens/\Un (EC outer) [] H H' s.heap s'.heap/\CL P w H' s'.heap /\
 Rec s'.heap a cls (some T)/\s.heap.get? a=none/\H' a=none/\s.heap.get? T=none/\H' T=none/\E cls none H'
def Ux (X:Cx)(E:XK):Prop:=∀(pins:List (Addr×Obj)) (σ:St) (H:Hp) (s:Shared) (a:Addr) (cls:Value) (T:Option Addr),Inv X pins σ H s->Rec s.heap a cls T->X.s₀.heap.get? a=none->H a=none ->
 (∀t,T=some t->X.s₀.heap.get? t=none/\H t=none)->E cls none H->X.xe (.ref a) s
theorem Inv.IL (I:Inv X pins σ H s)(hex:X.ex=[])(h:s.heap.get? a=none):X.s₀.heap.get? a=none:=by
 cases q:X.s₀.heap.get? a with
 | none=>rfl
 | some o=>
  obtain⟨o',r⟩:=I.base.there a o q (by rw[hex];simp);rw[h]at r;cases r
theorem Av {P:Program}{w:World}{K:PySem.W.Frag} :
  Ux (Nl (DP P w) P w K mg base N qual scope f Y A outer s₀ H₀ E) E:=by
 intro pins σ H s a cls T I r ha hH hT e
 show wpAny _ _ (leaving _ _) _ _ s
 unfold leaving;have a2:∀b o,s₀.heap.get? b=some o->b≠s₀.heap.objs.size:=λb o q=>KC (JK q);refine JA (Vn I.ok.frames rfl I.stack r λh' T' n=>?_);have fr:∀b,b∈EC (envOfC qual scope s₀.heap.objs.size f Y::outer)->b=s₀.heap.objs.size\/b∈EC outer:=λb hb=>by
  have:=I.GW b hb
  rcases JC.mp this with z|z
  .exact .inl z
  .exact .inr z
 have own:∀b,b∈EC outer->b∈EC (envOfC qual scope s₀.heap.objs.size f Y::outer):=λb hb=>JE _ hb;have nT:∀b o,s₀.heap.get? b=some o->T≠some b:=λb o q z=>by
  have:=(hT b z).1;have this:s₀.heap.get? b=none:=this;rw[q]at this;cases this
 have na:∀b o,s₀.heap.get? b=some o->b≠a:=λb o q z=>by
  have this:s₀.heap.get? a=none:=ha;rw[z,this]at q;cases q
 have a0:s₀.heap.get? T'=none/\H T'=none:=by
  rcases n.new with z|z
  .exact⟨I.IL rfl z,I.AR.none_of z⟩
  .exact hT T' z
 refine Ch a cls T' H rfl I.os I.bare ⟨λb o q m hb hx=>?_,λb o q m hb hx=>?_,I.base.free,λb o q hx=>?_,I.base.AE,I.base.DS,I.base.ES⟩ (I.AR.IM λb u o hb q=>?_) (El n.rc ha hH a0.1 a0.2 e)
 .have O:=I.base.keep b o q m hb hx;exact n.keep b o O (λz=>(fr b z).elim (a2 b o q) hb) (na b o q) (nT b o q)
 .obtain⟨sl,O⟩:=I.base.slot b o q m hb hx;obtain⟨a1,q2⟩:=n.slot b _ O (own b hb);exact⟨a1,q2⟩
 .obtain⟨o',O⟩:=I.base.there b o q hx;by_cases hb:b∈EC (envOfC qual scope s₀.heap.objs.size f Y::outer)
  .obtain⟨a1,q2⟩:=n.slot b _ O hb;exact⟨_,q2⟩
  .exact⟨o',n.keep b o' O hb (na b o q) (nT b o q)⟩
 .refine n.keep b u q (λz=>?_) (λz=>?_) λz=>?_
  .rw [I.FP b z]at hb;cases hb
  .rw [z,hH]at hb;cases hb
  .rw [(hT b z).2]at hb;cases hb
theorem B2 (R:Ux X E)(hex:X.ex=[]):Fx (DP X.prog X.w) X E:=by
 intro pins σ H s e s' I h;refine F3 h λa cls T H' z1 os bare un AR z2=>?_;refine G7 z2 λr ha Y hT a0 q=>?_;subst z1;have O:Inv X pins σ H' s':=I.HI (ch:=[]) os un AR bare λb z=>absurd z (by simp);exact R pins σ H' s' a cls (some T) O r (I.IL hex ha) Y (λt z=>by cases z;exact⟨I.IL hex hT,a0⟩) q
theorem exc_obj {K:PySem.W.Frag}{h:Heap}{C:Addr}{bmB:List Value}{newId:String}(X:K.In h)(q:PySem.W.excIn K C bmB newId=true) :
  ∃bm N nm O bs hdct sn sub ab col dd k0 k1 k2 k3 k5 mN,h.get? C=some (excClassObj nm O C N bs bm hdct sn sub ab col dd k0 k1 k2 k3 k5 newId)/\h.Ns N mN/\mN "__init__"=none/\OwnTail h bmB bm:=by
 unfold PySem.W.excIn at q;split at q
 case h_2=>cases q
 case h_1 dd cd sl ho=>
  split at q
  case h_2=>cases q
  case h_1 C' bm k0 k1 k2 k3 n k5 hm hs=>
   simp only[JW,NA,PK]at q;obtain⟨⟨⟨⟨⟨e1,e2⟩,Y⟩,ht⟩,I⟩,e5⟩:=q;subst e1;subst e2;obtain⟨nm,bs,mr,a0,O,hdct,sn,sub,ab,col,dl⟩:=cd;dsimp only at hm Y I e5;subst hm;subst Y;have z:sl=#[k0,k1,k2,k3,some (Value.builtin n),k5]:=by cases sl with|mk l=>simp only at hs;rw[hs]
   rw[z]at ho;exact Ct bm a0 nm O bs hdct (Ct sn sub ab col dd k0 (ii53 k1 k2 k3 k5 _ (X _ _ ho) (.of_isNs (PySem.W.isNs_of_in X I)) (PySem.W.nsMap_none_of_in X I e5) (PySem.W.tail_of_in X ht)))
def Ad5 (E:XK)(C:Addr)(t:TA):TS:=λ_ σ H=>t σ H λvs H1=>vs.length<=sizeLine/\E (.ref C) none H1
theorem Ag6 (R:Ux X E)(hex:X.ex=[])(hc:X.calm=true)(FB:ExcBaseFacts B newId initId bm)(hg:Gl X x)(hm:X.mg x=some (.ref C))
  (hC:PySem.W.excIn X.K C bm newId=true)(ha:PA X (e::es) t)(a0:(x==("__debug__":Str))=false:=by decide)(he:starEach (e::es) X.env=(false,eval e X.env)::starEach es X.env:=by rfl)(a2:(backTo cpos (starEach es X.env)).any (·.1)=false:=by rfl) :
  PS X (.Raise (some (.Call (.Name x np) (e::es) [] cpos)) none pos) (Ad5 E C t):=by
 intro pins s σ H D I h;refine Dp (exc_obj I.mod.kin hC) λtl N nm q bs hdct z1=>?_;refine Dp z1 λsn sub ab col dd k0 z2=>?_;refine dd53 z2 λk1 k2 k3 k5 mN hO hN a1 T=>?_;have a3:(backTo cpos (starEach (e::es) X.env)).any (·.1)=false:=by
  rw[he]
  show(false||(backTo cpos (starEach es X.env)).any (·.1))=false
  rw[a2];rfl
 refine wpAny_Raise_call_subT (C:=C) (nm:=nm) (q:=q) (N:=N) (bs:=bs) (bm:=tl) (hdct:=hdct) (sn:=sn) (sub:=sub) (ab:=ab) (col:=col) (dd:=dd) (k0:=k0) (k1:=k1) (k2:=k2) (k3:=k3) (k5:=k5) FB (mN:=mN) (T.hasType FB.hasBase) (I.ok.hd hc) a3 a1 (Fz I hg hm ⟨rfl,?_⟩ a0);have h2:=ha cpos pins s σ H _ I h;rw[he]at h2 ⊢;refine Calls.evalArgs_plain (MY h2 (λus s2 z=>(Gh z λvs H1 O rv ln ee=>?_)) λ_ _ y=>y);refine El rfl (by rw[← rv.length];exact ln) (O.bk _ _ hO) (hN.keeps O.bk) (T.keeps O.bk) λh' a Y=>R pins σ H1 {s2 with heap:=h'} a (.ref C) none (O.kept (t':=s2.toks) Y.keeps) (Rec.made Y) (O.IL hex Y.new) (O.AR.none_of Y.new) (λt z=>nomatch z) ee
structure AU (P:Program)(w:World)(K:PySem.W.Frag)(mg:Str->Option Value)(base:Heap)(k:Nat)(x:Str)(ps:List Str)(sp:Sp):Prop where
 ex:∃f fd,AI P w K mg base (DP P w) k f fd ps sp/\mg x=some (.ref f)/\PySem.W.keepIn K (.ref f)=true/\Binds K fd ps []
theorem pe_fn1 (F:AU X.prog X.w X.K X.mg X.base k x ps sp)(I:Fx (DP X.prog X.w) X E)(hr:BB k X.A)(hg:Gl X x)(ha:PA X (e::es) t)(O:(x==("__debug__":Str))=false:=by decide)
  (he:starEach (e::es) X.env=(false,eval e X.env)::starEach es X.env:=by rfl)(Y:(backTo pos (starEach es X.env)).any (·.1)=false:=by rfl):PE X (.Call (.Name x p) (e::es) [] pos) (Jt sp [] E t):=by
 refine Gh F.ex λf fd F hm hk hb=>Yx F hr hg hm hk hb .nil I ha O he Y
section
variable {P:Program}{w:World}{K:PySem.W.Frag}{mg:Str->Option Value}{base:Heap}
theorem BE.ok1 {x qual:Str}{st:Stmt}{f:Addr}{fd:FuncData}{N ps:List Str}{k:Nat}{sp:Sp}(F:BE K x qual st f fd)(S:AD N ps (Aq st))(len:∀vs H Q E,sp vs H Q E->vs.length=ps.length)
   (a1:∀(cdv:Value) (A:Around) (outer:List Env) (s:Shared) (H:Hp) (vs:List V) (Q:VK) (E:XK),BB k (A.deeper (envOfC qual (Aq st) s.heap.objs.size f cdv))->sp vs H Q E ->
     ∃t,IB (Nl (DP P w) P w K mg base N qual (Aq st) f cdv A outer s H E) (Cn st) t/\t {nx:=λ_ H'=>Q .BO H',rt:=Q} (start N vs) H):AI P w K mg base (DP P w) (k+1) f fd ps sp:=by
 refine Dp F.ex λoc od kV doc pm an I=>?_;refine Gz I λcdv ct osl O lk Y=>?_;subst O;refine fn_of lk Y S len λA outer s H vs Q E hr a0=>Am (a1 cdv A outer s H vs Q E hr a0) λt h q=>Ar t h.go q
end
section
theorem Af6 (R:Ux X E)(hex:X.ex=[])(O:X.calm=true)(FB:ExcBaseFacts B newId initId bm)(hg:Gl X x)(hm:X.mg x=some (.ref C))
  (I:PySem.W.excIn X.K C bm newId=true)(ha:QA X (e::es) t)(Y:(x==("__debug__":Str))=false:=by decide)(he:starEach (e::es) X.env=(false,eval e X.env)::starEach es X.env:=by rfl)(a0:(backTo cpos (starEach es X.env)).any (·.1)=false:=by rfl) :
  QS X (.Raise (some (.Call (.Name x np) (e::es) [] cpos)) none pos) (Ad5 E C t):=⟨Ag6 R hex O FB hg hm I ha.go Y he a0⟩
theorem qe_fn1 (F:AU X.prog X.w X.K X.mg X.base k x ps sp)(I:Fx (DP X.prog X.w) X E)(hr:BB k X.A)(hg:Gl X x)(ha:QA X (e::es) t)(O:(x==("__debug__":Str))=false:=by decide)
  (he:starEach (e::es) X.env=(false,eval e X.env)::starEach es X.env:=by rfl)(Y:(backTo pos (starEach es X.env)).any (·.1)=false:=by rfl):QE X (.Call (.Name x p) (e::es) [] pos) (Jt sp [] E t):=⟨pe_fn1 F I hr hg ha.go O he Y⟩
end
structure EA (k:Nat)(A:Around):Prop where
 dp:A.depth+3*k+5<recursionLimit
 un:A.units+16*k+200<cLine
theorem BB.h (r:BB k A)(v:Option Value):EA k (A.mark v):=⟨r.dp,r.un⟩
theorem EA.deeper (r:EA (k+1) A)(env:Env):EA k (A.deeper env):=
 ⟨by have:=r.dp;show A.depth+1+3*k+5<_;omega,by have:=r.un;show A.units+3+16*k+200<_;omega⟩
theorem EA.depth (r:EA k A):A.depth<recursionLimit:=by have:=r.dp;omega
structure IF (P:Program)(w:World)(K:PySem.W.Frag)(mg:Str->Option Value)(base:Heap)(k:Nat)(f:Addr)(fd:FuncData)(ps:List Str)(sp:Sp):Prop where
 len:∀vs H Q,sp vs H Q E0->vs.length=ps.length
 run:∀(A:Around) (outer:List Env) (s:Shared) (H:Hp) (args:Args) (us:List Value) (vs:List V) (Q:VK),EA k A->HA P w K mg base A outer s H->BindsTo s fd args (ps.zip us)->AG vs us->sp vs H Q E0 ->
  codeAny (model P w) A (.call (.ref f) args) (CR BV outer P w H s Q E0) s
noncomputable def Zk (P:Program)(w:World)(K:PySem.W.Frag)(mg:Str->Option Value)(base:Heap)(N:List Str)(qual:Str)(scope:Scope)(f:Addr)(I:Value)(A:Around)(outer:List Env)(s:Shared)(H:Hp):Cx:=
 {Nl BV P w K mg base N qual scope f I A outer s H E0 with calm:=false,xe:=λ_ _=>False}
section
variable {P:Program}{w:World}{K:PySem.W.Frag}{mg:Str->Option Value}{base:Heap}
theorem Inv.toH
  (I:Inv (Nl BV P w K mg base N qual scope f O {A with handled:=none} outer s H E0) pins σ H1 s1):Inv (Zk P w K mg base N qual scope f O A outer s H) pins σ H1 s1:=
 ⟨⟨I.ok.mod,I.ok.kind,I.ok.glob,I.ok.blt,I.ok.above,I.ok.inj,I.ok.has,I.ok.cab,λz=>Bool.noConfusion z,I.ok.frames,I.ok.stk,I.ok.exf,I.ok.bs,I.ok.IS,I.ok.HL,I.ok.GX,I.ok.AC,I.ok.frf⟩,
  I.os,I.bare,I.base,I.loc,I.cell,I.free,I.BZ,I.pin,I.AR,I.len⟩
theorem BE.FX {x qual:Str}{st:Stmt}{f:Addr}{fd:FuncData}{N ps:List Str}{k:Nat}{sp:Sp}(F:BE K x qual st f fd)(S:AD N ps (Aq st))(len:∀vs H Q,sp vs H Q E0->vs.length=ps.length)
   (a5:∀(cdv:Value) (A:Around) (outer:List Env) (s:Shared) (H:Hp) (vs:List V) (Q:VK),EA k (A.deeper (envOfC qual (Aq st) s.heap.objs.size f cdv))->sp vs H Q E0 ->
     ∃t,IB (Zk P w K mg base N qual (Aq st) f cdv A outer s H) (Cn st) t/\t {nx:=λ_ H'=>Q .BO H',rt:=Q} (start N vs) H):IF P w K mg base (k+1) f fd ps sp:=by
 refine Dp F.ex λoc od kV doc pm an z1=>?_;refine Gz z1 λcdv ct osl z2 lk a3=>?_;subst z2;refine⟨len,λA outer s H args us vs Q hr I hb r a0=>?_⟩;have hl:=len _ _ _ a0;have Y:K.In s.heap:=I.mod.kin.keeps λb o e=>(I.bs b o e).1;have a4:s.heap.NoLimit:=I.mod.nolimit.keeps λb o e=>(I.bs b o e).1;have a6:∀y∈ps.zip us,(Aq st).names.lookup y.1=some .local\/((Aq st).names.lookup y.1=some .cell/\((cellsFrom (s.heap.objs.size+1) (Aq st).names []).lookup y.1).isSome=true):=λ⟨n,v⟩ hy=>by
   rcases S.par n (List.of_mem_zip hy).1 with q|q
   . exact .inl q
   . exact .inr ⟨q,PySem.W.cellsFrom_some _ _ _ (.inl q)⟩
 refine codeAny_call_function hr.depth (Y _ _ lk) rfl S.co S.gen rfl (PySem.W.codeRec_of Y a3) (hb _ _ _ _ (wpAny_newFunctionEnv_cells S.kind a6 λenv he s1 x=>?_));subst he;refine⟨a4.keeps x.toInCall.keep,codeAny_func ?_⟩;refine Am (a5 cdv A outer s H vs Q (hr.deeper _) a0) λt ht hq=>?_;have a2:HA P w K mg base {A with handled:=none} outer s H:=⟨I.frames,I.mod,I.bs,I.IS,I.AC,I.frf,I.AR,I.bare⟩;have a1:Inv (Zk P w K mg base N qual (Aq st) f cdv A outer s H) [] (start N vs) H s1:=Inv.toH (Rz (A:={A with handled:=none}) S rfl a2 hl r x);refine MY (ht.go [] s1 (start N vs) H _ a1 hq) (λfl s' hs=>?_) λe s' hs=>hs.elim;have fin:∀{σ':St} {H':Hp} {v:V} {u:Value},Inv (Zk P w K mg base N qual (Aq st) f cdv A outer s H) [] σ' H' s'->RelV v u->Q v H'->CE outer P w H s Q u s':=
   fun {σ' H' v u} J O q=>(Md v H' J.os J.bare J.base J.AR O q)
 cases fl with
 | ret u=>
   refine Gz hs λv σ' H' J O q=>fin J O q
 | next=>
   refine Co hs λσ' H' J q=>fin (v:=V.BO) (u:=Value.none) J rfl q
 | brk=>
   refine Co hs λ_ _ _ q=>False.elim q
 | cont=>
   refine Co hs λ_ _ _ q=>False.elim q
end
structure FnBH (P:Program)(w:World)(K:PySem.W.Frag)(mg:Str->Option Value)(base:Heap)(k:Nat)(x:Str)(ps:List Str)(sp:Sp):Prop where
 ex:∃f fd,IF P w K mg base k f fd ps sp/\mg x=some (.ref f)/\PySem.W.keepIn K (.ref f)=true/\Binds K fd ps []
theorem pe_fnH (F:FnBH X.prog X.w X.K X.mg X.base k x ps sp)(hr:EA k X.A)(hg:Gl X x)(ha:PA X (e::es) t)(a1:(x==("__debug__":Str))=false:=by decide)
  (he:starEach (e::es) X.env=(false,eval e X.env)::starEach es X.env:=by rfl)(a2:(backTo pos (starEach es X.env)).any (·.1)=false:=by rfl):PE X (.Call (.Name x p) (e::es) [] pos) (Jt sp [] E0 t):=by
 refine Gh F.ex λf fd F hm hk hb=>?_;intro pins s σ H Q I h;refine MM (Fz I hg hm (NV (h₀:=X.base) I.ok.mod.kin hk (AV (ha pos pins s σ H _ I h) λus s1 ⟨vs,H1,Y,r,q⟩=>⟨Y.DR,?_⟩) he a2) a1);have q:sp vs H1 Q E0:=by simpa using q
 have hl:us.length=ps.length:=by rw[← r.length];exact F.len _ _ _ q
 have a0:BindsTo s1 fd ⟨us,[]⟩ (ps.zip us):=by
  have:=hb s1 us Y.DR (by simpa using hl);simpa using this
 refine wpAny_call (NJ (F.run X.A X.stack s1 H1 ⟨us,[]⟩ us vs Q hr Y.env0 a0 r q) λr s' O=>?_)
 cases r with
 | error e=>exact False.elim O
 | ok fl=>
  cases fl with
  | ret u=>exact Y.after O
  | next=>exact False.elim O
  | brk=>exact False.elim O
  | cont=>exact False.elim O
theorem qe_fnH (F:FnBH X.prog X.w X.K X.mg X.base k x ps sp)(hr:EA k X.A)(hg:Gl X x)(ha:QA X (e::es) t)(I:(x==("__debug__":Str))=false:=by decide)
  (he:starEach (e::es) X.env=(false,eval e X.env)::starEach es X.env:=by rfl)(O:(backTo pos (starEach es X.env)).any (·.1)=false:=by rfl):QE X (.Call (.Name x p) (e::es) [] pos) (Jt sp [] E0 t):=⟨pe_fnH F hr hg ha.go I he O⟩
def XO (a:Addr)(cls:Value)(h:Heap):Prop:=∃o vs,h.get? a=some o/\o.cls=cls/\o.data=.fields vs
theorem XO.ok (x:XO a cls h):AX P w H h a (.ext (XO a cls)):=by
 refine A0 x λo vs e c d=>Bc (Ao o vs e c d) ⟨o,e⟩ λh1 h2 ⟨o,vs,e,c,d⟩ k=>(Ao o vs (k o e) c d)
theorem Rec.xo (r:Rec h e cls (some T)):XO e cls h:=by
 refine Q0 r λoe vs oT ts I O Y _=>Ao oe vs I O Y
theorem Un.noted (u:Un (EC l) [] H H' h h1)(n:Noted l e cls T h1 h2 T')(he:h.get? e=none)(hT:∀t,T=some t->h.get? t=none):Un (EC l) [] H H' h h2:=by
 have ne:∀b o,h.get? b=some o->b≠e:=λb o q z=>by rw[z,he]at q;cases q
 have Y:∀b o,h.get? b=some o->T≠some b:=λb o q z=>by rw[hT b z]at q;cases q
 refine⟨λb o q m hb hx=>n.keep b o (u.keep b o q m hb hx) hb (ne b o q) (Y b o q),λb o q m hb hx=>?_,u.free,λb o q hx=>?_,u.AE,u.DS,u.ES⟩
 .obtain⟨sl,I⟩:=u.slot b o q m hb hx;obtain⟨a0,O⟩:=n.slot b _ I hb;exact⟨a0,O⟩
 .obtain⟨o',I⟩:=u.there b o q hx;by_cases hb:b∈EC l
  .obtain⟨a0,O⟩:=n.slot b _ I hb;exact⟨_,O⟩
  .exact⟨o',n.keep b o' I hb (ne b o q) (Y b o q)⟩
theorem Un.but (u:Un fs [] H H' h h1)(k:∀b o,b≠T->h1.get? b=some o->h2.get? b=some o)(Y:h.get? T=none):Un fs [] H H' h h2:=by
 have I:∀b o,h.get? b=some o->b≠T:=λb o q z=>by rw[z,Y]at q;cases q
 refine⟨λb o q m hb hx=>k b o (I b o q) (u.keep b o q m hb hx),λb o q m hb hx=>?_,u.free,λb o q hx=>?_,u.AE,u.DS,u.ES⟩
 .obtain⟨sl,O⟩:=u.slot b o q m hb hx;exact⟨sl,k b _ (I b o q) O⟩
 .obtain⟨o',O⟩:=u.there b o q hx;exact⟨o',k b o' (I b o q) O⟩
theorem Un.track (u:Un fs [] H H' h h1)(ha:h.get? a=none)(hn:H' a=none):Un fs [] H (upd H' a o) h h1:=by
 refine⟨u.keep,u.slot,λb ob q m hx=>?_,u.there,λb xs q=>?_,λb ob xs q=>?_,λb ps q=>?_⟩
 .rw [Ak (λz=>by rw[z,ha]at q;cases q)];exact u.free b ob q m hx
 .have:=u.AE b xs q;rw[Ak (Ah this hn)];exact this
 .have:=u.DS b ob xs q;rw[Ak (Ah this hn)];exact this
 .obtain⟨m,z⟩:=u.ES b ps q;exact⟨m,by rw[Ak (Ah z hn)];exact z⟩
theorem Xx {E:Value->Shared->Prop}{Q:Unit->Shared->Prop}(r:Rec s.heap e cls (some T))
  (k:∀h',Rec h' e cls (some T)->(∀b o,b≠T->s.heap.get? b=some o->h'.get? b=some o)->Q () {s with heap:=h'}):wpAny M A (setFlight (.ref e) none) Q E s:=by
 refine F3 r λoe vs oT ts I g2 O Y g5 z1=>?_;refine Bu z1 λg6 g7 g8=>?_;have hsz:=(Array.getElem?_eq_some_iff.mp g8).1;have oth:∀b,b≠T->(s.heap.update T (Obj.mapFields (·.setIfInBounds 3 Value.none))).get? b=s.heap.get? b:=λb hb=>NF _ _ (NI hb);have hd:=Obj.data_mapFields g7 (·.setIfInBounds 3 Value.none);refine wpAny_setFlight_none I O Y g6 g7 hsz (k _ (Ch oe vs _ _ ((oth e (NI g5)).trans I) g2 O Y g5 (Bc (Heap.get?_update_self _ g6 (Obj.isFreed_of_fields hd)) hd ?_)) λb o hb q=>(oth b hb).trans q);simp[hsz]
abbrev Cx.GO (X:Cx)(a:Addr)(pn:List (Addr×Obj)):Cx:={X with A:=X.A.mark (some (.ref a)),calm:=false,pn:=pn,xe:=λ_ _=>False}
theorem Inv.GO (I:Inv X pins σ H s)(h:pn=X.pn++pins):Inv (X.GO a pn) [] σ H s:=by
 subst h
 exact⟨⟨I.ok.mod,I.ok.kind,I.ok.glob,I.ok.blt,I.ok.above,I.ok.inj,I.ok.has,I.ok.cab,λz=>Bool.noConfusion z,I.ok.frames,I.ok.stk,I.ok.exf,I.ok.bs,I.ok.IS,I.ok.HL,I.ok.GX,I.ok.AC,I.ok.frf⟩,
  I.os,I.bare,I.base,I.loc,I.cell,I.free,I.BZ,λp O=>I.pin p (by simpa using O),I.AR,I.len⟩
theorem Inv.IK (ok:X.Ok)(I:Inv (X.GO a pn) [] σ H s)(h:pn=X.pn++pins):Inv X pins σ H s:=by
 subst h;exact⟨ok,I.os,I.bare,I.base,I.loc,I.cell,I.free,I.BZ,λp O=>I.pin p (by simpa using O),I.AR,I.len⟩
theorem Kq {E:Value->Shared->Prop}{Q:Unit->Shared->Prop}(I:Inv X pins σ H s)(hN:X.N.Nodup)(hi:X.N[i]?=some n)(hk:X.env.kindOf n=some .local)
  (h:∀s',Inv X pins (σ.set i none) H s'->Q () s'):wpAny M A (do bindName X.env n .none;unbindBehindTheSuite X.env n pos) Q E s:=by
 refine Am (id I.loc) λm hn hl=>?_;have a1:i<σ.length:=by rw[I.len];exact(List.getElem?_eq_some_iff.mp hi).1
 refine wpAny_nameGoes_keeps hk hn (by rw[I.ok.kind];rfl) λh' v a2 hs=>h _ (Gg (id hn) λoL _ _ a3 _=>?_);have a0:∀b o,X.s₀.heap.get? b=some o->b≠X.env.locals:=λb o e=>KC (KA (JK e) I.ok.above);refine⟨I.ok,I.os,I.bare,⟨λb o e n hb hx=>?_,λb o e n hb hx=>?_,I.base.free,λb o e hx=>?_,I.base.AE,I.base.DS,I.base.ES⟩,(Ae a2 λj y v' e1 O e3=>?_),λy c e=>?_,I.free,I.BZ,λp hp=>?_,?_,by simpa using I.len⟩
 .exact (hs.2 b (a0 b o e)).trans (I.base.keep b o e n hb hx)
 .obtain⟨sl,e1⟩:=I.base.slot b o e n hb hx;exact⟨sl,(hs.2 b (a0 b o e)).trans e1⟩
 .obtain⟨o',e1⟩:=I.base.there b o e hx;exact⟨o',(hs.2 b (a0 b o e)).trans e1⟩
 .by_cases Y:j=i
  .subst Y;rw[List.getElem?_set_self a1]at O;cases O
  .rw [List.getElem?_set_ne (NI Y)]at O;refine Am (hl j y v' e1 O e3) λu' r' q=>Ar u' r' ?_;rcases q with⟨k,e⟩|⟨k,c,e,z⟩
   .refine .inl ⟨k,?_⟩;have:y≠n:=λe=>Y (Qp hN e1 (e▸hi));simp[this,e]
   .exact .inr ⟨k,(Ar c e (z.sameBut hs (I.cne y c e)))⟩
 .obtain⟨w',z⟩:=I.cell y c e;exact⟨w',z.sameBut hs (I.cne y c e)⟩
 .refine Ii (I.pin p hp) λe nn ne nf d=>Du ((hs.2 p.1 ne).trans e) nn ne nf d
 .refine I.AR.IM λb u o hb q=>(hs.2 b λz=>?_).trans q;rw[z,I.free]at hb;cases hb
abbrev Cx.HS (X:Cx)(pn:List (Addr×Obj))(E:Value->Shared->Prop):Cx:={X with pn:=pn,xe:=E}
theorem Inv.HS {E:Value->Shared->Prop}(I:Inv X pins σ H s)(h:pn=X.pn++pins):Inv (X.HS pn E) [] σ H s:=by
 subst h
 exact⟨⟨I.ok.mod,I.ok.kind,I.ok.glob,I.ok.blt,I.ok.above,I.ok.inj,I.ok.has,I.ok.cab,I.ok.hd,I.ok.frames,I.ok.stk,I.ok.exf,I.ok.bs,I.ok.IS,I.ok.HL,I.ok.GX,I.ok.AC,I.ok.frf⟩,
  I.os,I.bare,I.base,I.loc,I.cell,I.free,I.BZ,λp O=>I.pin p (by simpa using O),I.AR,I.len⟩
theorem Inv.FW {E:Value->Shared->Prop}(ok:X.Ok)(I:Inv (X.HS pn E) Y σ H s)(h:pn=X.pn++pins):Inv X pins σ H s:=by
 subst h;exact⟨ok,I.os,I.bare,I.base,I.loc,I.cell,I.free,I.BZ,λp O=>I.pin p (LQ _ O),I.AR,I.len⟩
noncomputable def Zf (D:Ends)(i:Nat):Ends:={nx:=λσ H=>D.nx (σ.set i none) H,rt:=D.rt,bk:=λσ H=>D.bk (σ.set i none) H,ct:=λσ H=>D.ct (σ.set i none) H}
def Yd (K:PySem.W.Frag)(i:Nat)(C:Addr)(ts:TS)(D:Ends)(σ:St):XK:=λcls _ H=>PySem.W.exmOne K cls (.ref C)=some true/\∀a,H a=none->ts (Zf D i) (σ.set i (some (.ref a))) (upd H a (.ext (XO a cls)))
section
theorem Ab3 (hN:X.N.Nodup)(hi:X.N[i]?=some n)(hk:X.env.kindOf n=some .local)(a0:X.stack=X.env::X.outer)(a6:X.env.frame=some X.env.locals)(hg:Gl X cx)(hm:X.mg cx=some (.ref C))(a5:(cx==("__debug__":Str))=false)
  (hs:∀a pn,IB (X.GO a pn) (b₀::aB) ts)(I:Inv X pins σ H s)(h:DP X.prog X.w X.stack H s (Yd X.K i C ts D σ) e s') :
  wpAny (model X.prog X.w) X.A (noteFrame e X.env) (λ_ s2=>wpAny (model X.prog X.w) X.A (setFlight e none) (λ_ s3=>wpAny (model X.prog X.w) X.A (handleBy e X.env [.ExceptHandler (some (.Name cx cp)) (some n) (b₀::aB) hpos]) (SP X pins D) X.xe s3) X.xe s2) X.xe s':=by
 refine F3 h λa cls T H' z1 os bare un AR z2=>?_;refine G7 z2 λr ha hH hT a1 z3=>?_;subst z1;obtain⟨hx,hq⟩:=z3;have I':Inv X pins σ H' s':=I.HI (ch:=[]) os un AR bare λb z=>absurd z (by simp);have hF:=I'.stack;have hA:=I.ok.frames;rw[a0]at hF hA un;refine Vn hA a6 hF r λh1 T1 n1=>?_;have a2:s.heap.get? T1=none/\H' T1=none:=by
  rcases n1.new with z|z
  .refine⟨?_,AR.none_of z⟩
   cases q:s.heap.get? T1 with
   | none=>rfl
   | some o=>obtain⟨o',q'⟩:=un.there T1 o q (by simp);rw[z]at q';cases q'
  .cases z;exact⟨hT,a1⟩
 have a7:=un.noted n1 ha (λt z=>by cases z;exact hT)
 have a3:CL X.prog X.w H' h1:=AR.IM λb u o hb q=>n1.keep b u q (λz=>by
   rw[← a0]at z
   rw[I'.FP b z]at hb;cases hb) (λz=>by rw[z,hH]at hb;cases hb) λz=>by cases z;rw[a1]at hb;cases hb
 have a4:Un (EC X.stack) [] H H' s.heap h1:=by rw[a0];exact a7
 have I1:Inv X pins σ H' {s' with heap:=h1}:=I.HI (s':={s' with heap:=h1}) (ch:=[]) os a4 a3 bare λb z=>absurd z (by simp);have J1:Inv (X.GO a (X.pn++pins)) [] σ H' {s' with heap:=h1}:=I1.GO rfl;refine wpAny_handleBy_cons (codeAny_handlers_test (Fz (X:=X.GO a (X.pn++pins)) J1 hg hm ?_ a5)) (by intro q;cases q);have LT:PySem.W.Looks (model X.prog X.w) h1 (typeOf (.ref a)) cls:=by
  refine A0 n1.rc.xo λo vs g1 g2 _=>g2▸(PySem.W.Looks.ld g1).andThen .now
 refine(PySem.W.exm_one (M:=model X.prog X.w) I1.DR LT hx).here ?_
 show codeAny _ _ _ _ _
 refine codeAny_handlers_suite_as (Xx n1.rc λh2 r2 k2=>?_);have aA:=a4.but k2 a2.1;have a8:CL X.prog X.w H' h2:=a3.IM λb u o hb q=>k2 b u (λz=>by rw[z,a2.2]at hb;cases hb) q;have a9:CL X.prog X.w (upd H' a (.ext (XO a cls))) h2:=a8.track hH r2.xo.ok;have I3:Inv X pins σ (upd H' a (.ext (XO a cls))) {s' with heap:=h2}:=I.HI (s':={s' with heap:=h2}) (ch:=[]) os (aA.track ha hH) a9 bare λb z=>absurd z (by simp);refine Pm I3 hN hi (.inl hk) (v:=.ref a) rfl (λs4 I4=>?_) (.inr hk);have J4:Inv (X.GO a (X.pn++pins)) [] (σ.set i (some (.ref a))) (upd H' a (.ext (XO a cls))) s4:=I4.GO rfl;refine MY ((hs a (X.pn++pins)).go [] s4 _ _ (Zf D i) J4 (hq a hH)) (λf s5 z=>?_) λ_ _ z=>z.elim
 show wpAny _ _ (do bindName X.env n .none;unbindBehindTheSuite X.env n hpos) _ _ s5
 cases f with
 | next=>
  refine Co z λσ5 O J5 q5=>Kq (J5.IK I.ok rfl) hN hi hk λs6 Y=>(Ck _ O Y q5)
 | brk=>
  refine Co z λσ5 O J5 q5=>Kq (J5.IK I.ok rfl) hN hi hk λs6 Y=>(Ck _ O Y q5)
 | cont=>
  refine Co z λσ5 O J5 q5=>Kq (J5.IK I.ok rfl) hN hi hk λs6 Y=>(Ck _ O Y q5)
 | ret u=>
  refine Gz z λv5 σ5 O J5 r5 q5=>Kq (J5.IK I.ok rfl) hN hi hk λs6 Y=>(X8 v5 _ O Y r5 q5)
end
def tTry (K:PySem.W.Frag)(i:Nat)(C:Addr)(sp:Sp)(ta:TA)(ts:TS):TS:=λD σ H=>ta σ H λvs H1=>sp vs H1 (λ_ H2=>D.nx σ H2) (Yd K i C ts D σ)
theorem ps_try
  (hN:X.N.Nodup)(hi:X.N[i]?=some n)(hk:X.env.kindOf n=some .local)(aB:X.stack=X.env::X.outer)(a6:X.env.frame=some X.env.locals)(F:AU X.prog X.w X.K X.mg X.base k x ps sp)(hr:BB k X.A)(a7:Gl X x)(hg:Gl X cx)(hm:X.mg cx=some (.ref C))
  (ha:∀pn E,QA (X.HS pn E) (e::es) ta)(hs:∀a pn,IB (X.GO a pn) (b₀::a2) ts)(a4:(cx==("__debug__":Str))=false:=by decide)(a5:(x==("__debug__":Str))=false:=by decide)
  (he:starEach (e::es) X.env=(false,eval e X.env)::starEach es X.env:=by rfl)(aA:(backTo cpos (starEach es X.env)).any (·.1)=false:=by rfl)(aC:swapsWith (.Call (.Name x p) (e::es) [] cpos) none a1.line X.env=pure false:=by rfl) :
  PS X (.Try [.Expr (.Call (.Name x p) (e::es) [] cpos) a1] [.ExceptHandler (some (.Name cx cp)) (some n) (b₀::a2) hpos] [] [] pos) (tTry X.K i C sp ta ts):=by
 refine Gh F.ex λf fd F a9 a8 hb=>?_;intro pins s σ H D I h;refine wpAny_Try_except ?_
 let a0:Cx:=X.HS (X.pn++pins) λe s1=>wpAny (model X.prog X.w) X.A (noteFrame e X.env) (λ_ s2=>wpAny (model X.prog X.w) X.A (setFlight e none) (λ_ s3=>wpAny (model X.prog X.w) X.A (handleBy e X.env [.ExceptHandler (some (.Name cx cp)) (some n) (b₀::a2) hpos]) (SP X pins D) X.xe s3) X.xe s2) X.xe s1
 have hE:PE a0 (.Call (.Name x p) (e::es) [] cpos) (λσ' H' Q=>σ'=σ/\ta σ H' λvs H1=>sp vs H1 Q (Yd X.K i C ts D σ)):=by
  intro aD s1 σ' H1 Q I1 h1;obtain⟨rfl,h1⟩:=h1;refine MM (Fz I1 a7 a9 (NV (h₀:=X.base) I1.ok.mod.kin a8 (AV ((ha _ _).go cpos aD s1 σ' H1 _ I1 h1) λus s2 ⟨vs,H2,O,r,q⟩=>⟨O.DR,?_⟩) he aA) a5);have hl:us.length=ps.length:=by rw[← r.length];exact F.len _ _ _ _ q
  have a3:BindsTo s2 fd ⟨us,[]⟩ (ps.zip us):=by
   have:=hb s2 us O.DR (by simpa using hl);simpa using this
  refine wpAny_call (NJ (F.run X.A X.stack s2 H2 ⟨us,[]⟩ us vs Q _ hr O.env0 a3 r q) λr s' Y=>?_)
  cases r with
  | error e=>exact Ab3 (cp:=cp) (hpos:=hpos) hN hi hk aB a6 hg hm a4 hs (O.FW I.ok rfl) Y
  | ok fl=>
   cases fl with
   | ret u=>exact O.after Y
   | next=>exact False.elim Y
   | brk=>exact False.elim Y
   | cont=>exact False.elim Y
 have hS:IH a0 [.Expr (.Call (.Name x p) (e::es) [] cpos) a1] _:=Yu (Yv hE aC);refine MY (hS [] s σ H D (I.HS rfl) ⟨rfl,h⟩) (λfl s1 z=>?_) λ_ _ z=>z
 cases fl with
 | next=>
  refine Co z λσ1 H1 J q=>wpAny_execs_nil (Ck σ1 H1 (J.FW I.ok rfl) q)
 | brk=>
  refine Co z λσ1 H1 J q=>Ck σ1 H1 (J.FW I.ok rfl) q
 | cont=>
  refine Co z λσ1 H1 J q=>Ck σ1 H1 (J.FW I.ok rfl) q
 | ret u=>
  refine Gz z λv σ1 H1 J r q=>X8 v σ1 H1 (J.FW I.ok rfl) r q
theorem qs_try
  (Y:X.N.Nodup)(hi:X.N[i]?=some n)(hk:X.env.kindOf n=some .local)(a5:X.stack=X.env::X.outer)(a2:X.env.frame=some X.env.locals)(F:AU X.prog X.w X.K X.mg X.base k x ps sp)(hr:BB k X.A)(a3:Gl X x)(hg:Gl X I)(hm:X.mg I=some (.ref C))
  (ha:∀pn E,QA (X.HS pn E) (e::es) ta)(hs:∀a pn,IB (X.GO a pn) (O::a8) ts)(a0:(I==("__debug__":Str))=false:=by decide)(a1:(x==("__debug__":Str))=false:=by decide)
  (he:starEach (e::es) X.env=(false,eval e X.env)::starEach es X.env:=by rfl)(a4:(backTo cpos (starEach es X.env)).any (·.1)=false:=by rfl)(a6:swapsWith (.Call (.Name x p) (e::es) [] cpos) none a7.line X.env=pure false:=by rfl) :
  QS X (.Try [.Expr (.Call (.Name x p) (e::es) [] cpos) a7] [.ExceptHandler (some (.Name I cp)) (some n) (O::a8) hpos] [] [] pos) (tTry X.K i C sp ta ts):=⟨ps_try Y hi hk a5 a2 F hr a3 hg hm ha hs a0 a1 he a4 a6⟩
end L2
namespace L2
open PySem PySem.Spec PyProof.Rows PySem.W
structure GH (K:PySem.W.Frag)(C:Addr):Prop where
 ga:PySem.W.findIn K (.ref C) "__getattribute__"=some (some (.builtin "BaseException.__getattribute__"))
 gt:PySem.W.findIn K (.ref C) "__getattr__"=some none
 cl:PySem.W.findIn K (.ref C) "__class__"=some (some (.builtin "object.__class__"))
 sub:PySem.W.subIn K (.ref C) (.type "BaseException")=some true
 obj:PySem.W.subIn K (.ref C) (.type "object")=some true
 is:PySem.W.isClsIn K C=true
section
variable {prog:Program}{w:World}{A:Around}{E:Value->Shared->Prop}{h:Heap}{g:Array GenState}{d:Drawn}{t:Nat}{os:OsState}{a C:Addr}{o:Obj}{K:PySem.W.Frag}
theorem Uh {Q:Option Value->Shared->Prop}(X:K.In h)(e:PySem.W.findIn K (.ref C) n=some r)(q:Q r ⟨h,g,d,t,os⟩):wpAny M A (typeLookup (.ref C) n) Q E ⟨h,g,d,t,os⟩:=(PySem.W.looks_findIn X e).here q
theorem Yo {Q:Bool->Shared->Prop}(X:K.In h)(e:PySem.W.subIn K (.ref C) c=some r)(q:Q r ⟨h,g,d,t,os⟩):wpAny M A (isSubtype (.ref C) c) Q E ⟨h,g,d,t,os⟩:=(PySem.W.looks_subIn X e).here q
theorem Wm {R:Result->Shared->Prop}(c:GH K C)(X:K.In h)(hx:h.get? a=some o)(I:o.cls=.ref C)(hq:R (.ok (.ret (.ref C))) ⟨h,g,d,t,os⟩) :
  codeAny (model prog w) A (.call (.builtin "getset_descriptor.__get__") ⟨[.builtin "object.__class__",.ref a,.ref C],[]⟩) R ⟨h,g,d,t,os⟩:=by
 have Y:(⟨h,g,d,t,os⟩:Shared).TypeIs (.builtin "object.__class__") "getset_descriptor":=F.typeOf_object_class;have O:PySem.W.subIn K (.ref C) (.type (".".intercalate ("object.__class__".cutAt '.').dropLast))=some true:=by rw[F.owner_object_class];exact c.obj
 refine OG F.slot_gs_get.plain F.entry_gs_get (F.slot_gs_get.check _ _ _ _ _ _ _ _ Y (F.args_gs_get _ _ _) ?_)
 repeat (any_goals (first|assumption|(with_reducible refine OE hx ?_;rw[I])|with_reducible refine Yo X O ?_|wp_step))
 refine⟨Code.quiet_builtin _ (by decide +kernel),codeAny_builtin F.entry_object_class ?_⟩
 repeat (any_goals (first|assumption|(with_reducible refine OE hx ?_;rw[I])|wp_step))
theorem Zs {Q:Unit->Shared->Prop}(c:GH K C)(X:K.In h)(hx:h.get? a=some o)(I:o.cls=.ref C)(O:Q () ⟨h,g,d,t,os⟩):wpAny M A (checkBuiltinCall "BaseException.__getattribute__" ⟨[.ref a,Y],[]⟩) Q E ⟨h,g,d,t,os⟩:=by
 have z1:builtinKind "BaseException.__getattribute__"=some .slot:=by decide +kernel
 have z2:splitId "BaseException.__getattribute__"=some ("BaseException","__getattribute__"):=by decide +kernel
 have z3:=F.args_bexc_ga (.ref a) Y;simp only[checkBuiltinCall,z1,z2];refine JA ?_;unfold isInstance
 repeat (first|(with_reducible refine OE hx ?_;rw[I])|with_reducible refine Yo X c.sub ?_|wp_step)
 exact O
theorem So {Q:Fin->Shared->Prop}(c:GH K C)(X:K.In h)(hx:h.get? a=some o)(I:o.cls=.ref C)(O:Q (.done (.ret (.ref C))) ⟨h,g,d,t,os⟩) :
  wpAny (model prog w) A (Builtin.«object.__getattribute__» ⟨[.ref a,.str "__class__" tk],[]⟩) Q E ⟨h,g,d,t,os⟩:=by
 have a0:(⟨h,g,d,t,os⟩:Shared).TypeIs (.builtin "object.__class__") "getset_descriptor":=F.typeOf_object_class;have Y:=F.typeOf_object_class;have z6:=F.slot_gs_get.lookup;have z7:=F.slot_gs_set.lookup
 repeat (any_goals (first|assumption|(with_reducible refine OE hx ?_;rw[I])|with_reducible refine Uh X c.cl ?_|wp_step))
 refine Wm c X hx I ?_
 repeat (any_goals (first|assumption|wp_step))
theorem U0 {R:Result->Shared->Prop}(c:GH K C)(X:K.In h)(hx:h.get? a=some o)(I:o.cls=.ref C)(O:R (.ok (.ret (.ref C))) ⟨h,g,d,t,os⟩) :
  codeAny (model prog w) A (.call (.builtin "BaseException.__getattribute__") ⟨[.ref a,.str "__class__" tk],[]⟩) R ⟨h,g,d,t,os⟩:=
 OG PySem.F.attr_ValueError.ga.plain F.entry_bexc_ga (Zs c X hx I (So c X hx I O))
theorem Zr {Q:Value->Shared->Prop}(c:GH K C)(X:K.In h)(hx:h.get? a=some o)(I:o.cls=.ref C)(Y:Q (.ref C) ⟨h,g,d,t,os⟩) :
  wpAny (model prog w) A (getAttrBy (.ref a) (.str "__class__" tk) fl) Q E ⟨h,g,d,t,os⟩:=by
 have z3:=PySem.F.attr_ValueError.ga.bind (.ref a);have O:(Value.builtin "BaseException.__getattribute__"==Value.builtin "object.__getattribute__")=false:=by decide +kernel
 have z1:(onTheHeap (Value.ref C)&&Value.builtin "BaseException.__getattribute__"==Value.builtin "object.__getattribute__")=false:=by rw[O];rfl
 repeat (any_goals (first|assumption|(with_reducible refine OE hx ?_;rw[I])|with_reducible refine Uh X c.ga ?_|with_reducible refine Uh X c.gt ?_|wp_step))
 refine U0 c X hx I ?_
 repeat (any_goals (first|assumption|wp_step))
theorem U1 {Q:Option Value->Shared->Prop}(c:GH K C)(X:K.In h)(hx:h.get? a=some o)(I:o.cls=.ref C)(O:Q (some (.ref C)) ⟨h,g,d,t+1,os⟩):wpAny (model prog w) A (getAttr? (.ref a) "__class__") Q E ⟨h,g,d,t,os⟩:=by
 unfold getAttr? getAttrBy?
 repeat (any_goals (first|assumption|with_reducible apply Zr c X hx I|wp_step))
end
theorem R8 {K:PySem.W.Frag}{C:Addr}(h:PySem.W.isClsIn K C=true):∃c d I sl,K.lookup C=some ⟨c,d,.cls I,sl⟩:=by
 unfold PySem.W.isClsIn PySem.W.clsIn at h;split at h
 .rename_i c d I sl q;exact ii40 c d I sl q
 .cases h
theorem Vu {K:PySem.W.Frag}{a C:Addr}(c:GH K C):PySem.W.KitX K (.ref a) (.ref C) (XO a (.ref C)) where
 ty:=λM h _ x=>by
  refine A0 x λo vs I O _=>O▸(PySem.W.Looks.ld I).andThen .now
 it:=λ_ _ X _=>by
  refine dd40 (R8 c.is) λY d0 cd sl q=>?_;intro A Q E s k z;unfold isType loadHead;exact JA (wpAny_loadPart (k _ _ (X _ _ q)) (JF z))
 ne:=λh tp dd its n sl X a0=>by
  refine dd40 (R8 c.is) λY d0 cd a1 q=>Bool.eq_false_iff.mpr λz=>?_;have e:C=tp:=Value.ref.inj (PK.mp z);subst e;have:=(X _ _ q).symm.trans a0;cases this
 ca:=fun {prog w A E Q s} X x k=>by
  obtain⟨hh,g,d,t,os⟩:=s;refine A0 x λo vs I O _=>U1 c X I O k
noncomputable def clV:V->Value
 | .ref D=>.ref D
 | .ty n=>.type n
 | _=>.none
def IsCl:V->Prop
 | .ref _=>True
 | .ty _=>True
 | _=>False
theorem Am9:∀{v:V} {u:Value},IsCl v->RelV v u->u=clV v
 | .ref D,u,_,r=>r
 | .ty n,u,_,r=>r
theorem Zl:∀{vs:List V} {us:List Value},(∀v∈vs,IsCl v)->AG vs us->us=vs.map clV
 | [],_,_,.nil=>rfl
 | v::vs,_,h,.cons r t=>by rw[Am9 (h v (JJ ..)) r,Zl (λz I=>h z (JE _ I)) t];rfl
theorem Jj:Ex X (.builtin "isinstance") (λxs H Q=>∃a C c b,xs=[.ref a,c]/\IsCl c/\H a=some (.ext (XO a (.ref C)))/\GH X.K C/\PySem.W.kitOne X.K (.ref C) (clV c)=some b/\Q (.bl b) H):=by
 intro pins s σ H xs us Q I r h;refine F3 h λa C c b O Y ha xc e q=>?_;subst O;refine A0 (Yf r) λu w' O r1 r2=>?_;subst O;cases r1;rw[Am9 Y r2];obtain⟨x,_⟩:=(show AX X.prog X.w H s.heap a (.ext (XO a (.ref C)))from I.AR a _ ha);exact LX (Vu xc) I.DR x e (λz=>nomatch z) λtk=>(Ao (.bl b) H (I.tok _) rfl q)
theorem Rl:Ex X (.builtin "isinstance") (λxs H Q=>∃a C O I b,xs=[.ref a,.ref O]/\H O=some (.tup I)/\(∀v∈I,IsCl v)/\H a=some (.ext (XO a (.ref C)))/\GH X.K C/\PySem.W.kitAny X.K (.ref C) (I.map clV)=some b/\Q (.bl b) H):=by
 intro pins s σ H xs us Q a0 r h;refine We h λa C O I b Y ht hc ha xc z2=>?_;subst Y;obtain⟨e,q⟩:=z2;refine A0 (Yf r) λu w' Y r1 r2=>?_;subst Y;cases r1;cases r2;obtain⟨x,_⟩:=(show AX X.prog X.w H s.heap a (.ext (XO a (.ref C)))from a0.AR a _ ha);refine Fg ((show AX X.prog X.w H s.heap O (.tup I)from a0.AR O _ ht)) λ_ Y=>?_;refine Am Y λits rv z2=>?_;refine Bk z2 λo g1 g2 z3=>?_;obtain⟨n,g3⟩:=z3;rw[← Zl hc rv]at e;obtain⟨oc,od,a1,osl⟩:=o;dsimp only at g2 g3;subst g2;subst g3;exact PySem.W.kia_tup (Vu xc) a0.DR x g1 e (λz=>nomatch z) λtk=>(Ao (.bl b) H (a0.tok _) rfl q)
theorem pe_gcls (hg:Gl X x)(hm:X.mg x=some (.ref C))(hd:(x==("__debug__":Str))=false:=by decide):PE X (.Name x pos) (tC (.ref C)):=Yw (v:=.ref C) hg hm rfl hd
theorem Ix (hg:Gl X x)(hm:X.mg x=some (.ref C))(hd:(x==("__debug__":Str))=false:=by decide):QE X (.Name x pos) (tC (.ref C)):=⟨pe_gcls hg hm hd⟩
theorem Vt:∀xs:List Str,(∀x∈xs,PyData.strOk x=true)->PyData.canLayAll0 (xs.map PyData.str)=true
 | [],_=>rfl
 | x::r,h=>by simp[PyData.canLayAll0,PyData.canLay0,Vt r (λy I=>h y (JE _ I)),h x (JJ ..)]
theorem R4:∀xs:List Str,PyData.depthAll (xs.map PyData.str)=0
 | []=>rfl
 | x::r=>by simp[PyData.depthAll,PyData.depth,R4 r]
theorem Nu (xs:List Str)(h:∀x∈xs,PyData.strOk x=true):SeqAt.shaped (.list (xs.map PyData.str))=true:=by
 simp[SeqAt.shaped,PyData.canLay0,PyData.depth,Vt xs h,R4]
theorem Rt:∀xs ys:List Str,PySem.Spec.sameAll (xs.map PyData.str) (ys.map PyData.str)=decide (xs=ys)
 | [],[]=>by simp[PySem.Spec.sameAll]
 | [],_::_=>by simp[PySem.Spec.sameAll]
 | _::_,[]=>by simp[PySem.Spec.sameAll]
 | a::r,b::t=>by
  simp only[JX,PySem.Spec.sameAll,PySem.Spec.same,Rt r t];by_cases h:a=b<;>by_cases h':r=t<;>simp[h,h']
theorem Z7 (xs ys:List Str):PySem.Spec.same (.list (xs.map PyData.str)) (.list (ys.map PyData.str))=decide (xs=ys):=by
 show PySem.Spec.sameAll _ _=_
 exact Rt xs ys
theorem Jh:∀{xs:List Str} {us:List Value},AG (xs.map V.str) us->CarriedAll us (xs.map PyData.str)
 | [],_,.nil=>.nil
 | x::xs,_,.cons r t=>by
  obtain⟨tk,rfl⟩:=r;exact .cons (.str _ tk) (Jh t)
theorem Yy (hu:X.A.units+64<cLine):CV X (compareOp .NotEq) (λx y H Q=>∃(a b:Addr) (xs ys:List Str),x=.ref a/\y=.ref b/\AW X.K H a (xs.map V.str)/\AW X.K H b (ys.map V.str)/\(∀x∈xs,PyData.strOk x=true)/\(∀x∈ys,PyData.strOk x=true)/\Q (.bl (!decide (xs=ys))) H):=by
 intro pins s σ H x y v u Q I rx ry h;refine F3 h λa b xs ys z1 z2 ha hb O z3=>?_;subst z1 z2;obtain⟨Y,q⟩:=z3;cases rx;cases ry;refine Bk (I.list ha) λits r pl _=>Bk (I.list hb) λa1 r2 a0 _=>ne_dataH_same (reads_newData pl.isList (Jh r)) (reads_newData a0.isList (Jh r2)) (Nu _ O) (Nu _ Y) hu (SeqAt.noMix_of_shape (.list .str) rfl _ _ (list_map_has λ_=>rfl) (list_map_has λ_=>rfl)) ?_;rw[Z7];exact Ao (.bl _) H I rfl q
theorem Xk:CV X (binaryOp .Mult) (λx y H Q=>∃z n,x=.str z/\y=.int n/\z.length<=1000/\-1000<=n/\n<=1000/\Q (.str (Txt.mul z n)) H):=by
 intro pins s σ H x y v u Q I Y ry h;refine Mg h λz n z1 z2 O a0 a1 q=>?_;subst z1 z2;obtain⟨t,rfl⟩:=Y;obtain⟨t',rfl⟩:=ry;exact SB.mul (mulOk_of 1000 1000 O (by omega) (by omega) (by decide) (by decide)) λt' k=>(Ao (.str _) H (I.tok _) ⟨_,rfl⟩ q)
noncomputable def alt {α:Type}:List α->List α
 | []=>[]
 | [x]=>[x]
 | x::_::r=>x::alt r
theorem Pi {α:Type}:∀xs:List α,(alt xs).length=(xs.length+1)/2
 | []=>by simp[alt]
 | [x]=>by simp[alt]
 | x::y::r=>by
  show(alt r).length+1=(r.length+1+1+1)/2
  rw[Pi r];omega
theorem Zp {α:Type}:∀(xs:List α) (k:Nat),(alt xs)[k]?=xs[2*k]?
 | [],k=>by simp[alt]
 | [x],0=>rfl
 | [x],k+1=>by simp[alt]
 | x::y::r,0=>rfl
 | x::y::r,k+1=>by
  show(alt r)[k]?=_
  rw[Zp r k,show 2*(k+1)=2*k+1+1 by omega];rfl
theorem AG.alt:∀{xs:List V} {us:List Value},AG xs us->AG (alt xs) (L2.alt us)
 | _,_,.nil=>.nil
 | _,_,.cons r .nil=>.cons r .nil
 | _,_,.cons r (.cons _ t)=>.cons r (AG.alt t)
theorem Ah2 (xs:Array Value)(i k:Nat)(hk:k=(xs.size-i+1)/2):((List.range k).filterMap λ(m:Nat)=>xs[((i:Int)+(m:Int)*2).toNat]?)=alt (xs.toList.drop i):=by
 have e:(λ(m:Nat)=>xs[((i:Int)+(m:Int)*2).toNat]?)=λm=>(alt (xs.toList.drop i))[m]?:=by
  funext m;have:((i:Int)+(m:Int)*2).toNat=i+2*m:=by omega
  rw[this,Zp,List.getElem?_drop];simp
 rw[e];have hl:(alt (xs.toList.drop i)).length=k:=by rw[Pi,MN,hk];simp
 rw[← hl];generalize alt (xs.toList.drop i)=l;refine List.ext_getElem? λn=>?_;have:(List.range l.length).filterMap (λm=>l[m]?)=l:=by
  induction l with
  | nil=>rfl
  | cons x l I=>
   rw[JR,List.range_succ_eq_map,NE];simp only[List.getElem?_cons_zero,List.filterMap_map]
   congr 1
 rw[this]
section
variable {E:Value->Shared->Prop}
theorem Ah0 (i n:Nat)(h:i<=n):Builtin.Slice.slicePlaces (i:Int) (n:Int) 2=(n-i+1)/2:=by
 unfold Builtin.Slice.slicePlaces;have h1:(2:Int)>0:=by omega
 simp only[h1,NW];split<;>omega
theorem Py {sl:Addr}{I:Value}{t:Tok}{lo:Option Int}{n:Nat}{Q:Int×Int×Nat->Shared->Prop}(hs:s.heap.IsSliceOf sl I .none (.int 2 t))(pl:IsPart I lo)
  (h:Q (((HT.BA n 0 lo:Nat):Int),2,(n-HT.BA n 0 lo+1)/2) s):wpAny (model prog w) A (Builtin.Slice.sliceApplied (.ref sl) (pure (n:Int))) Q E s:=by
 refine Bk (id hs) λos Y a0 O=>?_;unfold Builtin.Slice.sliceApplied Builtin.Slice.sliceFields;refine JA (JA (KE Y O (x:=I) rfl (JA (KE Y O (x:=.none) rfl (JA (KE Y O (x:=.int 2 t) rfl (JF (JA (slicePart_int ?_)))))))))
 show wpAny _ _ (if((2:Int)==0)=true then _ else _) _ _ s
 rw[JP (by decide)];refine JA (HT.ED pl (JA (slicePart_none (JA (JF ?_)))));have ea:Builtin.Slice.sliceAdjust lo none 2 (n:Int)=(((HT.BA n 0 lo:Nat):Int),(n:Int)):=by
  have h1:¬((2:Int)<0):=by omega
  unfold Builtin.Slice.sliceAdjust;simp only[h1,PN];refine Prod.ext ?_ rfl
  cases lo with
  | none=>rfl
  | some v=>exact HT.GV v n 0
 show wpAny _ _ (match Builtin.Slice.sliceAdjust lo none 2 (n:Int)with|(lo,hi)=>pure (lo,(2:Int),Builtin.Slice.slicePlaces lo hi 2)) _ _ s
 rw[ea]
 show wpAny _ _ (pure (((HT.BA n 0 lo:Nat):Int),(2:Int),Builtin.Slice.slicePlaces ((HT.BA n 0 lo:Nat):Int) (n:Int) 2)) _ _ s
 rw[Ah0 _ _ (HT.sIx_le _ _ (KY _) lo)];exact JF h
theorem Ov {I:Array Value}{Y:Value}{lo:Option Int}{Q:Value->Shared->Prop}(ht:IsTup s.heap t I)(hs:s.heap.IsSliceOf sl Y .none (.int 2 tk))(pl:IsPart Y lo)
  (h:Q (.ref s.heap.objs.size) {s with heap:=s.heap.push {cls:=.type "tuple",data:=.seq (alt (I.toList.drop (HT.BA I.size 0 lo))).toArray}})
  (hsz:I.size<=sizeLine):wpAny (model prog w) A (getItem (.ref t) (.ref sl)) Q E s:=by
 have O:sizeOk (.seq (alt (I.toList.drop (HT.BA I.size 0 lo))).toArray):=by
  show(alt (I.toList.drop (HT.BA I.size 0 lo))).toArray.size<=sizeLine
  rw[JQ,Pi,MN,NP];omega
 refine Bk (id hs) λos a2 a1 a3=>?_;have a0:s.TypeIs (.ref sl) "slice":=(Ar os a2 a1);unfold getItem
 try with_reducible refine MR ?_
 first|refine JA (JF ?_)|skip
 refine JA (wpAny_sequenceKey ht.typeIs (by decide) ?_)
 refine JA (KW (name:=Str.ofString "__getitem__") ht.typeIs KP
  (LY KP ht.typeIs entry_tuple_getitem ?_ (args_tuple_getitem _ _)))
 show wpAny _ _ (Builtin.Tuple.tupleItemsOf (.ref t) >>= _) _ _ s
 refine JA (tupleItemsOf_ ht (JA (OJ a0 ?_)));rw[JN (by decide)];refine JA (Py hs pl ?_)
 show wpAny _ _ (if(((HT.BA I.size 0 lo:Nat):Int)==0&&(2:Int)==1&&_)=true then _ else _) _ _ s
 rw[show(((HT.BA I.size 0 lo:Nat):Int)==0&&(2:Int)==1)=false by simp,Bool.false_and,JP (by decide),Ah2 _ _ _ rfl]
 first
  | exact JA (m:=Builtin.Tuple.tupleExact _) (LH (JF (Ae rfl (JF h))) O)
  | exact JA (m:=Builtin.Tuple.tupleExact _) (LH (JA (JF (JF ⟨_,rfl,JF h⟩))) O)
  | exact JA (JA (m:=Builtin.Tuple.tupleExact _) (LH (JF (JF ⟨_,rfl,JF h⟩)) O))
  | exact JA (JA (m:=Builtin.Tuple.tupleExact _) (LH (JF ⟨_,rfl,JF h⟩) O))
end
section
def tSl2 (K:PySem.W.Frag)(te:TE)(tl:TO):TE:=λσ H Q=>te σ H λx H1=>tl σ H1 λl H2=>∃a xs,x=.ref a/\BW K H2 a xs/\∀p,H2 p=none->Q (.ref p) (upd H2 p (.tup (alt (xs.drop (HT.BA xs.length 0 l)))))
theorem Aa1 {e:Expr}{lo:Option Expr}{te:TE}{tl:TO}{kk:Nat}{cp p2 pos:Pos}(he:PE X e te)(hl:PO X lo tl):PE X (.Subscript e (.Slice lo none (some (.Constant (.int 2) kk cp)) p2) pos) (tSl2 X.K te tl):=by
 intro pins s σ H Q a0 h;refine Subscript_ (AV (he pins s σ H _ a0 h) λv s1 ⟨x,H1,I1,r1,q1⟩=>wpAny_Slice (AV (hl pins s1 σ H1 _ I1 q1) λvl s2 ⟨l,H2,I2,pl,q2⟩=>?_));rw[evalPart_none];refine JF ?_;rw[evalPart_some];refine AV (Ah7 (X:=X) pins s2 σ H2 (λy H3=>y=.int 2/\H3=H2) I2 ⟨rfl,rfl⟩) λv2 I ⟨y,H3,I3,ry,ey,eh⟩=>?_;subst ey;subst eh;obtain⟨tk,rfl⟩:=ry;have O:Inv X pins σ H3 {I with heap:=I.heap.push {cls:=.type "slice",data:=.fields #[vl,.none,.int 2 tk]}}:=I3.kept (t':=I.toks) λb ob q=>JD _ q;refine A0 q2 λa xs z1 hx q=>?_;subst z1;cases r1;refine Bk (O.tuple hx) λits r ht hz=>?_;have Y:its.toArray.size=xs.length:=by rw[JQ];exact r.length.symm
 refine tail_any (ops:=[.ref a,.ref I.heap.objs.size]) ht.typeIs KP.lookup ?_ (by with_unfolding_all rfl);refine Ov ht (Heap.IsSliceOf.new ..) pl ?_ (by rw[Y];exact hz);rw[Y];refine Ao (.ref _) _ (O.laid (t':=I.toks) (o:=.tup (alt (xs.drop (HT.BA xs.length 0 l)))) (λb ob q=>JD _ q) (JG _) ?_) rfl (q _ (O.AR.fresh (JG _)));exact⟨by rw[Pi,MN];omega,(Ae (AG.alt (r.drop (HT.BA xs.length 0 l))) (IsTup.new _ _))⟩
theorem Ev {e:Expr}{lo:Option Expr}{te:TE}{tl:TO}{kk:Nat}{cp p2 pos:Pos}(he:QE X e te)(hl:QO X lo tl):QE X (.Subscript e (.Slice lo none (some (.Constant (.int 2) kk cp)) p2) pos) (tSl2 X.K te tl):=⟨Aa1 he.go hl.go⟩
end
theorem Ko (hc:X.calm=true):Ex X (.builtin "all") (λxs H Q=>∃(a:Addr) (bs:List Bool),xs=[.ref a]/\AW X.K H a (bs.map V.bl)/\Q (.bl (bs.all id)) H):=by
 intro pins s σ H xs us Q a0 r h;refine A0 h λa bs z1 ha q=>?_;subst z1;refine Am (K4 r) λu z1 ru=>?_;subst z1;cases ru;refine Bk (a0.list ha) λits Y pl _=>?_;have hh:X.A.handled=none:=a0.ok.hd hc;have a2:a<s.heap.objs.size:=by refine Co pl λo n e _=>?_;exact JK e
 have hn:∀i:Nat,its.toArray[i]?=(bs[i]?).map Value.bool:=λi=>by
  have:=Y
  cases e:bs[i]? with
  | none=>
   have h1:(bs.map V.bl)[i]?=none:=by rw[KH,e];rfl
   have:=Y.none_of h1;simpa using this
  | some b=>
   have h1:(bs.map V.bl)[i]?=some (V.bl b):=by rw[KH,e];rfl
   refine Am (Y.get h1) λu hu ru=>?_;cases(show u=Value.bool b from ru);simpa using hu
 have a4:its.length=bs.length:=by have:=Y.length;simpa using this.symm
 have W:=Walks.list (prog:=X.prog) (w:=X.w) (A:=X.A.in1) hh s.heap.objs.size a (KC a2) its.toArray;refine call_all_walk (MI pl.isList (jj60 (Ou (λi=>(bs[i]?).getD true) rfl W ?_ ?_ λh' tk k=>?_)))
 .exact⟨(B0 (JS _ rfl) rfl rfl),Heap.IsList.push pl.isList _⟩
 .intro i v s' Q' E' I O;have O:Q' ((bs[i]?).getD true) s':=O;rw[hn i]at I
  cases e:bs[i]? with
  | none=>rw[e]at I;cases I
  | some b=>
   rw[e]at I O;cases I;exact MB O
 .have a3:(List.range its.toArray.size).all (λi=>(bs[i]?).getD true)=bs.all id:=by
   rw[JQ,a4,MU,LO,LO];constructor
   .intro h x hx;obtain⟨i,hi,rfl⟩:=List.getElem_of_mem hx;have:=h i (List.mem_range.mpr hi);rw[KN hi]at this;exact this
   .intro h i hi;have a1:=List.mem_range.mp hi;rw[KN a1];exact h _ (OK a1)
  rw[a3];exact Ao (.bl _) H (a0.kept (t':=tk) λb u e=>k b u (by simp;exact KC (JK e)) (JD _ e)) rfl q
section
variable {R:Result->Shared->Prop}
theorem Rk (I:Nat->Shared->Prop)
   (a4:∀n s,I n s->wpAny (model prog w) A (pyNext it) (λr O=>match r with
     | none=>R (.ok .next) O
     | some v=>wpAny (model prog w) A (letOwnedTupleGo a0 it v) (λ_ a2=>wpAny (model prog w) A (assign a0 env v) (λ_ s₂=>
         wpAny (model prog w) A (forIn a1 true λc r=>if r=true then do let ok ← isTrue c env (eval c env);pure (ForInStep.yield ok)else pure (ForInStep.yield r)) (λok Y=>
           if ok=true then wpAny (model prog w) A (eval kx env) (λkv s₄=>wpAny (model prog w) A (eval vx env) (λvv s₅=>
             wpAny (model prog w) A (dictSet D kv vv) (λ_ s₆=>∃m,m<n/\I m s₆) (λ_ _=>False) s₅) (λ_ _=>False) s₄) (λ_ _=>False) Y
           else ∃m,m<n/\I m Y) (λ_ _=>False) s₂) (λ_ _=>False) a2) (λ_ _=>False) O) (λ_ _=>False) s)
   (n:Nat)(h:I n s) :
   codeAny (model prog w) A (.compLoop (.DictComp kx vx [⟨a0,iter,a1,0⟩] scope pos) 0 it (.ref D) env) R s:=by
 have nv:∀{α:Type} {t:Sem α} {Q:α->Shared->Prop} {E':Value->Shared->Prop} {s':Shared},wpAny (model prog w) A t Q (λ_ _=>False) s'->wpAny (model prog w) A t Q E' s':=
   λh=>MY h (λ_ _ q=>q) λ_ _ z=>z.elim
 refine codeAny_loop rfl I (λn s hI=>?_) n h
 show wpAny _ A ((compTurn (.DictComp kx vx [⟨a0,iter,a1,0⟩] scope pos) 0 it (.ref D) env).onRaise (λx=>do noteFrame x env;theTreesLotGoes x)) _ _ s
 refine wpAny_noted (nv ?_);rw[compTurn_dict];refine JA (wpAny_standAt (JA (AV (a4 n s hI) (λr O h₁=>?_))))
 cases r with
 | none=>exact JF h₁
 | some v=>
   refine JA (AV h₁ (λ_ a2 a3=>JA (AV a3 (λ_ s₂ h₂=>JA (AV h₂ (λok Y h₃=>?_))))))
   cases ok with
   | false=>exact JF ⟨rfl,h₃⟩
   | true=>
     refine JA (JA (AV h₃ (λkv s₄ h₄=>JA (MR (AV h₄ (λvv s₅ h₅=>JA (wpAny_standAt (MR (AV h₅ (λ_ s₆ h₆=>JF ⟨rfl,h₆⟩))))))))))
end
def Su (κ:St->St)(wi:TI)(g:TG)(tt:TT)(tk tv:TE):TE:=λσ H Q=>wi σ H λJ H1=>∀D,H1 D=none->∃W:Nat->Nat->St->Hp->Prop,(∃m,W 0 m (κ σ) (upd H1 D (.dK [])))/\∀i m σ' H',W i m σ' H' ->
 (J.stop i H'/\Q (.ref D) H')\/(J.go i H'/\∃(Ay:V->V->St->Hp->Prop) (An:St->Hp->Prop),(∀y v σ3 O,Ay y v σ3 O->∃kvs key,y=kV key/\O D=some (.dK kvs)/\kvs.length<sizeLine/\∃Y,Y<m/\W (i+1) Y σ3 (upd O D (.dK (putK kvs key v))))/\(∀σ3 I,An σ3 I->∃Y,Y<m/\W (i+1) Y σ3 I) /\
   ∀x H2,J.FY i H' x H2->g x σ' H2 λσ3 H3=>tt σ3 H3 λok I=>if ok=true then tk σ3 I (λy O=>tv σ3 O λv H6=>Ay y v σ3 H6)else An σ3 I)
section
theorem R5 {E:Value->Shared->Prop}
   {RR:Value->Addr->Result->Shared->Prop}{tn:Nat->Heap->Prop}{W:Addr->Nat->Nat->St->Hp->Prop}{Fi:Addr->Hp->Prop}
   (c:At X scope cl N' n js)(hc:X.calm=true)
   (aP:∀I H3 fp,PG (CB X N' scope cl I H3 fp) tg g/\PTS (CB X N' scope cl I H3 fp) a8 tt/\PE (CB X N' scope cl I H3 fp) kx tk/\PE (CB X N' scope cl I H3 fp) vx tv)
   (a0:Inv X pins σ H s)(T:Turn X.prog X.w X.K tg J fp it tn)(st:tn 0 s.heap)(f:∀b∈fp,Jr X pins H b)
   (w0:∀D,H D=none->∃m,W D 0 m (Jq n js σ) (upd H D (.dK [])))
   (ag:∀D,H D=none->∀i m σ' H',W D i m σ' H'->(J.stop i H'/\Fi D H')\/(J.go i H'/\∃(Ay:V->V->St->Hp->Prop) (An:St->Hp->Prop),(∀y v σ3 Y,Ay y v σ3 Y->∃kvs key,y=kV key/\Y D=some (.dK kvs)/\kvs.length<sizeLine/\∃O,O<m/\W D (i+1) O σ3 (upd Y D (.dK (putK kvs key v))))/\(∀σ3 H4,An σ3 H4->∃O,O<m/\W D (i+1) O σ3 H4) /\
     ∀x H2,J.FY i H' x H2->g x σ' H2 λσ3 H3=>tt σ3 H3 λok H4=>if ok=true then tk σ3 H4 (λy Y=>tv σ3 Y λv H6=>Ay y v σ3 H6)else An σ3 H4))
   (hR:∀(D:Addr) (I:Shared) (H3 H':Hp) (s':Shared),Inv X pins σ H3 I->Inv X pins σ H' s'->(∃m,s'.heap.Ns I.heap.objs.size m)->H' I.heap.objs.size=none->Fi D H'->RR (.ref D) I.heap.objs.size (.ok .next) s') :
   wpAny (model X.prog X.w) X.A newDict (λa4 s₃=>wpAny (model X.prog X.w) X.A (newFunctionEnv scope X.env.globals cl [] X.env.qual none .none (some X.env)) (λaC s₄=>
     codeAny (model X.prog X.w) X.A (.compStart (.DictComp kx vx [⟨tg,iter,a8,0⟩] scope pos) 0 (.ref it) a4 {aC with scope:=relabel scope X.env}) (RR a4 aC.locals) s₄) E s₃) E s:=by
 have hD:H s.heap.objs.size=none:=a0.fresh;have I3:Inv X pins σ (upd H s.heap.objs.size (.dK [])) {s with heap:=s.heap.push {cls:=.type "dict",data:=.dict #[]},toks:=s.toks}:=a0.laid (t':=s.toks) (λ_ _ q=>JD _ q) (JG _) (Qy s.heap a0.big);refine LH ?_;have f3:∀b∈fp,Jr X pins (upd H s.heap.objs.size (.dK [])) b:=λb hb=>by
   refine Am (T.obj _ _ st b hb) λo e _=>?_;exact⟨by rw[Ak (KC (JK e))];exact(f b hb).1,(f b hb).2⟩
 generalize aU:({s with heap:=s.heap.push {cls:=.type "dict",data:=.dict #[]},toks:=s.toks}:Shared)=I at I3;have aN:s.heap.push {cls:=.type "dict",data:=.dict #[]}=I.heap:=by rw[← aU]
 have k3:∀b o,s.heap.get? b=some o->I.heap.get? b=some o:=λb o e=>by rw[← aN];exact JD _ e
 have fo:∀b∈fp,b<I.heap.objs.size:=λb hb=>by
   refine Am (T.obj _ _ st b hb) λo e _=>JK (k3 b o e)
 refine wpAny_newFunctionEnv c.HB (by intro y hy;simp at hy) (λh₁ ac ae=>?_) c.kind;have k4:∀b o,I.heap.get? b=some o->h₁.get? b=some o:=λb o e=>ae.extBut b o (KC (JK e)) (JD _ e);have I4:=Vy (h₁:=h₁) (tk:=I.toks+([]:List (Str×Value)).length) c I3 f3 fo ⟨_,ac⟩ k4;have aA:tn 0 h₁:=T.keep _ _ _ st λb _ o e=>k4 b o (k3 b o e);have a2:∀{H':Hp},(∀b∈fp,H' b=none)->∀b∈fp,Jr (CB X N' scope cl I (upd H s.heap.objs.size (.dK [])) fp) [] H' b:=λhn b hb=>
   (El (hn b hb) (KC (fo b hb)) (I4.ok.GX b hb) (.inl hb) (λx a h=>(f b hb).2.2.2.2.1 x a (c.sub x a h)) λp hp=>absurd (show p∈([]:List (Addr×Obj))from hp) (by simp))
 refine Ox (aP I (upd H s.heap.objs.size (.dK [])) fp) λhg aV aK aM=>?_;have tr:=ag _ hD;have aD:codeAny (model X.prog X.w) X.A (.compLoop (.DictComp kx vx [⟨tg,iter,a8,0⟩] scope pos) 0 (.ref it) (.ref s.heap.objs.size) (compEnvC scope cl I.heap.objs.size X.env))
     (RR (.ref s.heap.objs.size) I.heap.objs.size) {I with heap:=h₁,toks:=I.toks+([]:List (Str×Value)).length}:=by
   obtain⟨m0,w0⟩:=w0 _ hD;refine Rk (λm s'=>∃i σ' H',Inv (CB X N' scope cl I (upd H s.heap.objs.size (.dK [])) fp) [] σ' H' s'/\tn i s'.heap/\(∀b∈fp,H' b=none)/\W s.heap.objs.size i m σ' H') ?_ m0 (Ek 0 _ _ I4 aA (λb hb=>(f3 b hb).1) w0);rintro m s5 ⟨i,σ5,Y,I5,aB,a7,w5⟩;rcases tr i m σ5 Y w5 with⟨stop,qF⟩|⟨go,Ay,An,aJ,aI,step⟩
   . refine AV (T.done (CB X N' scope cl I (upd H s.heap.objs.size (.dK [])) fp) rfl rfl rfl hc i [] s5 σ5 Y (λ_ _=>False) I5 (a2 a7) aB stop) λr s6 ⟨hr,I6⟩=>?_;subst hr;refine Am I6.loc λm6 aQ _=>hR _ I _ Y s6 I3 (Wg I3 f3 I6) ⟨m6,aQ⟩ I6.free qF
   . refine AV (T.item (CB X N' scope cl I (upd H s.heap.objs.size (.dK [])) fp) rfl rfl rfl hc i [] s5 σ5 Y (λ_ _=>False) I5 (a2 a7) aB go) λr s6 ⟨u,hr,h6⟩=>?_;subst hr;refine AV h6 λ_ s7 ⟨x,H7,I7,r7,y7,a1,aH⟩=>?_;have aG:=I7.pinned (a2 aH) (T.obj _ _ a1);refine AV (hg _ s7 σ5 H7 x u _ aG r7 (step x H7 y7)) λ_ s8 ⟨σ8,H8,I8,q8⟩=>AV (aV _ s8 σ8 H8 _ I8 q8) λok s9 ⟨H9,I9,q9⟩=>?_;have back:∀{H':Hp} {s':Shared},Inv (CB X N' scope cl I (upd H s.heap.objs.size (.dK [])) fp) ([]++M8 fp s7.heap) σ8 H' s'->(∃O,O<m/\W s.heap.objs.size (i+1) O σ8 H') ->
         ∃O,O<m/\∃i σ' H',Inv (CB X N' scope cl I (upd H s.heap.objs.size (.dK [])) fp) [] σ' H' s'/\tn i s'.heap/\(∀b∈fp,H' b=none)/\W s.heap.objs.size i O σ' H':=fun {H' s'} J' w'=>by
       obtain⟨O,hm,w'⟩:=w';refine⟨O,hm,i+1,σ8,H',J'.DD,T.keep _ _ _ a1 λb hb o e=>(J'.pin (b,o) (JZ _ (JZ _ (Fr hb e)))).1,λb hb=>(Am (T.obj _ _ a1 b hb) λo e d=>((J'.pin (b,o) (JZ _ (JZ _ (Fr hb e)))).2.1)),w'⟩
     cases ok with
     | false=>
       rw[JP (by decide)]at q9 ⊢;exact back I9 (aI _ _ q9)
     | true=>
       rw[JN rfl]at q9 ⊢;refine AV (aK _ s9 σ8 H9 _ I9 q9) λyv aa ⟨y,aE,aF,aY,aW⟩=>AV (aM _ aa σ8 aE _ aF aW) λvv ai ⟨v,ah,a3,aZ,qA⟩=>?_;refine Gh (aJ _ _ _ _ qA) λkvs key z1 a6 aj aX=>?_;subst z1;refine Bu (Am0 a3.AR a6) λz hd z1=>?_;refine Am z1 λvs a9 dd=>?_;have hz:vs.length<=sizeLine:=by rw[← a9.length];exact z
       have hl:(putK kvs key v).length<=sizeLine:=by have:=He kvs key v;omega
       refine wpAny_dictSet_pairs (hsz:=hz) (L6 aY) dd λh' a5 hs=>back ?_ aX;have he:∃q,h'.get? s.heap.objs.size=some q:=let ⟨q,_,_,hq,_⟩:=a5;⟨q,hq⟩
       exact Pe a3 (by rw[a6];exact True.intro) hs he (Qx hl hd (a9.put key aZ) a5)
 exact codeAny_compStart_dict aD (T.self _ 0 _ _ _ aA aD)
theorem Ai0
   (c:At X scope cl N' n js)(hc:X.calm=true)(hi:PI X tg iter wi)
   (a3:∀s3 H3 fp,PG (CB X N' scope cl s3 H3 fp) tg g/\PTS (CB X N' scope cl s3 H3 fp) a5 tt/\PE (CB X N' scope cl s3 H3 fp) kx tk/\PE (CB X N' scope cl s3 H3 fp) vx tv)
   (hs:∀x,foldedSetIterable iter X.env x=pure x:=by intro _;rfl):PE X (.DictComp kx vx [⟨tg,iter,a5,0⟩] scope pos) (Su (Jq n js) wi g tt tk tv):=by
 intro pins s σ H Q a0 h;rw[arm_eval_DictComp];refine NN (use:=none) rfl hs c.HN c.kind c.names (AV (hi pins s σ H _ a0 h) λv s1 h1=>AV h1 λa8 s2 h2=>?_);obtain⟨it,fp,tn,J,H2,e,I2,T,a6,f2,h2⟩:=h2;subst e;have a2:∃W:Addr->Nat->Nat->St->Hp->Prop,(∀D,H2 D=none->∃m,W D 0 m (Jq n js σ) (upd H2 D (.dK [])))/\∀D,H2 D=none->∀i m σ' H',W D i m σ' H' ->
     (J.stop i H'/\Q (.ref D) H')\/(J.go i H'/\∃(Ay:V->V->St->Hp->Prop) (An:St->Hp->Prop),(∀y v σ3 Y,Ay y v σ3 Y->∃kvs key,y=kV key/\Y D=some (.dK kvs)/\kvs.length<sizeLine/\∃m',m'<m/\W D (i+1) m' σ3 (upd Y D (.dK (putK kvs key v))))/\(∀σ3 O,An σ3 O->∃m',m'<m/\W D (i+1) m' σ3 O) /\
       ∀x H2,J.FY i H' x H2->g x σ' H2 λσ3 H3=>tt σ3 H3 λok O=>if ok=true then tk σ3 O (λy Y=>tv σ3 Y λv H6=>Ay y v σ3 H6)else An σ3 O):=by
   refine⟨λD=>if I:H2 D=none then(h2 D I).choose else λ_ _ _ _=>False,λD I=>?_,λD I=>?_⟩
   . simp only[I,PL];exact(h2 D I).choose_spec.1
   . simp only[I,PL];exact(h2 D I).choose_spec.2
 refine Am a2 λW w0 a7=>R5 (RR:=λa1 C=>compPost (model X.prog X.w) X.A X.xe none (EP X pins σ Q) a1 C) (Fi:=λD H'=>Q (.ref D) H') (W:=W) c hc a3 I2 T a6 f2 w0 a7 ?_;intro D s3 H3 H' s' I3 I' ⟨m,hn⟩ hC q;exact Ar m hn λh' a4=>(Ao (.ref D) H' (Ku I3 I' hC a4) rfl q)
theorem Ag1
  (c:At X scope cl N' n js)(Y:X.calm=true)(hi:QI X tg iter wi)
  (O:∀I H3 fp,QG (CB X N' scope cl I H3 fp) tg g/\QTS (CB X N' scope cl I H3 fp) a0 tt/\QE (CB X N' scope cl I H3 fp) kx tk/\QE (CB X N' scope cl I H3 fp) vx tv)
  (hs:∀x,foldedSetIterable iter X.env x=pure x:=by intro _;rfl):QE X (.DictComp kx vx [⟨tg,iter,a0,0⟩] scope pos) (Su (Jq n js) wi g tt tk tv):=
 ⟨Ai0 c Y hi.go (λI H3 fp=>(C6 ((O I H3 fp).1.go) ((O I H3 fp).2.1.go) ((O I H3 fp).2.2.1.go) ((O I H3 fp).2.2.2.go))) hs⟩
theorem Ag8
   (hN:X.N.Nodup)(a5:X.N[i0]?=some y)(hx:X.env.scope.names.lookup y=some .local)
   (a9:swapsWith (.DictComp kx vx [⟨tg,iter,a0,0⟩] scope pos) (some (.Name y py)) aC.line X.env=pure true)
   (c:At X scope cl N' n js)(hc:X.calm=true)(hi:PI X tg iter wi)
   (a6:∀O H3 fp,PG (CB X N' scope cl O H3 fp) tg g/\PTS (CB X N' scope cl O H3 fp) a0 tt/\PE (CB X N' scope cl O H3 fp) kx tk/\PE (CB X N' scope cl O H3 fp) vx tv)
   (hs:∀x,foldedSetIterable iter X.env x=pure x:=by intro _;rfl):PS X (.Assign [.Name y py] (.DictComp kx vx [⟨tg,iter,a0,0⟩] scope pos) aC) (Sw (Su (Jq n js) wi g tt tk tv) (Dw i0)):=by
 intro pins s σ H D0 a1 h;rw[exec_Assign_Name_used _ _ _ _ a9];refine JA (wpAny_standAt (JA ?_))
 show wpAny _ X.A (do let _ ← comprehension (.DictComp kx vx [⟨tg,iter,a0,0⟩] scope pos) scope X.env _ newDict false (eval iter X.env) (some (assign (.Name y py) X.env))) _ _ s
 refine JA (AV (NN (use:=some (assign (.Name y py) X.env)) (Q:=λ_ s'=>SP X pins D0 .next s') rfl hs c.HN c.kind c.names (AV (hi pins s σ H _ a1 h) λv s1 h1=>AV h1 λaE s2 h2=>?_))
   λ_ s' hq=>JF (JF hq))
 obtain⟨it,fp,tn,J,H2,e,I2,T,aA,f2,h2⟩:=h2;subst e;have a4:∃W:Addr->Nat->Nat->St->Hp->Prop,(∀D,H2 D=none->∃m,W D 0 m (Jq n js σ) (upd H2 D (.dK [])))/\∀D,H2 D=none->∀i m σ' H',W D i m σ' H' ->
     (J.stop i H'/\D0.nx (σ.set i0 (some (.ref D))) H')\/(J.go i H'/\∃(Ay:V->V->St->Hp->Prop) (An:St->Hp->Prop),(∀y v σ3 H5,Ay y v σ3 H5->∃kvs key,y=kV key/\H5 D=some (.dK kvs)/\kvs.length<sizeLine/\∃m',m'<m/\W D (i+1) m' σ3 (upd H5 D (.dK (putK kvs key v))))/\(∀σ3 Y,An σ3 Y->∃m',m'<m/\W D (i+1) m' σ3 Y) /\
       ∀x H2,J.FY i H' x H2->g x σ' H2 λσ3 H3=>tt σ3 H3 λok Y=>if ok=true then tk σ3 Y (λy H5=>tv σ3 H5 λv H6=>Ay y v σ3 H6)else An σ3 Y):=by
   refine⟨λD=>if I:H2 D=none then(h2 D I).choose else λ_ _ _ _=>False,λD I=>?_,λD I=>?_⟩
   . simp only[I,PL];exact(h2 D I).choose_spec.1
   . simp only[I,PL];exact(h2 D I).choose_spec.2
 refine Am a4 λW w0 aD=>R5 (RR:=λa3 C=>compPost (model X.prog X.w) X.A X.xe (some (assign (.Name y py) X.env)) (λ_ s'=>SP X pins D0 .next s') a3 C) (Fi:=λD H'=>D0.nx (σ.set i0 (some (.ref D))) H') (W:=W) c hc a6 I2 T aA f2 w0 aD ?_;intro D O H3 H' s' I3 I' ⟨m,hn⟩ hC q
 show wpAny _ _ (assign (.Name y py) X.env (.ref D)) _ _ s'
 refine wpAny_assign_Name (Mp (v:=.ref D) I' hN a5 (.inl hx) rfl (λaF a2 ⟨a,aB,ha⟩=>?_) (.inr hx));have a7:O.heap.objs.size≠a:=by
   rcases ha with z|z
   . rw[z];exact LS I3.lt
   . intro q;obtain⟨v,w⟩:=I3.cell y a z;exact absurd w.lt (by rw[← q];exact MJ _)
 exact Ar m (hn.sameBut aB a7) λh' a8=>(Ck _ H' (Ku I3 a2 hC a8) q)
theorem Vf
  (hN:X.N.Nodup)(a1:X.N[i0]?=some y)(hx:X.env.scope.names.lookup y=some .local)
  (a2:swapsWith (.DictComp Y vx [⟨tg,iter,a0,0⟩] scope pos) (some (.Name y py)) a3.line X.env=pure true)
  (c:At X scope cl N' n js)(hc:X.calm=true)(hi:QI X tg iter wi)
  (O:∀I H3 fp,QG (CB X N' scope cl I H3 fp) tg g/\QTS (CB X N' scope cl I H3 fp) a0 tt/\QE (CB X N' scope cl I H3 fp) Y tk/\QE (CB X N' scope cl I H3 fp) vx tv)
  (hs:∀x,foldedSetIterable iter X.env x=pure x:=by intro _;rfl):QS X (.Assign [.Name y py] (.DictComp Y vx [⟨tg,iter,a0,0⟩] scope pos) a3) (Sw (Su (Jq n js) wi g tt tk tv) (Dw i0)):=
 ⟨Ag8 hN a1 hx a2 c hc hi.go (λI H3 fp=>(C6 ((O I H3 fp).1.go) ((O I H3 fp).2.1.go) ((O I H3 fp).2.2.1.go) ((O I H3 fp).2.2.2.go))) hs⟩
end
theorem Yc {K:PySem.W.Frag}{a D:Addr}{xs:List V}{g:TG}{tt:TT}{tk tv:TE}{σ0:St}{H1:Hp}{Q:Hp->Prop}(Pv:Nat->List (Key×V)->St->Hp->Prop)(hx:xs.length<=sizeLine)(h0:Pv 0 [] σ0 (upd H1 D (.dK [])))
   (hl:∀i ys σ H,i<=xs.length->Pv i ys σ H->AW K H a xs/\H D=some (.dK ys)/\ys.length<=i)
   (hs:∀i x ys σ H,xs[i]?=some x->Pv i ys σ H->g x σ H λσ3 H3=>tt σ3 H3 λok I=>if ok=true then tk σ3 I (λy O=>tv σ3 O λv H6=>∃key,y=kV key/\H6 D=some (.dK ys)/\Pv (i+1) (putK ys key v) σ3 (upd H6 D (.dK (putK ys key v))))else Pv (i+1) ys σ3 I)
   (hd:∀ys σ H,Pv xs.length ys σ H->Q H) :
   ∃W:Nat->Nat->St->Hp->Prop,(∃m,W 0 m σ0 (upd H1 D (.dK [])))/\∀i m σ' H',W i m σ' H' ->
     ((IZ K a).stop i H'/\Q H')\/((IZ K a).go i H'/\∃(Ay:V->V->St->Hp->Prop) (An:St->Hp->Prop),(∀y v σ3 O,Ay y v σ3 O->∃kvs key,y=kV key/\O D=some (.dK kvs)/\kvs.length<sizeLine/\∃Y,Y<m/\W (i+1) Y σ3 (upd O D (.dK (putK kvs key v)))) /\
       (∀σ3 I,An σ3 I->∃Y,Y<m/\W (i+1) Y σ3 I) /\
       ∀x H2,(IZ K a).FY i H' x H2->g x σ' H2 λσ3 H3=>tt σ3 H3 λok I=>if ok=true then tk σ3 I (λy O=>tv σ3 O λv H6=>Ay y v σ3 H6)else An σ3 I):=by
 refine Ar (λi m σ H=>m=xs.length-i/\i<=xs.length/\∃ys,Pv i ys σ H) (B4 xs.length (by simp) (KY _) ⟨[],h0⟩) ?_;rintro i m σ H ⟨rfl,hi,ys,p⟩;refine Bu (hl i ys σ H hi p) λq hy a1=>?_;by_cases a0:i<xs.length
 . refine .inr ⟨(Ck xs (xs[i]) q (by simp[a0])),(Ao (λy v σ3 O=>∃key,y=kV key/\O D=some (.dK ys)/\Pv (i+1) (putK ys key v) σ3 (upd O D (.dK (putK ys key v)))) (λσ3 I=>Pv (i+1) ys σ3 I)
     (λy v σ3 O ⟨key,ek,e,p'⟩=>(Cj ys key ek e (by omega) (Cv (xs.length-(i+1)) (by omega) rfl a0 ⟨_,p'⟩))) (λσ3 I p'=>(Cv (xs.length-(i+1)) (by omega) rfl a0 ⟨_,p'⟩)) λx H' y=>?_)⟩
   obtain⟨e,y⟩:=y;subst e;exact hs i x ys σ H' (y xs q) p
 . have:i=xs.length:=by omega
   subst this;exact .inl ⟨(Ar xs q (JG _)),hd ys σ H p⟩
theorem R6 {K:PySem.W.Frag}{a D:Addr}{xs:List V}{g:TG}{tt:TT}{tk tv:TE}{σ0:St}{H1:Hp}{Q:Hp->Prop}(Pv:Nat->List (Key×V)->St->Hp->Prop)(hx:xs.length<=sizeLine)(h0:Pv 0 [] σ0 (upd H1 D (.dK [])))
   (hl:∀i ys σ H,i<=xs.length->Pv i ys σ H->BW K H a xs/\H D=some (.dK ys)/\ys.length<=i)
   (hs:∀i x ys σ H,xs[i]?=some x->Pv i ys σ H->g x σ H λσ3 H3=>tt σ3 H3 λok I=>if ok=true then tk σ3 I (λy O=>tv σ3 O λv H6=>∃key,y=kV key/\H6 D=some (.dK ys)/\Pv (i+1) (putK ys key v) σ3 (upd H6 D (.dK (putK ys key v))))else Pv (i+1) ys σ3 I)
   (hd:∀ys σ H,Pv xs.length ys σ H->Q H) :
   ∃W:Nat->Nat->St->Hp->Prop,(∃m,W 0 m σ0 (upd H1 D (.dK [])))/\∀i m σ' H',W i m σ' H' ->
     ((IJ K a).stop i H'/\Q H')\/((IJ K a).go i H'/\∃(Ay:V->V->St->Hp->Prop) (An:St->Hp->Prop),(∀y v σ3 O,Ay y v σ3 O->∃kvs key,y=kV key/\O D=some (.dK kvs)/\kvs.length<sizeLine/\∃Y,Y<m/\W (i+1) Y σ3 (upd O D (.dK (putK kvs key v)))) /\
       (∀σ3 I,An σ3 I->∃Y,Y<m/\W (i+1) Y σ3 I) /\
       ∀x H2,(IJ K a).FY i H' x H2->g x σ' H2 λσ3 H3=>tt σ3 H3 λok I=>if ok=true then tk σ3 I (λy O=>tv σ3 O λv H6=>Ay y v σ3 H6)else An σ3 I):=by
 refine Ar (λi m σ H=>m=xs.length-i/\i<=xs.length/\∃ys,Pv i ys σ H) (B4 xs.length (by simp) (KY _) ⟨[],h0⟩) ?_;rintro i m σ H ⟨rfl,hi,ys,p⟩;refine Bu (hl i ys σ H hi p) λq hy a1=>?_;by_cases a0:i<xs.length
 . refine .inr ⟨(Ck xs (xs[i]) q (by simp[a0])),(Ao (λy v σ3 O=>∃key,y=kV key/\O D=some (.dK ys)/\Pv (i+1) (putK ys key v) σ3 (upd O D (.dK (putK ys key v)))) (λσ3 I=>Pv (i+1) ys σ3 I)
     (λy v σ3 O ⟨key,ek,e,p'⟩=>(Cj ys key ek e (by omega) (Cv (xs.length-(i+1)) (by omega) rfl a0 ⟨_,p'⟩))) (λσ3 I p'=>(Cv (xs.length-(i+1)) (by omega) rfl a0 ⟨_,p'⟩)) λx H' y=>?_)⟩
   obtain⟨e,y⟩:=y;subst e;exact hs i x ys σ H' (y xs q) p
 . have:i=xs.length:=by omega
   subst this;exact .inl ⟨(Ar xs q (JG _)),hd ys σ H p⟩
def SI (b:Bool)(h:Heap)(it l:Addr)(i:Nat):Prop:=if b=true then h.IsListIter it l i else h.IsTupleIter it l i
def SQ (b:Bool)(h:Heap)(l:Addr)(xs:Array Value):Prop:=if b=true then h.IsList l xs else h.IsTuple l xs
theorem SI.at (x:SI b h it l i)(e:∀o,h.get? it=some o->h'.get? it=some o):SI b h' it l i:=by
 cases b
 .exact Heap.IsTupleIter.at (show h.IsTupleIter it l i from x) e
 .exact Heap.IsListIter.at (show h.IsListIter it l i from x) e
theorem SQ.at (x:SQ b h l xs)(e:∀o,h.get? l=some o->h'.get? l=some o):SQ b h' l xs:=by
 cases b
 .exact Heap.IsTuple.at (show h.IsTuple l xs from x) e
 .exact Heap.IsList.at (show h.IsList l xs from x) e
theorem SI.obj (x:SI b h it l i):∃o,h.get? it=some o/\∀v,o.data≠.cell v:=by
 cases b
 .refine Bk ((show h.IsTupleIter it l i from x)) λo e _ d=>?_;exact Ar o e λv z=>by rw[d]at z;cases z
 .refine Bk ((show h.IsListIter it l i from x)) λo e _ d=>?_;exact Ar o e λv z=>by rw[d]at z;cases z
section
variable {E:Value->Shared->Prop}
theorem Oq {Q:Value->Shared->Prop}(u:s.heap.IsTupleIter it l i)(q:s.heap.IsTuple l xs)(z:xs[i]?=some x)
  (k:∀h',h'.IsTupleIter it l (i+1)->Heap.SameBut it s.heap h'->Q x {s with heap:=h'}):wpAny (model prog w) A (Builtin.SmallTypes.nextOf (.ref it)) Q E s:=by
 refine Bk (id u) λo e c d=>?_;refine Bk q λo2 O _ Y=>?_;obtain⟨n2,I⟩:=Y
 delta Builtin.SmallTypes.nextOf
 refine JA (KW (name:=Str.ofString "__next__") u.typeIs MT (LY MT u.typeIs PySem.F.entry_tuple_iterator_next ?_ (PySem.F.args_tuple_iterator_next_1 _)))
 show wpAny _ _ (field (.ref it) 0 >>= λ_=>_) _ _ s
 refine JA (KE e d (x:=.ref l) rfl ?_)
 show wpAny _ _ (if(Value.ref l==Value.none)=true then _ else(field (.ref it) 1 >>= λ_=>_)) _ _ s
 rw[JP (show ¬((Value.ref l==Value.none)=true)from λz=>KQ z)];refine JA (KE e d (x:=.int i 0) rfl ?_)
 show wpAny _ _ (seqItems? (.ref l) >>= λ_=>_) _ _ s
 refine JA (MK O I ?_);simp only[z,PF];refine JA (wpAny_setField e d (by simp) (JF (Ar x rfl (JF (k _ (B0 (Heap.get?_update_self _ e (Obj.isFreed_of_fields (Obj.data_mapFields d _))) ((Obj.cls_mapFields ..).trans c) ?_) (Heap.SameBut.update ..))))));rw[Obj.data_mapFields d];simp[rawInt]
theorem Qq {Q:Value->Shared->Prop}(Y:A.handled=none)(u:s.heap.IsTupleIter it l i)(q:s.heap.IsTuple l xs)(z:xs[i]?=none)
  (k:∀h' e,Heap.ExtBut it s.heap h'->(∃o,h'.get? e=some o/\o.cls=.type "StopIteration")->E (.ref e) {s with heap:=h'}):wpAny (model prog w) A (Builtin.SmallTypes.nextOf (.ref it)) Q E s:=by
 refine Bk (id u) λo e c d=>?_;refine Bk q λo2 O _ z1=>?_;obtain⟨n2,I⟩:=z1
 delta Builtin.SmallTypes.nextOf
 refine JA (KW (name:=Str.ofString "__next__") u.typeIs MT (LY MT u.typeIs PySem.F.entry_tuple_iterator_next ?_ (PySem.F.args_tuple_iterator_next_1 _)))
 show wpAny _ _ (field (.ref it) 0 >>= λ_=>_) _ _ s
 refine JA (KE e d (x:=.ref l) rfl ?_)
 show wpAny _ _ (if(Value.ref l==Value.none)=true then _ else(field (.ref it) 1 >>= λ_=>_)) _ _ s
 rw[JP (show ¬((Value.ref l==Value.none)=true)from λz=>KQ z)];refine JA (KE e d (x:=.int i 0) rfl ?_)
 show wpAny _ _ (seqItems? (.ref l) >>= λ_=>_) _ _ s
 refine JA (MK O I ?_);simp only[z,PF];refine JA (wpAny_rule (JA (wpAny_setField e d (by simp) ?_)))
 show wpAny _ _ (newExc (.type "StopIteration") [] >>= λ_=>_) _ _ _
 refine JA ?_;simp only[newTuple,newExc];refine JA (LH (JA (m:=firstArgMember _ _) (wpAny_of_eq (a:=Value.none) (by first|rfl|(simp only[firstArgMember];rfl)) (LH ?_ (by size_fits)))) (by size_fits));simp only[raiseNew];refine JA (wpAny_handled ?_);rw[show A.in1.handled=none from Y];exact JA (JF (wpAny_throw (k _ _ (((Heap.SameBut.update ..).extBut.push _).push _) (Ae (JS _ rfl) rfl))))
theorem Eh {Q:Value->Shared->Prop}(u:SI b s.heap it l i)(q:SQ b s.heap l xs)(z:xs[i]?=some x)
  (k:∀h',SI b h' it l (i+1)->Heap.SameBut it s.heap h'->Q x {s with heap:=h'}):wpAny (model prog w) A (Builtin.SmallTypes.nextOf (.ref it)) Q E s:=by
 cases b
 .exact Oq u q z k
 .exact wpAny_nextOf_list_item u q z k
theorem Gr {Q:Value->Shared->Prop}(I:A.handled=none)(u:SI b s.heap it l i)(q:SQ b s.heap l xs)(z:xs[i]?=none)
  (k:∀h' e,Heap.ExtBut it s.heap h'->(∃o,h'.get? e=some o/\o.cls=.type "StopIteration")->E (.ref e) {s with heap:=h'}):wpAny (model prog w) A (Builtin.SmallTypes.nextOf (.ref it)) Q E s:=by
 cases b
 .exact Qq I u q z k
 .exact wpAny_nextOf_list_end I u q z k
theorem Ab6 {b:Bool}{e it l:Addr}{i:Nat}{xs:Array Value}{x Y:Value}{Q:Option Value->Shared->Prop}(he:IsEnum s.heap e it i Y)(u:SI b s.heap it l i)(q:SQ b s.heap l xs)(z:xs[i]?=some x)(ne:e≠it)
   (k:∀h',IsEnumOut h' e it ((i:Int)+1) x s.heap.objs.size->SI b h' it l (i+1)->h'.get? s.heap.objs.size=some {cls:=.type "tuple",data:=.seq #[.int i s.toks,x]}->h'.objs.size=s.heap.objs.size+1 ->
     (∀c o,c≠e->c≠it->s.heap.get? c=some o->h'.get? c=some o)->Q (some (.ref s.heap.objs.size)) {s with heap:=h',toks:=s.toks+1}):wpAny (model prog w) A (pyNext (.ref e)) Q E s:=by
 have ty:s.TypeIs (.ref e) "enumerate":=(Ae he rfl);unfold pyNext;refine JA (OT (KW (name:=Str.ofString "__next__") ty OD (LY OD ty F.entry_enumerate_next ?_ (F.args_enumerate_next_1 _))));obtain⟨O,g,d,tk,os⟩:=s
 show wpAny _ _ (field (.ref e) 2 >>= λ_=>_) _ _ _
 refine JA (KE he rfl (x:=.ref it) rfl (JA (Eh u q z λh1 u1 s1=>?_)));replace s1:Heap.SameBut it O h1:=s1;have e1:IsEnum h1 e it i Y:=(s1.2 e ne).trans he
 show wpAny _ _ (field (.ref e) 3 >>= λ_=>_) _ _ ⟨h1,g,d,tk,os⟩
 refine JA (KE e1 rfl (x:=rawInt i) rfl ?_)
 show wpAny _ _ (field (.ref e) 4 >>= λ_=>_) _ _ ⟨h1,g,d,tk,os⟩
 refine JA (KE e1 rfl (x:=.none) rfl ?_)
 show wpAny _ _ (mkInt i >>= λ_=>_) _ _ ⟨h1,g,d,tk,os⟩
 refine JA (wpAny_mkInt (?_))
 show wpAny _ _ (setField (.ref e) 3 (rawInt ((i:Int)+1)) >>= λ_=>_) _ _ ⟨h1,g,d,tk+1,os⟩
 refine JA (LK e1 (by simp) λh2 e2 s2=>?_);replace s2:Heap.SameBut e h1 h2:=s2;replace e2:IsEnum h2 e it ((i:Int)+1) Y:=e2
 show wpAny _ _ (setField (.ref e) 4 .none >>= λ_=>_) _ _ ⟨h2,g,d,tk+1,os⟩
 refine JA (LK e2 (by simp) λh3 e3 s3=>?_);replace s3:Heap.SameBut e h2 h3:=s3;replace e3:IsEnum h3 e it ((i:Int)+1) Y:=e3
 show wpAny _ _ (newTuple [.int i tk,x] >>= λ_=>_) _ _ ⟨h3,g,d,tk+1,os⟩
 refine JA (wpAny_newTuple (?_));have e4:IsEnum (h3.push {cls:=.type "tuple",data:=.seq #[.int i tk,x]}) e it ((i:Int)+1) Y:=JD _ e3;generalize p4:h3.push {cls:=.type "tuple",data:=.seq #[.int i tk,x]}=h4 at e4;have sz:h3.objs.size=O.objs.size:=by rw[s3.1,s2.1,s1.1]
 have le:e<O.objs.size:=JK he;have t4:h4.get? O.objs.size=some {cls:=.type "tuple",data:=.seq #[.int i tk,x]}:=by rw[← p4,← sz];exact JS _ rfl
 have z4:h4.objs.size=O.objs.size+1:=by rw[← p4,ME,sz]
 have k4:∀c o,c≠e->c≠it->O.get? c=some o->h4.get? c=some o:=λc o I c2 y=>by
   rw[← p4];exact JD _ (s3.extBut c o I (s2.extBut c o I (s1.extBut c o c2 y)))
 have u4:SI b h4 it l (i+1):=u1.at λo y=>by
   rw[← p4];exact JD _ (s3.extBut _ _ (NI ne) (s2.extBut _ _ (NI ne) y))
 show wpAny _ _ (Builtin.SmallTypes.ownedTupleIsFree (.ref e) >>= λ_=>_) _ _ ⟨h4,g,d,tk+1,os⟩
 rw[sz];refine JA ?_
 delta Builtin.SmallTypes.ownedTupleIsFree
 refine JA (KE e4 rfl (x:=.none) rfl (JF ?_));simp only[NW];refine JA (wpAny_rule (JA (KE e4 rfl (x:=Y) rfl (JA (LK e4 (by simp) λh5 e5 s5=>?_)))));replace s5:Heap.SameBut e h4 h5:=s5;replace e5:IsEnum h5 e it ((i:Int)+1) x:=e5
 show wpAny _ _ (Builtin.SmallTypes.ownedTupleHandOut (.ref e) (.ref O.objs.size) >>= λ_=>_) _ _ ⟨h5,g,d,tk+1,os⟩
 refine JA ?_
 delta Builtin.SmallTypes.ownedTupleHandOut
 refine JA (LK e5 (by simp) λh6 e6 s6=>?_);replace s6:Heap.SameBut e h5 h6:=s6;replace e6:IsEnumOut h6 e it ((i:Int)+1) x O.objs.size:=e6;refine LK e6 (by simp) λh7 e7 s7=>?_;replace s7:Heap.SameBut e h6 h7:=s7;replace e7:IsEnumOut h7 e it ((i:Int)+1) x O.objs.size:=e7;have up:∀c o,c≠e->h4.get? c=some o->h7.get? c=some o:=λc o I y=>s7.extBut c o I (s6.extBut c o I (s5.extBut c o I y));exact JA (wpAny_letGo (JF (Ae rfl (JF (k h7 e7 (u4.at λo y=>up _ _ (NI ne) y) (up _ _ (LS le) t4) (by rw[s7.1,s6.1,s5.1,z4]) λc o I c2 y=>up c o I (k4 c o I c2 y))))))
theorem Al8 {b:Bool}{e it l:Addr}{i:Nat}{xs:Array Value}{a0:Value}{Q:Option Value->Shared->Prop}(I:A.handled=none)(he:IsEnum s.heap e it i a0)(u:SI b s.heap it l i)(q:SQ b s.heap l xs)(z:xs[i]?=none)
  (k:∀h',Heap.ExtBut it s.heap h'->Q none {s with heap:=h'}):wpAny (model prog w) A (pyNext (.ref e)) Q E s:=by
 have ty:s.TypeIs (.ref e) "enumerate":=(Ae he rfl);unfold pyNext;refine JA (OT (KW (name:=Str.ofString "__next__") ty OD (LY OD ty F.entry_enumerate_next ?_ (F.args_enumerate_next_1 _))))
 show wpAny _ _ (field (.ref e) 2 >>= λ_=>_) _ _ _
 refine JA (KE he rfl (x:=.ref it) rfl (JA (Gr I u q z λh' x O ⟨o,Y,y3⟩=>JA (NR (T:="StopIteration") (b:=true) (Ar o Y y3) PH (JF (k _ O))))))
end
theorem Qs (l:Addr)(xs:Array Value)(o:Obj) :
  Meets (Builtin.«enumerate.__new__» ⟨[.type "enumerate",.ref l],[]⟩) (λ_ R s=>s.heap.get? l=some o/\s.heap.IsTuple l xs /\
   R (.ok (.ret (.ref (s.heap.push {cls:=.type "tuple_iterator",data:=.fields #[.ref l,.int 0 0]}).objs.size)))
    {s with heap:=(s.heap.push {cls:=.type "tuple_iterator",data:=.fields #[.ref l,.int 0 0]}).push {cls:=.type "enumerate",data:=.fields #[.none,.bool false,.ref s.heap.objs.size,rawInt 0,.none,.none]}}):=
 .of_wp λprog w A R s h=>by
  obtain⟨O,g,d,tk,os⟩:=s;obtain⟨hl,q,h⟩:=h;have sub:=sub_enumerate;have I:Heap.IsTuple (Shared.heap ⟨O,g,d,tk,os⟩) l xs:=q
  wp_walk using LL hl
  refine wpAny_stack_any λst=>JF ?_;split
  .rename_i c _ _ _ _ _;cases(c==Value.type "enumerate")
   .wp_walk using LL hl,LZ I
    exact⟨_,rfl,h⟩
   .wp_walk using LL hl,LZ I
    exact Ae rfl h
  .wp_walk using LL hl,LZ I
   exact Ae rfl h
theorem Os (l:Addr)(xs:Array Value)(o:Obj) :
  Meets (Builtin.«enumerate.__new__» ⟨[.type "enumerate",.ref l],[]⟩) (λ_ R s=>s.heap.get? l=some o/\s.heap.IsList l xs /\
   R (.ok (.ret (.ref (s.heap.push {cls:=.type "list_iterator",data:=.fields #[.ref l,.int 0 0]}).objs.size)))
    {s with heap:=(s.heap.push {cls:=.type "list_iterator",data:=.fields #[.ref l,.int 0 0]}).push {cls:=.type "enumerate",data:=.fields #[.none,.bool false,.ref s.heap.objs.size,rawInt 0,.none,.none]}}):=
 .of_wp λprog w A R s h=>by
  obtain⟨O,g,d,tk,os⟩:=s;obtain⟨hl,q,h⟩:=h;have sub:=sub_enumerate;have I:Heap.IsList (Shared.heap ⟨O,g,d,tk,os⟩) l xs:=q
  wp_walk using LL hl
  refine wpAny_stack_any λst=>JF ?_;split
  .rename_i c _ _ _ _ _;cases(c==Value.type "enumerate")
   .wp_walk using LL hl,MI I
    exact⟨_,rfl,h⟩
   .wp_walk using LL hl,MI I
    exact Ae rfl h
  .wp_walk using LL hl,MI I
   exact Ae rfl h
section
variable {E:Value->Shared->Prop}
theorem Ac2 {Q:Value->Shared->Prop}(q:SQ b s.heap l xs)
  (k:∀h',IsEnum h' (s.heap.objs.size+1) s.heap.objs.size 0 .none->SI b h' s.heap.objs.size l 0->h'.objs.size=s.heap.objs.size+2->(∀c o,s.heap.get? c=some o->h'.get? c=some o)->Q (.ref (s.heap.objs.size+1)) {s with heap:=h'}) :
  wpAny (model prog w) A (call (.type "enumerate") [.ref l]) Q E s:=by
 have key:∀(n:String) (h1:Heap),h1=s.heap.push {cls:=.type n,data:=.fields #[.ref l,.int 0 0]}->SI b h1 s.heap.objs.size l 0 ->
   (∃o',(h1.push {cls:=.type "enumerate",data:=.fields #[.none,.bool false,.ref s.heap.objs.size,rawInt 0,.none,.none]}).get? h1.objs.size=some o'/\o'.cls=.type "enumerate") /\
   Q (.ref h1.objs.size) {s with heap:=h1.push {cls:=.type "enumerate",data:=.fields #[.none,.bool false,.ref s.heap.objs.size,rawInt 0,.none,.none]}}:=λn h1 e u=>by
  have z:h1.objs.size=s.heap.objs.size+1:=by rw[e];exact ME ..
  have he:=JS h1 (o:={cls:=.type "enumerate",data:=.fields #[.none,.bool false,.ref s.heap.objs.size,rawInt 0,.none,.none]}) rfl;refine⟨(Ae he rfl),?_⟩;rw[z]at he ⊢;exact k _ he (u.at λo y=>JD _ y) (by rw[ME,z]) λc o y=>JD _ (by rw[e];exact JD _ y)
 cases b
 .refine Am ((show s.heap.IsTuple l xs from q)) λo e _=>callType_new F.called_enumerate (by decide) (F.typeCall_enumerate_1 _) (F.newCall_enumerate_1 _) (λobj=>F.args_object_init_2 obj _) F.entry_enumerate_new (Qs l xs o) (Bc e q (key "tuple_iterator" _ rfl (B0 (JS _ rfl) rfl rfl)))
 .refine Am ((show s.heap.IsList l xs from q)) λo e _=>callType_new F.called_enumerate (by decide) (F.typeCall_enumerate_1 _) (F.newCall_enumerate_1 _) (λobj=>F.args_object_init_2 obj _) F.entry_enumerate_new (Os l xs o) (Bc e q (key "list_iterator" _ rfl (B0 (JS _ rfl) rfl rfl)))
end
def DO (b:Bool)(K:PySem.W.Frag)(H:Hp)(a:Addr)(xs:List V):Prop:=if b=true then AW K H a xs else BW K H a xs
section
theorem Inv.sq (I:Inv X pins σ H s)(h:DO b X.K H a xs):∃its:List Value,AG xs its/\SQ b s.heap a its.toArray/\xs.length<=sizeLine:=by
 cases b
 .exact I.tuple h
 .refine Bk (I.list h) λits r p z=>B4 its r p.isList z
theorem Inv.HV (I:Inv X pins σ H s)(h:DO b X.K H a xs)(h':DO b X.K H a ys):xs=ys:=by
 cases b
 .exact I.GQ h h'
 .exact I.HM h h'
end
noncomputable def Ite (b:Bool)(K:PySem.W.Frag)(a:Addr):It:=
 ⟨λi H=>∃xs x,DO b K H a xs/\xs[i]?=some x,
  λi H v H'=>∃p x,H p=none/\v=.ref p/\H'=upd H p (.tup [.int i,x])/\∀xs,DO b K H a xs->xs[i]?=some x,
  λi H=>∃xs,DO b K H a xs/\xs.length<=i⟩
def eTn (b:Bool)(e it a:Addr)(i:Nat)(h:Heap):Prop:=(∃I,IsEnum h e it i I)/\SI b h it a i
theorem Zx {P:Program}{w:World}{K:PySem.W.Frag}{b:Bool}{kk}(ne:e≠it) :
  Turn P w K (.Tuple a7 kk pos) (Ite b K a) [it,e] e (eTn b e it a) where
 mem:=by simp
 obj:=λi h st c O=>by
  obtain⟨⟨a0,he⟩,u⟩:=st;simp only[JC,JI,KG]at O
  rcases O with rfl|rfl
  .exact u.obj
  .exact Ae he λv z=>(nomatch z)
 keep:=λi h h' st k=>by
  obtain⟨⟨a0,he⟩,u⟩:=st;exact⟨⟨a0,k _ (by simp) _ he⟩,u.at λo y=>k _ (by simp) o y⟩
 item:=by
  intro X hP hw hK O i pins s σ H E I hf st hg;subst hP hw hK;refine Co hg λxs x hq hx=>?_;obtain⟨⟨a0,he⟩,u⟩:=st;refine Bk (I.sq hq) λits rv p z=>Am (rv.get hx) λv hv ru=>Ab6 he u p (x:=v) (by simpa using hv) ne λh' o1 u1 t1 z1 k1=>Ae rfl (wpAny_letOwnedTupleGo_enum (s:={s with heap:=h',toks:=s.toks+1}) o1 λY e2 sb=>?_);have a1:@LT.lt Nat _ e s.heap.objs.size:=JK he;have a5:@LT.lt Nat _ it s.heap.objs.size:=by refine Am u.obj λo y _=>?_;exact JK y
  have up:∀c o,c≠e->h'.get? c=some o->Y.get? c=some o:=λc o a3 y=>(sb.2 c a3).trans y;have kk:∀c o,c∉[it,e]->s.heap.get? c=some o->Y.get? c=some o:=λc o O y=>by
   simp only[JC,JI,KG,PJ]at O;exact up c o O.2 (k1 c o O.2 O.1 y)
  have a2:eTn b e it a (i+1) Y:=⟨⟨_,by simpa using e2⟩,u1.at λo y=>up _ o (NI ne) y⟩;have kt:∀c∈[it,e],∃o,Y.get? c=some o:=λc O=>by
   obtain⟨⟨a8,a4⟩,u'⟩:=a2;simp only[JC,JI,KG]at O
   rcases O with rfl|rfl
   .refine Am u'.obj λo y _=>?_;exact⟨o,y⟩
   .exact⟨_,a4⟩
  have I1:Inv X pins σ (upd H s.heap.objs.size (.tup [.int i,x])) {s with heap:=Y,toks:=s.toks+1}:=
   I.IE (t':=s.toks+1) (its:=[.int i s.toks,v]) hf kk kt (JG _) (zl 2) (.cons ⟨_,rfl⟩ (.cons ru .nil)) (B0 (up _ _ (LS a1) t1) rfl ⟨_,rfl⟩)
  refine Jp (.ref s.heap.objs.size) _ I1 rfl (Cj _ x I.fresh rfl rfl λa6 h=>by rw[I.HV h hq];exact hx) a2 λc O=>?_;rw[Ak ?_]
  .exact (hf c O).1
  .simp only[JC,JI,KG]at O
   rcases O with rfl|rfl
   .exact KC a5
   .exact KC a1
 done:=by
  intro X hP hw hK O i pins s σ H E I hf st hg;subst hP hw hK;refine Am hg λxs hq hl=>?_;obtain⟨⟨a0,he⟩,u⟩:=st;refine Bk (I.sq hq) λits rv p z=>?_;have e1:=rv.length;refine Al8 (I.ok.hd O) he u p (by simp;omega) λh' k1=>⟨rfl,I.ID (t':=s.toks) hf λc o O y=>?_⟩;simp only[JC,JI,KG,PJ]at O;exact k1 c o O.1 y
 self:=λ_ _ _ _ _ st h=>by
  obtain⟨⟨a0,he⟩,u⟩:=st;exact wpAny_pyIter_enum he h
def iEnum (b:Bool)(K:PySem.W.Frag)(ta:TA):TI:=λσ H R=>ta σ H λvs H1=>∃a,vs=[.ref a]/\(∃xs,DO b K H1 a xs)/\R (Ite b K a) H1
theorem Ac3:bootBuiltins "enumerate"=some (.type "enumerate"):=by decide +kernel
theorem Aq6 {kk}(hg:Gl X "enumerate")(hm:X.mg "enumerate"=none)(ha:PA X [a] ta)(hs:starEach [a] X.env=[(false,eval a X.env)]:=by rfl) :
  PI X (.Tuple a1 kk a2) (.Call (.Name "enumerate" p) [a] [] pos) (iEnum b X.K ta):=by
 intro pins s σ H R I h;refine Call_ (Li I hg hm Ac3 (MQ (AV (ha pos pins s σ H _ I h) λus s1 ⟨vs,H1,O,r1,q1⟩=>?_) hs rfl));refine Bk q1 λl e z1 q=>?_;obtain⟨xs,hq⟩:=z1;subst e
 cases r1 with
 | cons r rr=>
  cases rr;cases r;refine Bk (O.sq hq) λits rv p1 z=>Ac2 p1 λh' he u sz k1=>wpAny_pyIter_enum (s:={s1 with heap:=h'}) he (Ff (s1.heap.objs.size+1) [s1.heap.objs.size,s1.heap.objs.size+1] (eTn b _ _ l) (Ite b X.K l) H1 rfl (O.kept (t':=s1.toks) k1) (Zx (Nat.succ_ne_self _)) ⟨⟨_,he⟩,u⟩ (λc Y=>?_) q);have a0:s1.heap.objs.size<=c:=by
   simp only[JC,JI,KG]at Y
   rcases Y with rfl|rfl<;>omega
  exact O.HX a0 (O.AR.fresh a0)
theorem Ao8 {kk}(hg:Gl X "enumerate")(hm:X.mg "enumerate"=none)(ha:QA X [a] ta)(hs:starEach [a] X.env=[(false,eval a X.env)]:=by rfl) :
  QI X (.Tuple I kk O) (.Call (.Name "enumerate" p) [a] [] pos) (iEnum b X.K ta):=⟨Aq6 hg hm ha.go hs⟩
theorem Al6 {K:PySem.W.Frag}{b:Bool}{a:Addr}{xs:List V}{g:TG}{tb:TS}{D:Ends}{σ:St}{H:Hp}(Pv:Nat->St->Hp->Prop)(h0:Pv 0 σ H)(hl:∀i σ H,i<=xs.length->Pv i σ H->DO b K H a xs)
  (hs:∀i x σ H p,xs[i]?=some x->Pv i σ H->H p=none->g (.ref p) σ (upd H p (.tup [.int i,x])) λσ2 H2=>tb {D with nx:=Pv (i+1),ct:=Pv (i+1),bk:=D.nx} σ2 H2)(hd:∀σ H,Pv xs.length σ H->D.nx σ H) :
  ∃W:Nat->Nat->St->Hp->Prop,(∃m,W 0 m σ H)/\∀i m σ H,W i m σ H ->
   ((Ite b K a).stop i H/\D.nx σ H)\/((Ite b K a).go i H/\∃N:St->Hp->Prop,(∀σ' H',N σ' H'->∃I,I<m/\W (i+1) I σ' H')/\∀x H',(Ite b K a).FY i H x H'->g x σ H' λσ2 H2=>tb {D with nx:=N,ct:=N,bk:=D.nx} σ2 H2):=by
 refine Ar (λi m σ H=>m=xs.length-i/\i<=xs.length/\Pv i σ H) (B4 xs.length (by simp) (KY _) h0) ?_;rintro i m σ H ⟨rfl,hi,p⟩;have q:=hl i σ H hi p;by_cases O:i<xs.length
 .refine .inr ⟨(Ck xs (xs[i]) q (by simp[O])),(Ar (Pv (i+1)) (λσ' H' Y=>(Cv (xs.length-(i+1)) (by omega) rfl O Y)) λx H' y=>?_)⟩;refine Gh y λt x' ht z1 z2 e1=>?_;subst z1 z2;exact hs i x' σ H t (e1 xs q) p ht
 .have:i=xs.length:=by omega
  subst this;exact .inl ⟨(Ar xs q (JG _)),hd σ H p⟩
section
variable {E:Value->Shared->Prop}
theorem Rn {b c:Bool}{z TI TO i1 i2 l1 l2:Addr}{n1 n2:Nat}{xs ys:Array Value}{x y u0 v0:Value}{Q:Option Value->Shared->Prop}(D:ZipApart z TI TO i1 i2 l1 l2)
   (hz:IsZip s.heap z TI TO .none)(hI:IsPair s.heap TI (.ref i1) (.ref i2))(hO:IsPair s.heap TO u0 v0)(u1:SI b s.heap i1 l1 n1)(u2:SI c s.heap i2 l2 n2)(q1:SQ b s.heap l1 xs)(q2:SQ c s.heap l2 ys)(hx:xs[n1]?=some x)(hy:ys[n2]?=some y)
   (k:∀h',IsZip h' z TI TO (rawInt s.heap.objs.size)->IsPair h' TO x y->SI b h' i1 l1 (n1+1)->SI c h' i2 l2 (n2+1)->IsPair h' s.heap.objs.size x y->h'.objs.size=s.heap.objs.size+1 ->
     (∀a o,a≠z->a≠TO->a≠i1->a≠i2->s.heap.get? a=some o->h'.get? a=some o)->Q (some (.ref s.heap.objs.size)) {s with heap:=h'}):wpAny (model prog w) A (pyNext (.ref z)) Q E s:=by
 have ty:s.TypeIs (.ref z) "zip":=(Ae hz rfl);unfold pyNext;refine JA (OT (KW (name:=Str.ofString "__next__") ty ND (LY ND ty F.entry_zip_next ?_ (F.args_zip_next_1 _))))
 show wpAny _ _ (field (.ref z) 2 >>= λ_=>_) _ _ _
 refine JA (KE hz rfl (x:=.bool false) rfl ?_)
 show wpAny _ _ (field (.ref z) 3 >>= λ_=>_) _ _ _
 refine JA (KE hz rfl (x:=.ref TI) rfl (JA (MK hI rfl ?_)))
 show wpAny _ _ (Builtin.SmallTypes.ownedTupleIsFree (.ref z) >>= λ_=>_) _ _ _
 refine JA ?_
 delta Builtin.SmallTypes.ownedTupleIsFree
 refine JA (KE hz rfl (x:=.none) rfl (JF ?_));simp only[NW];refine JA (wpAny_rule (JA (KE hz rfl (x:=.ref TO) rfl (JA (LK hz (by simp) λh1 z1 s1=>?_)))));replace z1:IsZip h1 z TI TO .ellipsis:=z1;refine JA ?_;simp only[List.zipIdx_nil,List.zipIdx_cons,List.forIn_nil,List.forIn_cons];refine JA (JA (wpAny_onRaise ?_))
 show wpAny _ _ (Builtin.SmallTypes.nextOf (.ref i1) >>= λ_=>_) _ _ _
 refine JA (Eh (u1.at λo e=>s1.extBut _ o D.i1z e) (q1.at λo e=>s1.extBut _ o D.l1z e) hx λh2 v1 s2=>JF ?_);have O2:IsPair h2 TO u0 v0:=s2.extBut _ _ D.TOi1 (s1.extBut _ _ D.TOz hO);refine JA (MK O2 rfl (JA (wpAny_updateSeq_pair O2 λh3 O3 s3=>?_)));replace O3:IsPair h3 TO x v0:=O3;refine JA (wpAny_letGo (JF (JA (JA (wpAny_onRaise ?_)))))
 show wpAny _ _ (Builtin.SmallTypes.nextOf (.ref i2) >>= λ_=>_) _ _ _
 have a0:∀a o,a≠z->a≠i1->a≠TO->s.heap.get? a=some o->h3.get? a=some o:=λa o O Y a3 e=>s3.extBut _ o a3 (s2.extBut _ o Y (s1.extBut _ o O e));refine JA (Eh (u2.at λo e=>a0 _ o D.i2z D.i12.symm D.TOi2.symm e) (q2.at λo e=>a0 _ o D.l2z D.l2i1 D.l2TO e) hy λh4 v2 s4=>JF ?_);have O4:IsPair h4 TO x v0:=s4.extBut _ _ D.TOi2 O3;refine JA (MK O4 rfl (JA (wpAny_updateSeq_pair O4 λI O5 s5=>?_)));replace O5:IsPair I TO x y:=O5;refine JA (wpAny_letGo (JF (JF (JA (MK O5 rfl (JA (wpAny_newTuple (?_))))))));have sz:I.objs.size=s.heap.objs.size:=by rw[s5.1,s4.1,s3.1,s2.1,s1.1]
 have z5:IsZip I z TI TO .ellipsis:=s5.extBut _ _ D.TOz.symm (s4.extBut _ _ D.i2z.symm (s3.extBut _ _ D.TOz.symm (s2.extBut _ _ D.i1z.symm z1)));have a5:∀a o,a≠z->a≠TO->a≠i1->a≠i2->s.heap.get? a=some o->I.get? a=some o:=λa o O Y a3 a4 e=>s5.extBut _ o Y (s4.extBut _ o a4 (a0 a o O a3 Y e));have w1:SI b I i1 l1 (n1+1):=v1.at λo e=>s5.extBut _ o D.TOi1.symm (s4.extBut _ o D.i12 (s3.extBut _ o D.TOi1.symm e));have w2:SI c I i2 l2 (n2+1):=v2.at λo e=>s5.extBut _ o D.TOi2.symm e;have lz:@LT.lt Nat _ z I.objs.size:=JK z5
 show wpAny _ _ (Builtin.SmallTypes.ownedTupleHandOut (.ref z) (.ref I.objs.size) >>= λ_=>_) _ _ _
 refine JA ?_
 delta Builtin.SmallTypes.ownedTupleHandOut
 have z6:IsZip (I.push {cls:=.type "tuple",data:=.seq #[x,y]}) z TI TO .ellipsis:=JD _ z5;refine JA (LK z6 (by simp) λh7 z7 s7=>?_);replace z7:IsZip h7 z TI TO (rawInt I.objs.size):=z7;refine LK z7 (by simp) λh8 z8 s8=>?_;replace z8:IsZip h8 z TI TO (rawInt I.objs.size):=z8;have up:∀a o,a≠z->I.get? a=some o->h8.get? a=some o:=λa o O e=>s8.extBut _ o O (s7.extBut _ o O (JD _ e));have T8:IsPair h8 I.objs.size x y:=s8.extBut _ _ (LS lz) (s7.extBut _ _ (LS lz) (JS _ rfl));have e8:h8.objs.size=I.objs.size+1:=by rw[s8.1,s7.1,ME]
 rw[sz]at z8 T8 e8;refine JF (Ae rfl (JF ?_))
 show Q (some (.ref I.objs.size)) _
 rw[sz];exact k h8 z8 (up _ _ D.TOz O5) (w1.at λo e=>up _ o D.i1z e) (w2.at λo e=>up _ o D.i2z e) T8 e8 λa o O Y a3 a4 e=>up a o O (a5 a o O Y a3 a4 e)
theorem Uz {b c:Bool}{z TI TO i1 i2 l1 l2:Addr}{n1 n2:Nat}{xs ys:Array Value}{u0 v0:Value}{Q:Option Value->Shared->Prop}(hh:A.handled=none)(D:ZipApart z TI TO i1 i2 l1 l2)
  (hz:IsZip s.heap z TI TO .none)(hI:IsPair s.heap TI (.ref i1) (.ref i2))(hO:IsPair s.heap TO u0 v0)(u1:SI b s.heap i1 l1 n1)(u2:SI c s.heap i2 l2 n2)(q1:SQ b s.heap l1 xs)(q2:SQ c s.heap l2 ys)(a6:xs[n1]?=none\/ys[n2]?=none)
  (k:∀h',(∀a o,a≠z->a≠TO->a≠i1->a≠i2->s.heap.get? a=some o->h'.get? a=some o)->Q none {s with heap:=h'}):wpAny (model prog w) A (pyNext (.ref z)) Q E s:=by
 have ty:s.TypeIs (.ref z) "zip":=(Ae hz rfl);unfold pyNext;refine JA (OT (KW (name:=Str.ofString "__next__") ty ND (LY ND ty F.entry_zip_next ?_ (F.args_zip_next_1 _))))
 show wpAny _ _ (field (.ref z) 2 >>= λ_=>_) _ _ _
 refine JA (KE hz rfl (x:=.bool false) rfl ?_)
 show wpAny _ _ (field (.ref z) 3 >>= λ_=>_) _ _ _
 refine JA (KE hz rfl (x:=.ref TI) rfl (JA (MK hI rfl ?_)))
 show wpAny _ _ (Builtin.SmallTypes.ownedTupleIsFree (.ref z) >>= λ_=>_) _ _ _
 refine JA ?_
 delta Builtin.SmallTypes.ownedTupleIsFree
 refine JA (KE hz rfl (x:=.none) rfl (JF ?_));simp only[NW];refine JA (wpAny_rule (JA (KE hz rfl (x:=.ref TO) rfl (JA (LK hz (by simp) λh1 z1 s1=>?_)))));replace z1:IsZip h1 z TI TO .ellipsis:=z1;refine JA ?_;simp only[List.zipIdx_nil,List.zipIdx_cons,List.forIn_nil,List.forIn_cons];refine JA (JA (wpAny_onRaise ?_))
 show wpAny _ _ (Builtin.SmallTypes.nextOf (.ref i1) >>= λ_=>_) _ _ _
 have stop:∀(h':Heap) (e:Addr),IsZip h' z TI TO .ellipsis->(∃o,h'.get? e=some o/\o.cls=.type "StopIteration")->(∀a o,a≠z->a≠TO->a≠i1->a≠i2->s.heap.get? a=some o->h'.get? a=some o) ->
   wpAny (model prog w) A.in1 (setField (.ref z) 0 .none) (λ_ s'=>∃o,s'.heap.get? e=some o/\o.cls=.type "StopIteration"/\∃I,s'={s with heap:=I}/\∀a o,a≠z->a≠TO->a≠i1->a≠i2->s.heap.get? a=some o->I.get? a=some o) (λ_ _=>False) {s with heap:=h'}:=λh' e zz ⟨oe,ge,ce⟩ up=>by
  have a5:e≠z:=λx=>by subst x;rw[zz]at ge;cases ge;simp at ce
  exact LK (s:={s with heap:=h'}) zz (by simp) λI _ sb=>(B4 oe (sb.extBut _ _ a5 ge) ce (Ar I rfl λa o O a2 Y a4 x=>sb.extBut _ _ O (up a o O a2 Y a4 x)))
 have fin:∀(e:Addr) (s':Shared),(∃o,s'.heap.get? e=some o/\o.cls=.type "StopIteration"/\∃I,s'={s with heap:=I}/\∀a o,a≠z->a≠TO->a≠i1->a≠i2->s.heap.get? a=some o->I.get? a=some o) ->
   (∃o,s'.heap.get? e=some o/\o.cls=.type "StopIteration")/\Q none s':=λe s' ⟨o,g,c,I,eq,up⟩=>⟨(Ar o g c),by rw[eq];exact k I up⟩
 cases hx:xs[n1]? with
 | none=>
  refine JA (Gr hh (u1.at λo e=>s1.extBut _ o D.i1z e) (q1.at λo e=>s1.extBut _ o D.l1z e) hx λh2 e s2 he=>MY (stop h2 e (s2 _ _ D.i1z.symm z1) he λa o O a2 Y a4 x=>s2 _ _ Y (s1.extBut _ _ O x)) (λ_ s' y=>?_) λ_ _ y=>y.elim);obtain⟨g,q⟩:=fin e s' y;exact JA (NR (T:="StopIteration") (b:=true) g PH (JF q))
 | some x=>
  have hy:ys[n2]?=none:=by rcases a6 with h|h;rw[hx]at h;cases h;exact h
  refine JA (Eh (u1.at λo e=>s1.extBut _ o D.i1z e) (q1.at λo e=>s1.extBut _ o D.l1z e) hx λh2 v1 s2=>JF ?_);have O2:IsPair h2 TO u0 v0:=s2.extBut _ _ D.TOi1 (s1.extBut _ _ D.TOz hO);refine JA (MK O2 rfl (JA (wpAny_updateSeq_pair O2 λh3 O3 s3=>JA (wpAny_letGo (JF (JA (JA (wpAny_onRaise ?_))))))))
  show wpAny _ _ (Builtin.SmallTypes.nextOf (.ref i2) >>= λ_=>_) _ _ _
  have a0:∀a o,a≠z->a≠i1->a≠TO->s.heap.get? a=some o->h3.get? a=some o:=λa o O a2 Y e=>s3.extBut _ o Y (s2.extBut _ o a2 (s1.extBut _ o O e));refine JA (Gr hh (u2.at λo e=>a0 _ o D.i2z D.i12.symm D.TOi2.symm e) (q2.at λo e=>a0 _ o D.l2z D.l2i1 D.l2TO e) hy λh4 e s4 he=>?_);have z4:IsZip h4 z TI TO .ellipsis:=s4 _ _ D.i2z.symm (s3.extBut _ _ D.TOz.symm (s2.extBut _ _ D.i1z.symm z1));refine MY (stop h4 e z4 he λa o O a2 Y a4 x=>s4 _ _ a4 (a0 a o O Y a2 x)) (λ_ s' y=>?_) λ_ _ y=>y.elim;obtain⟨g,q⟩:=fin e s' y;exact JA (NR (T:="StopIteration") (b:=true) g PH (JF q))
end
noncomputable def kdI (b:Bool):String:=if b=true then "list_iterator" else "tuple_iterator"
abbrev zB1 (b:Bool)(h:Heap)(l1:Addr):Heap:=h.push {cls:=.type (kdI b),data:=.fields #[.ref l1,.int 0 0]}
abbrev zB2 (b c:Bool)(h:Heap)(l1 l2:Addr):Heap:=(zB1 b h l1).push {cls:=.type (kdI c),data:=.fields #[.ref l2,.int 0 0]}
abbrev zB3 (b c:Bool)(h:Heap)(l1 l2:Addr):Heap:=(zB2 b c h l1 l2).push {cls:=.type "tuple",data:=.seq #[.ref h.objs.size,.ref (zB1 b h l1).objs.size]}
abbrev zB4 (b c:Bool)(h:Heap)(l1 l2:Addr):Heap:=(zB3 b c h l1 l2).push {cls:=.type "tuple",data:=.seq #[.none,.none]}
abbrev zB5 (b c:Bool)(h:Heap)(l1 l2:Addr):Heap:=(zB4 b c h l1 l2).push {cls:=.type "zip",data:=.fields #[.none,.bool false,.bool false,.ref (zB2 b c h l1 l2).objs.size,.ref (zB3 b c h l1 l2).objs.size]}
theorem Ug (l1 l2:Addr)(xs ys:Array Value) :
  Meets (Builtin.«zip.__new__» ⟨[.type "zip",.ref l1,.ref l2],[]⟩) (λ_ R s=>s.heap.IsTuple l1 xs/\s.heap.IsTuple l2 ys/\R (.ok (.ret (.ref (zB4 false false s.heap l1 l2).objs.size))) {s with heap:=zB5 false false s.heap l1 l2}):=
 .of_wp λprog w A R s h=>by
  obtain⟨I,g,d,tk,os⟩:=s;obtain⟨Y,q2,h⟩:=h;have sub:=sub_zip;have O:Heap.IsTuple (Shared.heap ⟨I,g,d,tk,os⟩) l1 xs:=Y;have L2:Heap.IsTuple (Shared.heap ⟨I.push {cls:=.type "tuple_iterator",data:=.fields #[.ref l1,.int 0 0]},g,d,tk,os⟩) l2 ys:=Heap.IsTuple.at q2 λo e=>JD _ e
  wp_walk using LZ O,LZ L2
  exact⟨_,rfl,h⟩
theorem Uf (l1 l2:Addr)(xs ys:Array Value) :
  Meets (Builtin.«zip.__new__» ⟨[.type "zip",.ref l1,.ref l2],[]⟩) (λ_ R s=>s.heap.IsTuple l1 xs/\s.heap.IsList l2 ys/\R (.ok (.ret (.ref (zB4 false true s.heap l1 l2).objs.size))) {s with heap:=zB5 false true s.heap l1 l2}):=
 .of_wp λprog w A R s h=>by
  obtain⟨I,g,d,tk,os⟩:=s;obtain⟨Y,q2,h⟩:=h;have sub:=sub_zip;have O:Heap.IsTuple (Shared.heap ⟨I,g,d,tk,os⟩) l1 xs:=Y;have L2:Heap.IsList (Shared.heap ⟨I.push {cls:=.type "tuple_iterator",data:=.fields #[.ref l1,.int 0 0]},g,d,tk,os⟩) l2 ys:=Heap.IsList.at q2 λo e=>JD _ e
  wp_walk using LZ O,MI L2
  exact⟨_,rfl,h⟩
theorem Ue (l1 l2:Addr)(xs ys:Array Value) :
  Meets (Builtin.«zip.__new__» ⟨[.type "zip",.ref l1,.ref l2],[]⟩) (λ_ R s=>s.heap.IsList l1 xs/\s.heap.IsTuple l2 ys/\R (.ok (.ret (.ref (zB4 true false s.heap l1 l2).objs.size))) {s with heap:=zB5 true false s.heap l1 l2}):=
 .of_wp λprog w A R s h=>by
  obtain⟨I,g,d,tk,os⟩:=s;obtain⟨Y,q2,h⟩:=h;have sub:=sub_zip;have O:Heap.IsList (Shared.heap ⟨I,g,d,tk,os⟩) l1 xs:=Y;have L2:Heap.IsTuple (Shared.heap ⟨I.push {cls:=.type "list_iterator",data:=.fields #[.ref l1,.int 0 0]},g,d,tk,os⟩) l2 ys:=Heap.IsTuple.at q2 λo e=>JD _ e
  wp_walk using MI O,LZ L2
  exact⟨_,rfl,h⟩
theorem Ud (l1 l2:Addr)(xs ys:Array Value) :
  Meets (Builtin.«zip.__new__» ⟨[.type "zip",.ref l1,.ref l2],[]⟩) (λ_ R s=>s.heap.IsList l1 xs/\s.heap.IsList l2 ys/\R (.ok (.ret (.ref (zB4 true true s.heap l1 l2).objs.size))) {s with heap:=zB5 true true s.heap l1 l2}):=
 .of_wp λprog w A R s h=>by
  obtain⟨I,g,d,tk,os⟩:=s;obtain⟨Y,q2,h⟩:=h;have sub:=sub_zip;have O:Heap.IsList (Shared.heap ⟨I,g,d,tk,os⟩) l1 xs:=Y;have L2:Heap.IsList (Shared.heap ⟨I.push {cls:=.type "list_iterator",data:=.fields #[.ref l1,.int 0 0]},g,d,tk,os⟩) l2 ys:=Heap.IsList.at q2 λo e=>JD _ e
  wp_walk using MI O,MI L2
  exact⟨_,rfl,h⟩
theorem Xs (b c:Bool)(l1 l2:Addr)(xs ys:Array Value) :
  Meets (Builtin.«zip.__new__» ⟨[.type "zip",.ref l1,.ref l2],[]⟩) (λ_ R s=>SQ b s.heap l1 xs/\SQ c s.heap l2 ys/\R (.ok (.ret (.ref (zB4 b c s.heap l1 l2).objs.size))) {s with heap:=zB5 b c s.heap l1 l2}):=by
 cases b<;>cases c
 .exact Ug l1 l2 xs ys
 .exact Uf l1 l2 xs ys
 .exact Ue l1 l2 xs ys
 .exact Ud l1 l2 xs ys
theorem SI.made (e:h.get? it=some {cls:=.type (kdI b),data:=.fields #[.ref l,.int 0 0]}):SI b h it l 0:=by
 cases b
 .exact B0 e rfl rfl
 .exact B0 e rfl rfl
section
variable {E:Value->Shared->Prop}
theorem Ac1 {Q:Value->Shared->Prop}(q1:SQ b s.heap l1 xs)(q2:SQ c s.heap l2 ys)
   (k:∀h',IsZip h' (s.heap.objs.size+4) (s.heap.objs.size+2) (s.heap.objs.size+3) .none->IsPair h' (s.heap.objs.size+2) (.ref s.heap.objs.size) (.ref (s.heap.objs.size+1))->IsPair h' (s.heap.objs.size+3) .none .none ->
     SI b h' s.heap.objs.size l1 0->SI c h' (s.heap.objs.size+1) l2 0->h'.objs.size=s.heap.objs.size+5->(∀a o,s.heap.get? a=some o->h'.get? a=some o)->Q (.ref (s.heap.objs.size+4)) {s with heap:=h'}) :
   wpAny (model prog w) A (call (.type "zip") [.ref l1,.ref l2]) Q E s:=by
 refine callType_new F.called_zip (by decide) (F.typeCall_zip_2 _ _) (F.newCall_zip_2 _ _) (λobj=>F.args_object_init_3 obj _ _) F.entry_zip_new (Xs b c l1 l2 xs ys) (Bc q1 q2 ?_);have e1:(zB1 b s.heap l1).objs.size=s.heap.objs.size+1:=ME ..;have I:(zB2 b c s.heap l1 l2).objs.size=s.heap.objs.size+2:=by rw[ME,e1]
 have O:(zB3 b c s.heap l1 l2).objs.size=s.heap.objs.size+3:=by rw[ME,I]
 have Y:(zB4 b c s.heap l1 l2).objs.size=s.heap.objs.size+4:=by rw[ME,O]
 have e5:(zB5 b c s.heap l1 l2).objs.size=s.heap.objs.size+5:=by rw[ME,Y]
 have up:∀{h:Heap} {o:Obj} {a:Addr} {u:Obj},h.get? a=some u->(h.push o).get? a=some u:=λe=>JD _ e;have g5:(zB5 b c s.heap l1 l2).get? (zB4 b c s.heap l1 l2).objs.size=some _:=JS _ rfl;have g4:(zB5 b c s.heap l1 l2).get? (zB3 b c s.heap l1 l2).objs.size=some _:=up (JS _ rfl);have g3:(zB5 b c s.heap l1 l2).get? (zB2 b c s.heap l1 l2).objs.size=some _:=up (up (JS _ rfl));have g2:(zB5 b c s.heap l1 l2).get? (zB1 b s.heap l1).objs.size=some _:=up (up (up (JS _ rfl)));have g1:(zB5 b c s.heap l1 l2).get? s.heap.objs.size=some _:=up (up (up (up (JS _ rfl))))
 show _/\_
 rw[I,O,Y]at g5;rw[e1,I]at g3;rw[O]at g4;rw[e1]at g2;rw[Y];exact⟨(Ae g5 rfl),k _ g5 g3 g4 (.made g1) (.made g2) e5 λa o x=>up (up (up (up (up x))))⟩
end
noncomputable def Ac5 (b c:Bool)(K:PySem.W.Frag)(l1 l2:Addr):It:=
 ⟨λi H=>∃xs ys x y,DO b K H l1 xs/\DO c K H l2 ys/\xs[i]?=some x/\ys[i]?=some y,
  λi H v H'=>∃p x y,H p=none/\v=.ref p/\H'=upd H p (.tup [x,y])/\(∀xs,DO b K H l1 xs->xs[i]?=some x)/\∀ys,DO c K H l2 ys->ys[i]?=some y,
  λi H=>∃xs ys,DO b K H l1 xs/\DO c K H l2 ys/\(xs.length<=i\/ys.length<=i)⟩
def zBn (b c:Bool)(z TI TO i1 i2 l1 l2:Addr)(i:Nat)(h:Heap):Prop:=IsZip h z TI TO .none/\IsPair h TI (.ref i1) (.ref i2)/\(∃u v,IsPair h TO u v)/\SI b h i1 l1 i/\SI c h i2 l2 i
theorem Zu {P:Program}{w:World}{K:PySem.W.Frag}{b c:Bool}{aD:List Expr}{kk}{pos:Pos}{l1 l2 z TI TO i1 i2:Addr}(D:ZipApart z TI TO i1 i2 l1 l2) :
  Turn P w K (.Tuple aD kk pos) (Ac5 b c K l1 l2) [i1,i2,TI,TO,z] z (zBn b c z TI TO i1 i2 l1 l2) where
 mem:=by simp
 obj:=λi h st a ha=>by
  refine Ii st λhz hI Y u1 u2=>?_;obtain⟨u,v,hO⟩:=Y;simp only[JC,JI,KG]at ha
  rcases ha with rfl|rfl|rfl|rfl|rfl
  .exact u1.obj
  .exact u2.obj
  .exact Ae hI λv z=>(nomatch z)
  .exact Ae hO λv z=>(nomatch z)
  .exact Ae hz λv z=>(nomatch z)
 keep:=λi h h' st k=>by
  refine Ii st λhz hI Y u1 u2=>?_;obtain⟨u,v,hO⟩:=Y;exact Du (k _ (by simp) _ hz) (k _ (by simp) _ hI) (Ki u v (k _ (by simp) _ hO)) (u1.at λo e=>k _ (by simp) o e) (u2.at λo e=>k _ (by simp) o e)
 item:=by
  intro X hP hw hK O i pins s σ H E I hf st hg;subst hP hw hK;refine Q0 hg λxs ys x y a1 a2 hx hy=>?_;refine Ii st λhz hI Y u1 u2=>?_;obtain⟨u0,v0,hO⟩:=Y;refine Bk (I.sq a1) λaE a3 pa za=>Bk (I.sq a2) λaF a4 pb zb=>Am (a3.get hx) λu hu ru=>Am (a4.get hy) λv hv rv=>Rn D hz hI hO u1 u2 pa pb (x:=u) (y:=v) (by simpa using hu) (by simpa using hv) λh' Y p1 n1 n2 t1 aG k1=>Ae rfl (wpAny_letOwnedTupleGo_zip (s:={s with heap:=h'}) Y λa0 z2 sb=>?_);have a8:s.heap.objs.size≠z:=LS (JK hz);have up:∀c o,c≠z->h'.get? c=some o->a0.get? c=some o:=λc o a9 e=>(sb.2 c a9).trans e;have tT:IsPair a0 s.heap.objs.size u v:=up _ _ a8 t1;have kk:∀c o,c∉[i1,i2,TI,TO,z]->s.heap.get? c=some o->a0.get? c=some o:=λc o O e=>by
   simp only[JC,JI,KG,PJ]at O;exact up c o O.2.2.2.2 (k1 c o O.2.2.2.2 O.2.2.2.1 O.1 O.2.1 e)
  have tI:IsPair a0 TI (.ref i1) (.ref i2):=up _ _ D.TIz (k1 TI _ D.TIz D.TITO D.TIi1 D.TIi2 hI);have a5:zBn b c z TI TO i1 i2 l1 l2 (i+1) a0:=(Du z2 tI (Ki u v (up _ _ D.TOz p1)) (n1.at λo e=>up _ o D.i1z e) (n2.at λo e=>up _ o D.i2z e));have kt:∀a∈[i1,i2,TI,TO,z],∃o,a0.get? a=some o:=λa ha=>by
   refine Ii a5 λaB a6 Y y1 y2=>?_;obtain⟨u',v',a7⟩:=Y;simp only[JC,JI,KG]at ha
   rcases ha with rfl|rfl|rfl|rfl|rfl
   .refine Am y1.obj λo e _=>?_;exact⟨o,e⟩
   .refine Am y2.obj λo e _=>?_;exact⟨o,e⟩
   .exact⟨_,a6⟩
   .exact⟨_,a7⟩
   .exact⟨_,aB⟩
  have I1:Inv X pins σ (upd H s.heap.objs.size (.tup [x,y])) {s with heap:=a0}:=
   I.IE (t':=s.toks) (its:=[u,v]) hf kk kt (JG _) (zl 2) (.cons ru (.cons rv .nil)) (B0 tT rfl ⟨_,rfl⟩)
  refine Jp (.ref s.heap.objs.size) _ I1 rfl (Et _ x y I.fresh rfl rfl (λaC h=>by rw[I.HV h a1];exact hx) λaC h=>by rw[I.HV h a2];exact hy) a5 λa ha=>?_;rw[Ak ?_]
  .exact (hf a ha).1
  .intro e;have aA:a<s.heap.objs.size:=by
    simp only[JC,JI,KG]at ha
    rcases ha with rfl|rfl|rfl|rfl|rfl
    .refine Am u1.obj λo e _=>?_;exact JK e
    .refine Am u2.obj λo e _=>?_;exact JK e
    .exact JK hI
    .exact JK hO
    .exact JK hz
   exact absurd aA (by rw[e];exact MJ _)
 done:=by
  intro X hP hw hK O i pins s σ H E I hf st hg;subst hP hw hK;refine A0 hg λxs ys a1 a2 hl=>?_;refine Ii st λhz hI Y u1 u2=>?_;obtain⟨u0,v0,hO⟩:=Y;refine Bk (I.sq a1) λaE a3 pa za=>Bk (I.sq a2) λaF a4 pb zb=>?_;have e1:=a3.length;have e2:=a4.length;refine Uz (I.ok.hd O) D hz hI hO u1 u2 pa pb ?_ λh' k1=>⟨rfl,I.ID (t':=s.toks) hf λc o O e=>?_⟩
  .rcases hl with h|h
   .exact .inl (by simp;omega)
   .exact .inr (by simp;omega)
  .simp only[JC,JI,KG,PJ]at O;exact k1 c o O.2.2.2.2 O.2.2.2.1 O.1 O.2.1 e
 self:=λ_ _ _ _ _ st h=>wpAny_pyIter_zip st.1 h
def iZipB (b c:Bool)(K:PySem.W.Frag)(ta:TA):TI:=λσ H R=>ta σ H λvs H1=>∃l1 l2,vs=[.ref l1,.ref l2]/\(∃xs,DO b K H1 l1 xs)/\(∃ys,DO c K H1 l2 ys)/\R (Ac5 b c K l1 l2) H1
def ZipAt (X:Cx)(pins:List (Addr×Obj))(σ:St)(R:Addr->Addr->Hp->Prop)(b c:Bool)(v:Value)(s2:Shared):Prop:=∃(z TI TO i1 i2 l1 l2:Addr) (H1:Hp),v=.ref z/\Inv X pins σ H1 s2/\ZipApart z TI TO i1 i2 l1 l2/\zBn b c z TI TO i1 i2 l1 l2 0 s2.heap/\(∀a∈[i1,i2,TI,TO,z],Jr X pins H1 a)/\(∀a∈[i1,i2,TI,TO,z],a≠l1/\a≠l2)/\R l1 l2 H1
theorem R3 (hg:Gl X "zip")(hm:X.mg "zip"=none)(ha:PA X [x,y] ta)(hs:starEach [x,y] X.env=[(false,eval x X.env),(false,eval y X.env)])(a1:starEach [y] X.env=[(false,eval y X.env)])
 {R:Addr->Addr->Hp->Prop}(a0:Inv X pins σ H s)(h:ta σ H λvs H1=>∃l1 l2,vs=[.ref l1,.ref l2]/\(∃xs,DO b X.K H1 l1 xs)/\(∃ys,DO c X.K H1 l2 ys)/\R l1 l2 H1):wpAny (model X.prog X.w) X.A (eval (.Call (.Name "zip" p) [x,y] [] pos) X.env) (ZipAt X pins σ R b c) X.xe s:=by
 refine Call_ (Li a0 hg hm boot_zip (MQ (AV (ha pos pins s σ H _ a0 h) λus s1 ⟨vs,H1,O,r1,q1⟩=>?_) (by rw[hs,a1]) (by rw[a1];rfl)));refine Gh q1 λl1 l2 e z1 z2 q=>?_;obtain⟨xs,a3⟩:=z1;obtain⟨ys,a4⟩:=z2;subst e
 cases r1 with
 | cons r rr=>
  cases rr with
  | cons r' rr=>
   cases rr;cases r;cases r';refine Bk (O.sq a3) λa9 a7 pa za=>Bk (O.sq a4) λaA a8 pb zb=>?_;have a2:∀{b:Bool} {l:Addr} {xs:Array Value},SQ b s1.heap l xs->@LT.lt Nat _ l s1.heap.objs.size:=fun {b l xs} q=>by
    cases b
    .refine Am ((show s1.heap.IsTuple l xs from q)) λo e _=>?_;exact JK e
    .refine Am ((show s1.heap.IsList l xs from q)) λo e _=>?_;exact JK e
   have a5:=a2 pa;have a6:=a2 pb;refine Ac1 pa pb λh' z1 p1 p2 n1 n2 sz k1=>?_;have up:∀{m n:Nat},m<n->n≠m:=λh=>LS h;have I:∀{m n:Nat},m<n->m≠n:=λh=>KC h
   refine Ct (s1.heap.objs.size+4) _ _ _ _ l1 (Md l2 H1 rfl (O.kept (t':=s1.toks) k1)
    ⟨I (by omega),I (by omega),I (by omega),I (by omega),I (by omega),up (by omega),up (by omega),up (by omega),up (by omega),I (by omega),I (by omega),I (by omega),I (by omega),I (by omega),I (by omega),I (by omega),I (by omega),I (by omega)⟩ (Du z1 p1 (L7 p2) n1 n2) (λa ha=>?_) ⟨λa ha=>?_,q⟩)
   rotate_left
   .have Y:s1.heap.objs.size<=a:=by
     simp only[JC,JI,KG]at ha
     rcases ha with rfl|rfl|rfl|rfl|rfl<;>omega
    exact⟨LS (KA a5 Y),LS (KA a6 Y)⟩
   have Y:s1.heap.objs.size<=a:=by
    simp only[JC,JI,KG]at ha
    rcases ha with rfl|rfl|rfl|rfl|rfl<;>omega
   exact O.HX Y (O.AR.fresh Y)
theorem Aq4 {kk}(hg:Gl X "zip")(hm:X.mg "zip"=none)(ha:PA X [x,y] ta)(hs:starEach [x,y] X.env=[(false,eval x X.env),(false,eval y X.env)]:=by rfl)(Y:starEach [y] X.env=[(false,eval y X.env)]:=by rfl) :
  PI X (.Tuple a0 kk a1) (.Call (.Name "zip" p) [x,y] [] pos) (iZipB b c X.K ta):=by
 intro pins s σ H R I h;refine AV (R3 (R:=λl1 l2 H1=>R (Ac5 b c X.K l1 l2) H1) hg hm ha hs Y I h) λv s1 ⟨z,TI,TO,i1,i2,l1,l2,H1,e,O,D,st,f,_,q⟩=>?_;subst e;exact wpAny_pyIter_zip st.1 (Ff z _ _ _ H1 rfl O (Zu D) st f q)
theorem Yr {kk}(hg:Gl X "zip")(hm:X.mg "zip"=none)(ha:QA X [x,y] ta)(hs:starEach [x,y] X.env=[(false,eval x X.env),(false,eval y X.env)]:=by rfl)(I:starEach [y] X.env=[(false,eval y X.env)]:=by rfl) :
  QI X (.Tuple O kk Y) (.Call (.Name "zip" p) [x,y] [] pos) (iZipB b c X.K ta):=⟨Aq4 hg hm ha.go hs I⟩
theorem V6 {K:PySem.W.Frag}{b c:Bool}{l1 l2:Addr}{xs ys:List V}{g:TG}{tb:TS}{D:Ends}{σ:St}{H:Hp}(Pv:Nat->St->Hp->Prop)(h0:Pv 0 σ H)(hl:∀i σ H,i<=xs.length->Pv i σ H->DO b K H l1 xs/\DO c K H l2 ys)(a2:xs.length=ys.length)
  (hs:∀i x y σ H p,xs[i]?=some x->ys[i]?=some y->Pv i σ H->H p=none->g (.ref p) σ (upd H p (.tup [x,y])) λσ2 H2=>tb {D with nx:=Pv (i+1),ct:=Pv (i+1),bk:=D.nx} σ2 H2)(hd:∀σ H,Pv xs.length σ H->D.nx σ H) :
  ∃W:Nat->Nat->St->Hp->Prop,(∃m,W 0 m σ H)/\∀i m σ H,W i m σ H ->
   ((Ac5 b c K l1 l2).stop i H/\D.nx σ H)\/((Ac5 b c K l1 l2).go i H/\∃N:St->Hp->Prop,(∀σ' H',N σ' H'->∃Y,Y<m/\W (i+1) Y σ' H')/\∀x H',(Ac5 b c K l1 l2).FY i H x H'->g x σ H' λσ2 H2=>tb {D with nx:=N,ct:=N,bk:=D.nx} σ2 H2):=by
 refine Ar (λi m σ H=>m=xs.length-i/\i<=xs.length/\Pv i σ H) (B4 xs.length (by simp) (KY _) h0) ?_;rintro i m σ H ⟨rfl,hi,p⟩;obtain⟨I,O⟩:=hl i σ H hi p;by_cases a0:i<xs.length
 .have a1:i<ys.length:=by omega
  refine .inr ⟨(ii43 xs ys (xs[i]) (ys[i]) I O (by simp[a0]) (by simp[a1])),(Ar (Pv (i+1)) (λσ' H' p'=>(Cv (xs.length-(i+1)) (by omega) rfl a0 p')) λx H' y=>?_)⟩;refine Kz y λt x' y' ht z1 z2 e1 e2=>?_;subst z1 z2;exact hs i x' y' σ H t (e1 xs I) (e2 ys O) p ht
 .have:i=xs.length:=by omega
  subst this;exact .inl ⟨(Ao xs ys I O (.inl (JG _))),hd σ H p⟩
theorem mroD:mroOf (.type "dict")=pure [.type "dict",.type "object"]:=by rw[mroOf_type];kernel_rfl
theorem newD:typeLookup (.type "dict") "__new__"=pure (some (.builtin "dict.__new__")):=by rw[typeLookup_type,builtinLookup_eq_fast];kernel_rfl
theorem calledD:TypeCalled "dict" "dict.__new__" "dict.__init__":=
 ⟨by decide +kernel,by decide +kernel,(L7 mroD),madeBy_type mroD newD (by decide +kernel),by decide +kernel,by rw[isSubtype_type];kernel_rfl,PySem.F.slot_dict_init⟩
theorem Zt (a:Value):checkTypeCall "dict" ⟨[a],[]⟩=pure ():=by kernel_rfl
theorem Aj3 (a:Value):checkBuiltinCall "dict.__new__" ⟨[.type "dict",a],[]⟩=pure ():=by kernel_rfl
theorem entryD:entryFor table "dict.__new__"=some Builtin.«dict.__new__»:=entryFor_of_tree (by kernel_rfl)
theorem subD:isSubtype (.type "dict") (.type "dict")=pure true:=by rw[isSubtype_type];kernel_rfl
theorem Xt (a:Value):Meets (Builtin.«dict.__new__» ⟨[.type "dict",a],[]⟩) (λ_ R s=>R (.ok (.ret (.ref s.heap.objs.size))) {s with heap:=s.heap.push {cls:=.type "dict",data:=.dict #[]}}):=
 .of_wp λprog w A R s h=>by
  obtain⟨I,g,d,tk,os⟩:=s;have s1:=subD;have s2:=mroD
  wp_walk
  exact Ae rfl h
theorem Ac6:typeLookup (.type "zip") "__getattr__"=pure none:=by rw[typeLookup_type,builtinLookup_eq_fast];kernel_rfl
theorem Wl:typeLookup (.type "zip") "keys"=pure none:=by rw[typeLookup_type,builtinLookup_eq_fast];kernel_rfl
theorem zip_ga:entryFor table "zip.__getattribute__"=some Builtin.«object.__getattribute__»:=
 entryFor_alias (id':="object.__getattribute__") (by kernel_rfl) (by first|rfl|decide +kernel|(unfold String.splitOn;simp +decide [String.splitOnAux])) (by decide +kernel) (by kernel_rfl)
theorem Qr (z TI TO:Addr)(I:Value)(u:Tok) :
  Meets (Builtin.«object.__getattribute__» ⟨[.ref z,.str "keys" u],[]⟩) (λA R s=>IsZip s.heap z TI TO I/\raisesAttr (.ref z) "keys" A R s):=
 Meets.of_wp λprog w A R s hs=>by
  obtain⟨O,g,d,tk,os⟩:=s;obtain⟨hx,hs⟩:=hs;have Y:(⟨O,g,d,tk,os⟩:Shared).TypeIs (.ref z) "zip":=(Ae hx rfl);have nk:=Wl;unfold Builtin.«object.__getattribute__»
  repeat (any_goals (first|assumption|wp_step))
  exact wpAny_raiseAttrError hs.1 hs.2 (attrMsg_fits (by decide +kernel) (by decide))
theorem Ac7 {E:Value->Shared->Prop}{z TI TO:Addr}{Q:Option Value->Shared->Prop}(Y:IsZip s.heap z TI TO f0)(hA:A.handled=none)
  (k:∀h' tk,(∀b o,s.heap.get? b=some o->h'.get? b=some o)->Q none {s with heap:=h',toks:=tk}):wpAny (model prog w) A (getAttr? (.ref z) "keys") Q E s:=by
 obtain⟨hp,g,d,tk,os⟩:=s;have O:∀I,(⟨hp,g,d,I,os⟩:Shared).TypeIs (.ref z) "zip":=λ_=>(Ae Y rfl);have f1:=sub_AttributeError;have f3:=NU.lookup;have f4:=NU.bind (.ref z);have f5:=Ac6;unfold getAttr? getAttrBy? getAttrBy
 repeat (any_goals (first|assumption|exact O _|((with_reducible show wpAny _ _ (call (Value.builtin "zip.__getattribute__") _ _) _ _ _);refine OY NU (O _) zip_ga (PySem.F.args_zip_getattribute_2 _ _) (Qr z TI TO f0 _) (Bc Y hA λh' I e a0=>?_))|wp_step))
 refine Gi a0.there λt' u' he=>?_
 show wpAny _ _ (getattributeRaised _ _ _ _ _ _ _) _ _ _
 unfold getattributeRaised
 repeat (any_goals (first|assumption|wp_step))
 exact k h' I a0.keeps
theorem Wj {E:Value->Shared->Prop}{Q Q₁:Value->Shared->Prop}(I:TypeCalled T newId initId)
  (c1:checkTypeCall T ⟨args,[]⟩=pure ())(c2:checkBuiltinCall newId ⟨.type T::args,[]⟩=pure ())(n1:entryFor table newId=some Bn)(n2:entryFor table initId=some Bi)(g:Meets (Bn ⟨.type T::args,[]⟩) S)(h:S A.in1 (wants Q₁ E) s)
  (nx:∀obj Y,Q₁ obj Y->Y.TypeIs obj T/\argsOk initId ⟨obj::args,[]⟩/\∃O,MeetsIn prog w (Bi ⟨obj::args,[]⟩) O/\O A.in1 (wants (λr s₂=>r=.none/\Q obj s₂) E) Y) :
  wpAny (model prog w) A (call (.type T) args) Q E s:=by
 refine Gi I.mro λc tl m1=>?_;have m2:=I.made;have m3:=I.sub;refine wpAny_call (codeAny_of_tree (?_))
 show wpAny _ _ (callAny (.type T) ⟨args,[]⟩) _ _ _
 refine JF ⟨Code.quiet_builtin _ (by decide +kernel),codeAny_builtin F.entry_type_call (?_)⟩;rw[Around.under_plain (weight_type_call_type T args []) (units_type_call_type T args [])];have m4:=I.notType;have m5:=I.canCreate
 repeat (any_goals (first|assumption|wp_step))
 refine NJ (OG I.plain n1 (wpAny_of_eq c2 (g prog w A.in1 _ s h))) λr s1 y=>?_
 cases r with
 | error e=>exact y
 | ok fl=>
  cases fl with
  | ret obj=>
   refine Bu (nx _ _ y) λhT ok z1=>?_;refine Am z1 λO gi z=>?_;have m6:=I.init.lookup;have m7:=I.init.bind obj
   repeat (any_goals (first|assumption|wp_step))
   refine NJ (OG I.init.plain n2 (I.init.check _ _ _ _ _ _ _ _ hT ok (gi A.in1 _ s1 z))) λr2 s2 y2=>?_
   cases r2 with
   | error e=>exact y2
   | ok a0=>
    cases a0 with
    | ret r=>
     obtain⟨rfl,q⟩:=y2
     repeat (any_goals (first|assumption|wp_step))
    | _=>exact y2.elim
  | _=>exact y.elim
theorem Q4 {E:Value->Shared->Prop}{Q:Value->Shared->Prop}(g:MeetsIn prog w (Builtin.«dict.__init__» ⟨[.ref s.heap.objs.size,x],[]⟩) I)
  (h:I A.in1 (wants (λr s2=>r=.none/\Q (.ref s.heap.objs.size) s2) E) {s with heap:=s.heap.push {cls:=.type "dict",data:=.dict #[]}}):wpAny (model prog w) A (call (.type "dict") [x]) Q E s:=by
 refine Wj (Q₁:=λobj s1=>obj=.ref s.heap.objs.size/\s1={s with heap:=s.heap.push {cls:=.type "dict",data:=.dict #[]}}) calledD (Zt x) (Aj3 x) entryD PySem.F.entry_dict_init (Xt x) ⟨rfl,rfl⟩ λobj s1 y=>?_;obtain⟨rfl,rfl⟩:=y;exact Bc (Ae (JS _ rfl) rfl) (PySem.F.args_dict_init_2 _ _) (Ar I g h)
theorem Vr {κ:Type}[DecidableEq κ](knd:KeyKind prog w κ)(d o:Addr)(ne:d≠o)(O:(o==sysModules)=false) :
  MeetsIn prog w (Builtin.«dict.__init__» ⟨[.ref d,.ref o],[]⟩) (λ_ R s=>∃kvs more,s.heap.DictOf knd d kvs/\s.heap.DictOf knd o more/\kvs.length+more.length<=sizeLine /\
   ∀h',h'.DictOf knd d (merged kvs more)->Heap.SameBut d s.heap h'->R (.ok (.ret .none)) {s with heap:=h'}):=
 .of_wp λA R s ⟨kvs,more,hd,I,Y,k⟩=>by
  delta Builtin.«dict.__init__»
  refine JA ?_
  delta Builtin.Dict.selfAndRest
  refine JA (wpAny_notOrdered_dict hd.typeIs (?_))
  show wpAny _ _ (pure (d,[Value.ref o])) _ _ s
  refine JF ?_
  show wpAny _ _ (Builtin.Dict.updateFrom "dict.__init__" d (.ref o) [] .none) _ _ s
  delta Builtin.Dict.updateFrom
  refine JA (OJ I.typeIs (?_));rw[JP (by decide)];refine JA ?_
  delta Builtin.Dict.merge
  refine JA ?_
  delta Builtin.Dict.readDirectly
  refine JA (NR I.typeIs isSubtype_dict_dict (?_));simp only[Bool.not_true,PN,NZ];refine JA (wpAny_specialOf I.typeIs PySem.F.slot_dict_iter.lookup (JF (?_)));simp only[NW,beq_self_eq_true];refine JA (JF (wpAny_mergeDict (hsz:=Y) ne O hd I λh' a0 a2 a1=>?_))
  show wpAny _ _ (Builtin.Dict.addKeywords d [] >>= λ_=>_) _ _ _
  exact JA (JF (JF (Ar .none rfl (k h' a0 a1))))
abbrev Jk (h:Heap)(z TI TO T:Addr)(f:Bool):Prop:=
 h.get? z=some {cls:=.type "zip",dict:=none,data:=.fields #[rawInt T,.bool f,.bool false,.ref TI,.ref TO],slots:=#[]}
section
variable {E:Value->Shared->Prop}
theorem Aa7 {Q:Option Obj->Shared->Prop}(h:Q (s.heap.get? a) s):wpAny (model prog w) A (loadIfAlive a) Q E s:=λ_ _ _=>h
theorem Zh {f:Bool}{z TI TO T:Addr}{oT:Obj}{Q:Bool->Shared->Prop}(I:Jk s.heap z TI TO T f)(O:s.heap.get? T=some oT)
  (k:∀h',Jk h' z TI TO T true->Heap.SameBut z s.heap h'->Q false {s with heap:=h'}):wpAny (model prog w) A (Builtin.SmallTypes.ownedTupleIsFree (.ref z)) Q E s:=by
 delta Builtin.SmallTypes.ownedTupleIsFree
 refine JA (KE I rfl (x:=rawInt T) rfl ?_)
 show wpAny _ _ (loadIfAlive (Int.toNat (T:Int)) >>= λ_=>_) _ _ _
 rw[PF];refine JA (Aa7 ?_);rw[O]
 show wpAny _ _ (if(some oT).isNone=true then _ else(field (.ref z) 1 >>= λ_=>_)) _ _ _
 rw[JP (by simp)];refine JA (KE I rfl (x:=.bool f) rfl ?_);cases f
 .show wpAny _ _ (setField (.ref z) 1 (.bool true) >>= λ_=>_) _ _ _
  exact JA (LK I (by simp) λh' z' Y=>JF (k h' z' Y))
 .exact JF (k s.heap I (Heap.SameBut.refl _ _))
theorem Zq {b c f:Bool}{z TI TO T i1 i2 l1 l2:Addr}{n1 n2:Nat}{xs ys:Array Value}{x y:Value}{oT:Obj}{Q:Option Value->Shared->Prop}(D:ZipApart z TI TO i1 i2 l1 l2)
   (Y:Jk s.heap z TI TO T f)(hT:s.heap.get? T=some oT)(hI:IsPair s.heap TI (.ref i1) (.ref i2))(u1:SI b s.heap i1 l1 n1)(u2:SI c s.heap i2 l2 n2)(q1:SQ b s.heap l1 xs)(q2:SQ c s.heap l2 ys)(hx:xs[n1]?=some x)(hy:ys[n2]?=some y)
   (k:∀h',Jk h' z TI TO T true->SI b h' i1 l1 (n1+1)->SI c h' i2 l2 (n2+1)->IsPair h' s.heap.objs.size x y->h'.objs.size=s.heap.objs.size+1 ->
     (∀a o,a≠z->a≠i1->a≠i2->s.heap.get? a=some o->h'.get? a=some o)->Q (some (.ref s.heap.objs.size)) {s with heap:=h'}):wpAny (model prog w) A (pyNext (.ref z)) Q E s:=by
 have ty:s.TypeIs (.ref z) "zip":=(Ae Y rfl);unfold pyNext;refine JA (OT (KW (name:=Str.ofString "__next__") ty ND (LY ND ty F.entry_zip_next ?_ (F.args_zip_next_1 _))))
 show wpAny _ _ (field (.ref z) 2 >>= λ_=>_) _ _ _
 refine JA (KE Y rfl (x:=.bool false) rfl ?_)
 show wpAny _ _ (field (.ref z) 3 >>= λ_=>_) _ _ _
 refine JA (KE Y rfl (x:=.ref TI) rfl (JA (MK hI rfl ?_)))
 show wpAny _ _ (Builtin.SmallTypes.ownedTupleIsFree (.ref z) >>= λ_=>_) _ _ _
 refine JA (Zh Y hT λh1 z1 s1=>?_);simp only[NZ,PN,List.forIn_toArray,List.forIn_cons,List.forIn_nil];refine JA (JA (JA (MR ?_)))
 show wpAny _ _ (Builtin.SmallTypes.nextOf (.ref i1) >>= λ_=>_) _ _ _
 refine JA (Eh (u1.at λo e=>s1.extBut _ o D.i1z e) (q1.at λo e=>s1.extBut _ o D.l1z e) hx λh2 v1 s2=>JF (JF ?_));have a0:∀a o,a≠z->a≠i1->s.heap.get? a=some o->h2.get? a=some o:=λa o I O e=>s2.extBut _ o O (s1.extBut _ o I e);refine JA (JA (MR ?_))
 show wpAny _ _ (Builtin.SmallTypes.nextOf (.ref i2) >>= λ_=>_) _ _ _
 refine JA (Eh (u2.at λo e=>a0 _ o D.i2z D.i12.symm e) (q2.at λo e=>a0 _ o D.l2z D.l2i1 e) hy λh3 v2 s3=>JF (JF (JF ?_)))
 show wpAny _ _ (newTuple [x,y] >>= λ_=>_) _ _ _
 refine JA (wpAny_newTuple (?_));have sz:h3.objs.size=s.heap.objs.size:=by rw[s3.1,s2.1,s1.1]
 have a4:∀a o,a≠z->a≠i1->a≠i2->s.heap.get? a=some o->h3.get? a=some o:=λa o I O a3 e=>s3.extBut _ o a3 (a0 a o I O e);have z3:Jk h3 z TI TO T true:=s3.extBut _ _ D.i2z.symm (s2.extBut _ _ D.i1z.symm z1);refine JF (Ae rfl (JF ?_))
 show Q (some (.ref h3.objs.size)) _
 rw[sz];refine k _ (JD _ z3) (v1.at λo e=>JD _ (s3.extBut _ o D.i12 e)) (v2.at λo e=>JD _ e) ?_ (by rw[ME,sz]) λa o I O a3 e=>JD _ (a4 a o I O a3 e);have:=JS h3 (o:={cls:=.type "tuple",data:=.seq #[x,y]}) rfl;rw[sz]at this;exact this
theorem Ac8 {b c f:Bool}{z TI TO T i1 i2 l1 l2:Addr}{n1 n2:Nat}{xs ys:Array Value}{oT:Obj}{Q:Option Value->Shared->Prop}(hh:A.handled=none)(D:ZipApart z TI TO i1 i2 l1 l2)
  (Y:Jk s.heap z TI TO T f)(hT:s.heap.get? T=some oT)(hI:IsPair s.heap TI (.ref i1) (.ref i2))(u1:SI b s.heap i1 l1 n1)(u2:SI c s.heap i2 l2 n2)(q1:SQ b s.heap l1 xs)(q2:SQ c s.heap l2 ys)(a4:xs[n1]?=none\/ys[n2]?=none)
  (k:∀h',(∀a o,a≠z->a≠i1->a≠i2->s.heap.get? a=some o->h'.get? a=some o)->Q none {s with heap:=h'}):wpAny (model prog w) A (pyNext (.ref z)) Q E s:=by
 have ty:s.TypeIs (.ref z) "zip":=(Ae Y rfl);unfold pyNext;refine JA (OT (KW (name:=Str.ofString "__next__") ty ND (LY ND ty F.entry_zip_next ?_ (F.args_zip_next_1 _))))
 show wpAny _ _ (field (.ref z) 2 >>= λ_=>_) _ _ _
 refine JA (KE Y rfl (x:=.bool false) rfl ?_)
 show wpAny _ _ (field (.ref z) 3 >>= λ_=>_) _ _ _
 refine JA (KE Y rfl (x:=.ref TI) rfl (JA (MK hI rfl ?_)))
 show wpAny _ _ (Builtin.SmallTypes.ownedTupleIsFree (.ref z) >>= λ_=>_) _ _ _
 refine JA (Zh Y hT λh1 z1 s1=>?_);simp only[NZ,PN,List.forIn_toArray,List.forIn_cons,List.forIn_nil];refine JA (JA (JA (MR ?_)))
 show wpAny _ _ (Builtin.SmallTypes.nextOf (.ref i1) >>= λ_=>_) _ _ _
 cases hx:xs[n1]? with
 | none=>
  refine JA (Gr hh (u1.at λo e=>s1.extBut _ o D.i1z e) (q1.at λo e=>s1.extBut _ o D.l1z e) hx λh2 e s2 he=>JA (NR (T:="StopIteration") (b:=true) he PH (JF (k h2 λa o I O a3 y=>s2 _ o O (s1.extBut _ o I y)))))
 | some x=>
  have hy:ys[n2]?=none:=by rcases a4 with h|h;rw[hx]at h;cases h;exact h
  refine JA (Eh (u1.at λo e=>s1.extBut _ o D.i1z e) (q1.at λo e=>s1.extBut _ o D.l1z e) hx λh2 v1 s2=>JF (JF ?_));have a0:∀a o,a≠z->a≠i1->s.heap.get? a=some o->h2.get? a=some o:=λa o I O e=>s2.extBut _ o O (s1.extBut _ o I e);refine JA (JA (MR ?_))
  show wpAny _ _ (Builtin.SmallTypes.nextOf (.ref i2) >>= λ_=>_) _ _ _
  refine JA (Gr hh (u2.at λo e=>a0 _ o D.i2z D.i12.symm e) (q2.at λo e=>a0 _ o D.l2z D.l2i1 e) hy λh3 e s3 he=>JA (NR (T:="StopIteration") (b:=true) he PH (JF (k h3 λa o I O a3 y=>s3 _ o a3 (a0 a o I O y)))))
end
theorem K6:entryFor table "dict.update.loop"=some Builtin.«dict.update.loop»:=entryFor_of_tree (by kernel_rfl)
structure ZSt (b c:Bool)(d z TI TO i1 i2 l1 l2:Addr)(i:Nat)(h:Heap):Prop where
 zip:(IsZip h z TI TO .none/\∃u v,IsPair h TO u v)\/∃(T:Addr) (f:Bool) (oT:Obj),Jk h z TI TO T f/\h.get? T=some oT/\T≠z/\T≠i1/\T≠i2/\T≠d
 ins:IsPair h TI (.ref i1) (.ref i2)
 fst:SI b h i1 l1 i
 snd:SI c h i2 l2 i
theorem Fy:plainId "dict.update.loop"=true:=by decide +kernel
section
variable {prog:Program}{w:World}{A:Around}{κ:Type}[DecidableEq κ]{knd:KeyKind prog w κ}{R:Result->Shared->Prop}
theorem Ad1 {b c:Bool}{d z TI TO i1 i2 l1 l2:Addr}{xs ys:Array Value}{ps:List (κ×Value)}(hh:A.handled=none)(D:ZipApart z TI TO i1 i2 l1 l2)(O:d∉[z,TI,TO,i1,i2,l1,l2])
  (aG:∀(j:Nat) (k:κ) (v:Value),ps[j]?=some (k,v)->∃x,xs[j]?=some x/\ys[j]?=some v/\knd.is k x=true)(a9:xs[ps.length]?=none\/ys[ps.length]?=none) :
  ∀(m i:Nat) (s:Shared) (kvs:List (κ×Value)),ps.length-i=m->i<=ps.length->ZSt b c d z TI TO i1 i2 l1 l2 i s.heap->s.heap.DictOf knd d kvs->SQ b s.heap l1 xs->SQ c s.heap l2 ys->kvs.length+ps.length<=sizeLine+i ->
   (∀h' tk,h'.DictOf knd d (merged kvs (ps.drop i))->(∀a o,a∉[z,TO,i1,i2,d]->s.heap.get? a=some o->h'.get? a=some o)->R (.ok (.ret .none)) {s with heap:=h',toks:=tk}) ->
   codeAny (model prog w) A (.builtin "dict.update.loop" ⟨[.ref d,.ref z,rawInt i,.none],[]⟩) R s:=by
 have dz:d≠z:=λe=>O (by simp[e]);have aA:d≠TI:=λe=>O (by simp[e]);have a8:d≠TO:=λe=>O (by simp[e]);have a6:d≠i1:=λe=>O (by simp[e]);have a7:d≠i2:=λe=>O (by simp[e]);have aB:d≠l1:=λe=>O (by simp[e]);have aC:d≠l2:=λe=>O (by simp[e]);intro m
 induction m with
 | zero=>
  intro i s kvs hm hi Z hd q1 q2 hsz k;have e:i=ps.length:=by omega
  subst e;refine codeAny_builtin K6 ?_;rw[Around.under_plainId Fy _]
  show wpAny _ A.in1 (pyNext (.ref z) >>= λ_=>_) _ _ s
  have fin:∀h',(∀a o,a≠z->a≠TO->a≠i1->a≠i2->s.heap.get? a=some o->h'.get? a=some o) ->
    wpAny (model prog w) A.in1 (do Builtin.Dict.addKeywords d [];ret .none) (λfin s'=>match fin with|.done f=>R (.ok f) s'|.again c'=>c'.quiet=true/\codeAny (model prog w) A c' R s') (λe s'=>R (.error e) s') {s with heap:=h'}:=λh' up=>by
   refine JA (JF (JF (k h' s.toks ?_ λa o ha e=>?_)))
   .rw [List.drop_length];refine Gg hd λo es ep ho r=>Mc o es ep (up _ _ dz a8 a6 a7 ho) r
   .simp only[JC,JI,KG,PJ]at ha;exact up a o ha.1 ha.2.1 ha.2.2.1 ha.2.2.2.1 e
  rcases Z.zip with⟨I,u,v,hO⟩|⟨T,f,oT,I,hT,n1,n2,n3,n4⟩
  .exact JA (Uz hh D I Z.ins hO Z.fst Z.snd q1 q2 a9 λh' up=>fin h' up)
  .exact JA (Ac8 hh D I hT Z.ins Z.fst Z.snd q1 q2 a9 λh' up=>fin h' λa o a1 _ a3 a4 e=>up a o a1 a3 a4 e)
 | succ m ih=>
  intro i s kvs hm hi Z hd q1 q2 hsz k;have lt:i<ps.length:=by omega
  obtain⟨kk,v,hk⟩:∃kk v,ps[i]?=some (kk,v):=(L7 (KN lt));refine Bk (aG i kk v hk) λx hx hy aE=>codeAny_builtin K6 ?_;rw[Around.under_plainId Fy _]
  show wpAny _ A.in1 (pyNext (.ref z) >>= λ_=>_) _ _ s
  have nT:∀{a:Addr} {o:Obj},s.heap.get? a=some o->s.heap.objs.size≠a:=λe=>LS (JK e);have nz:s.heap.objs.size≠z:=by
   rcases Z.zip with⟨I,_⟩|⟨_,_,_,I,_⟩
   .exact nT I
   .exact nT I
  have n1:s.heap.objs.size≠i1:=by refine Am Z.fst.obj λo e _=>?_;exact nT e
  have n2:s.heap.objs.size≠i2:=by refine Am Z.snd.obj λo e _=>?_;exact nT e
  have nd:s.heap.objs.size≠d:=by refine Gg (id hd) λo es ep e _=>?_;exact nT e
  have step:∀h',(Jk h' z TI TO s.heap.objs.size false\/∃(T:Addr) (oT:Obj),Jk h' z TI TO T true/\h'.get? T=some oT/\T≠z/\T≠i1/\T≠i2/\T≠d)->SI b h' i1 l1 (i+1)->SI c h' i2 l2 (i+1)->IsPair h' s.heap.objs.size x v ->
    (∀a o,a≠z->a≠TO->a≠i1->a≠i2->s.heap.get? a=some o->h'.get? a=some o) ->
    wpAny (model prog w) A.in1 (do
     holding [.ref s.heap.objs.size] do
      let aI ← (Builtin.Dict.pairItems (.ref s.heap.objs.size)).tryCatch λe=>do
       if !(← isInstance e (.type "TypeError"))then throw e
       rule "dict.update.element-no-sequence"
       raiseError "TypeError" s!"cannot convert dictionary update sequence element #{(i : Int)} to a sequence"
      match aI with
      | [k,v]=>holding [k,v] (dictSet d k v)
      | l=>
       rule "dict.update.element-length"
       raiseError "ValueError" s!"dictionary update sequence element #{(i : Int)} has length {l.length}; 2 is required"
     again (.builtin "dict.update.loop" ⟨[.ref d,.ref z,rawInt ((i:Int)+1),.none],[]⟩)) (λfin s'=>match fin with|.done f=>R (.ok f) s'|.again c'=>c'.quiet=true/\codeAny (model prog w) A c' R s') (λe s'=>R (.error e) s') {s with heap:=h'}:=λh' zz u1 u2 Y up=>by
   have aD:h'.DictOf knd d kvs:=by
    refine Gg hd λo es ep ho r=>Mc o es ep (up _ _ dz a8 a6 a7 ho) r
   refine JA (MR (JA (wpAny_tryCatch ?_)))
   delta Builtin.Dict.pairItems
   refine JA (OJ (s:={s with heap:=h'}) (T:="tuple") (Ae Y rfl) (?_));rw[JN (by decide)];refine JA (MK (s:={s with heap:=h'}) Y rfl (JF ?_))
   show wpAny _ _ (holding [x,v] (dictSet d x v)) _ _ _
   refine MR (wpAny_dictSet_pairs (s:={s with heap:=h'}) (hsz:=by omega) aE aD λh2 d2 sb=>JF ⟨plainId_quiet Fy _,?_⟩);have a0:∀a o,a≠d->h'.get? a=some o->h2.get? a=some o:=λa o ha e=>sb.extBut a o ha e;have keep:∀a o,a≠z->a≠TO->a≠i1->a≠i2->a≠d->s.heap.get? a=some o->h2.get? a=some o:=λa o a1 a2 a3 a4 a5 e=>a0 a o a5 (up a o a1 a2 a3 a4 e);have ee:rawInt ((i:Int)+1)=rawInt ((i+1:Nat):Int):=by simp
   rw[ee];refine ih (i+1) {s with heap:=h2,toks:=s.toks+1} (stored kvs kk v) (by omega) lt ⟨?_,keep _ _ D.TIz D.TITO D.TIi1 D.TIi2 aA.symm Z.ins,u1.at λo e=>a0 _ o a6.symm e,u2.at λo e=>a0 _ o a7.symm e⟩ d2 (q1.at λo e=>keep _ o D.l1z D.l1TO D.l1i1 D.l1i2 aB.symm e) (q2.at λo e=>keep _ o D.l2z D.l2TO D.l2i1 D.l2i2 aC.symm e) ?_ ?_
   .refine .inr ?_
    rcases zz with zz|⟨T,oT,zz,hT,t1,t2,t3,t4⟩
    .exact Kh _ false _ (a0 _ _ dz.symm zz) (a0 _ _ nd Y) nz n1 n2 nd
    .exact Kh T true oT (a0 _ _ dz.symm zz) (a0 _ _ t4 hT) t1 t2 t3 t4
   .have:=stored_length_le kvs kk v;omega
   .intro h3 tk aF aH;refine k h3 tk ?_ λa o ha e=>aH a o ha ?_
    .have e1:ps.drop i=(kk,v)::ps.drop (i+1):=by
      rw[List.drop_eq_getElem_cons lt];rw[KN lt]at hk;rw[KR hk]
     rw[e1];exact aF
    .simp only[JC,JI,KG,PJ]at ha;exact keep a o ha.1 ha.2.1 ha.2.2.1 ha.2.2.2.1 ha.2.2.2.2 e
  rcases Z.zip with⟨I,u,v',hO⟩|⟨T,f,oT,I,hT,m1,m2,m3,m4⟩
  .exact JA (Rn D I Z.ins hO Z.fst Z.snd q1 q2 hx hy λh' z' _ u1 u2 Y _ up=>step h' (.inl z') u1 u2 Y up)
  .exact JA (Zq D I hT Z.ins Z.fst Z.snd q1 q2 hx hy λh' z' u1 u2 Y _ up=>step h' (.inr (Md T oT z' (up _ _ m1 m2 m3 hT) m1 m2 m3 m4)) u1 u2 Y λa o a1 _ a3 a4 e=>up a o a1 a3 a4 e)
end
theorem Vq {prog:Program}{w:World}{κ:Type}[DecidableEq κ](knd:KeyKind prog w κ){b c:Bool}{d z TI TO i1 i2 l1 l2:Addr}(D:ZipApart z TI TO i1 i2 l1 l2)(dn:d∉[z,TI,TO,i1,i2,l1,l2]) :
  MeetsIn prog w (Builtin.«dict.__init__» ⟨[.ref d,.ref z],[]⟩) (λA R s=>A.handled=none/\∃(xs ys:Array Value) (ps:List (κ×Value)),(∀(j:Nat) (k:κ) (v:Value),ps[j]?=some (k,v)->∃x,xs[j]?=some x/\ys[j]?=some v/\knd.is k x=true)/\(xs[ps.length]?=none\/ys[ps.length]?=none) /\
   zBn b c z TI TO i1 i2 l1 l2 0 s.heap/\s.heap.DictOf knd d []/\SQ b s.heap l1 xs/\SQ c s.heap l2 ys/\ps.length<=sizeLine /\
   ∀h' tk,h'.DictOf knd d (merged [] ps)->(∀a o,a∉[z,TO,i1,i2,d]->s.heap.get? a=some o->h'.get? a=some o)->R (.ok (.ret .none)) {s with heap:=h',toks:=tk}):=
 λA R s ⟨Y,xs,ys,ps,a2,a3,⟨O,hI,⟨u,v,hO⟩,u1,u2⟩,hd,q1,q2,hl,k⟩=>by
  delta Builtin.«dict.__init__»
  refine JA ?_
  delta Builtin.Dict.selfAndRest
  refine JA (wpAny_notOrdered_dict hd.typeIs (?_))
  show wpAny _ _ (pure (d,[Value.ref z])) _ _ s
  refine JF ?_
  show wpAny _ _ (Builtin.Dict.updateFrom "dict.__init__" d (.ref z) [] .none) _ _ s
  delta Builtin.Dict.updateFrom
  refine JA (OJ (T:="zip") (Ae O rfl) (?_));rw[JN (by decide)];refine JA (Ac7 O Y λh1 a0 k1=>?_);rw[JN (show(none:Option Value).isNone=true from rfl)];have I:∀{a:Addr},∀o,s.heap.get? a=some o->h1.get? a=some o:=λo e=>k1 _ o e;refine JA (wpAny_rule (JA (wpAny_pyIter_zip (s:={s with heap:=h1,toks:=a0}) (I _ O) (JF ⟨plainId_quiet Fy _,?_⟩))));have a1:h1.DictOf knd d []:=by
   refine Gg hd λo es ep ho r=>Mc o es ep (I _ ho) r
  refine Ad1 (knd:=knd) (b:=b) (c:=c) Y D dn a2 a3 ps.length 0 {s with heap:=h1,toks:=a0} [] (by simp) (KY _) ⟨.inl ⟨I _ O,(Ki u v (I _ hO))⟩,I _ hI,u1.at I,u2.at I⟩ a1 (q1.at I) (q2.at I) (by simpa using hl) λh' tk hm up=>k h' tk (by simpa using hm) λa o ha e=>up a o ha (I _ e)
theorem Inv.turnedO {X:Cx}{pins:List (Addr×Obj)}{σ:St}{H:Hp}{s:Shared}{h':Heap}{t':Nat}{fp:List Addr}{T:Addr}{ob:HO}(I:Inv X pins σ H s)(f:∀b∈fp,Jr X pins H b)
  (k:∀b o,b∉fp->s.heap.get? b=some o->h'.get? b=some o)(Y:s.heap.objs.size<=T)(new:AX X.prog X.w (upd H T ob) h' T ob):Inv X pins σ (upd H T ob) {s with heap:=h',toks:=t'}:=by
 have hn:H T=none:=I.AR.fresh Y;have nL:X.env.locals∉fp:=λz=>(f _ z).2.1 rfl;refine I.step (g':=s.gens) (d':=s.drawn) (ch:=fp) (λb hb=>(C6 ((f b hb).2.2.2.1) ((f b hb).2.1) ((f b hb).2.2.2.2.1) ((f b hb).2.2.2.2.2))) (λb o _ _ O e _=>k b o O e) (λb o _ _ O e _=>⟨o.slots,k b o O e⟩)
  (λb o _ e n=>by rw[Ak (KC (KA (JK e) Y))];exact n) (λb o O e=>⟨o,k b o O e⟩)
  (λb ys e=>by rw[Ak (Ah e hn)];exact e) (λb o u e=>by rw[Ak (Ah e hn)];exact e) (λb ps e=>⟨#[],by rw[Ak (Ah e hn),e];simp⟩) (λm hm=>?_) (λb u e=>?_) I.bare
 .refine Gg hm λo es ep ho r=>Mc o es ep (k _ o nL ho) r
 .by_cases hb:b=T
  .subst hb;rw[Aj]at e;cases e;exact new
  .rw [Ak hb]at e;have nf:∀c v,H c=some v->c∉fp:=λc v q z=>by rw[(f c z).1]at q;cases q
   refine(I.AR b u e).EJ (λc v O q=>k c v ?_ q) (λc q=>by rw[Ak (Ah q hn)];exact q) λc ys q=>by rw[Ak (Ah q hn)];exact q
   rcases O with z|z
   .rw [z];exact nf b u e
   .exact nf c _ z
theorem Rm:∀{ks:List Key} {ys:List V} {us vs:List Value},AG (ks.map kV) us->AG ys vs->KV (ks.zip ys) (ks.zip vs)/\(∀(P:Program) (w:World) (j:Nat) (k:Key) (v:Value),(ks.zip vs)[j]?=some (k,v)->∃x,us[j]?=some x/\vs[j]?=some v/\(Ci P w).is k x=true)
 | [],ys,us,vs,O,I=>⟨.nil,λP w j k v e=>by simp at e⟩
 | k::ks,[],us,vs,O,I=>by
  cases I;exact⟨.nil,λP w j k v e=>by simp at e⟩
 | k::ks,y::ys,us,vs,O,I=>by
  cases O with
  | cons h1 t1=>
   cases I with
   | cons h2 t2=>
    obtain⟨a,b⟩:=Rm t1 t2;refine⟨.cons ⟨rfl,h2⟩ a,λP w j k' v e=>?_⟩
    cases j with
    | zero=>
     simp at e;obtain⟨rfl,rfl⟩:=e;exact B0 (by simp) (by simp) (L6 h1)
    | succ j=>
     refine Bk (b P w j k' v (by simpa using e)) λx e1 Y e3=>B4 x (by simpa using e1) (by simpa using Y) e3
def tDZip (b c:Bool)(K:PySem.W.Frag)(ta:TA):TE:=λσ H Q=>ta σ H λvs H1=>∃(l1 l2:Addr),vs=[.ref l1,.ref l2]/\(∃xs,DO b K H1 l1 xs)/\(∃ys,DO c K H1 l2 ys)/\∃(ks:List Key) (ys:List V),DO b K H1 l1 (ks.map kV)/\DO c K H1 l2 ys/\∀d,H1 d=none->Q (.ref d) (upd H1 d (.dK (Eb [] (ks.zip ys))))
theorem pe_dzip (hc:X.calm=true)(hg:Gl X "dict")(hm:X.mg "dict"=none)(a5:Gl X "zip")(a7:X.mg "zip"=none)(ha:PA X [x,y] ta)
  (h0:starEach [.Call (.Name "zip" p') [x,y] [] a2] X.env=[(false,eval (.Call (.Name "zip" p') [x,y] [] a2) X.env)]:=by rfl)(hs:starEach [x,y] X.env=[(false,eval x X.env),(false,eval y X.env)]:=by rfl)(a8:starEach [y] X.env=[(false,eval y X.env)]:=by rfl) :
  PE X (.Call (.Name "dict" p) [.Call (.Name "zip" p') [x,y] [] a2] [] pos) (tDZip b c X.K ta):=by
 intro pins s σ H Q I h;refine Call_ (Li I hg hm boot_dict (MQ ?_ h0 rfl));rw[h0];refine OX (AV (R3 (b:=b) (c:=c) (R:=λl1 l2 H1=>∃(ks:List Key) (ys:List V),DO b X.K H1 l1 (ks.map kV)/\DO c X.K H1 l2 ys/\∀d,H1 d=none->Q (.ref d) (upd H1 d (.dK (Eb [] (ks.zip ys))))) a5 a7 ha hs a8 I h) λv s1 ⟨z,TI,TO,i1,i2,l1,l2,H1,e,O,D,st,f,fl,ks,ys,qa,qb,q⟩=>?_);subst e;refine Calls.spliced_nil (Bk (O.sq qa) λus ra pa za=>Bk (O.sq qb) λvs rb pb zb=>?_);obtain⟨a0,aG⟩:=Rm ra rb;have hh:X.A.handled=none:=O.ok.hd hc;refine Ii (id st) λhz hI z1 u1 u2=>?_;obtain⟨u0,v0,hO⟩:=z1;have a1:∀{b:Bool} {l:Addr} {xs:Array Value},SQ b s1.heap l xs->@LT.lt Nat _ l s1.heap.objs.size:=fun {b l xs} q=>by
  cases b
  .refine Am ((show s1.heap.IsTuple l xs from q)) λo e _=>?_;exact JK e
  .refine Am ((show s1.heap.IsList l xs from q)) λo e _=>?_;exact JK e
 have aB:@LT.lt Nat _ i1 s1.heap.objs.size:=by refine Am u1.obj λo e _=>?_;exact JK e
 have aC:@LT.lt Nat _ i2 s1.heap.objs.size:=by refine Am u2.obj λo e _=>?_;exact JK e
 have aF:@LT.lt Nat _ z s1.heap.objs.size:=JK hz;have aD:@LT.lt Nat _ TI s1.heap.objs.size:=JK hI;have aE:@LT.lt Nat _ TO s1.heap.objs.size:=JK hO;have dn:s1.heap.objs.size∉[z,TI,TO,i1,i2,l1,l2]:=λhd=>by
  have a9:=a1 pa;have aA:=a1 pb;simp only[JC,JI,KG]at hd;have key:∀{a:Addr},@LT.lt Nat _ a s1.heap.objs.size->s1.heap.objs.size≠a:=λh=>LS h
  rcases hd with hd|hd|hd|hd|hd|hd|hd
  .exact key aF hd
  .exact key aD hd
  .exact key aE hd
  .exact key aB hd
  .exact key aC hd
  .exact key a9 hd
  .exact key aA hd
 have up:∀{a:Addr},∀o,s1.heap.get? a=some o->(s1.heap.push {cls:=.type "dict",data:=.dict #[]}).get? a=some o:=λo e=>JD _ e;have aJ:=a0.length;have aH:us.length=ks.length:=by have:=ra.length;simpa using this.symm
 have aI:vs.length=ys.length:=rb.length.symm;have a3:ks.length<=sizeLine:=by simpa using za
 refine Q4 (Vq (Ci X.prog X.w) (b:=b) (c:=c) D dn) ⟨hh,(Kh us.toArray vs.toArray (ks.zip vs) (λj k v e=>?_) ?_ (Du (up _ hz) (up _ hI) (Ki u0 v0 (up _ hO)) (u1.at up) (u2.at up)) (Heap.DictOf.new _) (pa.at up) (Bc (pb.at up) ?_ λh' tk a4 k=>⟨rfl,?_⟩))⟩
 .refine Bk (aG X.prog X.w j k v e) λx e1 Y e3=>B4 x (by simpa using e1) (by simpa using Y) e3
 .rw [List.length_zip]
  rcases Nat.le_total ks.length vs.length with hl|hl
  .exact .inl (by simp;omega)
  .exact .inr (by simp;omega)
 .rw [List.length_zip];exact JY (Nat.min_le_left ..) a3
 .have big:(s1.heap.objs.size==sysModules)=false:=beq_eq_false_iff_ne.mpr (NI (KC O.big));have a6:(Eb [] (ks.zip ys)).length<=sizeLine:=by
   have e1:=Hs (ks.zip ys) [];have Y:(ks.zip ys).length<=ks.length:=by rw[List.length_zip];exact Nat.min_le_left ..
   simp at e1;omega
  have I2:Inv X pins σ (upd H1 s1.heap.objs.size (.dK (Eb [] (ks.zip ys)))) {s1 with heap:=h',toks:=tk}:=by
   refine O.turnedO (fp:=[i1,i2,TI,TO,z]) f (λa o ha e=>k a o (λhb=>?_) (up _ e)) (JG _) (Qx a6 big (a0.merge .nil) a4);simp only[JC,JI,KG]at ha hb
   rcases hb with hb|hb|hb|hb|hb
   .exact ha (by simp[hb])
   .exact ha (by simp[hb])
   .exact ha (by simp[hb])
   .exact ha (by simp[hb])
   .exact KC (JK e) hb
  exact Ao (.ref s1.heap.objs.size) _ I2 rfl (q _ (O.AR.fresh (JG _)))
theorem Ap0 (Y:X.calm=true)(hg:Gl X "dict")(hm:X.mg "dict"=none)(a0:Gl X "zip")(a1:X.mg "zip"=none)(ha:QA X [x,y] ta)
  (h0:starEach [.Call (.Name "zip" I) [x,y] [] O] X.env=[(false,eval (.Call (.Name "zip" I) [x,y] [] O) X.env)]:=by rfl)(hs:starEach [x,y] X.env=[(false,eval x X.env),(false,eval y X.env)]:=by rfl)(a2:starEach [y] X.env=[(false,eval y X.env)]:=by rfl) :
  QE X (.Call (.Name "dict" p) [.Call (.Name "zip" I) [x,y] [] O] [] pos) (tDZip b c X.K ta):=⟨pe_dzip Y hg hm a0 a1 ha.go h0 hs a2⟩
theorem Ll:Ex X (.type "dict") (λxs H Q=>∃(a:Addr) (kvs:List (Key×V)),xs=[.ref a]/\Rd H a (.dK kvs)/\∀d,H d=none->Q (.ref d) (upd H d (.dK kvs))):=by
 intro pins s σ H xs us Q I r h;refine A0 h λa kvs O ha q=>?_;subst O;refine Am (K4 r) λu O ru=>?_;subst O;cases ru;refine Bu (K7 I.AR ha) λz hS O=>?_;refine Am O λvs a0 dd=>?_;have a1:@LT.lt Nat _ a s.heap.objs.size:=by refine Gg (id dd) λo es ep e _=>?_;exact JK e
 have big:(s.heap.objs.size==sysModules)=false:=beq_eq_false_iff_ne.mpr (NI (KC I.big));have Y:(s.heap.push {cls:=.type "dict",data:=.dict #[]}).DictOf (Ci X.prog X.w) a vs:=by
  refine Gg dd λo es ep ho r=>Mc o es ep (JD _ ho) r
 have a2:(vs.map (·.1)).Nodup:=by
  refine Rj Y λ_ _ _ _ _ _ _ _ hn=>hn
 refine Q4 (Vr (Ci X.prog X.w) s.heap.objs.size a (LS a1) hS) (Cj [] vs (Heap.DictOf.new _) Y (by have:=a0.length;simp;omega) λh' d' sb=>⟨rfl,?_⟩);rw[merged_nil_of_nodup vs a2]at d';refine Ao (.ref s.heap.objs.size) _ (I.laid (a:=s.heap.objs.size) (o:=.dK kvs) (t':=s.toks) (λb o e=>((sb.2 b (KC (JK e))).trans (JD _ e))) (JG _) (Qx z big a0 d')) rfl (q _ (I.AR.fresh (JG _)))
structure FN (K:PySem.W.Frag)(w:World)(a:Addr)(kvs:List (Str×V)):Prop where
 lk:∃es n,K.lookup a=some ⟨.type "dict",none,.dict es n,#[]⟩/\PySem.W.KeysLit w.params es.toList
 lo:(a==sysModules)=false
 at_:∀x v,(x,v)∈kvs->∃u,RelV v u/\PySem.W.nsIn K a x=some (some u)
def tKGet (a:Addr)(kvs:List (Str×V))(ty:TE):TE:=λσ H Q=>ty σ H λy H1=>∃x v,y=.str x/\(x,v)∈kvs/\Q v H1
section
theorem pe_kget (T:FN X.K X.w a kvs)(hg:Gl X x)(hm:X.mg x=some (.ref a))(hi:PE X i ty)(hs:Ac4 i)(a0:(x==("__debug__":Str))=false:=by decide):PE X (.Subscript (.Name x p) i pos) (tKGet a kvs ty):=by
 intro pins s σ H Q I h;refine Yk PySem.F.slot_dict_getitem.lookup hs (Fz I hg hm (AV (hi pins s σ H _ I h) λiv s2 ⟨y,H2,O,ry,z,v,ez,hz,q⟩=>?_) a0);subst ez;obtain⟨t,rfl⟩:=(show ∃t,iv=Value.str z t from ry);refine Co T.lk λes n lk kl=>Am (T.at_ z v hz) λu ru hu=>?_;have Y:=PySem.W.mapOf_K (prog:=X.prog) O.DR lk kl;exact⟨Y.typeIs,wpAny_getItem_of (strKind_is X.prog X.w z t) Y (PySem.W.find_K lk hu) (Ao v H2 (O.tok _) ru q)⟩
theorem Ls (T:FN X.K X.w a kvs)(hg:Gl X x)(hm:X.mg x=some (.ref a))(hi:QE X i ty)(hs:Ac4 i)(I:(x==("__debug__":Str))=false:=by decide):QE X (.Subscript (.Name x p) i pos) (tKGet a kvs ty):=⟨pe_kget T hg hm hi.go hs I⟩
end
def tCallL (i:Nat)(M:Addr->Prop)(R:Addr->Sp)(E:XK)(t:TA):TE:=λσ H Q=>∃f,σ[i]?=some (some (.ref f))/\M f/\t σ H λvs H1=>R f vs H1 Q E
theorem Ai2 {M:Addr->Prop}(F:∀f,M f->∃fd,AI X.prog X.w X.K X.mg X.base CX k f fd ps (R f)/\PySem.W.keepIn X.K (.ref f)=true/\Binds X.K fd ps [])
  (hx:Fx CX X E)(hr:BB k X.A)(hN:X.N[i]?=some x)(hv:Vis X.env.scope x)(ha:PA X (e::es) t)(a1:(x==("__debug__":Str))=false:=by decide)(a0:(x==("__classdict__":Str))=false:=by decide)
  (he:starEach (e::es) X.env=(false,eval e X.env)::starEach es X.env:=by rfl)(a2:(backTo pos (starEach es X.env)).any (·.1)=false:=by rfl):PE X (.Call (.Name x p) (e::es) [] pos) (tCallL i M R E t):=by
 intro pins s σ H Q I h;obtain⟨f,hf,m,h⟩:=h;obtain⟨fd,Fo,hk,hb⟩:=F f m;refine MM (AV (Ah5 hN hv a1 a0 pins s σ H (λv H1=>v=.ref f/\H1=H) I ⟨_,hf,rfl,rfl⟩) λu s1 ⟨v,H1,O,rv,ev,eH⟩=>?_);subst ev eH;cases(show u=Value.ref f from rv);refine NV (h₀:=X.base) O.ok.mod.kin hk (AV (ha pos pins s1 σ _ _ O h) λus s2 ⟨vs,H2,Y,r,q⟩=>⟨Y.DR,Xe (dvs:=[]) (ds:=[]) Fo hr hb .nil hx Y r (by simpa using q)⟩) he a2
inductive Th where
 | num (i:Int)|wd (x:Str)|tup (l:List Th)
mutual
def AS (H:Hp):V->Th->Prop
 | v,.num i=>v=.int i
 | v,.wd x=>v=.str x
 | v,.tup l=>∃a vs,v=.ref a/\H a=some (.tup vs)/\AL H vs l
def AL (H:Hp):List V->List Th->Prop
 | vs,[]=>vs=[]
 | vs,t::r=>∃v vr,vs=v::vr/\AS H v t/\AL H vr r
end
mutual
theorem AS.mono {H H':Hp}(s:∀b xs,H b=some (.tup xs)->H' b=some (.tup xs)):∀{th:Th} {v:V},AS H v th->AS H' v th
 | .num i,v,h=>h
 | .wd x,v,h=>h
 | .tup l,v,h=>by
  refine A0 h λa vs e ha hl=>Ao a vs e (s _ _ ha) (AL.mono s hl)
theorem AL.mono {H H':Hp}(s:∀b xs,H b=some (.tup xs)->H' b=some (.tup xs)):∀{l:List Th} {vs:List V},AL H vs l->AL H' vs l
 | [],vs,h=>h
 | t::r,vs,h=>by
  refine A0 h λv vr e h1 h2=>Ao v vr e (AS.mono s h1) (AL.mono s h2)
end
def EG (H H':Hp):Prop:=∀b xs,H b=some (.tup xs)->H' b=some (.tup xs)
theorem AA.AE (s:AA H H'):EG H H':=λb xs h=>s b _ h
theorem EG.trans (a:EG H H1)(b:EG H1 H2):EG H H2:=λc xs h=>b c xs (a c xs h)
theorem AL.len:∀{l:List Th} {vs:List V},AL H vs l->vs.length=l.length
 | [],vs,h=>by rw[show vs=[] from h];rfl
 | t::r,vs,h=>by
  refine A0 h λv vr I _ h2=>?_;subst I;simp[AL.len h2]
theorem AL.get:∀{l:List Th} {vs:List V} {i:Nat} {v:V},AL H vs l->vs[i]?=some v->∃t,l[i]?=some t/\AS H v t
 | [],vs,i,v,h,e=>by rw[show vs=[] from h]at e;simp at e
 | t::r,vs,0,v,h,e=>by
  refine A0 h λY vr I h1 _=>?_;subst I;simp at e;subst e;exact Ar t rfl h1
 | t::r,vs,i+1,v,h,e=>by
  refine A0 h λY vr I _ h2=>?_;subst I;refine Am (AL.get h2 (by simpa using e)) λt' O h'=>Ar t' (by simpa using O) h'
theorem AL.at:∀{l:List Th} {vs:List V} {i:Nat} {t:Th},AL H vs l->l[i]?=some t->∃v,vs[i]?=some v/\AS H v t
 | [],vs,i,t,h,e=>by simp at e
 | t'::r,vs,0,t,h,e=>by
  refine A0 h λO vr I h1 _=>?_;subst I;simp at e;subst e;exact Ar O rfl h1
 | t'::r,vs,i+1,t,h,e=>by
  refine A0 h λO vr I _ h2=>?_;subst I;refine Am (AL.at (i:=i) h2 (by simpa using e)) λv Y h'=>Ar v (by simpa using Y) h'
theorem AL.append:∀{l m:List Th} {vs us:List V},AL H vs l->AL H us m->AL H (vs++us) (l++m)
 | [],m,vs,us,h1,h2=>by rw[show vs=[] from h1];exact h2
 | t::r,m,vs,us,h1,h2=>by
  refine A0 h1 λv vr I a b=>?_;subst I;exact Ao v (vr++us) rfl a (AL.append b h2)
theorem AL.take:∀{l:List Th} {vs:List V} (n:Nat),AL H vs l->AL H (vs.take n) (l.take n)
 | l,vs,0,h=>by simp;rfl
 | [],vs,n+1,h=>by rw[show vs=[] from h];rfl
 | t::r,vs,n+1,h=>by
  refine A0 h λv vr I a b=>?_;subst I;exact Ao v (vr.take n) rfl a (AL.take n b)
section
variable {X:Cx}
end
section
theorem Le (hu:X.A.units+1<cLine)(hi:QE X i ty)(I:QE X o O)(hm:behindInMarks .In o=false:=by rfl):QE X (.Compare i [.In] [o] pos) (tDIn ty O):=⟨Xi (Ai5 hu hi.go I.go) hm⟩
theorem qt_din (hu:X.A.units+1<cLine)(hi:QE X i ty)(I:QE X o O)(hm:behindInMarks .In o=false:=by rfl):QT X (.Compare i [.In] [o] pos) (tB (tDIn ty O)):=⟨pt_cmp (Ai5 hu hi.go I.go) hm⟩
theorem Z8 (hu:X.A.units+1<cLine)(hi:QE X i ty)(I:QE X o O)(hm:behindInMarks .NotIn o=false:=by rfl):QE X (.Compare i [.NotIn] [o] pos) (Yh ty O):=⟨Xi (Aa3 hu hi.go I.go) hm⟩
end
theorem Am8 {z:Str}{D:Addr}{g:TG}{tt:TT}{te:TE}{σ0:St}{H1:Hp}{Q:Hp->Prop}(Pv:Nat->List V->St->Hp->Prop)(hx:z.cps.size<=sizeLine)(h0:Pv 0 [] σ0 (upd H1 D (.lst [])))
   (hl:∀i ys σ H,i<=z.cps.size->Pv i ys σ H->H D=some (.lst ys)/\ys.length<=i)
   (hs:∀(i:Nat) c ys σ H,z.cps[i]?=some c->Pv i ys σ H->g (.str ⟨#[c]⟩) σ H λσ3 H3=>tt σ3 H3 λok O=>if ok=true then te σ3 O λy I=>I D=some (.lst ys)/\Pv (i+1) (ys++[y]) σ3 (upd I D (.lst (ys++[y])))else Pv (i+1) ys σ3 O)
   (hd:∀ys σ H,Pv z.cps.size ys σ H->Q H) :
   ∃W:Nat->Nat->St->Hp->Prop,(∃m,W 0 m σ0 (upd H1 D (.lst [])))/\∀i m σ' H',W i m σ' H' ->
     ((Its z).stop i H'/\Q H')\/((Its z).go i H'/\∃(Ay:V->St->Hp->Prop) (An:St->Hp->Prop),(∀y σ3 I,Ay y σ3 I->∃ys,I D=some (.lst ys)/\ys.length<sizeLine/\∃Y,Y<m/\W (i+1) Y σ3 (upd I D (.lst (ys++[y])))) /\
       (∀σ3 O,An σ3 O->∃Y,Y<m/\W (i+1) Y σ3 O) /\
       ∀x H2,(Its z).FY i H' x H2->g x σ' H2 λσ3 H3=>tt σ3 H3 λok O=>if ok=true then te σ3 O (λy I=>Ay y σ3 I)else An σ3 O):=by
 refine Ar (λi m σ H=>m=z.cps.size-i/\i<=z.cps.size/\∃ys,Pv i ys σ H) (B4 z.cps.size (by simp) (KY _) ⟨[],h0⟩) ?_;rintro i m σ H ⟨rfl,hi,ys,p⟩;obtain⟨hy,a1⟩:=hl i ys σ H hi p;by_cases a0:i<z.cps.size
 . refine .inr ⟨a0,(Ao (λy σ3 I=>I D=some (.lst ys)/\Pv (i+1) (ys++[y]) σ3 (upd I D (.lst (ys++[y])))) (λσ3 O=>Pv (i+1) ys σ3 O)
     (λy σ3 I ⟨e,p'⟩=>(B4 ys e (by omega) (Cv (z.cps.size-(i+1)) (by omega) rfl a0 ⟨_,p'⟩))) (λσ3 O p'=>(Cv (z.cps.size-(i+1)) (by omega) rfl a0 ⟨_,p'⟩)) λx H' y=>?_)⟩
   refine Fg y λe z1=>?_;refine Am z1 λc hc ex=>?_;subst e;subst ex;exact hs i c ys σ H' hc p
 . have:i=z.cps.size:=by omega
   subst this;exact .inl ⟨JG _,hd ys σ H p⟩
section
theorem Kb:QE X (.Dict [] [] pos) Ad8:=⟨Ah8⟩
theorem Dy (hu:X.A.units+1<cLine)(O:QE X o td)(hi:QE X i ty)(Y:QE X I tv)(hs:swapsWith I (some (.Subscript o i a0)) pos.line X.env=pure false):QS X (.Assign [.Subscript o i a0] I pos) (sDPut td ty tv):=⟨Ap9 hu O.go hi.go Y.go hs⟩
theorem Ka (he:QE X e ta)(hb:attributeBase e f X.env (eval e X.env)=eval e X.env):QE X (.Attribute e f pos) (tFld X.K ta f):=⟨pe_fld he.go hb⟩
theorem Tv (ha:QE X o ta)(O:QE X I Y)(hs:swapsWith I (some (.Attribute o f a0)) pos.line X.env=pure false):QS X (.Assign [.Attribute o f a0] I pos) (sFld X.K ta Y f):=⟨ps_fld ha.go O.go hs⟩
theorem Ao9 (M:Mk X.K C g)(F:AI X.prog X.w X.K X.mg X.base CX k g fd ps sp)(hr:BB (k+1) X.A)(hg:Gl X x)(hm:X.mg x=some (.ref C))(hb:Binds X.K fd ps ds)(hd:AG dvs ds)(hx:Fx CX X E)
  (ha:QA X (e::es) t)(I:(x==("__debug__":Str))=false:=by decide)(he:starEach (e::es) X.env=(false,eval e X.env)::starEach es X.env:=by rfl)(O:(backTo pos (starEach es X.env)).any (·.1)=false:=by rfl):QE X (.Call (.Name x p) (e::es) [] pos) (tMake C sp dvs E t):=⟨pe_make M F hr hg hm hb hd hx ha.go I he O⟩
end
def tCallH (i:Nat)(M:Str->Addr->Prop)(R:Str->Sp)(E:XK)(t:TA):TE:=λσ H Q=>∃h f,σ[i]?=some (some (.ref f))/\M h f/\t σ H λvs H1=>R h vs H1 Q E
theorem Ag2 {M:Str->Addr->Prop}(F:∀h f,M h f->∃fd,AI X.prog X.w X.K X.mg X.base CX k f fd ps (R h)/\PySem.W.keepIn X.K (.ref f)=true/\Binds X.K fd ps [])
  (hx:Fx CX X E)(hr:BB k X.A)(O:X.N[i]?=some x)(Y:Vis X.env.scope x)(ha:QA X (e::es) t)(a1:(x==("__debug__":Str))=false:=by decide)(a0:(x==("__classdict__":Str))=false:=by decide)
  (he:starEach (e::es) X.env=(false,eval e X.env)::starEach es X.env:=by rfl)(a2:(backTo pos (starEach es X.env)).any (·.1)=false:=by rfl):QE X (.Call (.Name x p) (e::es) [] pos) (tCallH i M R E t):=by
 refine⟨λpins s σ H Q I h=>?_⟩;obtain⟨g,f,hf,m,h⟩:=h;exact Ai2 (M:=λb=>b=f) (R:=λ_=>R g) (λb hb=>by subst hb;exact F g _ m) hx hr O Y ha.go a1 a0 he a2 pins s σ H Q I ⟨f,hf,rfl,h⟩
theorem Qf (hu:X.A.units+1<cLine)(I:QE X o O)(he:QE X e ty)(hf:QE X f Y)(m:M2 X o "get" apos e f cpos):QE X (.Call (.Attribute o "get" apos) [e,f] [] cpos) (Ad9 O ty Y):=⟨Ah9 hu I.go he.go hf.go m⟩
end L2
namespace L2
open PySem PySem.Spec PyProof.Rows PySem.W
section
variable {M:Model}{A:Around}{E:Value->Shared->Prop}{s:Shared}{env:Env}{outer:List Env}{L e:Addr}{cls:Value}
end
end L2
namespace L2
open PySem PySem.Spec PyProof.Rows PySem.W Builtin Builtin.ObjectAttr
section
variable {prog:Program}{w:World}{A:Around}{E:Value->Shared->Prop}{s:Shared}{K:Frag}{x C:Addr}{name:Str}{v:Value}{o:Obj}{vs:Array Value}
end
end L2
namespace L2
open PySem PySem.Spec PyProof.Rows PySem.W
section
variable {E:Value->Shared->Prop}
end
section
end
section
variable {prog:Program}{w:World}{A:Around}{E:Value->Shared->Prop}{h:Heap}{g:Array GenState}{d:Drawn}{t:Nat}{os:OsState}
variable {nm q:Str}{C N:Addr}{bs bm bmB:List Value}{hdct:Bool}{sn:List Str}{sub:List Value}{ab:Bool}{col:Option Bool}{dd:Option Addr}{k0 k1 k2 k3 k5:Option Value}{B newId initId:String}
end
section
variable {prog:Program}{w:World}{A:Around}{E:Value->Shared->Prop}{s:Shared}{env:Env}
variable {nm q:Str}{C N:Addr}{bs bm:List Value}{hdct:Bool}{sn:List Str}{sub:List Value}{ab:Bool}{col:Option Bool}{dd:Option Addr}{k0 k1 k2 k3 k5:Option Value}{newId:String}
end
section
variable {P:Program}{w:World}{K:PySem.W.Frag}{mg:Str->Option Value}{base:Heap}
end
section
end
def tKIn2 (K:PySem.W.Frag)(a:Addr)(kvs:List (Str×V))(ty:TE):TE:=λσ H Q=>ty σ H λy H1=>∃x,y=.str x/\((∃v,(x,v)∈kvs/\Q (.bl true) H1)\/(PySem.W.nsIn K a x=some none/\Q (.bl false) H1))
section
theorem pc_kin2 (T:FN X.K X.w a kvs)(hg:Gl X x)(hm:X.mg x=some (.ref a))(hi:PE X i ty)(a0:(x==("__debug__":Str))=false:=by decide):PC X .In i (.Name x p) (tKIn2 X.K a kvs ty):=by
 intro pins s σ H Q I h;refine AV (hi pins s σ H _ I h) λiv s1 ⟨y,H1,O,ry,z,ez,q⟩=>Fz O hg hm ?_ a0;subst ez;obtain⟨t,rfl⟩:=(show ∃t,iv=Value.str z t from ry);refine Co T.lk λes n lk kl=>wpAny_in_of (strKind_is X.prog X.w z t) T.lo (PySem.W.mapOf_K (prog:=X.prog) O.DR lk kl) ?_;rcases q with⟨v,Y,q⟩|⟨Y,q⟩
 .refine Am (T.at_ z v Y) λu ru hu=>?_;rw[PySem.W.find_K lk hu];exact Ao (.bl true) H1 (O.tok _) rfl q
 .rw [PySem.W.find_K lk Y];exact Ao (.bl false) H1 (O.tok _) rfl q
theorem Ty (T:FN X.K X.w a kvs)(hg:Gl X x)(hm:X.mg x=some (.ref a))(hi:QE X i ty)(hk:behindInMarks .In (.Name x p)=false:=by rfl)(I:(x==("__debug__":Str))=false:=by decide):QE X (.Compare i [.In] [.Name x p] pos) (tKIn2 X.K a kvs ty):=⟨Xi (pc_kin2 T hg hm hi.go I) hk⟩
end
section
end
section
end
section
variable {E:Value->Shared->Prop}
end
theorem Inv.froze (I:Inv X pins σ H s)(hd:H d=some u)(O:∀xs,u≠.tup xs)(nf:∀o' Y,u≠.DZ o' Y)(nb:∀ps,u≠.tbl ps)(no:∀x,u≠.own x)(e:s.heap.get? d=some o) :
  Inv X pins σ (upd H d (.DZ o u)) {s with heap:=s.heap,toks:=t'}:=by
 have keep:∀b o',H b=some o'->b≠d->upd H d (.DZ o u) b=some o':=λb o' q n=>by rw[Ak n];exact q
 have ok:AX X.prog X.w (upd H d (.DZ o u)) s.heap d u:=(I.AR d u hd).EJ (λ_ _ _ q=>q) (λb q=>keep b _ q λz=>by rw[z,hd]at q;cases q;exact no _ rfl) λb xs q=>keep b _ q λz=>by rw[z,hd]at q;cases q;exact O _ rfl
 refine I.un (t':=t') ⟨λb o' q n _ _=>q,λb o' q n _ _=>⟨o'.slots,q⟩,λb o' q n _=>by rw[Ak (λz=>by rw[z,hd]at n;cases n)];exact n,λb o' q _=>⟨o',q⟩,λb xs q=>keep b _ q λz=>by rw[z,hd]at q;cases q;exact O _ rfl,
  λb o' Y q=>keep b _ q λz=>by rw[z,hd]at q;cases q;exact nf _ _ rfl,λb ps q=>⟨#[],by rw[Array.append_empty];exact keep b _ q λz=>by rw[z,hd]at q;cases q;exact nb _ rfl⟩⟩ λa o' q=>?_
 by_cases ha:a=d
 .subst ha;rw[Aj]at q;cases q;exact⟨e,ok⟩
 .rw [Ak ha]at q;exact(I.AR a o' q).EJ (λ_ _ _ q=>q) (λb q=>keep b _ q λz=>by rw[z,hd]at q;cases q;exact no _ rfl) λb xs q=>keep b _ q λz=>by rw[z,hd]at q;cases q;exact O _ rfl
theorem Zc (h:N0 k u=true):RelV (kV k) u:=by
 rcases Cy h with⟨i,t,rfl,rfl⟩|⟨x,t,rfl,rfl⟩
 .exact⟨t,rfl⟩
 .exact⟨t,rfl⟩
theorem Ul:∀{vs:List (Key×Value)},KV kvs vs->kvs.length=vs.length:=λr=>by
 induction r with
 | nil=>rfl
 | cons _ _ I=>rw[JR,JR,I]
theorem Ak1:∀{kvs:List (Key×V)} {vs:List (Key×Value)} {i:Nat} {k:Key} {v:V},KV kvs vs->kvs[i]?=some (k,v)->∃u,vs[i]?=some (k,u)/\RelV v u
 | _,_,i,k,v,.nil,e=>by simp at e
 | _,_,0,k,v,.cons (a:=a) (b:=b) h _,e=>by
  have e:a=(k,v):=by simpa using e
  obtain⟨b1,I⟩:=b;subst e;obtain⟨h1,h2⟩:=h;have h1:k=b1:=h1;subst h1;exact Ar I rfl h2
 | _,_,i+1,k,v,.cons _ r,e=>by
  refine Am (Ak1 (i:=i) r (by simpa using e)) λu O Y=>Ar u (by simpa using O) Y
theorem Al5 (I:Inv X pins σ H s)(h:H d=some (.DZ o (.dK kvs)))(hd:o.data=.dict es ep):∃vs,KV kvs vs/\s.heap.DictAt (Ci X.prog X.w) d vs ep:=by
 refine Ox (I.AR d _ h) λg _ _ O=>?_;refine Am O λvs r Y=>?_;refine Rj Y λo' a1 a0 g' ex dd kk pp nn=>?_;rw[g]at g';cases g';rw[hd]at dd;cases dd;exact Ar vs r (Md o es g ex hd kk pp nn)
end L2
namespace PySem.SeqAt
open PySem PySem.Spec
end PySem.SeqAt
namespace L2
open PySem PySem.Spec PyProof.Rows
theorem AI.up {P:Program}{w:World}{K:PySem.W.Frag}{mg:Str->Option Value}{base:Heap}{CX:IV}{k:Nat}{f:Addr}{fd:FuncData}{ps:List Str}{sp:Sp}(F:AI P w K mg base BV k f fd ps sp):AI P w K mg base CX k f fd ps sp:=
 ⟨F.len,λA outer s H args us vs Q E hr he hb I hs=>NJ (F.run A outer s H args us vs Q E hr he hb I hs) λr s' h=>by
  cases r with
  | error e=>exact False.elim h
  | ok fl=>cases fl<;>exact h⟩
section
end
theorem V7 (u:Value):∀(k:Nat) (I:List Value),List.foldl (λO Y=>O++Y) I.toArray (List.replicate k #[u])=(I++List.replicate k u).toArray
 | 0,I=>by simp
 | k+1,I=>by
  rw[OP,List.foldl_cons,show I.toArray++#[u]=(I++[u]).toArray from by simp,V7 u k (I++[u])];simp[OP]
theorem U3 (r:RelV v u):∀k:Nat,AG (List.replicate k v) (List.replicate k u)
 | 0=>.nil
 | k+1=>by rw[OP,OP];exact .cons r (U3 r k)
def rRepL:R2:=λx y H Q=>∃(a:Addr) (k:Int) (v:V),x=.ref a/\y=.int k/\H a=some (.lst [v])/\0<=k/\k<=1000/\∀p,H p=none->Q (.ref p) (upd H p (.lst (List.replicate k.toNat v)))
theorem op_repL:CV X (binaryOp .Mult) rRepL:=by
 intro pins s σ H x y u1 u2 Q I rx ry h;refine Rj h λa k v O z2 ha h0 h3 q=>?_;subst O z2;cases rx;obtain⟨t,rfl⟩:=ry;refine Fg (I.IA ha) λzl O=>?_;refine A0 O λits n r hl e=>?_
 cases r with
 | @cons v' u _ _ r1 r2=>
   cases r2;refine wpAny_binaryOp_repeat_ref (T:="list") (U:="int") (by decide) (Ae e rfl) (λs'=>typeIs_int s' k t) noFill_list_mul F.fills_int_mul F.slot_int_rmul repeat_list F.slot_int_index.lookup
     (OY F.slot_int_rmul (typeIs_int s k t) F.entry_int_rmul (F.args_int_rmul_2 _ _) (int___rmul___int_list k t a #[u] n)
       (C6 e rfl (Ae e rfl) (OY F.slot_list_mul (Ae e rfl) F.entry_list_mul (F.args_list_mul_2 _ _)
         (AutoListH.list___mul___list_int_3 a #[u] n k t (by simp[Builtin.List.listFitsIndex];omega) (by show ¬1*k.toNat>_;omega) (by show ¬Builtin.List.listTooLong (1*k.toNat)=true;simp[Builtin.List.listTooLong,sizeLine];omega))
         ⟨e,?_⟩)))
   have Y:List.foldl (λx1 x2=>x1++x2) #[] (List.replicate (if(#[u]:Array Value).isEmpty=true then 0 else k.toNat) #[u])=(List.replicate k.toNat u).toArray:=by
     rw[JP (by simp)];have:=V7 u k.toNat [];simpa using this
   rw[Y];refine Ao (.ref s.heap.objs.size) _ (I.laid (t':=s.toks) (o:=.lst (List.replicate k.toNat v)) (λb ob q=>JD _ q) (JG _) ?_) rfl (q _ (I.AR.fresh (JG _)));exact⟨by rw[MA];exact JY (by omega:k.toNat<=1000) (by decide),(Al1 (U3 r1 _) (JS _ rfl))⟩
section
end
theorem Ap3 (K:PySem.W.Frag){r:V->List V->Hp->VK->Prop}(pa:PlainAttrs T)(a4:Slot T O I)(a0:typeOf (.builtin I)=pure (.type "method_descriptor"))(hm:MtR X I r)(ho:QE X o a1)(a2:attributeBase o O X.env (eval o X.env)=eval o X.env:=by rfl)(a3:(apos.endLine==cpos.line)=true:=by rfl)(Y:X.K=K:=by rfl):QE X (.Call (.Attribute o O apos) [] [] cpos) (tBM0 K T r a1):=by
 subst Y;exact Lf pa a4 a0 hm ho a2 a3
theorem Ky {E:Value->Shared->Prop}{I:Array Value}{O:Value}{lo:Option Int}{Q:Value->Shared->Prop}(ht:IsTup s.heap t I)(hs:s.heap.IsSliceOf sl O vu .none)(Y:IsPart O lo)(pu:IsPart vu hi)
  (hw:HT.BA I.size 0 lo=0/\HT.BA I.size I.size hi=I.size)
  (h:Q (.ref t) s):wpAny (model prog w) A (getItem (.ref t) (.ref sl)) Q E s:=by
 refine Bk (id hs) λos a2 a1 a4=>?_;have a0:s.TypeIs (.ref sl) "slice":=(Ar os a2 a1);unfold getItem
 try with_reducible refine MR ?_
 first|refine JA (JF ?_)|skip
 refine JA (wpAny_sequenceKey ht.typeIs (by decide) ?_)
 refine JA (KW (name:=Str.ofString "__getitem__") ht.typeIs KP
  (LY KP ht.typeIs entry_tuple_getitem ?_ (args_tuple_getitem _ _)))
 show wpAny _ _ (Builtin.Tuple.tupleItemsOf (.ref t) >>= _) _ _ s
 refine JA (tupleItemsOf_ ht (JA (OJ a0 ?_)));rw[JN (by decide)];refine JA (HT.CM hs Y pu ?_);have a3:((((HT.BA I.size 0 lo:Nat):Int)==0&&(1:Int)==1&&(HT.BA I.size I.size hi-HT.BA I.size 0 lo)==I.size)=true):=by
  rw[hw.1,hw.2];simp
 show wpAny _ _ (if(((HT.BA I.size 0 lo:Nat):Int)==0&&(1:Int)==1&&(HT.BA I.size I.size hi-HT.BA I.size 0 lo)==I.size)=true then _ else _) _ _ s
 rw[JN a3];unfold Builtin.Tuple.tupleIsExact;refine JA (JA (OJ ht.typeIs (JF ?_)));rw[JN (by decide)];refine JA (wpAny_rule (JF (Ae rfl (JF h))))
def rSlB (K:PySem.W.Frag):V->Option Int->Option Int->Hp->VK->Prop:=λx lo hi H Q=>∃a xs,x=.ref a/\BW K H a xs /\
 ((HT.BA xs.length 0 lo=0/\HT.BA xs.length xs.length hi=xs.length)->Q (.ref a) H)/\(¬(HT.BA xs.length 0 lo=0/\HT.BA xs.length xs.length hi=xs.length)->∀p,H p=none->Q (.ref p) (upd H p (.tup (Ec xs lo hi))))
theorem Yn:SlR X (rSlB X.K):=by
 intro pins s σ H x v vl vu lo hi sl Q I rx hs O Y h;refine Gh h λa xs z1 hx q1 q2=>?_;subst z1;by_cases hw:HT.BA xs.length 0 lo=0/\HT.BA xs.length xs.length hi=xs.length
 .cases rx;refine Bk (I.tuple hx) λits r ht hz=>?_;have a0:its.toArray.size=xs.length:=by rw[JQ];exact r.length.symm
  refine Ao "tuple" _ KP.lookup ht.typeIs ?_;exact Ky ht hs O Y (by rw[a0];exact hw) (Ao (.ref a) H I rfl (q1 hw))
 .exact E6 pins s σ H _ v vl vu lo hi sl Q I rx hs O Y (Cj a xs rfl hx hw (q2 hw))
def Af3 (K:PySem.W.Frag):R2:=λx y H Q=>∃a b xs ys,x=.ref a/\y=.ref b/\BW K H a xs/\BW K H b ys/\xs.length+ys.length<=sizeLine/\(xs=[]->Q (.ref b) H)/\(xs≠[]->ys=[]->Q (.ref a) H)/\(xs≠[]->ys≠[]->∀p,H p=none->Q (.ref p) (upd H p (.tup (xs++ys))))
theorem Ac0 {E:Value->Shared->Prop}{ws:List Value}{Q:Value->Shared->Prop}(ht:IsTup s.heap t us.toArray)(hb:IsTup s.heap b ws.toArray)(hv:us=[])(h:Q (.ref b) s):wpAny (model prog w) A (binaryOp .Add (.ref t) (.ref b)) Q E s:=by
 refine Bk (id ht) λI Y k1 O=>?_;obtain⟨c1,d1,a1,I⟩:=I;obtain⟨n1,m1⟩:=O;refine Bk (id hb) λI g2 k2 O=>?_;obtain⟨c2,d2,a2,O⟩:=I;obtain⟨n2,m2⟩:=O;simp only at k1 m1 k2 m2;subst k1 m1 k2 m2;exact concat_meets (Ae Y rfl) (Ae g2 rfl) noFill_tuple_add seq_tuple_add PySem.F.slot_tuple_add Of (OS _ _) (tuple_addW0 t b us.toArray ws.toArray n1 n2 d1 d2 I O (by simp[hv])) (Bc Y g2 h)
theorem Ja:CV X (binaryOp .Add) (Af3 X.K):=by
 intro pins s σ H x y v u Q I O Y h;refine F3 h λa b xs ys z1 z2 ha hb hz z3=>?_;refine Bu z3 λq0 q1 q2=>?_;subst z1 z2;by_cases hx:xs=[]
 .cases O;cases Y;refine Bk (I.tuple ha) λits r1 p1 _=>Bk (I.tuple hb) λa0 r2 p2 _=>Ac0 p1 p2 (r1.FU.mpr hx) (Ao (.ref b) H I rfl (q0 hx))
 .exact op_catT pins s σ H _ _ v u Q I O Y (Ch a b xs ys rfl rfl ha hb hx (Bc hz (q1 hx) (q2 hx)))
theorem Kw (s:AA H H1)(h:H d=none):AA H (upd H1 d o):=λb u q=>by rw[Ak (Ah q h)];exact s b u q
theorem B5 {α:Type}{l:List α}{i:Nat}{x:α}(h:l[i]?=some x):l.take (i+1)=l.take i++[x]:=by
 rw[List.take_succ,h];rfl
theorem join (J:L2.St->Hp->Prop)(h1:∀σ' H',J σ' H'->u D σ' H')(h2:(∀σ' H',J σ' H'->u D σ' H')->Sq t u D σ H):Sq t u D σ H:=h2 h1
theorem Ah3 (vs:List V)(c:Int)(n:Int)(hn:n=vs.length)(h:0<vs.length):∃v,EL vs (c%n)=some v/\v∈vs:=by
 subst hn;have h0:0<=c%(vs.length:Int):=Int.emod_nonneg _ (by omega);have h1:c%(vs.length:Int)<vs.length:=Int.emod_lt_of_pos _ (by omega);obtain⟨j,I⟩:=Int.eq_ofNat_of_zero_le h0;have lt:j<vs.length:=by omega
 refine Ar (vs[j]) ?_ (OK lt);rw[I];exact Bg (KN lt)
def AF (dl:Addr)(H H':Hp):Prop:=∀c u,H c=some u->c≠dl->H' c=some u
theorem AF.trans {dl:Addr}{H H1 H2:Hp}(a:AF dl H H1)(b:AA H1 H2):AF dl H H2:=λc u e n=>b _ _ (a c u e n)
theorem R9 {K:PySem.W.Frag}(ha:H a=some (.tup xs))(hb:H b=some (.tup ys))(O:xs.length+ys.length<=1000)(k:∀p H',AA H H'->H' p=some (.tup (xs++ys))->Q (.ref p) H'):Af3 K (.ref a) (.ref b) H Q:=by
 refine Ch a b xs ys rfl rfl (.inl (.inl ha)) (.inl (.inl hb)) (JY O (by decide)) (Bc (λe=>?_) (λn e=>?_) λ_ _ p I=>k p _ ((AA.refl H).upd I) Aj)
 .subst e;exact k b H (AA.refl H) hb
 .subst e;exact k a H (AA.refl H) (by rw[NB];exact ha)
theorem norm {D:L2.St->Hp->Prop}(e:σ=σ')(h:D σ' H):D σ H:=e▸h
class IY (σ:St) (H:Hp) (te:TE) (t:outParam Th):Prop where
 go:∀H1,AA H H1->∀Q:VK,(∀v H',AA H1 H'->AS H' v t->Q v H')->te σ H1 Q
class ThA (σ:St) (H:Hp) (n:Nat) (ta:TA) (ts:outParam (List Th)):Prop where
 len:ts.length<=n
 go:∀H1,AA H H1->∀Q:List V->Hp->Prop,(∀vs H',AA H1 H'->AL H' vs ts->Q vs H')->ta σ H1 Q
section
instance {i:Int}:IY σ H (tC (.int i)) (.num i):=⟨λH1 _ Q k=>k _ H1 (AA.refl _) rfl⟩
instance {x:Str}:IY σ H (tC (.str x)) (.wd x):=⟨λH1 _ Q k=>k _ H1 (AA.refl _) rfl⟩
theorem IY.var (h:σ[i]?=some (some v))(th:AS H v t):IY σ H (Zz i) t:=⟨λH1 s Q k=>(Ar v h (k _ H1 (AA.refl _) (th.mono s.AE)))⟩
instance:ThA σ H n Q5 []:=⟨KY _,λH1 _ Q k=>k _ H1 (AA.refl _) rfl⟩
instance [a:IY σ H te t] [b:ThA σ H n ta ts]:ThA σ H (n+1) (F6 te ta) (t::ts):=
 ⟨Nat.succ_le_succ b.len,λH1 s Q k=>a.go H1 s _ λv H2 s2 th=>b.go H2 (s.trans s2) _ λvs H3 I O=>k _ H3 (s2.trans I) (Ao v vs rfl (th.mono I.AE) O)⟩
instance [b:ThA σ H 20 ta ts]:IY σ H (An5 ta) (.tup ts):=
 ⟨λH1 s Q k=>b.go H1 s _ λvs H2 s2 th=>⟨by rw[th.len];exact JY b.len (by decide),λp I=>k _ _ (s2.upd I) (Ao p vs rfl Aj (th.mono ((AA.refl H2).upd I).AE))⟩⟩
theorem thing [h:IY σ H0 te t](k:∀v H',AA H H'->AS H' v t->Q v H')(s:AA H0 H:=by exact AA.refl _):te σ H Q:=h.go H s Q k
theorem Hi [b:ThA σ H0 20 ta ts](k:∀p vs H',H p=none->AA H H'->H' p=some (.lst vs)->AL H' vs ts->Q (.ref p) H')(s:AA H0 H:=by exact AA.refl _):Ad7 ta σ H Q:=
 b.go H s _ λvs H2 s2 th=>⟨by rw[th.len];exact JY b.len (by decide),λp I=>k p vs _ (s2.free I) (s2.upd I) Aj (th.mono ((AA.refl H2).upd I).AE)⟩
theorem K1 (ha:H a=some (.lst xs))(hb:H b=some (.lst ys))(O:xs.length+ys.length<=1000)(k:∀p H',H p=none->AA H H'->H' p=some (.lst (xs++ys))->Q (.ref p) H'):Ao5 (.ref a) (.ref b) H Q:=
 (Ch a b xs ys rfl rfl ha hb (zl _ O) λp I=>k p _ I ((AA.refl H).upd I) Aj)
theorem Cs (h:te σ H λx H1=>u D (σ.set i (some x)) H1):Sq (Sw te (Dw i)) u D σ H:=h
theorem Lo (h:ta σ H λxs H1=>xs.length<=sizeLine/\∀p,H1 p=none->Q (.ref p) (upd H1 p (.tup xs))):An5 ta σ H Q:=h
theorem Am7 {Q:List V->Hp->Prop}(h:te σ H λx H1=>ta σ H1 λxs H2=>Q (x::xs) H2):F6 te ta σ H Q:=h
theorem Hh {Q:List V->Hp->Prop}(h:ta σ H λxs H2=>Q (v::xs) H2):F6 (tC v) ta σ H Q:=h
theorem IN (h:te σ H λx H1=>tb σ H1 λy H2=>r x y H2 Q):IG r te tb σ H Q:=h
theorem B8 (h:H p=none)(e:upd H p o=X):AA H X/\X p=some o:=by subst e;exact⟨(AA.refl H).upd h,Aj⟩
theorem L8 (h:AS H v t):AL H [v] [t]:=(Au rfl h rfl)
theorem Ag0 (F:AQ X.prog X.w X.K X.mg X.base k x ps sp)(hr:BB k X.A)(hg:Gl X x)(I:(x==("__debug__":Str))=false:=by decide):QE X (.Call (.Name x p) [] [] pos) (Jt sp [] E0 Q5):=by
 refine Gh F.ex λf fd F hm hk hb=>⟨Ai4 F hr hg hm hk hb .nil pass0 I⟩
theorem Go (h:te σ H D.rt):tRet te D σ H:=h
end
end L2
namespace T
open PySem PySem.Spec PyProof.Rows L2
theorem AN {c:Prop}[Decidable c]{α:Type}{t e:α}(h:¬c:=by decide):(if c then t else e)=e:=JP h
structure CE where
 R:Str->Option (List Str)
 F:Str->Option (List Str×Str)
 κ:Str->Option Str
noncomputable def nn:List Str:=["number","number"]
noncomputable def tt:List Str:=["truth","truth"]
noncomputable def takes:List (Str×List Str):=[("+",nn),("-",nn),("*",nn),("/",nn),("rest",nn),("<",nn),("and",tt),("or",tt),("not",["truth"]),("list",["number"]),("long",["list"]),("at",["list","number"]),("out",["number"]),("store",["list","number","number"])]
noncomputable def gives:List (Str×Str):=[("+","number"),("-","number"),("*","number"),("/","number"),("rest","number"),("<","truth"),("=","truth"),("and","truth"),("or","truth"),("not","truth"),("get","number"),("list","list"),("long","number"),("at","number")]
noncomputable def HG (E:CE)(op:Str)(r:List Th)(ks:List (Option Str)):Option Str:=
 if op="call" then(match r,ks with
  | .wd f::_,_::I=>(match E.F f with|some (ws,k)=>if I=ws.map some then some k else none|none=>none)
  | _,_=>none)
 else if op="new" then(match r with|[.wd n]=>(match E.R n with|some _=>some n|none=>none)|_=>none)
 else if op="get" then(match r,ks with
  | [_,.wd f],[some k,_]=>(match E.R k with|some fl=>if f∈fl then some "number" else none|none=>none)
  | _,_=>none)
 else if op="=" then(match ks with|[some k,k2]=>if(k="number"\/k="truth")/\k2=some k then some "truth" else none|_=>none)
 else(match takes.lookup op,gives.lookup op with|some ws,some k=>if ks=ws.map some then some k else none|_,_=>none)
mutual
noncomputable def kE (E:CE):Th->Option Str
 | .num n=>if -32768<=n/\n<=32767 then some "number" else none
 | .wd x=>if x="yes"\/x="no" then some "truth" else E.κ x
 | .tup []=>none
 | .tup (.num _::_)=>none
 | .tup (.tup _::_)=>none
 | .tup (.wd op::r)=>HG E op r (kL E r)
noncomputable def kL (E:CE):List Th->List (Option Str)
 | []=>[]
 | t::r=>kE E t::kL E r
end
noncomputable def sgn (c:Nat):Bool:=decide (97<=c)&&decide (c<=122)
noncomputable def K2 (x:Str):Bool:=decide (1<=x.length)&&decide (x.length<=8)&&x.cps.toList.all sgn
noncomputable def Da (x:Str):Bool:=K2 x&&!(decide (x="yes")||decide (x="no"))
abbrev Kd:=Str->Option Str
noncomputable def putK (κ:Kd)(x k:Str):Kd:=λy=>if y=x then some k else κ y
structure SE where
 R:Str->Option (List Str)
 F:Str->Option (List Str×Str)
 g:Str
noncomputable def SE.e (s:SE)(κ:Kd):CE:=⟨s.R,s.F,κ⟩
abbrev SR:=Option (Kd×List Str×Bool)
noncomputable def EW (c:Bool)(κ:Kd)(kn:List Str)(e:Bool):SR:=if c then some (κ,kn,e)else none
noncomputable def EZ (s:SE)(op:Str)(r:List Th)(O:List (Kd->List Str->SR))(κ:Kd)(kn:List Str):SR:=
 if op="let" then(match r with|[.wd x,u]=>(match kE (s.e κ) u with|some k=>EW (Da x&&!decide (x∈kn)) (putK κ x k) (x::kn) false|none=>none)|_=>none)
 else if op="put" then(match r with|[.wd x,u]=>(match κ x with|some k=>EW (decide (kE (s.e κ) u=some k)) κ kn false|none=>none)|_=>none)
 else if op="if" then(match r,O with
  | [t,_,_],[_,I,fb]=>if kE (s.e κ) t=some ("truth":Str)then(match I κ kn with
   | some (_,kn1,e1)=>(match fb κ kn1 with|some (_,kn2,Y)=>some (κ,kn2,e1&&Y)|none=>none)
   | none=>none)else none
  | _,_=>none)
 else if op="while" then(match r,O with
  | [t,_],[_,I]=>if kE (s.e κ) t=some ("truth":Str)then(match I κ kn with|some (_,kn1,_)=>some (κ,kn1,false)|none=>none)else none
  | _,_=>none)
 else if op="give" then EW (decide (kL (s.e κ) r=[some s.g])) κ kn true
 else if op="fail" then(match r with|[.num n]=>EW (decide (-32768<=n/\n<=32767)) κ kn true|_=>none)
 else if op="set" then(match r with
  | [t,.wd f,v]=>(match kE (s.e κ) t with
   | some k=>(match s.R k with|some fl=>EW (decide (f∈fl)&&decide (kE (s.e κ) v=some ("number":Str))) κ kn false|none=>none)
   | none=>none)
  | _=>none)
 else if op="out" then EW (decide (kL (s.e κ) r=[some ("number":Str)])) κ kn false
 else if op="store" then EW (decide (kL (s.e κ) r=[some ("list":Str),some ("number":Str),some ("number":Str)])) κ kn false
 else if op="do" then(match r with|[t]=>EW (kE (s.e κ) t).isSome κ kn false|_=>none)
 else none
mutual
noncomputable def BD (s:SE):Th->Kd->List Str->SR
 | .tup (.wd op::r)=>EZ s op r (Cu s r)
 | .tup []=>λ_ _=>none
 | .tup (.num _::_)=>λ_ _=>none
 | .tup (.tup _::_)=>λ_ _=>none
 | .num _=>λ_ _=>none
 | .wd _=>λ_ _=>none
noncomputable def Cu (s:SE):List Th->List (Kd->List Str->SR)
 | []=>[]
 | .tup a::r=>Cb s a::Cu s r
 | .num _::r=>(λ_ _=>none)::Cu s r
 | .wd _::r=>(λ_ _=>none)::Cu s r
noncomputable def Cb (s:SE):List Th->Kd->List Str->SR
 | []=>λκ kn=>some (κ,kn,false)
 | t::r=>λκ kn=>(match BD s t κ kn with
  | some (κ1,kn1,e)=>if e then(if r.isEmpty then some (κ1,kn1,true)else none)else Cb s r κ1 kn1
  | none=>none)
end
def BI:Nat->Th->Prop
 | _,.num _=>True
 | _,.wd _=>True
 | 0,.tup _=>False
 | n+1,.tup l=>∀t∈l,BI n t
theorem Fd:BI n (.wd x):=by unfold BI;trivial
theorem Ep:BI n (.num x):=by unfold BI;trivial
theorem Fe (h:∀t∈l,BI n t):BI (n+1) (.tup l):=by unfold BI;exact h
theorem Qw (h:BI (n+1) (.tup l)):∀t∈l,BI n t:=by unfold BI at h;exact h
theorem Dt (h:BI n a)(h':∀t∈l,BI n t):∀t∈a::l,BI n t:=λt ht=>by
 rcases JC.mp ht with rfl|ht
 .exact h
 .exact h' t ht
theorem Hg:∀t∈([]:List Th),BI n t:=λt ht=>by cases ht
theorem Mf (h':∀t∈l,BI n t)(h:BI n a):∀t∈l++[a],BI n t:=λt ht=>(JV.mp ht).elim (h' t) λz=>by rw[JM.mp z];exact h
theorem BI.mono:∀{n m:Nat} {t:Th},BI n t->n<=m->BI m t
 | _,_,.num _,_,_=>Ep
 | _,_,.wd _,_,_=>Fd
 | 0,_,.tup _,h,_=>by unfold BI at h;cases h
 | n+1,0,.tup _,_,h=>by omega
 | n+1,m+1,.tup l,h,hm=>Fe λt ht=>(Qw h t ht).mono (by omega)
theorem Ab7 (h:BI n a):BI (n+1) (.tup [.wd op,a]):=Fe (Dt Fd (Dt h Hg))
theorem dle2 (h:BI n a)(h2:BI n b):BI (n+1) (.tup [.wd op,a,b]):=Fe (Dt Fd (Dt h (Dt h2 Hg)))
theorem dle3 (h:BI n a)(h2:BI n b)(h3:BI n c):BI (n+1) (.tup [.wd op,a,b,c]):=Fe (Dt Fd (Dt h (Dt h2 (Dt h3 Hg))))
theorem Ej:kE E (.tup (.wd op::r))=HG E op r (kL E r):=by rw[kE]
theorem Cl:BD s (.tup (.wd op::r))=EZ s op r (Cu s r):=by rw[BD]
end T
namespace L2
open PySem PySem.Spec PyProof.Rows
noncomputable def Itk (d:Addr)(o:Obj)(kvs:List (Key×V)):It:=
 ⟨λi H=>H d=some (.DZ o (.dK kvs))/\i<kvs.length,
  λi H v H'=>H'=H/\∃k x,v=kV k/\kvs[i]?=some (k,x),
  λi H=>H d=some (.DZ o (.dK kvs))/\kvs.length<=i⟩
theorem Zw {P:Program}{w:World}{K:PySem.W.Frag}(hd:o.data=.dict es ep) :
  Turn P w K tg (Itk d o kvs) [it] it (λi h=>h.IsKeyIter it d i kvs.length ep) where
 mem:=by simp
 obj:=λi h st b hb=>by
  have e:b=it:=by simpa using hb
  subst e;refine Bk st λo e c d=>?_;exact Ar o e λv z=>by rw[d]at z;cases z
 keep:=λi h h' st k=>by
  refine Bk st λo e c d=>B4 o (k it (by simp) o e) c d
 item:=by
  intro X hP hw hK hc i pins s σ H E I hf st hg;subst hP hw hK;obtain⟨hz,hi⟩:=hg;refine Am (Al5 I hz hd) λvs r Y=>?_;obtain⟨⟨k,v⟩,hv⟩:∃p,kvs[i]?=some p:=⟨_,KN hi⟩;refine Am (Ak1 r hv) λu hu ru=>?_;have len:=Ul r;have O:=st;rw[len]at O;refine G7 (hf it (by simp)) λf0 f1 f2 f3 f4 f5=>wpAny_pyNext_dict_item O Y hu λkey h' a1 a0 sb=>?_;have I1:Inv X pins σ H {s with heap:=h'}:=I.turned (t':=s.toks) (λb o hb e=>(sb.2 b hb).trans e) f0 f1 f3 f4 f5;refine Bk (id a0) λo' e c d'=>?_;exact Ar key rfl (Zg (s:={s with heap:=h'}) e c d' (by decide) (Jp (kV k) H I1 (Zc a1) ⟨rfl,(Ck k v rfl hv)⟩ (by rw[len];exact a0) λb hb=>(hf b hb).1))
 done:=by
  intro X hP hw hK hc i pins s σ H E I hf st hg;subst hP hw hK;obtain⟨hz,hl⟩:=hg;refine Am (Al5 I hz hd) λvs r Y=>?_;have len:=Ul r;have O:=st;rw[len]at O;refine G7 (hf it (by simp)) λf0 f1 f2 f3 f4 f5=>wpAny_pyNext_dict_end (I.ok.hd hc) O Y (List.getElem?_eq_none (by omega)) λh' eb=>⟨rfl,I.turned (t':=s.toks) (λb o hb e=>eb b o hb e) f0 f1 f3 f4 f5⟩
 self:=λ_ _ _ _ _ st h=>wpAny_pyIter_keyiter st h
def iKeys (I:TE):TI:=λσ H R=>I σ H λx H1=>∃d kvs,x=.ref d/\H1 d=some (.dK kvs)/\∀o,R (Itk d o kvs) (upd H1 d (.DZ o (.dK kvs)))
theorem Tw (ho:QE X e td):QI X tg e (iKeys td):=by
 refine⟨λpins s σ H R I h=>AV (ho.go pins s σ H _ I h) λv s1 ⟨x,H1,O,r1,d,kvs,ex,hd,q⟩=>?_⟩;subst ex;cases r1;refine Bu (O.AR d _ hd) λzl hs z1=>?_;refine Am z1 λvs r z2=>?_;refine Rj z2 λob es ep g ex dd a1 pp nn=>?_;have len:=Ul r;refine wpAny_pyIter_dict (knd:=Ci X.prog X.w) (kvs:=vs) (ep:=ep) hs (Md ob es g ex dd a1 pp nn) ?_;have I3:=O.froze (o:=ob) (t':=s1.toks) hd (λ_ z=>nomatch z) (λ_ _ z=>nomatch z) (λ_ z=>nomatch z) (λ_ z=>nomatch z) g;have I4:=I3.kept (t':=s1.toks) (h':=s1.heap.push {cls:=.type "dict_keyiterator",data:=.fields #[.ref d,.int 0 0,.int vs.length 0,.int ep 0]}) λb o q=>JD _ q;have a0:@LT.lt Nat _ d s1.heap.objs.size:=JK g;refine Ff _ [s1.heap.objs.size] _ (Itk d ob kvs) _ rfl I4 (Zw dd) (B0 (JS _ rfl) rfl (by rw[len];rfl)) (λc Y=>?_) (q ob);have Y:c=s1.heap.objs.size:=by simpa using Y
 subst Y;refine O.HX (JG _) ?_;rw[Ak (LS a0)];exact O.AR.fresh (JG _)
theorem Nn {d D:Addr}{o:Obj}{kvs:List (Key×V)}{g:TG}{tt:TT}{te:TE}{σ0:St}{H1:Hp}{Q:Hp->Prop}(Pv:Nat->List V->St->Hp->Prop)(hx:kvs.length<=sizeLine)(hD:H1 D=none)(h0:Pv 0 [] σ0 (upd H1 D (.lst [])))
   (hl:∀i ys σ H,i<=kvs.length->Pv i ys σ H->H d=some (.DZ o (.dK kvs))/\H D=some (.lst ys)/\ys.length<=i)
   (hs:∀i k x ys σ H,kvs[i]?=some (k,x)->Pv i ys σ H->g (kV k) σ H λσ3 H3=>tt σ3 H3 λok O=>if ok=true then te σ3 O λy I=>I D=some (.lst ys)/\Pv (i+1) (ys++[y]) σ3 (upd I D (.lst (ys++[y])))else Pv (i+1) ys σ3 O)
   (hd:∀ys σ H,Pv kvs.length ys σ H->Q H) :
   ∃W:Nat->Nat->St->Hp->Prop,(∃m,W 0 m σ0 (upd H1 D (.lst [])))/\∀i m σ' H',W i m σ' H' ->
     ((Itk d o kvs).stop i H'/\Q H')\/((Itk d o kvs).go i H'/\∃(Ay:V->St->Hp->Prop) (An:St->Hp->Prop),(∀y σ3 I,Ay y σ3 I->∃ys,I D=some (.lst ys)/\ys.length<sizeLine/\∃Y,Y<m/\W (i+1) Y σ3 (upd I D (.lst (ys++[y])))) /\
       (∀σ3 O,An σ3 O->∃Y,Y<m/\W (i+1) Y σ3 O) /\
       ∀x H2,(Itk d o kvs).FY i H' x H2->g x σ' H2 λσ3 H3=>tt σ3 H3 λok O=>if ok=true then te σ3 O (λy I=>Ay y σ3 I)else An σ3 O):=by
 refine Ar (λi m σ H=>m=kvs.length-i/\i<=kvs.length/\∃ys,Pv i ys σ H) (B4 kvs.length (by simp) (KY _) ⟨[],h0⟩) ?_;rintro i m σ H ⟨rfl,hi,ys,p⟩;refine Bu (hl i ys σ H hi p) λz1 z2 z3=>?_
 rcases Nat.lt_or_ge i kvs.length with lt|ge
 . refine .inr ⟨⟨z1,lt⟩,(Ao (λy σ3 I=>I D=some (.lst ys)/\Pv (i+1) (ys++[y]) σ3 (upd I D (.lst (ys++[y])))) (λσ3 O=>Pv (i+1) ys σ3 O) (λy σ3 I q=>(B4 ys q.1 (by omega) (Cv (kvs.length-(i+1)) (by omega) rfl lt ⟨_,q.2⟩))) (λσ3 O q=>(Cv (kvs.length-(i+1)) (by omega) rfl lt ⟨_,q⟩)) λx H2 y=>?_)⟩;refine Fg y λz1 z2=>?_;refine Co z2 λk x' z3 e=>?_;subst z1 z3;exact hs i k x' ys σ _ e p
 . obtain rfl:i=kvs.length:=Nat.le_antisymm hi ge;exact .inl ⟨⟨z1,JG _⟩,hd ys σ H p⟩
theorem Inv.thaw (I:Inv X pins σ H s)(hd:H d=some (.DZ o u))(nt:∀xs,u≠.tup xs)(nb:∀ps,u≠.tbl ps)(h0:∀o' O,X.H₀ d≠some (.DZ o' O)):Inv X pins σ (upd H d u) s:=by
 have keep:∀b o',H b=some o'->b≠d->upd H d u b=some o':=λb o' q n=>by rw[Ak n];exact q
 have Y:∀b,H b=none->upd H d u b=none:=λb q=>by rw[Ak λz=>by rw[z,hd]at q;cases q];exact q
 refine⟨I.ok,I.os,I.bare,⟨I.base.keep,I.base.slot,λb o' q n x=>Y b (I.base.free b o' q n x),I.base.there,λb xs q=>keep b _ (I.base.AE b xs q) λz=>?_,λb o' O q=>keep b _ (I.base.DS b o' O q) λz=>h0 o' O (z▸q),λb ps q=>?_⟩,I.loc,I.cell,Y _ I.free,λx c q=>Y c (I.BZ x c q),λp hp=>?_,λa o' q=>?_,I.len⟩
 .have:=I.base.AE b xs q;rw[z,hd]at this;cases this
 .obtain⟨more,q'⟩:=I.base.ES b ps q;exact⟨more,keep b _ q' λz=>by rw[z,hd]at q';cases q'⟩
 .refine Bu (I.pin p hp) λa1 a2 a3=>Bc a1 (Y _ a2) a3
 .by_cases ha:a=d
  .subst ha;rw[Aj]at q;cases q;obtain⟨_,ok⟩:=I.AR a _ hd;exact ok.EJ (λ_ _ _ q=>q) (λb q=>keep b _ q λz=>by rw[z,hd]at q;cases q) λb xs q=>keep b _ q λz=>by rw[z,hd]at q;cases q
  .rw [Ak ha]at q;exact(I.AR a o' q).EJ (λ_ _ _ q=>q) (λb q=>keep b _ q λz=>by rw[z,hd]at q;cases q) λb xs q=>keep b _ q λz=>by rw[z,hd]at q;cases q
theorem Inv.nofrz (I:Inv X pins σ H s)(hd:H d=some (.dK kvs)):∀o' O,X.H₀ d≠some (.DZ o' O):=λo' O z=>by
 have:=I.base.DS d o' O z;rw[hd]at this;cases this
def tThwS (ts:TS):TS:=λD σ H=>∃d kvs,H d=some (.dK kvs)/\ts {D with nx:=λσ' H1=>∃o,H1 d=some (.DZ o (.dK kvs))/\D.nx σ' (upd H1 d (.dK kvs))} σ H
theorem Xf {X:Cx}{st:Stmt}{ts:TS}(h:QS X st ts):QS X st (tThwS ts):=⟨λpins s σ H D I q=>by
 obtain⟨d,kvs,hd,q⟩:=q;refine AV (h.go pins s σ H _ I q) λf s1 z=>?_
 cases f with
 | next=>
  refine Co z λσ' H' O z1=>?_;refine Am z1 λo hf Y=>Ck σ' _ (O.thaw hf (λ_ z=>nomatch z) (λ_ z=>nomatch z) (I.nofrz hd)) Y
 | brk=>exact z
 | cont=>exact z
 | ret u=>exact z⟩
theorem Rw:∀{kvs:List (Key×V)} {vs:List (Key×Value)} {its:List Value},KV kvs vs->its.length=vs.length->(∀(j:Nat) v,its[j]?=some v->∃k x,vs[j]?=some (k,x)/\N0 k v=true)->AG (kvs.map λp=>kV p.1) its
 | _,_,[],.nil,_,_=>.nil
 | _,_,u::us,.nil,h,_=>by cases h
 | _,_,[],.cons _ _,h,_=>by cases h
 | _,_,u::us,.cons (a:=a) (b:=b) h r,hl,O=>by
  refine Co (O 0 u rfl) λk x e1 I=>?_;have e1:b=(k,x):=by simpa using e1
  have Y:a.1=k:=by rw[h.1,e1]
  exact .cons (by show RelV (kV a.1) u;rw[Y];exact Zc I) (Rw r (by simpa using hl) λj v e=>by
   refine Co (O (j+1) v (by simpa using e)) λk x e1 I=>(Ck k x (by simpa using e1) I))
theorem G0 (hc:X.calm=true):Ex X (.type "list") (λxs H Q=>∃(a:Addr) (kvs:List (Key×V)),xs=[.ref a]/\Rd H a (.dK kvs)/\∀l,H l=none->Q (.ref l) (upd H l (.lst (kvs.map λp=>kV p.1)))):=by
 intro pins s σ H xs us Q I r h;refine A0 h λa kvs O ha q=>?_;subst O;refine Am (K4 r) λu O ru=>?_;subst O;cases ru;refine Bu (K7 I.AR ha) λz hS O=>?_;refine Am O λvs Y dd=>?_;obtain⟨ep,da⟩:=dd.dictAt;have len:=Ul Y;refine PySem.W.kdl_call (PySem.W.kdl_dict (knd:=Ci X.prog X.w) (kvs:=vs) (ep:=ep) hS) (I.ok.hd hc) da (by rw[← len];exact z) λh' tk a0 c' hk hD a1=>?_;have rv:AG (kvs.map λp=>kV p.1) a0.toList:=Rw Y (by rw[NP];exact a1.1) λj v e=>a1.2 j v (by rw[← Array.getElem?_toList];exact e);exact Ao (.ref s.heap.objs.size) _ (I.laid (t':=tk) hk (JG _) (show AX X.prog X.w _ h' _ (.lst _)from⟨by rw[JB];exact z,(Ck a0.toList c' rv (by rw[Array.toArray_toList];exact hD))⟩)) rfl (q _ (I.AR.fresh (JG _)))
section
theorem qf (F:AQ X.prog X.w X.K X.mg X.base k x ps sp)(hr:BB m X.A)(ha:QA X (e::es) t)(hk:k<=m:=by omega)(hg:Gl X x:=by rfl)(I:(x==("__debug__":Str))=false:=by decide)(he:starEach (e::es) X.env=(false,eval e X.env)::starEach es X.env:=by rfl)(O:(backTo pos (starEach es X.env)).any (·.1)=false:=by rfl):QE X (.Call (.Name x p) (e::es) [] pos) (Jt sp [] E0 t):=qe_fn F (hr.mono hk) hg ha I he O
theorem CD (F:AU X.prog X.w X.K X.mg X.base k x ps sp)(I:Fx (DP X.prog X.w) X E)(hr:BB m X.A)(ha:QA X (e::es) t)(hk:k<=m:=by omega)(hg:Gl X x:=by rfl)(O:(x==("__debug__":Str))=false:=by decide)(he:starEach (e::es) X.env=(false,eval e X.env)::starEach es X.env:=by rfl)(Y:(backTo pos (starEach es X.env)).any (·.1)=false:=by rfl):QE X (.Call (.Name x p) (e::es) [] pos) (Jt sp [] E t):=qe_fn1 F I (hr.mono hk) hg ha O he Y
theorem Bd (i:Nat)(I:X.N.Nodup)(he:QE X e te)(hi:X.N[i]?=some x:=by rfl)(hx:Loc X.env.scope x:=by exact Or.inl rfl)(hs:swapsWith e (some (.Name x O)) pos.line X.env=pure false:=by rfl)(hf:X.fn x=true\/X.env.scope.names.lookup x=some .local:=by first|exact .inl rfl|exact .inr rfl|assumption):QS X (.Assign [.Name x O] e pos) (Sw te (Dw i)):=Tu I hi hx he hs hf
theorem HE (i:Nat)(I:X.N.Nodup)(hi:X.N[i]?=some x:=by rfl)(hx:Loc X.env.scope x:=by exact Or.inl rfl)(hf:X.fn x=true\/X.env.scope.names.lookup x=some .local:=by first|exact .inl rfl|exact .inr rfl|assumption):QG X (.Name x pos) (Dw i):=Ys I hi hx hf
theorem GD (i:Nat)(I:X.N.Nodup:=by show List.Nodup (_:List Str);dsimp only[CB];decide +kernel)(hi:X.N[i]?=some x:=by rfl)(hx:Loc X.env.scope x:=by exact Or.inl rfl)(hf:X.fn x=true\/X.env.scope.names.lookup x=some .local:=by first|exact .inl rfl|exact .inr rfl|assumption):QG X (.Name x pos) (Dw i):=Ys I hi hx hf
theorem BY (ha:QE X a ta)(hb:QE X b tb)(hs:Uy b:=by exact λ_ _=>rfl):QE X (.Subscript a b pos) (IG (Ve X.K) ta tb):=Dv Lj ha hb hs
theorem BP (hr:BB m X.A)(ha:QE X a ta)(hb:QE X b tb)(hs:Ac4 b:=by exact λ_ _=>rfl):QE X (.Subscript a b pos) (Ae0 ta tb):=Ap2 (Dn hr) ha hb hs
theorem By (I:CV X (compareOp op) r)(ha:QE X a ta)(hb:QE X b tb)(hm:behindInMarks op b=false:=by exact Aj2 _):QT X (.Compare a [op] [b] pos) (U5 (IG r ta tb)):=Tt I ha hb hm
theorem GC (I:CV X (compareOp op) r)(ha:QE X a ta)(hb:QE X b tb)(hm:behindInMarks op b=false:=by exact Aj2 _):QE X (.Compare a [op] [b] pos) (IG r ta tb):=Iy I ha hb hm
end
section
theorem AT (ha:QE X a ta)(s1:starEach [a] X.env=(false,eval a X.env)::starEach [] X.env:=by rfl):QA X [a] (F6 ta Q5):=Bq ha Cg s1
theorem AJ (ha:QE X a ta)(hb:QE X b tb)(s1:starEach [a,b] X.env=(false,eval a X.env)::starEach [b] X.env:=by rfl)(s2:starEach [b] X.env=(false,eval b X.env)::starEach [] X.env:=by rfl):QA X [a,b] (F6 ta (F6 tb Q5)):=Bq ha (AT hb s2) s1
theorem AO (ha:QE X a ta)(hb:QE X b tb)(I:QE X c Y)(s1:starEach [a,b,c] X.env=(false,eval a X.env)::starEach [b,c] X.env:=by rfl)(s2:starEach [b,c] X.env=(false,eval b X.env)::starEach [c] X.env:=by rfl)(O:starEach [c] X.env=(false,eval c X.env)::starEach [] X.env:=by rfl):QA X [a,b,c] (F6 ta (F6 tb (F6 Y Q5))):=Bq ha (AJ hb I s2 O) s1
theorem BF (ha:QE X a ta)(hb:QE X b tb)(I:QE X c tc)(hd:QE X d td)(s1:starEach [a,b,c,d] X.env=(false,eval a X.env)::starEach [b,c,d] X.env:=by rfl)(s2:starEach [b,c,d] X.env=(false,eval b X.env)::starEach [c,d] X.env:=by rfl)(O:starEach [c,d] X.env=(false,eval c X.env)::starEach [d] X.env:=by rfl)(Y:starEach [d] X.env=(false,eval d X.env)::starEach [] X.env:=by rfl):QA X [a,b,c,d] (F6 ta (F6 tb (F6 tc (F6 td Q5)))):=Bq ha (AO hb I hd s2 O Y) s1
theorem Ey (hm:X.mg x=none)(ha:QE X a ta)(I:bootBuiltins x=some (.builtin "len"):=by exact NT)(hg:Gl X x:=by rfl)(hn:x≠"__name__":=by decide)(O:(x==("__debug__":Str))=false:=by decide)(s1:starEach [a] X.env=(false,eval a X.env)::starEach [] X.env:=by rfl):QE X (.Call (.Name x p) [a] [] pos) (tCB (λxs H Q=>∃p ys,xs=[V.ref p]/\(AW X.K H p ys\/BW X.K H p ys)/\Q (.int ys.length) H) (F6 ta Q5)):=Bl Ji hg hm I (AT ha s1) hn O s1 rfl
end
theorem Za {a:V}{l:List V}:List.map some (a::l)=some a::List.map some l:=rfl
theorem Y9:List.map some ([]:List V)=[]:=rfl
theorem Zo {a:Option V}{l r:List (Option V)}:a::l++r=a::(l++r):=rfl
theorem Zn {r:List (Option V)}:[]++r=r:=rfl
theorem FS (nd:N.Nodup:=by decide +kernel)(par:∀x∈P,sc.names.lookup x=some .local\/sc.names.lookup x=some .cell:=by decide +kernel)(HU:∀y∈sc.names,y.2≠.free:=by decide +kernel)(pre:N.take P.length=P:=by rfl)(k:sc.kind=.function:=by rfl)(c:sc.isCoroutine=false:=by rfl)(g:sc.isGenerator=false:=by rfl):AD N P sc:=⟨k,c,g,nd,pre,par,HU⟩
theorem At.o (I:List Str)(HN:closureFor scope X.env=pure cl:=by rfl)(k:scope.kind=.function:=by rfl)(O:∀y∈scope.names,y.2≠.cell:=by decide)
  (hn:∀y∈scope.names,y.2=.local->scope.names.lookup y.1=some .local:=by decide)(hl:N'.length=n+js.length:=by rfl)(a2:∀p∈cl,X.env.cells.lookup p.1=some p.2:=by repeat (first|exact List.forall_mem_nil _|refine List.forall_mem_cons.mpr ⟨rfl,?_⟩))(Y:cl.map (·.1)=I:=by rfl)(a1:∀y∈scope.names,y.2=.free->y.1∈I:=by decide +kernel)
  (a0:∀q∈js.zip (N'.drop n),X.N[q.1]?=some q.2/\scope.names.lookup q.2=some .free/\(X.env.kindOf q.2=some .cell\/X.env.kindOf q.2=some .free):=by repeat (first|exact List.forall_mem_nil _|refine List.forall_mem_cons.mpr ⟨⟨rfl,rfl,Or.inl rfl⟩,?_⟩|refine List.forall_mem_cons.mpr ⟨⟨rfl,rfl,Or.inr rfl⟩,?_⟩)):At X scope cl N' n js:=At.of HN k O hn hl a2 I Y a1 a0
theorem At.n {X:Cx}{scope:Scope}{N':List Str}{n:Nat}(k:scope.kind=.function:=by rfl)(I:∀y∈scope.names,y.2≠.cell:=by decide)(hf:∀y∈scope.names,y.2≠.free:=by decide)(hn:∀y∈scope.names,y.2=.local->scope.names.lookup y.1=some .local:=by decide)(hl:N'.length=n:=by rfl):At X scope [] N' n []:=At.nil k I hf hn hl
section
variable {P:Program}{w:World}{K:PySem.W.Frag}{mg:Str->Option Value}{base:Heap}{x qual:Str}{st:Stmt}{f:Addr}{fd:FuncData}{N ps:List Str}{k:Nat}{sp:Sp}
theorem BE.CZ (F:BE K x qual st f fd)(S:AD N ps (Aq st)) (I:∀(cdv:Value) (A:Around) (outer:List Env) (s:Shared) (H:Hp) (vs:List V) (Q:VK) (E:XK),BB k (A.deeper (envOfC qual (Aq st) s.heap.objs.size f cdv))->sp vs H Q E ->
   ∃t,IB (Nl BV P w K mg base N qual (Aq st) f cdv A outer s H E).nox (Cn st) t/\t {nx:=λ_ H'=>Q .BO H',rt:=Q} (start N vs) H) (len:∀vs H Q E,sp vs H Q E->vs.length=ps.length:=by intro vs H Q E h;repeat (first|(obtain⟨rfl,_⟩:=h;rfl)|(obtain⟨_,h⟩:=h))):AI P w K mg base BV (k+1) f fd ps sp:=F.okQ S len I
theorem BE.DM (F:BE K x qual st f fd)(S:AD N ps (Aq st)) (I:∀(cdv:Value) (A:Around) (outer:List Env) (s:Shared) (H:Hp) (vs:List V) (Q:VK) (E:XK),BB k (A.deeper (envOfC qual (Aq st) s.heap.objs.size f cdv))->sp vs H Q E ->
   ∃t,IB (Nl (DP P w) P w K mg base N qual (Aq st) f cdv A outer s H E) (Cn st) t/\t {nx:=λ_ H'=>Q .BO H',rt:=Q} (start N vs) H) (len:∀vs H Q E,sp vs H Q E->vs.length=ps.length:=by intro vs H Q E h;repeat (first|(obtain⟨rfl,_⟩:=h;rfl)|(obtain⟨_,h⟩:=h))):AI P w K mg base (DP P w) (k+1) f fd ps sp:=F.ok1 S len I
end
end L2
namespace T
open PySem PySem.Spec PyProof.Rows L2
def top (i:Nat):Stmt:=PySem.Challenge.pw_passpapers_k07_kinds_refused.main.body.getD i (.Pass ⟨0,0,0,0⟩)
abbrev M6:Stmt:=top 10
abbrev Hn:Stmt:=top 11
abbrev J8:Stmt:=top 14
abbrev Ld:Stmt:=top 15
abbrev Tn:Stmt:=top 17
abbrev Yp:Stmt:=top 25
abbrev Tp:Stmt:=top 26
abbrev M7:Stmt:=top 27
abbrev Jx:Stmt:=top 28
abbrev Hj:Stmt:=top 29
abbrev Tq:Stmt:=top 30
abbrev Jz:Stmt:=top 31
abbrev Jy:Stmt:=top 32
abbrev J3:Stmt:=top 33
abbrev E7:Stmt:=top 34
abbrev La:Stmt:=top 35
abbrev K9:Stmt:=top 36
abbrev Mx:Stmt:=top 37
abbrev Im:Stmt:=top 38
abbrev J0:Stmt:=top 39
abbrev J2:Stmt:=top 40
abbrev K8:Stmt:=top 41
abbrev Ip:Stmt:=top 42
abbrev My:Stmt:=top 43
abbrev J7:Stmt:=top 45
abbrev Iv:Stmt:=top 46
abbrev Io:Stmt:=top 47
abbrev Iq:Stmt:=top 48
abbrev Qa:Stmt:=top 50
abbrev M5:Stmt:=top 51
abbrev P7:Stmt:=top 52
abbrev Mz:Stmt:=top 53
abbrev M1:Stmt:=top 54
abbrev Qb:Stmt:=top 55
abbrev Gn:Stmt:=top 56
abbrev Hk:Stmt:=top 57
abbrev M0:Stmt:=top 58
abbrev M3:Stmt:=top 59
abbrev P8:Stmt:=top 60
abbrev Tm:Stmt:=top 61
abbrev Tl:Stmt:=top 62
abbrev P9:Stmt:=top 63
abbrev Hl:Stmt:=top 64
abbrev P6:Stmt:=top 65
abbrev Lc:Stmt:=top 66
abbrev Iu:Stmt:=top 67
abbrev P5:Stmt:=top 68
abbrev M4:Stmt:=top 69
abbrev Ir:Stmt:=top 70
abbrev Lb:Stmt:=top 71
abbrev J6:Stmt:=top 72
abbrev Hm:Stmt:=top 73
abbrev E8:Stmt:=top 74
abbrev sLaw:Stmt:=top 75
abbrev Mw:Stmt:=inClass (top 24) 0
structure BH (K:PySem.W.Frag)(mg:Str->Option Value):Prop where
 AY:mg "len"=none
 AH:mg "isinstance"=none
 II:mg "int"=none
 n_bool:mg "bool"=none
 FK:mg "str"=none
 BR:mg "tuple"=none
 FF:mg "list"=none
 HC:mg "dict"=none
 n_zip:mg "zip"=none
 n_max:mg "max"=none
 BJ:mg "range"=none
 HJ:mg "all"=none
 HQ:mg "enumerate"=none
def Tab {α:Type}(R:V->α->Prop):List (Key×V)->List (Str×α)->Prop:=Paired λp q=>p.1=Sum.inr q.1/\R p.2 q.2
def CI (H:Hp)(ad:Addr)(v:V)(xs:List Str):Prop:=∃a,v=.ref a/\a≠ad/\H a=some (.lst (xs.map V.str))/\xs.length<=100
structure FH where
 ks:List Str
 k:Str
 ps:List Str
def Fns (H:Hp)(ad:Addr)(v:V)(f:FH):Prop:=∃t v1 v3,v=.ref t/\H t=some (.tup [v1,.str f.k,v3])/\CI H ad v1 f.ks/\CI H ad v3 f.ps
structure GS where
 AB:List (Str×List Str)
 AC:List (Str×FH)
 seen:List (Str×List Str)
 given:Str
 ar:Addr
 af:Addr×Option V
 bs:List Addr
structure Drw (H:Hp)(d ad:Addr):Prop where
 hd:∃kvs,H d=some (.dK kvs)/\Bm kvs (Sum.inr "draws")=some (.ref ad)
 dr:∃ds:List Int,H ad=some (.lst (ds.map V.int))
structure NowAt (H:Hp)(d ad:Addr)(S:GS)(kvs:List (Key×V))(ar af as:Addr)(kr kf ks:List (Key×V)):Prop where
 hd:H d=some (.dK kvs)
 vd:Bm kvs (Sum.inr "draws")=some (.ref ad)
 vr:Bm kvs (Sum.inr "records")=some (.ref ar)
 vf:Bm kvs (Sum.inr "functions")=some (.ref af)
 vs:Bm kvs (Sum.inr "seen")=some (.ref as)
 vg:Bm kvs (Sum.inr "given")=some (.str S.given)
 hr:H ar=some (.dK kr)
 hf:H af=some (.dK kf)
 hs:H as=some (.dK ks)
 tr:Tab (CI H ad) kr S.AB
 tf:Tab (Fns H ad) kf S.AC
 ts:Tab (CI H ad) ks S.seen
 ap:(as≠d/\af≠d/\ar≠d)/\as≠ar/\as≠af
 ea:ar=S.ar
 eb:af=S.af.1/\Bm kvs (Sum.inr "stock")=S.af.2
 kl:kvs.length<=7
structure GK (H:Hp)(d ad:Addr)(S:GS):Prop where
 dr:Drw H d ad
 ex:∃kvs ar af as kr kf ks,NowAt H d ad S kvs ar af as kr kf ks
theorem GK.re {H:Hp}{d ad:Addr}{S:GS}(N:GK H d ad S):∃kvs ar kr,H d=some (.dK kvs)/\Bm kvs (Sum.inr "records")=some (.ref ar)/\H ar=some (.dK kr)/\Tab (CI H ad) kr S.AB:=
 let ⟨kvs,ar,_,_,kr,_,_,n⟩:=N.ex;(Ek kvs ar kr n.hd n.vr n.hr n.tr)
theorem GK.fu {H:Hp}{d ad:Addr}{S:GS}(N:GK H d ad S):∃kvs af kf,H d=some (.dK kvs)/\Bm kvs (Sum.inr "functions")=some (.ref af)/\H af=some (.dK kf)/\Tab (Fns H ad) kf S.AC/\d≠af:=
 let ⟨kvs,_,af,_,_,kf,_,n⟩:=N.ex;(Et kvs af kf n.hd n.vf n.hf n.tf n.ap.1.2.1.symm)
theorem GK.se {H:Hp}{d ad:Addr}{S:GS}(N:GK H d ad S):∃kvs as ks,H d=some (.dK kvs)/\Bm kvs (Sum.inr "seen")=some (.ref as)/\H as=some (.dK ks)/\Tab (CI H ad) ks S.seen:=
 let ⟨kvs,_,_,as,_,_,ks,n⟩:=N.ex;(Ek kvs as ks n.hd n.vs n.hs n.ts)
section
variable {H H':Hp}{d ad:Addr}{S:GS}
theorem CI.keep (k:AF ad H H')(h:CI H ad v xs):CI H' ad v xs:=by
 refine Q1 h λa e n g l=>Cv a e n (k _ _ g n) l
theorem Fns.keep (dr:Drw H d ad)(k:AF ad H H')(h:Fns H ad v f):Fns H' ad v f:=by
 refine Jf h λt v1 v3 e g a b=>?_;obtain⟨ds,hd⟩:=dr.dr;exact Ek t v1 v3 e (k _ _ g (Bb g hd (by simp))) (a.keep k) (b.keep k)
theorem Tab.imp {α:Type}{R I:V->α->Prop}(i:∀v x,R v x->I v x):∀{kvs:List (Key×V)} {tab:List (Str×α)},Tab R kvs tab->Tab I kvs tab:=λh=>by
 unfold Tab at *
 induction h with
 | nil=>exact .nil
 | cons a _ O=>exact .cons ⟨a.1,i _ _ a.2⟩ O
theorem GK.keep (N:GK H d ad S)(k:AF ad H H')(dr:∃ds:List Int,H' ad=some (.lst (ds.map V.int))):GK H' d ad S:=by
 have nd:∀{a:Addr} {kvs:List (Key×V)},H a=some (.dK kvs)->H' a=some (.dK kvs):=λg=>by
  obtain⟨ds,hd⟩:=N.dr.dr;exact k _ _ g (Bb g hd (by simp))
 refine Am N.dr.hd λa0 I O=>?_;refine Dp N.ex λkvs ar af as kr kf Y=>?_;obtain⟨ks,n⟩:=Y;exact⟨⟨(Ar a0 (nd I) O),dr⟩,kvs,ar,af,as,kr,kf,ks,nd n.hd,n.vd,n.vr,n.vf,n.vs,n.vg,nd n.hr,nd n.hf,nd n.hs,n.tr.imp λv x=>CI.keep k,n.tf.imp λv x=>Fns.keep N.dr k,n.ts.imp λv x=>CI.keep k,n.ap,n.ea,n.eb,n.kl⟩
end
def DQ (ad:Addr)(H:Hp)(Q:Hp->Prop):Prop:=∀H',AF ad H H'->(∃ds:List Int,H' ad=some (.lst (ds.map V.int)))->Q H'
def Jv:Sp:=λvs H Q _=>∃d ad,vs=[.ref d]/\Drw H d ad/\∀n:Int,DQ ad H λH'=>Q (.int n) H'
def D7 (S:GS)(k:Str):Prop:=k="number"\/k="truth"\/k="list"\/k∈S.AB.map (·.1)
structure Rec0 (H:Hp)(d ad:Addr)(S:GS):Prop where
 dr:Drw H d ad
 re:∃kvs ar kr,H d=some (.dK kvs)/\Bm kvs (Sum.inr "records")=some (.ref ar)/\H ar=some (.dK kr)/\Tab (CI H ad) kr S.AB
theorem GK.r0 {H:Hp}{d ad:Addr}{S:GS}(N:GK H d ad S):Rec0 H d ad S:=⟨N.dr,N.re⟩
def Px:Sp:=λvs H Q _=>∃d ad S,vs=[.ref d]/\Rec0 H d ad S/\S.AB.length<=10/\∀k,D7 S k->DQ ad H λH'=>Q (.str k) H'
theorem Tab.len {α:Type}{R:V->α->Prop}{kvs:List (Key×V)}{tab:List (Str×α)}(h:Tab R kvs tab):kvs.length=tab.length:=by
 unfold Tab at h
 induction h with
 | nil=>rfl
 | cons _ _ I=>rw[JR,JR,I]
theorem Tab.key {α:Type}{R:V->α->Prop}{kvs:List (Key×V)}{tab:List (Str×α)}(h:Tab R kvs tab)(I:p∈kvs):∃n,n∈tab.map (·.1)/\kV p.1=.str n:=by
 unfold Tab at h
 induction h with
 | nil=>cases I
 | @cons a b _ _ h1 _ O=>
  rcases JC.mp I with rfl|I
  .exact Ar b.1 JJ (by rw[h1.1];rfl)
  .refine Am (O I) λn hn e=>Ar n (JE _ hn) e
def Ps:Sp:=λvs H Q _=>∃d ad l xs,vs=[.ref d,.ref l]/\Drw H d ad/\l≠ad/\H l=some (.lst xs)/\xs≠[]/\∀x∈xs,DQ ad H λH'=>Q x H'
section
variable {P:Program}{w:World}{K:PySem.W.Frag}{mg:Str->Option Value}{base:Heap}
theorem EK:AD ["_law_state"] ["_law_state"] (Aq P7):=FS
theorem Vj (F:BE K "_law_next" "_law_next" P7 f fd)(T:BH K mg):AI P w K mg base BV 1 f fd ["_law_state"] Jv:=by
 refine F.CZ EK λcdv A outer s H vs Q E hr h=>?_
 .refine A0 h λd ad O D k=>?_;subst O;have nd:=EK.nd;refine Am D.hd λkvs hd I=>?_;obtain⟨ds,ha⟩:=D.dr;have hg:AK H d (.str "draws") (some (.ref ad)):=by rw[← I];exact AK.k (k:=Sum.inr "draws") hd
  refine Ae (Ag (Bz (By F1 (Ey T.AY (BP hr (qv 0) Ad)) Af) (Al (Aw (Lf KD MW MX Nd (BP hr (qv 0) Ad)))) Be) (Al (Aw Af))) (Ae rfl (Ao d _ rfl hg (Ao ad _ rfl (.inl (AW.of ha)) (Au rfl rfl (Ae rfl (Bw (λc=>?_) (λc=>k 0 H (λ_ _ e _=>e) ⟨ds,ha⟩)))))));obtain⟨zs,x,rfl⟩:∃zs x,ds=zs++[x]:=by
   rcases List.eq_nil_or_concat ds with rfl|⟨zs,x,rfl⟩
   .cases c
   .exact Ki zs x (by simp)
  refine Ae rfl (Cj d _ rfl hg (.inl ⟨rfl,_,AW.of ha⟩) (Et ad _ (.int x) rfl rfl ha (by simp) ?_));exact k x _ (λq u e n=>by rw[Ak n];exact e) ⟨zs,by rw[Aj];simp⟩
theorem DE:AD ["_law_now","_law_some"] ["_law_now","_law_some"] (Aq M3):=FS
theorem Rf (F:BE K "_law_one_of" "_law_one_of" M3 f fd)(T:BH K mg)(a0:AQ P w K mg base 1 "_law_next" ["_law_state"] Jv):AI P w K mg base BV 2 f fd ["_law_now","_law_some"] Ps:=by
 refine F.CZ DE λcdv A outer s H vs Q E hr h=>?_
 .refine F3 h λd ad l xs z1 D nl hl ne k=>?_;subst z1;have nd:=DE.nd;refine Ae (Al (Aw (Dv Dj (qv 1) (Ap Bh (qf a0 hr (AT (qv 0))) (Ey T.AY (qv 1))) (λ_ _=>rfl)))) (Ae rfl (Ae rfl (Ao d ad rfl D λn H1 k1 O=>?_)));have hp:0<xs.length:=List.length_pos_iff.mpr ne;have h0:0<=n%(xs.length:Int):=Int.emod_nonneg _ (by omega);have h1:n%(xs.length:Int)<xs.length:=Int.emod_lt_of_pos _ (by omega);obtain⟨j,Y,I⟩:∃j:Nat,n%(xs.length:Int)=j/\j<xs.length:=(Ar ((n%(xs.length:Int)).toNat) (by omega) (by omega));refine Ae rfl (Ao l _ rfl (.inl (AW.of (k1 _ _ hl nl))) (Bp rfl rfl (by show(0:Int)<(xs.length:Int);omega) (Bo l _ _ (xs[j]) rfl rfl (AW.of (k1 _ _ hl nl)) (by show EL xs (n%(xs.length:Int))=_;rw[Y];exact Bg (KN I)) ?_)));exact k _ (OK I) H1 k1 O
theorem EF:AD ["_law_now"] ["_law_now"] (Aq P8):=FS
theorem Vk (F:BE K "_law_kind" "_law_kind" P8 f fd)(T:BH K mg)(a0:AQ P w K mg base 2 "_law_one_of" ["_law_now","_law_some"] Ps):AI P w K mg base BV 3 f fd ["_law_now"] Px:=by
 refine F.CZ EF λcdv A outer s H vs Q E hr h=>?_
 .refine Jf h λd ad S I N hl k=>?_;subst I;have nd:=EF.nd;refine Jf N.re λkvs ar kr h1 h2 h3 h4=>?_;obtain⟨ds,ha⟩:=N.dr.dr;refine Ae (Al (Aw (qf a0 hr (AJ (qv 0) (Ap Bj (Az (BF Ad Ad Ad Ad)) (Cc (G0 rfl) rfl T.FF boot_list (AT (BP hr (qv 0) Ad)))))))) (B0 rfl (zl 4) λl1 q1=>?_);generalize I:upd _ l1 _=H1;obtain⟨s1,g1⟩:=B8 q1 I;refine Ae rfl (Ao d _ rfl (by rw[← h2];exact AK.k (k:=Sum.inr "records") (s1 _ _ h1)) (Ao ar kr rfl (.of (s1 _ _ h3)) λl2 q2=>?_));generalize z2:upd _ l2 _=H2;obtain⟨s2,g2⟩:=B8 q2 z2;have lk:=h4.len;refine K1 (s2 _ _ g1) g2 (by rw[JB,lk];show 4+_<=1000;omega) λl3 H3 f3 s3 g3=>?_;have sa:=s1.trans (s2.trans s3);have N3:Drw H3 d ad:=by
   refine Am N.dr.hd λkv m1 m2=>⟨(Ar kv (sa _ _ m1) m2),ds,sa _ _ ha⟩
  refine Ch d ad l3 _ rfl N3 ((Ah (s1.trans s2 _ _ ha) f3).symm) g3 (by simp) λx hx=>?_;intro O k4 Y
  rcases JV.mp hx with hx|hx
  .simp only[JC,JI,KG]at hx;have hk:∃k,x=.str k/\D7 S k:=by
    rcases hx with rfl|rfl|rfl|rfl
    .exact Ae rfl (.inl rfl)
    .exact Ae rfl (.inl rfl)
    .exact Ae rfl (.inr (.inl rfl))
    .exact Ae rfl (.inr (.inr (.inl rfl)))
   refine Am hk λkk I ok=>?_;subst I;exact k kk ok O (λq u e n=>k4 _ _ (sa _ _ e) n) Y
  .refine Am (JT.mp hx) λp hp I=>?_;subst I;refine Am (h4.key hp) λn hn e=>?_;rw[e];exact k n (.inr (.inr (.inr hn))) O (λq u e n=>k4 _ _ (sa _ _ e) n) Y
structure DL (S:GS)(E:CE):Prop where
 re:∀n fl,(n,fl)∈S.AB->E.R n=some fl/\fl≠[]
 fu:∀f h,(f,h)∈S.AC->E.F f=some (h.ks,h.k)/\∀k∈h.ks,D7 S k
 se:∀k xs x,(k,xs)∈S.seen->x∈xs->E.κ x=some k/\x≠"yes"/\x≠"no"
 rl:S.AB.length<=10
 ff:S.AC.length<=10
 rn:∀n:Str,n∈S.AB.map (·.1)->n≠"number"/\n≠"truth"/\n≠"list"
section
theorem Gw (h:-32768<=n/\n<=32767):kE E (.num n)=some ("number":Str):=by rw[kE,JN h]
theorem Ak9 {x:Str}(h:x="yes"\/x="no"):kE E (.wd x)=some ("truth":Str):=by rw[kE,JN h]
theorem kE_var (h:DL S E)(hk:(k,xs)∈S.seen)(hx:x∈xs):kE E (.wd x)=some k:=by
 refine Bu (h.se k xs x hk hx) λa b c=>?_;rw[kE,JP (PJ.mpr ⟨b,c⟩)];exact a
theorem Oa (h1:takes.lookup op=some ws)(h2:gives.lookup op=some k)(h:kL E r=ws.map some)(hs:¬(op="call"\/op="new"\/op="get"\/op="=")):kE E (.tup (.wd op::r))=some k:=by
 rw[PJ,PJ,PJ]at hs;rw[Ej];unfold HG;rw[JP hs.1,JP hs.2.1,JP hs.2.2.1,JP hs.2.2.2,h1,h2];exact JN h
theorem Cw:kL E []=[]:=by unfold kL;rfl
theorem Bf:kL E (a::r)=kE E a::kL E r:=by rw[kL]
theorem kL1 (h:kE E a=some x):kL E [a]=([x]:List Str).map some:=by rw[Bf,Cw,h];rfl
theorem kL2 (h:kE E a=some x)(h':kE E b=some y):kL E [a,b]=([x,y]:List Str).map some:=by rw[Bf,kL1 h',h];rfl
theorem kE_eq {a b:Th}{x:Str}(hx:x="number"\/x="truth")(h:kE E a=some x)(h':kE E b=some x):kE E (.tup [.wd "=",a,b])=some ("truth":Str):=by
 rw[Ej];unfold HG;rw[AN,AN,AN,JN rfl,kL2 h h'];exact JN ⟨hx,rfl⟩
theorem kE_new (h:DL S E)(hn:n∈S.AB.map (·.1)):kE E (.tup [.wd "new",.wd n])=some n:=by
 refine Am (JT.mp hn) λp I O=>?_;subst O;rw[Ej];unfold HG;rw[AN,JN rfl];simp only[(h.re p.1 p.2 I).1]
theorem kE_get (h:DL S E)(hn:(n,fl)∈S.AB)(hf:f∈fl)(he:kE E e=some n):kE E (.tup [.wd "get",e,.wd f])=some ("number":Str):=by
 rw[Ej];unfold HG;rw[AN,AN,JN rfl,Bf,Bf,Cw,he];simp only[(h.re n fl hn).1];exact JN hf
theorem kE_call (h:DL S E)(hf:(f,fh)∈S.AC)(he:kL E es=fh.ks.map some):kE E (.tup (.wd "call"::.wd f::es))=some fh.k:=by
 rw[Ej];unfold HG;rw[JN rfl,Bf,he];simp only[(h.fu f fh hf).1];simp
end
def BM (H:Hp)(ad:Addr):Prop:=∃ds:List Int,H ad=some (.lst (ds.map V.int))
def VQ (E:CE)(ad:Addr)(k:Str)(m:Nat)(H:Hp)(Q:VK):Prop:=∀v t H',AF ad H H'->BM H' ad->AS H' v t->kE E t=some k->BI m t->Q v H'
def Gb (b:Bool):Sp:=λvs H Q _=>∃d ad S E k,vs=[.ref d,.str k]/\GK H d ad S/\DL S E/\D7 S k/\(b=false->k≠"list")/\VQ E ad k (b.toNat+1) H Q
theorem AA.AM (s:AA H H'):AF a H H':=λ_ _ e _=>s _ _ e
theorem DY (x:AF a H H1)(y:AF a H1 H2):AF a H H2:=λ_ _ e n=>y _ _ (x _ _ e n) n
theorem Tab.get {α:Type}{R:V->α->Prop}{kvs:List (Key×V)}{tab:List (Str×α)}(h:Tab R kvs tab)(e:Bm kvs (Sum.inr n)=some v):∃x,(n,x)∈tab/\R v x:=by
 unfold Tab at h
 induction h with
 | nil=>cases e
 | @cons a b _ _ h1 _ O=>
  obtain⟨k,u⟩:=a;have I:k=Sum.inr b.1:=h1.1;by_cases c:b.1=n
  .rw [C7 (by rw[I,c])]at e;cases e;exact Ar b.2 (by rw[← c];exact JJ) h1.2
  .rw [C8 (by rw[I];exact λz=>c (MD z))]at e;refine Am (O e) λx hx r=>Ar x (JE _ hx) r
local macro_rules|`(tactic| walk_at "n")=>`(tactic| try dsimp only[L2.start,Dw,List.set_cons_succ,List.set_cons_zero,Za,Y9,Zo,Zn,List.length_cons,List.length_nil,Nat.reduceSub,Nat.reduceAdd,List.replicate_succ,List.replicate_zero])
theorem Kc (c:Int)(m:Nat)(hm:0<m):∃k:Nat,c%(m:Int)=k/\k<m:=by
 have h0:0<=c%(m:Int):=Int.emod_nonneg _ (by omega);have h1:c%(m:Int)<m:=Int.emod_lt_of_pos _ (by omega);exact Ar ((c%(m:Int)).toNat) (by omega) (by omega)
theorem ifJ (rest:u D σ H)(h:u D σ H->Sq (An6 I a Js) u D σ H):Sq (An6 I a Js) u D σ H:=h rest
theorem seI (c:decide (V.str k=V.str x)=true):k=x:=V.str.inj (JL c)
theorem seN (c:¬decide (V.str k=V.str x)=true):k≠x:=λz=>c (by rw[z];exact JO rfl)
theorem GK.seenOf {H:Hp}{d ad:Addr}{S:GS}(N:GK H d ad S)(k:Str):∃kvs as ks o,H d=some (.dK kvs)/\Bm kvs (Sum.inr "seen")=some (.ref as)/\H as=some (.dK ks)/\Bm ks (Sum.inr k)=o/\∀v,o=some v->∃xs,(k,xs)∈S.seen/\CI H ad v xs:=by
 refine Jf N.se λkvs as ks h1 h2 h3 h4=>Bo kvs as ks _ h1 h2 h3 rfl λv e=>h4.get e
theorem DT:AD ["_law_now","_law_kind_here","_law_draw","_law_some","_law_far"] ["_law_now","_law_kind_here"] (Aq M1):=FS
theorem Lx (hm:1<=m)(F:BE K "_law_plain" "_law_plain" M1 f fd)(T:BH K mg)(a4:AQ P w K mg base 1 "_law_next" ["_law_state"] Jv)(a5:AQ P w K mg base m "_law_plain" ["_law_now","_law_kind_here"] (λvs H Q E=>b=true/\Gb false vs H Q E)):AI P w K mg base BV (m+1) f fd ["_law_now","_law_kind_here"] (Gb b):=by
 refine F.CZ DT λcdv A outer s H vs Q E hr h=>?_
 .refine We h λd ad S En kd z1 N EO KO hb k=>?_;subst z1;have nd:=DT.nd;refine Ae (Ag (Bd 2 nd (qf a4 hr (AT (qv 0)))) (Ag (Bd 3 nd (Qf (Dn hr) (BP hr (qv 0) Ad) (qv 1) (Az Cg) ⟨rfl,rfl,rfl,rfl⟩)) (Ag (Bz (QW.pt (Iw (By F1 (Ey T.AY (qv 3)) Af) (Ge (By F1 (Ap Bh (qv 2) Af) Af)))) (Al (Aw (Dv Dj (qv 3) (Ap Bh (Ap Br (qv 2) Af) (Ey T.AY (qv 3))) (λ_ _=>rfl)))) Be) (Ag (Bz (By B9 (qv 1) Ad) (Ag (Bd 4 nd (Ap Fk (Ap Bh (Ap Br (qv 2) Af) Af) Af)) (Al (Aw (Dv Dj (Az (Bq Af (Bq Af (Bq Af (Bq Af (BF (qe_un Ad2 Af) Af (qv 4) (Ap Bh (Ap Br (qv 2) Af) Af))))))) (Ap Bh (Ap Br (qv 2) Af) Af) (λ_ _=>rfl))))) Be) (Ag (Bz (By B9 (qv 1) Ad) (Al (Aw (Dv Dj (Az (AJ Ad Ad)) (Ap Bh (Ap Br (qv 2) Af) Af) (λ_ _=>rfl)))) Be) (Ag (Bz (By B9 (qv 1) Ad) (Al (Aw (Ai (AJ Ad (Dv Dj (Az (Bq (qf a5 hr (AJ (qv 0) Ad)) (Bq Af (Bq Af (Bq Af (Bq Af (BF Af Af Af (qe_un Ad2 Af)))))))) (Ap Bh (Ap Br (qv 2) Af) Af) (λ_ _=>rfl)))))) Be) (Al (Aw (Ai (AJ Ad (qv 1))))))))))) (Cs (Ae rfl (Ao d ad rfl N.dr λn H1 k1 d1=>?_)));have N:=N.keep k1 d1;refine Us (N.seenOf kd) λkvs as ks o h1 h2 h3 h4 h5=>?_
  walk_at "n"
  refine Cs (Ae rfl (Ao d _ rfl (by rw[← h2];exact AK.k (k:=Sum.inr "seen") h1) (B4 as rfl (.inl ⟨ks,.of h3⟩) (B0 rfl (zl 0) λl q=>?_))));generalize z:upd _ l _=H2;obtain⟨s2,g2⟩:=B8 q z;refine Ar o (by rw[← h4];exact AK.k (k:=Sum.inr kd) (s2 _ _ h3)) ?_;have N2:GK H2 d ad S:=N.keep (AA.AM s2) (let ⟨ds,e⟩:=d1;⟨ds,s2 _ _ e⟩);obtain⟨ls,xs,el,gl,hx⟩:∃(ls:Addr) (xs:List Str),o.getD (.ref l)=.ref ls/\H2 ls=some (.lst (xs.map V.str))/\∀x∈xs,∃ys,(kd,ys)∈S.seen/\x∈ys:=by
   cases o with
   | none=>exact Ao l [] rfl g2 λx hx=>by cases hx
   | some v=>
    refine Am (h5 v rfl) λxs hs z1=>?_;refine Q1 z1 λa e n' g _=>Ao a xs e (s2 _ _ g) λx hx=>(Ar xs hs hx)
  rw[el];have k2:AF ad H H2:=k1.trans s2;have d2:BM H2 ad:=let ⟨ds,e⟩:=d1;⟨ds,s2 _ _ e⟩
  walk_at "n"
  refine ifJ ?_ λrest=>?_
  .refine B0 rfl rfl (Ae rfl (Bw (λc=>?_) (λc=>?_)))
   .cases seI c;refine Am (show ∃j:Nat,n/4%8=j/\j<8 from Kc (n/4) 8 (by decide)) λj Y I=>?_;refine Cs (Ae rfl (Bp rfl rfl ⟨by decide,by decide⟩ (Bp rfl rfl (by show(0:Int)<65536;decide) (Au rfl rfl ?_))))
    walk_at "n"
    refine Go (Ae rfl (Ae rfl (Ae rfl (Bp rfl rfl ⟨by decide,by decide⟩ (Kx rfl rfl (by show(0:Int)<10;decide) (zl 8) λp hp=>?_)))));have O:=(AA.refl H2).upd (o:=.lst [.int 0,.int 1,.int 2,.int 3,.int (-1),.int 16,.int (n/32%65536-32768),.int (n/32%10)]) hp;obtain⟨y,hy,ly⟩:∃y:Int,EL [V.int 0,.int 1,.int 2,.int 3,.int (-1),.int 16,.int (n/32%65536-32768),.int (n/32%10)] (n/4%8)=some (.int y)/\(-32768<=y/\y<=32767):=by
     rw[Y]
     match j,I with
     | 0,_=>exact Ae rfl (by decide)
     | 1,_=>exact Ae rfl (by decide)
     | 2,_=>exact Ae rfl (by decide)
     | 3,_=>exact Ae rfl (by decide)
     | 4,_=>exact Ae rfl (by decide)
     | 5,_=>exact Ae rfl (by decide)
     | 6,_=>exact Ae rfl (by omega)
     | 7,_=>exact Ae rfl (by omega)
    refine Ae rfl (Bp rfl rfl ⟨by decide,by decide⟩ (Bp rfl rfl (by show(0:Int)<8;decide) (Bo p _ _ _ rfl rfl (AW.of Aj) hy ?_)));exact k _ (.num y) _ (k2.trans O) (let ⟨ds,e⟩:=d2;⟨ds,O _ _ e⟩) rfl (Gw ly) Ep
   have nk:=seN c;refine B0 rfl rfl (Ae rfl (Bw (λc=>?_) (λc=>?_)))
   .cases seI c;refine Am (show ∃j:Nat,n/4%2=j/\j<2 from Kc (n/4) 2 (by decide)) λj Y I=>Go ⟨zl 2,λp hp=>?_⟩;have O:=(AA.refl H2).upd (o:=.lst [.str "yes",.str "no"]) hp;obtain⟨y,hy,ly⟩:∃y:Str,EL [V.str "yes",.str "no"] (n/4%2)=some (.str y)/\(y="yes"\/y="no"):=by
     rw[Y]
     match j,I with
     | 0,_=>exact Ae rfl (.inl rfl)
     | 1,_=>exact Ae rfl (.inr rfl)
    refine Ae rfl (Bp rfl rfl ⟨by decide,by decide⟩ (Bp rfl rfl (by show(0:Int)<2;decide) (Bo p _ _ _ rfl rfl (AW.of Aj) hy ?_)));exact k _ (.wd y) _ (k2.trans O) (let ⟨ds,e⟩:=d2;⟨ds,O _ _ e⟩) rfl (Ak9 ly) Fd
   have a2:=seN c;refine B0 rfl rfl (Ae rfl (Bw (λc=>?_) (λc=>?_)))
   .cases seI c;have hb:b=true:=by
     cases b with
     | true=>rfl
     | false=>exact absurd rfl (hb rfl)
    refine Am (show ∃j:Nat,n/4%9=j/\j<9 from Kc (n/4) 9 (by decide)) λj Y I=>Go (Lo (Hh (Am7 (IN (B0 rfl hb (Ff d ad S En "number" rfl N2 EO (.inl rfl) (λ_=>by decide) λv t H3 k3 d3 tv kv yv=>(B0 rfl (zl 9) λp hp=>?_)))))));generalize z:upd _ p _=H4;obtain⟨s4,g4⟩:=B8 hp z;have g4:H4 p=some (.lst [v,.int 0,.int 1,.int 2,.int 3,.int 5,.int 16,.int 17,.int (-1)]):=g4;obtain⟨y,u,hy,ty,ly,yy⟩:∃y u,EL [v,.int 0,.int 1,.int 2,.int 3,.int 5,.int 16,.int 17,.int (-1)] (n/4%9)=some y/\AS H4 y u/\kE En u=some ("number":Str)/\BI 1 u:=by
     rw[Y]
     match j,I with
     | 0,_=>exact Bp rfl (tv.mono s4.AE) kv yv
     | 1,_=>exact Cj _ (.num 0) rfl rfl (Gw (by decide)) Ep
     | 2,_=>exact Cj _ (.num 1) rfl rfl (Gw (by decide)) Ep
     | 3,_=>exact Cj _ (.num 2) rfl rfl (Gw (by decide)) Ep
     | 4,_=>exact Cj _ (.num 3) rfl rfl (Gw (by decide)) Ep
     | 5,_=>exact Cj _ (.num 5) rfl rfl (Gw (by decide)) Ep
     | 6,_=>exact Cj _ (.num 16) rfl rfl (Gw (by decide)) Ep
     | 7,_=>exact Cj _ (.num 17) rfl rfl (Gw (by decide)) Ep
     | 8,_=>exact Cj _ (.num (-1)) rfl rfl (Gw (by decide)) Ep
    refine Ae rfl (Bp rfl rfl ⟨by decide,by decide⟩ (Bp rfl rfl (by show(0:Int)<9;decide) (Ch p _ _ y rfl rfl (AW.of g4) hy (zl 2) λq hq=>?_)));have s5:=(AA.refl H4).upd (o:=.tup [.str "list",y]) hq;exact k _ (.tup [.wd "list",u]) _ ((DY k2 k3).trans (s4.trans s5)) (let ⟨ds,e⟩:=d3;⟨ds,s5 _ _ (s4 _ _ e)⟩) (Au rfl Aj (Au rfl rfl (Au rfl (ty.mono s5.AE) rfl))) (Oa (ws:=["number"]) rfl rfl (kL1 ly) (by decide)) (by rw[hb];exact Ab7 yy)
   have a3:=seN c;have hr:kd∈S.AB.map (·.1):=by
    rcases KO with z|z|z|z
    .exact absurd z nk
    .exact absurd z a2
    .exact absurd z a3
    .exact z
   haveI:=IY.var (σ:=[some (.ref d),some (.str kd),some (.int n),some (.ref ls),none]) (H:=H2) (i:=1) (t:=.wd kd) rfl rfl;dsimp only[Js];refine Go (thing (H0:=H2) λv H3 O tv=>?_);exact k v _ H3 (k2.trans O) (let ⟨ds,e⟩:=d2;⟨ds,O _ _ e⟩) tv (kE_new EO hr) (Ab7 Fd)
  .refine Ae rfl (Ao ls _ rfl (.inl (AW.of gl)) (Au rfl rfl (Ae rfl (Bw (λc1=>?_) (λc1=>?_)))))
   .refine Ae rfl (Bp rfl rfl (by show(0:Int)<4;decide) (Au rfl rfl (Ae rfl (Bw (λc2=>?_) (λc2=>rest)))));have hl:0<xs.length:=by have c1:(0:Int)<((xs.map V.str).length:Nat):=JL c1;rw[JB]at c1;omega
    refine Am (show ∃j:Nat,n/4%(xs.length:Int)=j/\j<xs.length from Kc (n/4) xs.length hl) λj Y I=>?_;refine Go (Ae rfl (Ae rfl (Bp rfl rfl ⟨by decide,by decide⟩ (Ae rfl (Ao ls _ rfl (.inl (AW.of gl)) (Bp rfl rfl (by show(0:Int)<((xs.map V.str).length:Nat);rw[JB];omega) (Bo ls _ _ (.str xs[j]) rfl rfl (AW.of gl) (by show EL _ (n/4%((xs.map V.str).length:Nat))=_;rw[JB,Y];exact Bg (by rw[KH,KN I];rfl)) ?_)))))));refine Am (hx xs[j] (OK I)) λys a0 a1=>k _ (.wd xs[j]) H2 k2 d2 rfl (kE_var EO a0 a1) Fd
   .exact Bw (λz=>by cases z) (λ_=>rest)
noncomputable def Jm (k:Str)(deep:Nat):Nat:=if deep=0 then 0 else if k="number"\/k="truth" then 2*deep else 2*deep-1
theorem VQ.of {E:CE}{ad:Addr}{k:Str}{m:Nat}{H H1:Hp}{Q:VK}(h:VQ E ad k m H Q)(k1:AF ad H H1):VQ E ad k m H1 Q:=λv t H' I d th e y=>h v t H' (DY k1 I) d th e y
theorem VQ.le {E:CE}{ad:Addr}{k:Str}{m I:Nat}{H:Hp}{Q:VK}(h:VQ E ad k m H Q)(hm:I<=m):VQ E ad k I H Q:=λv t H' O d th e y=>h v t H' O d th e (y.mono hm)
def F8 (n:Nat):Sp:=λvs H Q _=>∃d ad S E k,∃deep:Nat,vs=[.ref d,.str k,.int deep]/\GK H d ad S/\DL S E/\D7 S k/\deep<=2/\Jm k deep<n/\VQ E ad k (n+1) H Q
def Jw (n:Nat):Sp:=λvs H Q _=>∃d ad S E k,∃deep:Nat,vs=[.ref d,.str k,.int deep]/\GK H d ad S/\DL S E/\D7 S k/\deep<=2/\2*(deep-1)<n/\VQ E ad k (n+2) H Q
def Pw (n:Nat):Sp:=λvs H Q _=>∃d ad S E,∃way deep:Nat,vs=[.ref d,.int way,.int deep]/\GK H d ad S/\DL S E/\way<9/\deep<=1/\2*deep<n/\1<n/\VQ E ad "number" (n+2) H Q
def Pr (n:Nat):Sp:=λvs H Q _=>∃d ad S E,∃way deep:Nat,vs=[.ref d,.int way,.int deep]/\GK H d ad S/\DL S E/\way<8/\deep<=1/\2*deep<n/\VQ E ad "truth" (n+2) H Q
theorem Gc:Jm k deep<=2*deep:=by
 unfold Jm;split
 .omega
 .split<;>omega
theorem Qc (h:Jm k deep<n+1)(hd:deep≠0)(hk:k="number"\/k="truth"):2*deep<n+1:=by
 unfold Jm at h;rw[JP hd,JN hk]at h;exact h
theorem Af0 (h:Jm k deep<n+1)(hd:deep≠0):2*(deep-1)<n:=by
 unfold Jm at h;rw[JP hd]at h;split at h<;>omega
theorem Do:AD ["_law_now","_law_kind_here","_law_deep","_law_draw"] ["_law_now","_law_kind_here","_law_deep"] (Aq M0):=FS
theorem Fb (hm:3<=m)(F:BE K "_law_value" "_law_value" M0 f fd)(a3:AQ P w K mg base 1 "_law_next" ["_law_state"] Jv)(a0:AQ P w K mg base 3 "_law_plain" ["_law_now","_law_kind_here"] (Gb true))(a5:AQ P w K mg base m "_law_number_deed" ["_law_now","_law_way","_law_deep"] (Pw n))
  (a4:AQ P w K mg base m "_law_truth_deed" ["_law_now","_law_way","_law_deep"] (Pr n))(a2:AQ P w K mg base m "_law_call" ["_law_now","_law_kind_here","_law_deep"] (Jw n)):AI P w K mg base BV (m+1) f fd ["_law_now","_law_kind_here","_law_deep"] (F8 (n+1)):=by
 refine F.CZ Do λcdv A outer s H vs Q E hr h=>?_
 .refine Wd h λd ad S O kd deep z1 N I KO a1 z2=>?_;subst z1;obtain⟨Y,k⟩:=z2;have nd:=Do.nd;refine Ae (Ag (Bd 3 nd (qf a3 hr (AT (qv 0)))) (Ag (Bz (QW.pt (qw_or (By B9 (qv 2) Af) (Af4 (By B9 (Ap Bh (qv 3) Af) Af)))) (Al (Aw (qf a0 hr (AJ (qv 0) (qv 1))))) Be) (Ag (Bz (By B9 (qv 1) Ad) (Al (Aw (qf a5 hr (AO (qv 0) (Ap Bh (Ap Br (qv 3) Af) Af) (Ap Fk (qv 2) Af))))) Be) (Ag (Bz (QW.pt (Iw (By B9 (qv 1) Ad) (Ge (By F1 (Ap Bh (Ap Br (qv 3) Af) Af) Af)))) (Al (Aw (qf a4 hr (AO (qv 0) (Ap Fk (Ap Bh (Ap Br (qv 3) Af) Af) Af) (Ap Fk (qv 2) Af))))) Be) (Ag (Bz (By B9 (Ap Bh (Ap Br (qv 3) Af) Af) Af) (Al (Aw (qf a2 hr (AO (qv 0) (qv 1) (qv 2))))) Be) (Al (Aw (qf a0 hr (AJ (qv 0) (qv 1)))))))))) (Cs (Ae rfl (Ao d ad rfl N.dr λx H1 k1 d1=>?_)));have N:=N.keep k1 d1;have k:=k.of k1
  walk_at "n"
  refine Am (show ∃j:Nat,x/4%9=j/\j<9 from Kc (x/4) 9 (by decide)) λj ej lj=>?_;have plain:Gb true [.ref d,.str kd] H1 Q E0:=(Ff d ad S O kd rfl N I KO (λz=>by cases z) (k.le (by show 2<=n+2;omega)));refine B0 rfl rfl (Ae rfl ?_);by_cases h0:deep=0
  .subst h0;exact Ht (Ae rfl (Ae rfl plain))
  .rw [LC λz=>h0 (by have:=V.int.inj z;omega)];refine G6 (Ae rfl (Kx rfl rfl (by show(0:Int)<4;decide) rfl (Ae rfl (Bw (λc=>(Ae rfl (Ae rfl plain))) (λc=>B0 rfl rfl (Ae rfl (Bw (λc=>?_) (λc=>?_))))))))
   .cases seI c;refine Ae rfl (Ae rfl (Bp rfl rfl ⟨by decide,by decide⟩ (Bp rfl rfl (by show(0:Int)<9;decide) (Ae rfl (Au rfl rfl (Hu d ad S O j (deep-1) ?_ N I lj (by omega) (Bc ?_ ?_ k)))))))
    .show [V.ref d,V.int (x/4%9),V.int ((deep:Int)-1)]=_
     rw[ej,show((deep:Int)-1)=((deep-1:Nat):Int)by omega]
    .have:=Qc Y h0 (.inl rfl);omega
    .have:=Qc Y h0 (.inl rfl);omega
   dsimp only[Js];refine ifJ ?_ λrest=>?_
   .refine Ae rfl (Bp rfl rfl ⟨by decide,by decide⟩ (Kx rfl rfl (by show(0:Int)<3;decide) rfl (Ae rfl (Bw (λc=>(Ae rfl (Ae rfl (Ae rfl (Hu d ad S O kd deep rfl N I KO a1 ⟨Af0 Y h0,k⟩))))) (λc=>(Ae rfl (Ae rfl plain)))))))
   .refine B0 rfl rfl (Ae rfl (Bw (λc2=>?_) (λc2=>?_)))
    .cases seI c2;refine Ae rfl (Bp rfl rfl ⟨by decide,by decide⟩ (Bp rfl rfl (by show(0:Int)<9;decide) (Au rfl rfl (Ae rfl (Bw (λc3=>?_) (λc3=>rest))))));have c3:0<x/4%9:=JL c3;refine Ae rfl (Ae rfl (Bp rfl rfl ⟨by decide,by decide⟩ (Bp rfl rfl (by show(0:Int)<9;decide) (Au rfl rfl (Ae rfl (Au rfl rfl (Hu d ad S O (j-1) (deep-1) ?_ N I (by omega) (by omega) ⟨?_,k⟩)))))))
     .show [V.ref d,V.int (x/4%9-1),V.int ((deep:Int)-1)]=_
      rw[ej,show((deep:Int)-1)=((deep-1:Nat):Int)by omega,show((j:Int)-1)=((j-1:Nat):Int)by omega]
     .have:=Qc Y h0 (.inr rfl);omega
    .exact Bw (λz=>by cases z) (λ_=>rest)
section
variable {E:CE}{S:GS}{d ad q:Addr}{k op:Str}{H H1 H3:Hp}{Q:VK}{v1 v2:V}{t1 t2:Th}{n m deep:Nat}
theorem FV (N:GK H d ad S)(I:DL S E)(O:D7 S k)(hd:deep<=2)(hr:Jm k deep<n)(q:VQ E ad k (n+1) H Q):F8 n [.ref d,.str k,.int deep] H Q E0:=(Hu d ad S E k deep rfl N I O hd ⟨hr,q⟩)
theorem BM.up (dr:BM H ad)(s:AA H H1):BM H1 ad:=let ⟨ds,e⟩:=dr;⟨ds,s _ _ e⟩
theorem HR (Y:VQ E ad k (m+1) H Q)(O:AF ad H H3)(dr:BM H3 ad)(h1:AS H3 v1 t1)(h2:AS H3 v2 t2)(I:H3 q=none)(e:kE E (.tup [.wd op,t1,t2])=some k)(y1:BI m t1)(y2:BI m t2):Q (.ref q) (upd H3 q (.tup [.str op,v1,v2])):=by
 have s:=(AA.refl H3).upd (o:=.tup [.str op,v1,v2]) I;exact Y _ (.tup [.wd op,t1,t2]) _ (O.trans s) (BM.up dr s) (Au rfl Aj (Au rfl rfl (Au rfl (h1.mono s.AE) (Au rfl (h2.mono s.AE) rfl)))) e (dle2 y1 y2)
theorem IQ (Y:VQ E ad k (m+1) H Q)(O:AF ad H H3)(dr:BM H3 ad)(h1:AS H3 v1 t1)(I:H3 q=none)(e:kE E (.tup [.wd op,t1])=some k)(y1:BI m t1):Q (.ref q) (upd H3 q (.tup [.str op,v1])):=by
 have s:=(AA.refl H3).upd (o:=.tup [.str op,v1]) I;exact Y _ (.tup [.wd op,t1]) _ (O.trans s) (BM.up dr s) (Au rfl Aj (Au rfl rfl (Au rfl (h1.mono s.AE) rfl))) e (Ab7 y1)
theorem AF.AE (k:AF ad H H')(dr:BM H ad):EG H H':=λb xs e=>by
 obtain⟨ds,h⟩:=dr;exact k _ _ e (Bb e h (by simp))
theorem tru_op {way:Nat}(h:way<4):∃o:Str,EL [V.str "<",.str "<",.str "<",.str "="] (way:Int)=some (.str o)/\∀t1 t2,kE E t1=some ("number":Str)->kE E t2=some ("number":Str)->kE E (.tup [.wd o,t1,t2])=some ("truth":Str):=by
 have lt:∀t1 t2,kE E t1=some ("number":Str)->kE E t2=some ("number":Str)->kE E (.tup [.wd "<",t1,t2])=some ("truth":Str):=λt1 t2 e1 I=>Oa (ws:=["number","number"]) rfl rfl (kL2 e1 I) (by decide)
 match way,h with
 | 0,_=>exact Ae rfl lt
 | 1,_=>exact Ae rfl lt
 | 2,_=>exact Ae rfl lt
 | 3,_=>exact Ae rfl λt1 t2 e1 I=>kE_eq (.inl rfl) e1 I
theorem kE_ar (I:o∈(["+","-","*","/","rest"]:List Str))(h1:kE E t1=some ("number":Str))(h2:kE E t2=some ("number":Str)):kE E (.tup [.wd o,t1,t2])=some ("number":Str):=by
 simp only[JC,JI,KG]at I
 rcases I with rfl|rfl|rfl|rfl|rfl<;>exact Oa (ws:=["number","number"]) rfl rfl (kL2 h1 h2) (by decide)
end
theorem CF:AD ["_law_now","_law_way","_law_deep","_law_op"] ["_law_now","_law_way","_law_deep"] (Aq Hk):=FS
theorem Di (F:BE K "_law_truth_deed" "_law_truth_deed" Hk f fd)(a3:AQ P w K mg base m "_law_value" ["_law_now","_law_kind_here","_law_deep"] (F8 n)):AI P w K mg base BV (m+1) f fd ["_law_now","_law_way","_law_deep"] (Pr n):=by
 refine F.CZ CF λcdv A outer s H vs Q E hr h=>?_
 .refine Wd h λd ad S En way deep z1 N EO hw hd z2=>?_;subst z1;obtain⟨hn,k⟩:=z2;have nd:=CF.nd;refine Ae (Ag (Bz (By Vh (qv 1) Af) (Al (Aw (Ai (AO (Dv Dj (Az (BF Ad Ad Ad Ad)) (qv 1) (λ_ _=>rfl)) (qf a3 hr (AO (qv 0) Ad (qv 2))) (qf a3 hr (AO (qv 0) Ad (qv 2))))))) Be) (Ag (Bz (By B9 (qv 1) Af) (Al (Aw (Ai (AJ Ad (qf a3 hr (AO (qv 0) Ad (qv 2))))))) Be) (Ag (Bd 3 nd (Dv Dj (Az (AO Ad Ad Ad)) (Ap Bh (qv 1) Af) (λ_ _=>rfl))) (Al (Aw (Ai (AO (qv 3) (qf a3 hr (AO (qv 0) Ad (qv 2))) (qf a3 hr (AO (qv 0) Ad (qv 2)))))))))) ?_;have a4:∀{kd:Str},Jm kd deep<n:=KS Gc hn;refine Ae rfl (Au rfl rfl (Ae rfl (Bw (λc=>?_) (λc=>?_))))
  .have c:(way:Int)<4:=JL c;refine⟨zl 4,λp O=>?_⟩;generalize z:upd _ p _=H1;obtain⟨s1,g1⟩:=B8 O z;refine Am (tru_op (E:=En) (way:=way) (by omega)) λo ho ty=>?_;have N1:=N.keep (AA.AM s1) (BM.up N.dr.dr s1);exact Ae rfl (Bo p _ _ _ rfl rfl (AW.of g1) ho (Ae rfl (Ae rfl (FV N1 EO (.inl rfl) (by omega) a4 λv1 t1 H2 a0 Y a2 e1 y1=>(Ae rfl (Ae rfl (FV ((N1).keep a0 Y) EO (.inl rfl) (by omega) a4 λv2 t2 H3 a1 a5 a6 I y2=>⟨zl 3,λp O=>HR k (DY (AA.AM s1) (DY a0 a1)) a5 (a2.mono (AF.AE a1 Y)) a6 O (ty t1 t2 e1 I) y1 y2⟩)))))))
  have c:¬(way:Int)<4:=λz=>c (JO z);refine B0 rfl rfl (Ae rfl (Bw (λc2=>?_) (λc2=>?_)))
  .refine Ae rfl (Ae rfl (FV N EO (.inr (.inl rfl)) (by omega) (KS Gc hn) λv1 t1 H2 a0 Y a2 e1 y1=>⟨zl 2,λp O=>IQ k a0 Y a2 O (Oa (ws:=["truth"]) rfl rfl (kL1 e1) (by decide)) y1⟩))
  .dsimp only[Js];refine Cs ⟨zl 3,λp O=>?_⟩;generalize z:upd _ p _=H1;obtain⟨s1,g1⟩:=B8 O z;refine Am (show ∃j:Nat,(way:Int)%3=j/\j<3 from Kc way 3 (by decide)) λj ej lj=>?_;obtain⟨o,ho,ty⟩:∃o:Str,EL [V.str "and",.str "or",.str "="] ((way:Int)%3)=some (.str o)/\∀t1 t2,kE En t1=some ("truth":Str)->kE En t2=some ("truth":Str)->kE En (.tup [.wd o,t1,t2])=some ("truth":Str):=by
    rw[ej]
    match j,lj with
    | 0,_=>exact Ae rfl λt1 t2 e1 I=>Oa (ws:=["truth","truth"]) rfl rfl (kL2 e1 I) (by decide)
    | 1,_=>exact Ae rfl λt1 t2 e1 I=>Oa (ws:=["truth","truth"]) rfl rfl (kL2 e1 I) (by decide)
    | 2,_=>exact Ae rfl λt1 t2 e1 I=>kE_eq (.inr rfl) e1 I
   have N1:=N.keep (AA.AM s1) (BM.up N.dr.dr s1);refine Ae rfl (Bp rfl rfl (by show(0:Int)<3;decide) (Bo p _ _ _ rfl rfl (AW.of g1) ho ?_))
   walk_at "n"
   exact Go (Lo (Ae rfl (Ae rfl (Ae rfl (FV N1 EO (.inr (.inl rfl)) (by omega) a4 λv1 t1 H2 a0 Y a2 e1 y1=>(Ae rfl (Ae rfl (FV ((N1).keep a0 Y) EO (.inr (.inl rfl)) (by omega) a4 λv2 t2 H3 a1 a5 a6 I y2=>⟨zl 3,λp O=>HR k (DY (AA.AM s1) (DY a0 a1)) a5 (a2.mono (AF.AE a1 Y)) a6 O (ty t1 t2 e1 I) y1 y2⟩))))))))
theorem num_op:∀{way:Nat},way<5->∃o:Str,EL [V.str "+",.str "-",.str "*",.str "/",.str "rest"] (way:Int)=some (.str o)/\o∈(["+","-","*","/","rest"]:List Str)
 | 0,_=>(Ae rfl (by decide))
 | 1,_=>(Ae rfl (by decide))
 | 2,_=>(Ae rfl (by decide))
 | 3,_=>(Ae rfl (by decide))
 | 4,_=>(Ae rfl (by decide))
theorem Tab.has {α:Type}{R:V->α->Prop}{kvs:List (Key×V)}{tab:List (Str×α)}(h:Tab R kvs tab)(hn:n∈tab.map (·.1)):∃v x,Bm kvs (Sum.inr n)=some v/\(n,x)∈tab/\R v x:=by
 cases e:Bm kvs (Sum.inr n)with
 | some v=>
  refine Am (h.get e) λx h1 h2=>Ao v x rfl h1 h2
 | none=>
  exfalso;unfold Tab at h
  induction h with
  | nil=>cases hn
  | @cons a b _ _ h1 _ O=>
   obtain⟨k,u⟩:=a;have I:k=Sum.inr b.1:=h1.1;by_cases c:b.1=n
   .rw [C7 (by rw[I,c])]at e;cases e
   .rw [C8 (by rw[I];exact λz=>c (MD z))]at e
    rcases JC.mp hn with z|z
    .exact c z.symm
    .exact O z e
theorem CC:AD ["_law_now","_law_way","_law_deep","_law_op","_law_name"] ["_law_now","_law_way","_law_deep"] (Aq Gn):=FS
theorem C9 (hm:2<=m)(F:BE K "_law_number_deed" "_law_number_deed" Gn f fd)(T:BH K mg)(a4:AQ P w K mg base m "_law_value" ["_law_now","_law_kind_here","_law_deep"] (F8 n))(aA:AQ P w K mg base 2 "_law_one_of" ["_law_now","_law_some"] Ps)
  (aH:AQ P w K mg base m "_law_call" ["_law_now","_law_kind_here","_law_deep"] (Jw n)):AI P w K mg base BV (m+1) f fd ["_law_now","_law_way","_law_deep"] (Pw n):=by
 refine F.CZ CC λcdv A outer s H vs Q E hr h=>?_
 .refine Wd h λd ad S En way deep z1 N I hw hd z2=>?_;refine Bu z2 λhn aF k=>?_;subst z1;have nd:=CC.nd;refine Ae (Ag (Bz (By Vh (qv 1) Af) (Ag (Bd 3 nd (Dv Dj (Az (Bq Ad (BF Ad Ad Ad Ad))) (qv 1) (λ_ _=>rfl))) (Al (Aw (Ai (AO (qv 3) (qf a4 hr (AO (qv 0) Ad (qv 2))) (qf a4 hr (AO (qv 0) Ad (qv 2)))))))) Be) (Ag (Bz (QW.pt (Iw (By B9 (qv 1) Af) (Ge (By F1 (Bl Sf rfl T.AY NT (AT (BP hr (qv 0) Ad))) Af)))) (Ag (Bd 4 nd (qf aA hr (AJ (qv 0) (Cc (G0 rfl) rfl T.FF boot_list (AT (BP hr (qv 0) Ad)))))) (Al (Aw (Ai (AO Ad (qf a4 hr (AO (qv 0) (qv 4) Af)) (qf aA hr (AJ (qv 0) (BP hr (BP hr (qv 0) Ad) (qv 4))))))))) Be) (Ag (Bz (By B9 (qv 1) Af) (Al (Aw (Ai (AJ Ad (qf a4 hr (AO (qv 0) Ad Af)))))) Be) (Ag (Bz (By B9 (qv 1) Af) (Al (Aw (Ai (AO Ad (qf a4 hr (AO (qv 0) Ad Af)) (qf a4 hr (AO (qv 0) Ad (qv 2))))))) Be) (Al (Aw (qf aH hr (AO (qv 0) Ad (qv 2))))))))) ?_;have a6:∀{kd:Str},Jm kd deep<n:=KS Gc hn;have a8:Jm "list" 1<n:=by
   have:Jm "list" 1=1:=by decide
   omega
  refine Ae rfl (Au rfl rfl (Ae rfl (Bw (λc=>?_) (λc=>?_))))
  .have c:(way:Int)<5:=JL c;refine Cs ⟨zl 5,λp Y=>?_⟩;generalize z:upd _ p _=H1;obtain⟨s1,g1⟩:=B8 Y z;refine Am (num_op (way:=way) (by omega)) λo ho mo=>?_;have N1:=N.keep (AA.AM s1) (BM.up N.dr.dr s1);refine Ae rfl (Bo p _ _ _ rfl rfl (AW.of g1) ho ?_)
   walk_at "n"
   exact Go (Lo (Ae rfl (Ae rfl (Ae rfl (FV N1 I (.inl rfl) (by omega) a6 λv1 t1 H2 O a0 a2 e1 y1=>(Ae rfl (Ae rfl (FV (N1.keep O a0) I (.inl rfl) (by omega) a6 λv2 t2 H3 a1 a3 a7 e2 y2=>⟨zl 3,λp Y=>HR k (DY (AA.AM s1) (DY O a1)) a3 (a2.mono (AF.AE a1 a0)) a7 Y (kE_ar mo e1 e2) y1 y2⟩))))))))
  dsimp only[Js];refine ifJ ?_ λrest=>?_
  .refine B0 rfl rfl (Ae rfl (Bw (λc=>?_) (λc=>?_)))
   .refine Ae rfl (FV N I (.inr (.inr (.inl rfl))) (by decide) a8 λv1 t1 H2 O a0 a2 e1 y1=>⟨zl 2,λp Y=>IQ k O a0 a2 Y (Oa (ws:=["list"]) rfl rfl (kL1 e1) (by decide)) y1⟩)
   refine B0 rfl rfl (Ae rfl (Bw (λc=>?_) (λc=>?_)))
   .refine Ae rfl (FV N I (.inr (.inr (.inl rfl))) (by decide) a8 λv1 t1 H2 O a0 a2 e1 y1=>(Ae rfl (Ae rfl (FV (N.keep O a0) I (.inl rfl) (by omega) a6 λv2 t2 H3 a1 a3 a7 e2 y2=>⟨zl 3,λp Y=>HR k (DY O a1) a3 (a2.mono (AF.AE a1 a0)) a7 Y (Oa (ws:=["list","number"]) rfl rfl (kL2 e1 e2) (by decide)) y1 y2⟩))))
   .exact Ae rfl (Ae rfl (Hu d ad S En "number" deep rfl N I (.inl rfl) (by omega) ⟨by omega,k⟩))
  .refine B0 rfl rfl (Ae rfl (Bw (λc=>?_) (λc=>?_)))
   .refine Jf N.re λkvs ar kr h1 h2 h3 h4=>?_;have hg:AK H d (.str "records") (some (.ref ar)):=by rw[← h2];exact AK.k (k:=Sum.inr "records") h1
    refine Ae rfl (Ao d _ rfl hg (Ao ar kr rfl h3 (Au rfl rfl (Ae rfl (Bw (λc2=>?_) (λc2=>rest))))));have c2:(0:Int)<(kr.length:Nat):=JL c2;refine Cs (Ae rfl (Ae rfl (Ao d _ rfl hg (Ao ar kr rfl (.of h3) λl q=>?_))));generalize z:upd _ l _=H1;obtain⟨s1,g1⟩:=B8 q z;obtain⟨ds,ha⟩:=N.dr.dr;have N1:=N.keep (AA.AM s1) (BM.up N.dr.dr s1);refine Ch d ad l _ rfl N1.dr ((Ah ha q).symm) g1 (λz=>by have:=LB List.length z;rw[JB,OV]at this;omega) λx hx H2 O a0=>?_;refine Am (JT.mp hx) λp Y z1=>?_;subst z1;refine Am (h4.key Y) λnm a5 e=>?_;rw[e];have N2:=N1.keep O a0
    walk_at "n"
    refine Bu (I.rn nm a5) λr1 r2 r3=>?_;have aG:Jm nm 1<n:=by
     unfold Jm;rw[AN,JP (PJ.mpr ⟨r1,r2⟩)];exact aF
    refine Go (Lo (Hh (Ae rfl (Ae rfl (FV N2 I (.inr (.inr (.inr a5))) (by decide) aG λv1 t1 H3 a1 a3 a2 e1 y1=>?_)))));have N3:=N2.keep a1 a3;refine Jf N3.re λaJ aB aI i1 i2 i3 i4=>?_;refine A0 (i4.has a5) λvf fl j1 j2 z1=>?_;refine Q1 z1 λaf z2 j4 j5 j6=>?_;subst z2;have aE:=(I.re nm fl j2).2;refine Ae rfl (Ae rfl (Ao d _ rfl (by rw[← i2];exact AK.k (k:=Sum.inr "records") i1) (Ae rfl (Ao aB _ rfl (by rw[← j1];exact AK.k (k:=Sum.inr nm) i3) (Ch d ad af _ rfl N3.dr j4 j5 (λz=>aE (by simpa using z)) λx hx H4 a9 aC=>⟨zl 3,λq hq=>?_⟩)))));refine Am (JT.mp hx) λaD hf z1=>?_;subst z1;exact HR (t2:=.wd aD) k (DY (AA.AM s1) (DY O (DY a1 a9))) aC (a2.mono (AF.AE a9 a3)) rfl hq (kE_get I j2 hf e1) y1 Fd
   .exact Bw (λz=>by cases z) (λ_=>rest)
theorem E5 (h:H D=some (.lst ys)):EG H (upd H D o):=λb xs e=>by rw[Ak (Bb e h (by simp))];exact e
theorem ER:AD ["_law_now","_law_kind_here","_law_deep","_law_some","_law_name","_law_args"] ["_law_now","_law_kind_here","_law_deep"] (Aq Qb):=FS
theorem F2 (hm:3<=m)(F:BE K "_law_call" "_law_call" Qb f fd)(T:BH K mg)(aM:AQ P w K mg base m "_law_value" ["_law_now","_law_kind_here","_law_deep"] (F8 n))(aN:AQ P w K mg base 2 "_law_one_of" ["_law_now","_law_some"] Ps)
  (aK:AQ P w K mg base 3 "_law_plain" ["_law_now","_law_kind_here"] (Gb true)):AI P w K mg base BV (m+1) f fd ["_law_now","_law_kind_here","_law_deep"] (Jw n):=by
 refine F.CZ ER λcdv A outer s H vs Q E hr h=>?_
 .refine Wd h λd ad S En kd deep Y N EO KO hd z2=>?_;subst Y;obtain⟨hn,k⟩:=z2;have nd:=ER.nd;refine Ae (Ag (Xf (G9 (i0:=3) nd rfl rfl rfl (N':=["_law_name","_law_now","_law_kind_here"]) (n:=1) (js:=[0,1]) (At.o ["_law_now","_law_kind_here"]) rfl (Tw (BP hr (qv 0) Ad)) (λ_ _ _=>(Bc (GD 0) (O9 (By B9 (Dv (show IxR _ (Ve K)from Lj) (BP hr (BP hr (qv 1) Ad) (qv 0)) Af (λ_ _=>rfl)) (qv 2))) (qv 0))))) (Ag (Bz (By B9 (Ey T.AY (qv 3)) Af) (Al (Aw (qf aK hr (AJ (qv 0) (qv 1))))) Be) (Ag (Bd 4 nd (qf aN hr (AJ (qv 0) (qv 3)))) (Ag (G9 (i0:=5) nd rfl rfl rfl (N':=["_law_one","_law_now","_law_deep"]) (n:=1) (js:=[0,2]) (At.o ["_law_now","_law_deep"]) rfl (Gf (BY (BP hr (BP hr (qv 0) Ad) (qv 4)) Af)) (λ_ _ _=>(Bc (GD 0) Dd (qf aM hr (AO (qv 1) (qv 0) (Bl (Se rfl) rfl T.n_max boot_max (AJ Af (Ap Fk (qv 2) Af)))))))) (Al (Aw (Cc Ea rfl T.BR NO (AT (Ap Bj (Az (AJ Ad (qv 4))) (qv 5)))))))))) (Kz N.fu λkvs af kf h1 h2 h3 h4 aJ=>?_);have aP:(2000000:Nat)<=sizeLine:=by rw[KU];omega
  refine Ck af kf h3 (Ae rfl (Ao d _ rfl (by rw[← h2];exact AK.k (k:=Sum.inr "functions") h1) (Ao af kf rfl h3 λo D hD=>?_)));have aC:af≠D:=λz=>by rw[← z,Aj]at hD;cases hD
  have fD:H D=none:=by rw[Ak aC.symm]at hD;exact hD
  refine Nn (λi ys σ G=>(∃o0,σ=[o0,some (.ref d),some (.str kd)])/\G D=some (.lst ys)/\AA (upd H af (.DZ o (.dK kf))) G/\(∀y∈ys,∃nm fh,y=.str nm/\(nm,fh)∈S.AC/\fh.k=kd)/\ys.length<=i) (by rw[h4.len];have:=EO.ff;omega) hD (Du ⟨_,rfl⟩ Aj ((AA.refl _).upd hD) (λy O=>by cases O) (JG _)) (λi ys σ G hi ⟨_,hd,I,_,e⟩=>(Bc (I _ _ Aj) hd e)) ?_ ?_
  .rintro i ky x ys σ G hx ⟨⟨o0,rfl⟩,a4,I,O,le⟩;refine Am (h4.key (JU hx)) λnm a5 e=>?_;have e:kV ky=.str nm:=e;rw[e];refine A0 (h4.has a5) λv fh e1 e2 Y=>?_;refine Gz Y λt v1 v3 z2 ht _=>?_;subst z2;have a0:G d=some (.dK kvs):=I _ _ (by rw[Ak aJ];exact h1);have aH:G t=some (.tup [v1,.str fh.k,v3]):=I _ _ (by rw[Ak (Bb ht h3 (by simp))];exact ht);refine Ae rfl (Ao d _ rfl (by rw[← h2];exact AK.k (k:=Sum.inr "functions") a0) (Ae rfl (Ao af _ rfl (.inl (Ao kf (Sum.inr nm) (.inr ⟨o,I _ _ Aj⟩) rfl e1.symm)) (Bo t _ 1 _ rfl rfl (BW.of aH) rfl (B0 rfl rfl (Ae rfl (Bw (λc=>?_) (λc=>?_))))))))
   .refine Ab0 rfl a4 ⟨_,rfl⟩ Aj (Kw I hD) ⟨λy aI=>?_,by rw[JH,KJ];omega⟩
    rcases JV.mp aI with z|z
    .exact O y z
    .rw [JM.mp z];exact Ao nm fh rfl e2 (seI c)
   .exact Du ⟨_,rfl⟩ a4 I O (by omega)
  .rintro ys σ G ⟨_,a4,I,O,le⟩;refine Ar o (I _ _ Aj) ?_;generalize z:upd G af _=H1;have s1:AA H H1:=λq u e=>by
    rw[← z];by_cases c:q=af
    .rw [c,Aj];rw[c,h3]at e;exact e
    .rw [Ak c];exact I _ _ (by rw[Ak c];exact e)
   have gD:H1 D=some (.lst ys):=by rw[← z,Ak aC.symm];exact a4
   have N1:=N.keep (AA.AM s1) (BM.up N.dr.dr s1);have k:=k.of (AA.AM s1);have nD:D≠ad:=by
    obtain⟨ds,ha⟩:=N.dr.dr;exact(Ah ha fD).symm
   walk_at "n"
   refine Ae rfl (Cj D _ rfl (.inl (AW.of gD)) rfl (Ae rfl (Bw (λc=>?_) (λc=>?_))))
   .exact Ae rfl (Ae rfl (Ff d ad S En kd rfl N1 EO KO (λz=>by cases z) (k.le (by show 2<=n+2;omega))))
   have ne:ys≠[]:=λz=>c (by rw[z];exact JO rfl);dsimp only[Js];refine Cs (Ae rfl (Ae rfl (Ch d ad D ys rfl N1.dr nD gD ne λx hx H2 aA aE=>?_)));refine A0 (O x hx) λnm fh Y a5 aF=>?_;subst Y;have N2:=N1.keep aA aE;have k:=k.of aA
   walk_at "n"
   refine Kz N2.fu λaU aD aQ i1 i2 i3 i4 _=>?_;refine A0 (i4.has (JT.mpr (Ae a5 rfl))) λv a2 e1 e2 Y=>?_;refine Jf Y λt v1 v3 z2 ht z3 _=>?_;subst z2;obtain⟨l1,rfl,n1,g1,Aj9⟩:=z3;have es:=(EO.fu nm fh a5).1;obtain⟨a7,aG⟩:=EO.fu nm a2 e2;have ek:a2.k=kd:=by rw[es]at a7;rw[← aF];exact(LB (λp=>p.2) (KR a7)).symm
   refine Ae rfl (Ao d _ rfl (by rw[← i2];exact AK.k (k:=Sum.inr "functions") i1) (Ae rfl (Ao aD _ rfl (by rw[← e1];exact AK.k (k:=Sum.inr nm) i3) (Bo t _ 0 _ rfl rfl (BW.of ht) rfl (B4 l1 rfl ⟨_,AW.of g1⟩ λD2 a3=>?_)))));have aB:D2≠ad:=by
    obtain⟨ds,ha⟩:=N2.dr.dr;exact(Ah ha a3).symm
   have s0:=(AA.refl H2).upd (o:=.lst []) a3;refine Nm (xs:=a2.ks.map V.str) (λi ys σ G=>(∃o0,σ=[o0,some (.ref d),some (.int deep)])/\G D2=some (.lst ys)/\AF ad H2 G/\BM G ad/\ys.length=i/\∃ts,AL G ys ts/\kL En ts=(a2.ks.take i).map some/\∀t∈ts,BI (n+1) t) (by rw[JB];omega) a3 (El ⟨_,rfl⟩ Aj (AA.AM s0) (BM.up N2.dr.dr s0) rfl (B4 [] rfl Cw Hg)) (λi ys σ G hi ⟨_,hd,kb,_,e,_⟩=>(Bc (AW.of (kb _ _ g1 n1)) hd (OI e))) ?_ ?_
   .rintro i y ys σ G O ⟨⟨o0,rfl⟩,a0,a6,a1,le,ts,th,kl,yl⟩;rw[KH]at O;refine Am (Option.map_eq_some_iff.mp O) λkk a9 Y=>?_;subst Y;have em:(if(deep:Int)-1>0 then(deep:Int)-1 else 0)=((deep-1:Nat):Int):=by split<;>omega
    refine Ae rfl (Ae rfl (Ae rfl (Au rfl rfl (Ck 0 ((deep:Int)-1) rfl (Hu d ad S En kk (deep-1) (by show[V.ref d,V.str kk,V.int (if(deep:Int)-1>0 then(deep:Int)-1 else 0)]=_;rw[em]) (N2.keep a6 a1) EO (aG kk (JU a9)) (by omega) ⟨KS Gc hn,λv t H' kb dr tv ev yv=>?_⟩)))));have a8:=kb _ _ a0 aB;refine El a8 ⟨_,rfl⟩ Aj (λq u e nq=>?_) ?_ ⟨by rw[JH,le];rfl,(B4 (ts++[t]) ?_ ?_ λu hu=>(JV.mp hu).elim (yl u) λz=>by rw[JM.mp z];exact yv)⟩
    .rw [Ak (Ah e a3)];exact kb _ _ (a6 _ _ e nq) nq
    .obtain⟨ds,e⟩:=dr;exact⟨ds,by rw[Ak aB.symm];exact e⟩
    .exact ((th.mono (AF.AE kb a1)).append (L8 tv)).mono (E5 a8)
    .rw [B5 a9,KI];have ap:∀a b:List Th,kL En (a++b)=kL En a++kL En b:=λa b=>by
      induction a with
      | nil=>rw[OW,Cw,OW]
      | cons x r ih=>rw[OL,Bf,Bf,ih,OL]
     rw[ap,kl,Bf,Cw,ev];rfl
   .rintro us σ G ⟨_,a0,a6,a1,le,ts,th,kl,yl⟩;rw[JB]at le;rw[JB,LD]at kl;have k:=k.of a6;dsimp only[Dw]
    walk_at "n"
    refine Go (B0 rfl (zl 2) λl q=>?_);generalize z:upd _ l _=H4;obtain⟨s4,g4⟩:=B8 q z;refine Ae rfl (K1 g4 (s4 _ _ a0) (by rw[le];show 2+_<=1000;omega) λp H5 _ s5 g5=>(Ck p _ rfl (.inl ⟨AW.of g5,λtl q=>?_⟩)));have s6:=(AA.refl H5).upd (o:=.tup ([.str "call",.str nm]++us)) q;have sx:=s4.trans (s5.trans s6);have ty:=kE_call EO e2 kl;rw[ek]at ty;exact k _ (.tup (.wd "call"::.wd nm::ts)) _ (AA.AM sx) (BM.up a1 sx) (Au rfl Aj (Au rfl rfl (Au rfl rfl (th.mono sx.AE)))) ty (Fe (Dt Fd (Dt Fd yl)))
structure AZ (H:Hp)(d ad aw as:Addr)(S:GS)(W:List Str):Prop where
 dr:Drw H d ad
 ex:∃kvs ar af kr kf ks,NowAt H d ad S kvs ar af as kr kf ks/\Bm kvs (Sum.inr "words")=some (.ref aw)/\(∀p∈kr,∀b∈aw::S.bs,p.2≠.ref b)/\(∀p∈ks,∀b∈aw::S.bs,p.2≠.ref b)/\(∀p∈kf,∀t v1 x v3,p.2=.ref t->H t=some (.tup [v1,x,v3])->∀b∈aw::S.bs,v1≠.ref b/\v3≠.ref b)
 hw:H aw=some (.lst (W.map V.str))
 nw:aw≠ad
 nl:W.length<=100
 bl:∀b∈S.bs,H b≠none
theorem AZ.now {H:Hp}{d ad aw as:Addr}{S:GS}{W:List Str}(N:AZ H d ad aw as S W):GK H d ad S:=⟨N.dr,let ⟨kvs,ar,af,kr,kf,ks,n,_⟩:=N.ex;(Ct kvs ar af as kr kf ⟨ks,n⟩)⟩
theorem Tab.GL {α:Type}{R I:V->α->Prop}:∀{kvs:List (Key×V)} {tab:List (Str×α)},(∀p∈kvs,∀x,R p.2 x->I p.2 x)->Tab R kvs tab->Tab I kvs tab:=fun {kvs tab} i h=>by
 unfold Tab at *
 induction h with
 | nil=>exact .nil
 | cons a _ Y=>exact .cons ⟨a.1,i _ JJ _ a.2⟩ (Y λp O=>i p (JE _ O))
theorem Tab.mem {α:Type}{R:V->α->Prop}{kvs:List (Key×V)}{tab:List (Str×α)}(h:Tab R kvs tab)(I:p∈kvs):∃x,R p.2 x:=by
 unfold Tab at h
 induction h with
 | nil=>cases I
 | @cons a b _ _ h1 _ O=>
  rcases JC.mp I with rfl|I
  .exact⟨b.2,h1.2⟩
  .exact O I
section
variable {H H':Hp}{d ad aw as:Addr}{S:GS}{W:List Str}
theorem AZ.keep (N:AZ H d ad aw as S W)(k:AF ad H H')(dr:BM H' ad):AZ H' d ad aw as S W:=by
 have nd:∀{a:Addr} {kvs:List (Key×V)},H a=some (.dK kvs)->H' a=some (.dK kvs):=λg=>by
  obtain⟨ds,hd⟩:=N.dr.dr;exact k _ _ g (Bb g hd (by simp))
 refine Am N.dr.hd λa0 m1 m2=>Ri N.ex λkvs ar af kr kf ks n hv w1 w2 w3=>⟨⟨(Ar a0 (nd m1) m2),dr⟩,(X0 kvs ar af kr kf ks ⟨nd n.hd,n.vd,n.vr,n.vf,n.vs,n.vg,nd n.hr,nd n.hf,nd n.hs,n.tr.imp λv x=>CI.keep k,n.tf.imp λv x=>Fns.keep N.dr k,n.ts.imp λv x=>CI.keep k,n.ap,n.ea,n.eb,n.kl⟩ hv w1 w2 λp O t v1 x v3 e g=>?_),k _ _ N.hw N.nw,N.nw,N.nl,λb hb z=>?_⟩
 rotate_left
 .by_cases c:b=ad
  .obtain⟨ds,h⟩:=dr;rw[c,h]at z;cases z
  .cases h:H b with
   | none=>exact N.bl b hb h
   | some u=>rw[k _ _ h c]at z;cases z
 refine Ut (n.tf.mem O) λfh t' u1 u3 I g' _=>?_;rw[e]at I;cases I;have:=Fns.keep N.dr k (X8 t u1 u3 rfl g' (‹_›));refine Gz this λ_ _ _ Y g2 _=>?_;cases Y;have:=k _ _ g' (by obtain⟨ds,hd⟩:=N.dr.dr;exact Bb g' hd (by simp));rw[g]at this;cases this;exact w3 p O t v1 _ v3 e g'
theorem AZ.pop (N:AZ H d ad aw as S (W++[x])):AZ (upd H aw (.lst (W.map V.str))) d ad aw as S W:=by
 have up:∀{a:Addr} {u:HO},H a=some u->a≠aw->upd H aw (.lst (W.map V.str)) a=some u:=λg n=>by rw[Ak n];exact g
 have nd:∀{a:Addr} {kvs:List (Key×V)},H a=some (.dK kvs)->upd H aw (.lst (W.map V.str)) a=some (.dK kvs):=λg=>up g (Bb g N.hw (by simp));have Y:∀{a:Addr} {xs:List V},H a=some (.tup xs)->upd H aw (.lst (W.map V.str)) a=some (.tup xs):=λg=>up g (Bb g N.hw (by simp));have nx:∀{v:V} {xs:List Str},v≠.ref aw->CI H ad v xs->CI (upd H aw (.lst (W.map V.str))) ad v xs:=λnv ⟨a,e,n,g,l⟩=>(Cv a e n (up g λz=>nv (by rw[e,z])) l);refine Am N.dr.hd λa0 m1 m2=>?_;obtain⟨ds,hd⟩:=N.dr.dr;refine Ri N.ex λkvs ar af kr kf ks n hv w1 w2 w3=>?_;refine⟨⟨(Ar a0 (nd m1) m2),ds,up hd N.nw.symm⟩,(X0 kvs ar af kr kf ks ⟨nd n.hd,n.vd,n.vr,n.vf,n.vs,n.vg,nd n.hr,nd n.hf,nd n.hs,n.tr.GL λp I x=>nx (w1 p I aw JJ),n.tf.GL λp I x=>?_,n.ts.GL λp I x=>nx (w2 p I aw JJ),n.ap,n.ea,n.eb,n.kl⟩ hv w1 w2 λp I t v1 x v3 e g=>?_),Aj,N.nw,(by have:=N.nl;rw[JH]at this;omega),λb hb z=>?_⟩
 .rintro ⟨t,v1,v3,e,g,a,b⟩;obtain⟨c1,c3⟩:=w3 p I t v1 _ v3 e g aw JJ;exact Ek t v1 v3 e (Y g) (nx c1 a) (nx c3 b)
 .refine Ut (n.tf.mem I) λfh t' u1 u3 O g' _=>?_;rw[e]at O;cases O;rw[Y g']at g;cases g;exact w3 p I t _ _ _ e g'
 .by_cases c:b=aw
  .rw [c,Aj]at z;cases z
  .rw [Ak c]at z;exact N.bl b hb z
end
noncomputable def Fj {α:Type}(tab:List (Str×α))(n:Str)(x:α):List (Str×α):=if tab.any (λp=>decide (p.1=n))=true then tab.map (λp=>if p.1=n then(p.1,x)else p)else tab++[(n,x)]
theorem Tab.put {α:Type}{R:V->α->Prop}{tab:List (Str×α)}(h:Tab R kvs tab){n:Str}{x:α}(hx:R v x):Tab R (L2.putK kvs (Sum.inr n) v) (Fj tab n x):=by
 have ha:(kvs.any λY=>decide (Y.1=Sum.inr n))=tab.any λp=>decide (p.1=n):=by
  unfold Tab at h
  induction h with
  | nil=>rfl
  | @cons a b _ _ h1 _ I=>
   rw[NL,NL,I,h1.1]
   congr 1
   exact decide_eq_decide.mpr ⟨MD,LB Sum.inr⟩
 unfold L2.putK Fj;rw[ha];split
 .rename_i O;clear ha O;unfold Tab at *
  induction h with
  | nil=>exact .nil
  | @cons a b _ _ h1 _ I=>
   rw[JX,JX];refine .cons ?_ I;by_cases c:b.1=n
   .rw [JN (by rw[h1.1,c]),JN c];exact⟨h1.1,hx⟩
   .rw [JP (by rw[h1.1];exact λz=>c (MD z)),JP c];exact h1
 .rename_i O;clear ha O;unfold Tab at *
  induction h with
  | nil=>exact .cons ⟨rfl,hx⟩ .nil
  | cons h1 _ I=>exact .cons h1 I
theorem Ef {α:Type}{tab:List (Str×α)}{n k:Str}{x y:α}(h:(k,y)∈Fj tab n x):(k=n/\y=x)\/((k,y)∈tab/\k≠n):=by
 unfold Fj at h;split at h
 .refine Am (JT.mp h) λp I e=>?_;by_cases c:p.1=n
  .rw [JN c]at e;cases e;exact .inl ⟨c,rfl⟩
  .rw [JP c]at e;subst e;exact .inr ⟨I,c⟩
 .rename_i hn
  rcases JV.mp h with z|z
  .refine .inr ⟨z,λc=>hn (PM.mpr (Ae z (JO c)))⟩
  .cases JM.mp z;exact .inl ⟨rfl,rfl⟩
section
variable {H H':Hp}{d ad aw as:Addr}{S:GS}{W:List Str}
theorem AZ.see (N:AZ H d ad aw as S W)(hs:H as=some (.dK ks))(hl:H l=some (.lst (xs.map V.str)))(n1:l≠ad)(n2:∀b∈aw::S.bs,l≠b)(len:xs.length<=100) :
  AZ (upd H as (.dK (L2.putK ks (Sum.inr kd) (.ref l)))) d ad aw as {S with seen:=Fj S.seen kd xs} W:=by
 refine Ri N.ex λkvs ar af kr kf a1 n hv w1 w2 w3=>?_;obtain rfl:ks=a1:=by have:=n.hs;rw[hs]at this;cases this;rfl
 have up:∀{a:Addr} {u:HO},H a=some u->a≠as->upd H as (.dK (L2.putK ks (Sum.inr kd) (.ref l))) a=some u:=λg n=>by rw[Ak n];exact g
 have Y:∀{a:Addr} {ys:List V},H a=some (.tup ys)->upd H as (.dK (L2.putK ks (Sum.inr kd) (.ref l))) a=some (.tup ys):=λg=>up g (Bb g hs (by simp));have nl:∀{a:Addr} {ys:List V},H a=some (.lst ys)->upd H as (.dK (L2.putK ks (Sum.inr kd) (.ref l))) a=some (.lst ys):=λg=>up g (Bb g hs (by simp));have nx:∀v ys,CI H ad v ys->CI (upd H as (.dK (L2.putK ks (Sum.inr kd) (.ref l)))) ad v ys:=λv ys ⟨a,e,m,g,q⟩=>(Cv a e m (nl g) q);refine Am N.dr.hd λa2 m1 m2=>?_;obtain⟨ds,hd⟩:=N.dr.dr;have a0:=up n.hd n.ap.1.1.symm;refine⟨⟨(Ar a2 (up m1 n.ap.1.1.symm) m2),ds,nl hd⟩,(X0 kvs ar af kr kf _ ⟨a0,n.vd,n.vr,n.vf,n.vs,n.vg,up n.hr n.ap.2.1.symm,up n.hf n.ap.2.2.symm,Aj,n.tr.imp nx,n.tf.imp λv x ⟨t,v1,v3,e,g,a,b⟩=>(Ek t v1 v3 e (Y g) (nx _ _ a) (nx _ _ b)),Tab.put (n.ts.imp nx) (Cv l rfl n1 (nl hl) len),n.ap,n.ea,n.eb,n.kl⟩ hv w1 (λp I b hb=>?_) λp I t v1 x v3 e g=>?_),nl N.hw,N.nw,N.nl,λb hb z=>?_⟩
 .unfold L2.putK at I;split at I
  .refine Am (JT.mp I) λq hq e=>?_;split at e
   .rw [← e];exact λz=>n2 b hb (V.ref.inj z)
   .rw [← e];exact w2 q hq b hb
  .rcases JV.mp I with z|z
   .exact w2 p z b hb
   .rw [JM.mp z];exact λz=>n2 b hb (V.ref.inj z)
 .refine Ut (n.tf.mem I) λfh t' u1 u3 O g' _=>?_;rw[e]at O;cases O;rw[Y g']at g;cases g;exact w3 p I t _ _ _ e g'
 .by_cases c:b=as
  .rw [c,Aj]at z;cases z
  .rw [Ak c]at z;exact N.bl b hb z
end
structure BG (S:GS)(W:List Str)(κ:Kd)(kn:List Str)(s:SE):Prop where
 eo:DL S (s.e κ)
 gi:s.g=S.given
 ok:∀x∈W,Da x=true/\x∉kn
 nd:W.Nodup
 se:∀k xs x,(k,xs)∈S.seen->x∈xs->x∈kn
 ln:∀k xs,(k,xs)∈S.seen->xs.length+W.length<=60
 wl:W.length<=50
 sl:S.seen.length+W.length<=70
 sk:∀k xs,(k,xs)∈S.seen->D7 S k
 gk:D7 S S.given
theorem Ib {α:Type}(tab:List (Str×α))(n:Str)(x:α):(Fj tab n x).length<=tab.length+1:=by
 unfold Fj;split
 .rw [JB];omega
 .rw [JH];exact JG _
theorem BG.letS (h:BG S (W++[x]) κ kn s)(hx:∀y∈xs,y=x\/∃ys,(kd,ys)∈S.seen/\y∈ys)(hl:xs.length+W.length<=60)(hk:D7 S kd):BG {S with seen:=Fj S.seen kd xs} W (putK κ x kd) (x::kn) s:=by
 have a2:=(h.ok x (by simp)).2;have a0:=(h.ok x (by simp)).1;have a3:x≠"yes"/\x≠"no":=by
  unfold Da at a0;simp only[JW,NA,Bool.or_eq_false_iff,MP]at a0;exact a0.2
 have a1:∀k ys y,(k,ys)∈S.seen->y∈ys->putK κ x kd y=some k/\y≠"yes"/\y≠"no":=λk ys y a b=>by
  obtain⟨I,O⟩:=h.eo.se k ys y a b;have ne:y≠x:=λz=>a2 (z▸h.se k ys y a b);exact⟨by unfold putK;rw[JP ne];exact I,O⟩
 refine⟨⟨h.eo.re,h.eo.fu,λk ys y a b=>?_,h.eo.rl,h.eo.ff,h.eo.rn⟩,h.gi,λy Y=>⟨(h.ok y (LQ _ Y)).1,λz=>?_⟩,(LI.mp h.nd).1,λk ys y a b=>?_,λk ys a=>?_,?_,?_,λk ys a=>(Ef a).elim (λz=>z.1▸hk) λz=>h.sk k ys z.1,h.gk⟩
 .rcases Ef a with⟨rfl,rfl⟩|⟨a,_⟩
  .rcases hx y b with rfl|⟨zs,I,O⟩
   .exact⟨by show putK κ y k y=_;unfold putK;rw[JN rfl],a3⟩
   .exact a1 _ zs y I O
  .exact a1 k ys y a b
 .rcases JC.mp z with rfl|z
  .exact (LI.mp h.nd).2.2 y Y y (by simp) rfl
  .exact (h.ok y (LQ _ Y)).2 z
 .rcases Ef a with⟨rfl,rfl⟩|⟨a,_⟩
  .rcases hx y b with rfl|⟨zs,I,O⟩
   .exact JJ
   .exact JE _ (h.se _ zs y I O)
  .exact JE _ (h.se k ys y a b)
 .rcases Ef a with⟨rfl,rfl⟩|⟨a,_⟩
  .exact hl
  .have:=h.ln k ys a;rw[JH]at this;omega
 .have:=h.wl;rw[JH]at this;omega
 .have:=h.sl;have:=Ib S.seen kd xs;rw[JH,KJ]at *
  show(Fj S.seen kd xs).length+_<=70
  omega
def EY (d ad aw as:Addr)(H H':Hp):Prop:=∀q u,H q=some u->q≠d->q≠ad->q≠aw->q≠as->H' q=some u
def BN (S S':GS)(W I kn kn':List Str):Prop:=(S'.AB=S.AB/\S'.AC=S.AC/\S'.given=S.given/\S'.ar=S.ar/\S'.af=S.af/\S'.bs=S.bs)/\(I.length<=W.length/\I.length+kn'.length<=W.length+kn.length)/\∀x∈kn,x∈kn'
def SQ (m:Nat)(e:Bool)(s:SE)(d ad aw as:Addr)(S:GS)(W:List Str)(κ:Kd)(kn:List Str)(H:Hp)(Q:VK):Prop:=∀v t H' O S' I κ' kn',AS H' v t->BD s t κ kn=some (κ',kn',e)->AZ H' d ad aw O S' I->BG S' I κ' kn' s->EY d ad aw as H H'->(O=as\/H O=none)->BN S S' W I kn kn'->BI m t->Q v H'
def Rr (c:List Str->Prop)(e:Bool):Sp:=λvs H Q _=>∃d ad aw as S W κ kn s,vs=[.ref d]/\AZ H d ad aw as S W/\BG S W κ kn s/\c W/\SQ 7 e s d ad aw as S W κ kn H Q
section
variable {H H1 H2:Hp}{d ad aw as:Addr}{S:GS}{W:List Str}
theorem AF.GJ (k:AF ad H H1):EY d ad aw as H H1:=λq u e _ n _ _=>k q u e n
theorem EY.trans (a:EY d ad aw as H H1)(b:EY d ad aw as H1 H2):EY d ad aw as H H2:=λq u e n1 n2 n3 n4=>b q u (a q u e n1 n2 n3 n4) n1 n2 n3 n4
theorem AZ.HH (N:AZ H d ad aw as S W):∃kvs ks,H d=some (.dK kvs)/\H as=some (.dK ks)/\Bm kvs (Sum.inr "seen")=some (.ref as)/\Bm kvs (Sum.inr "words")=some (.ref aw)/\as≠d/\Tab (CI H ad) ks S.seen:=
 let ⟨kvs,_,_,_,_,ks,n,I,_⟩:=N.ex;(Md kvs ks n.hd n.hs n.vs I n.ap.1.1 n.ts)
theorem AZ.kl (N:AZ H d ad aw as S W)(h:H d=some (.dK kvs)):kvs.length<=7:=by
 refine dd61 N.ex λI _ _ _ _ _ n _=>?_;have:=n.hd;rw[h]at this;cases this;exact n.kl
theorem AZ.AE (N:AZ H d ad aw as S W)(f:EY d ad aw as H H1):EG H H1:=λb xs e=>by
 refine A0 N.HH λkvs ks h1 h2 _=>?_;obtain⟨ds,h3⟩:=N.dr.dr;exact f b _ e (Bb e h1 (by simp)) (Bb e h3 (by simp)) (Bb e N.hw (by simp)) (Bb e h2 (by simp))
end
theorem Ik (hn:Da x=true)(hx:x∉kn)(ht:kE (s.e κ) t=some kd):BD s (.tup [.wd "let",.wd x,t]) κ kn=some (putK κ x kd,x::kn,false):=by
 rw[Cl];unfold EZ;rw[JN rfl];simp only[ht];unfold EW;rw[JN (by rw[hn];simp[hx])]
theorem FJ:AD ["_law_now","_law_kind_here","_law_value_here","_law_name"] ["_law_now"] (Aq Tm):=FS
theorem Xm (hm:3<=m)(F:BE K "_law_let" "_law_let" Tm f fd)(aB:AQ P w K mg base 3 "_law_kind" ["_law_now"] Px)(aC:AQ P w K mg base m "_law_value" ["_law_now","_law_kind_here","_law_deep"] (F8 5)):AI P w K mg base BV (m+1) f fd ["_law_now"] (Rr (λW=>W≠[]) false):=by
 refine F.CZ FJ λcdv A outer s H vs Q E hr h=>?_
 .refine Dp h λd ad aw as S W z1=>?_;refine Kz z1 λκ kn se z2 N O hw k=>?_;subst z2;have nd:=FJ.nd;have aD:(2000000:Nat)<=sizeLine:=by rw[KU];omega
  refine Ae (Ag (Bd 1 nd (qf aB hr (AT (qv 0)))) (Ag (Bd 2 nd (qf aC hr (AO (qv 0) (qv 1) Af))) (Ag (Bd 3 nd (Lf KD MW MX Nd (BP hr (qv 0) Ad))) (Ag (Dy (Dn hr) (BP hr (qv 0) Ad) (qv 1) (Ap Bj (Qf (Dn hr) (BP hr (qv 0) Ad) (qv 1) (Az Cg) ⟨rfl,rfl,rfl,rfl⟩) (Az (AT (qv 3)))) rfl) (Al (Aw (Ai (AO Ad (qv 3) (qv 2))))))))) (Cs (Ae rfl (Ek d ad S rfl N.now.r0 O.eo.rl λkd CK H1 a2 a5=>?_)));have N1:=N.keep a2 a5
  walk_at "n"
  have a8:Jm kd 2<5:=KS Gc (by decide);refine Cs (Ae rfl (Ae rfl (Hu d ad S (se.e κ) kd 2 rfl N1.now O.eo CK (by decide) ⟨a8,λv t H2 a3 a6 tv ev yv=>?_⟩)));have N2:=N1.keep a3 a6
  walk_at "n"
  obtain⟨I,x,rfl⟩:∃I x,W=I++[x]:=by
   rcases List.eq_nil_or_concat W with rfl|⟨I,x,rfl⟩
   .exact absurd rfl hw
   .exact Ki I x (by simp)
  refine Mg N2.HH λkvs ks h1 h2 h3 h4 aF h5=>?_;have a7:AK H2 d (.str "words") (some (.ref aw)):=by rw[← h4];exact AK.k (k:=Sum.inr "words") h1
  refine Cs (Ae rfl (Cj d _ rfl a7 (.inl ⟨rfl,_,AW.of N2.hw⟩) (Et aw _ (.str x) rfl rfl N2.hw (by simp) ?_)));have N3:=N2.pop;have eW:((I++[x]).map V.str).dropLast=I.map V.str:=by simp
  rw[eW];have f3:EY d ad aw as H2 (upd H2 aw (.lst (I.map V.str))):=λq u e _ _ n _=>by rw[Ak n];exact e
  have t3:=N2.AE f3;generalize upd H2 aw (.lst (I.map V.str))=H3 at *
  walk_at "n"
  refine Mg N3.HH λaH a0 i1 i2 i3 i4 _ i5=>?_;have a1:∀{X:Hp},AA H3 X->AK X d (.str "seen") (some (.ref as)):=λs=>by rw[← i3];exact AK.k (k:=Sum.inr "seen") (s _ _ i1)
  refine Ae rfl (Ao d _ rfl (a1 (AA.refl H3)) (B4 as rfl (.inl ⟨a0,.of i2⟩) (B0 rfl (zl 0) λl q=>?_)));generalize z:upd _ l _=H4;obtain⟨s4,g4⟩:=B8 q z;refine Ar (Bm a0 (Sum.inr kd)) (AK.k (k:=Sum.inr kd) (s4 _ _ i2)) ?_;obtain⟨lo,xs,el,gl,hx,aG⟩:∃(lo:Addr) (xs:List Str),(Bm a0 (Sum.inr kd)).getD (.ref l)=.ref lo/\H4 lo=some (.lst (xs.map V.str))/\(∀y∈xs,∃ys,(kd,ys)∈S.seen/\y∈ys)/\xs.length+(I.length+1)<=60:=by
   cases o:Bm a0 (Sum.inr kd)with
   | none=>exact Cj l [] rfl g4 (λy Y=>by cases Y) (by have:=O.wl;rw[JH,KJ]at this;show 0+_<=60;omega)
   | some v=>
    refine Am (i5.get o) λxs hs z1=>?_;refine Q1 z1 λa e n' g ln=>?_;exact Cj a xs e (s4 _ _ g) (λy Y=>(Ar xs hs Y)) (by have:=O.ln kd xs hs;rw[JH,KJ]at this;exact this)
  rw[el];refine B0 rfl (zl 1) λl2 q2=>?_;generalize z2:upd _ l2 _=H5;obtain⟨s5,g5⟩:=B8 q2 z2;refine K1 (s5 _ _ gl) g5 (by rw[JB];show _+1<=1000;omega) λl3 H6 f6 s6 g6=>?_;have sx:=s4.trans (s5.trans s6);have N6:=N3.keep (AA.AM sx) (BM.up N3.dr.dr sx);have g6:H6 l3=some (.lst ((xs++[x]).map V.str)):=by rw[KI];exact g6
  have n1:l3≠ad:=by
   obtain⟨ds,ha⟩:=N3.dr.dr;exact(Ah (s5 _ _ (s4 _ _ ha)) f6).symm
  have n2:∀b∈aw::S.bs,l3≠b:=λb hb z=>by
   rcases JC.mp hb with rfl|hb
   .exact (Ah (s5 _ _ (s4 _ _ N3.hw)) f6).symm z
   .cases h:H3 b with
    | none=>exact N3.bl b hb h
    | some u=>exact(Ah (s5 _ _ (s4 _ _ h)) f6).symm z
  have aE:a0.length<=1000:=by rw[i5.len];have:=O.sl;omega
  refine Ae rfl (Ao d _ rfl (a1 sx) (Ae rfl (Ao as _ rfl (CW.k (k:=Sum.inr kd) (sx _ _ i2) (by omega)) ?_)));have N7:=N6.see (kd:=kd) (xs:=xs++[x]) (sx _ _ i2) g6 n1 n2 (by rw[JH,KJ];omega);have f7:EY d ad aw as H6 (upd H6 as (.dK (L2.putK a0 (Sum.inr kd) (.ref l3)))):=λq u e _ _ _ n=>by rw[Ak n];exact e
  have t7:=N6.AE f7;generalize upd H6 as (.dK (L2.putK a0 (Sum.inr kd) (.ref l3)))=H7 at *
  have a4:=O.letS (kd:=kd) (xs:=xs++[x]) (λy Y=>by
   rcases JV.mp Y with h|h
   .exact .inr (hx y h)
   .exact .inl (JM.mp h)) (by rw[JH,KJ];omega) CK
  obtain⟨aA,a9⟩:=O.ok x (by simp)
  try dsimp only
  refine Go (Lo (Hh (Ae rfl (B0 rfl (zl 3) λp hp=>?_))));have s8:=(AA.refl H7).upd (o:=.tup [.str "let",.str x,v]) hp;have fx:EY d ad aw as H (upd H7 p (.tup [.str "let",.str x,v])):=(AF.GJ a2).trans ((AF.GJ a3).trans (f3.trans ((AF.GJ (AA.AM sx)).trans (f7.trans (AF.GJ (AA.AM s8))))));exact k _ (.tup [.wd "let",.wd x,t]) _ as _ I _ _ (Au rfl Aj (Au rfl rfl (Au rfl rfl (Au rfl ((((tv.mono t3).mono sx.AE).mono t7).mono s8.AE) rfl)))) (Ik aA a9 ev) (N7.keep (AA.AM s8) (BM.up N7.dr.dr s8)) a4 fx (.inl rfl) (Bc (El rfl rfl rfl rfl rfl rfl) (by simp only[JH,JR,OV];omega) λy Y=>JE _ Y) (dle2 Fd yv)
section
variable {H:Hp}{d ad aw as:Addr}{S:GS}{W:List Str}{κ:Kd}{kn:List Str}{s:SE}{Q:VK}{op:Str}{q:Addr}{m:Nat}
theorem SQ.easy (k:SQ m e s d ad aw as S W κ kn H Q)(N:AZ H d ad aw as S W)(O:BG S W κ kn s)(I:AF ad H H')(dr:BM H' ad)(th:AS H' v t)(st:BD s t κ kn=some (κ,kn,e))(y:BI m t):Q v H':=
 k v t H' as S W κ kn th st (N.keep I dr) O (AF.GJ I) (.inl rfl) (Bc (El rfl rfl rfl rfl rfl rfl) ⟨JG _,JG _⟩ λ_ h=>h) y
theorem SQ.IQ (k:SQ (m+1) e s d ad aw as S W κ kn H Q)(N:AZ H d ad aw as S W)(O:BG S W κ kn s)(kb:AF ad H H3)(dr:BM H3 ad)(h1:AS H3 v1 t1)(Y:H3 q=none)(st:BD s (.tup [.wd op,t1]) κ kn=some (κ,kn,e))(y1:BI m t1):Q (.ref q) (upd H3 q (.tup [.str op,v1])):=by
 have I:=(AA.refl H3).upd (o:=.tup [.str op,v1]) Y;exact k.easy N O (t:=.tup [.wd op,t1]) (kb.trans I) (BM.up dr I) (Au rfl Aj (Au rfl rfl (Au rfl (h1.mono I.AE) rfl))) st (Ab7 y1)
theorem SQ.HR (k:SQ (m+1) e s d ad aw as S W κ kn H Q)(N:AZ H d ad aw as S W)(O:BG S W κ kn s)(kb:AF ad H H3)(dr:BM H3 ad)(h1:AS H3 v1 t1)(h2:AS H3 v2 t2)(Y:H3 q=none)(st:BD s (.tup [.wd op,t1,t2]) κ kn=some (κ,kn,e))(y1:BI m t1)(y2:BI m t2):Q (.ref q) (upd H3 q (.tup [.str op,v1,v2])):=by
 have I:=(AA.refl H3).upd (o:=.tup [.str op,v1,v2]) Y;exact k.easy N O (t:=.tup [.wd op,t1,t2]) (kb.trans I) (BM.up dr I) (Au rfl Aj (Au rfl rfl (Au rfl (h1.mono I.AE) (Au rfl (h2.mono I.AE) rfl)))) st (dle2 y1 y2)
theorem SQ.tup4 (k:SQ (m+1) e s d ad aw as S W κ kn H Q)(N:AZ H d ad aw as S W)(O:BG S W κ kn s)(kb:AF ad H H3)(dr:BM H3 ad)(h1:AS H3 v1 t1)(h2:AS H3 v2 t2)(h3:AS H3 v3 t3)(Y:H3 q=none)(st:BD s (.tup [.wd op,t1,t2,t3]) κ kn=some (κ,kn,e))(y1:BI m t1)(y2:BI m t2)(y3:BI m t3):Q (.ref q) (upd H3 q (.tup [.str op,v1,v2,v3])):=by
 have I:=(AA.refl H3).upd (o:=.tup [.str op,v1,v2,v3]) Y;exact k.easy N O (t:=.tup [.wd op,t1,t2,t3]) (kb.trans I) (BM.up dr I) (Au rfl Aj (Au rfl rfl (Au rfl (h1.mono I.AE) (Au rfl (h2.mono I.AE) (Au rfl (h3.mono I.AE) rfl))))) st (dle3 y1 y2 y3)
theorem O6 (h:kE (s.e κ) t=some ("number":Str)):BD s (.tup [.wd "out",t]) κ kn=some (κ,kn,false):=by
 rw[Cl];unfold EZ;rw[AN,AN,AN,AN,AN,AN,AN,JN rfl,kL1 h];unfold EW;exact JN (JO rfl)
theorem S5 (h:kE (s.e κ) t=some k):BD s (.tup [.wd "do",t]) κ kn=some (κ,kn,false):=by
 rw[Cl];unfold EZ;rw[AN,AN,AN,AN,AN,AN,AN,AN,AN,JN rfl];simp only[h];rfl
theorem Z3 (h1:kE (s.e κ) a=some ("list":Str))(h2:kE (s.e κ) b=some ("number":Str))(h3:kE (s.e κ) c=some ("number":Str)):BD s (.tup [.wd "store",a,b,c]) κ kn=some (κ,kn,false):=by
 rw[Cl];unfold EZ;rw[AN,AN,AN,AN,AN,AN,AN,AN,JN rfl,Bf,Bf,kL1 h3,h1,h2];unfold EW;exact JN (JO rfl)
theorem Sz (h1:kE (s.e κ) a=some n)(hr:s.R n=some fl)(hf:f∈fl)(h3:kE (s.e κ) c=some ("number":Str)):BD s (.tup [.wd "set",a,.wd f,c]) κ kn=some (κ,kn,false):=by
 rw[Cl];unfold EZ;rw[AN,AN,AN,AN,AN,AN,JN rfl];simp only[h1,hr,h3];unfold EW;exact JN (by simp[hf])
theorem O1 (hx:κ x=some k)(h:kE (s.e κ) t=some k):BD s (.tup [.wd "put",.wd x,t]) κ kn=some (κ,kn,false):=by
 rw[Cl];unfold EZ;rw[AN,JN rfl];simp only[hx,h];unfold EW;exact JN (by simp)
end
theorem Qd:Jm k 2<5:=KS Gc (by decide)
theorem Ts:Jm k 1<5:=KS Gc (by decide)
def W0:Sp:=λvs H Q _=>∃d ad aw as S W κ kn s,∃way:Int,vs=[.ref d,.int way]/\AZ H d ad aw as S W/\BG S W κ kn s/\SQ 7 false s d ad aw as S W κ kn H Q
theorem EN:AD ["_law_now","_law_way","_law_name","_law_record","_law_row"] ["_law_now","_law_way"] (Aq P9):=FS
theorem Vl (hm:3<=m)(F:BE K "_law_deed" "_law_deed" P9 f fd)(T:BH K mg)(aJ:AQ P w K mg base 3 "_law_kind" ["_law_now"] Px)(aC:AQ P w K mg base 2 "_law_one_of" ["_law_now","_law_some"] Ps)(a2:AQ P w K mg base m "_law_value" ["_law_now","_law_kind_here","_law_deep"] (F8 5)):AI P w K mg base BV (m+1) f fd ["_law_now","_law_way"] W0:=by
 refine F.CZ EN λcdv A outer s H vs Q E hr h=>?_
 .refine Dp h λd ad aw as S W z1=>?_;refine Q0 z1 λκ kn se way z2 NS SO k=>?_;subst z2;have nd:=EN.nd;have N:=NS.now;have O:=SO.eo;refine Ae (Ag (Bz (QW.pt (Iw (By B9 (qv 1) Af) (Ge (By F1 (Bl Sf rfl T.AY NT (AT (BP hr (qv 0) Ad))) Af)))) (Ag (Bd 2 nd (qf aC hr (AJ (qv 0) (Cc (G0 rfl) rfl T.FF boot_list (AT (BP hr (qv 0) Ad)))))) (Ag (Bd 3 nd (qf a2 hr (AO (qv 0) (qv 2) Af))) (Al (Aw (Ai (BF Ad (qv 3) (qf aC hr (AJ (qv 0) (BP hr (BP hr (qv 0) Ad) (qv 2)))) (qf a2 hr (AO (qv 0) Ad Af)))))))) Be) (Ag (Bz (By B9 (qv 1) Af) (Ag (Bd 4 nd (qf a2 hr (AO (qv 0) Ad Af))) (Al (Aw (Ai (BF Ad (qv 4) (qf a2 hr (AO (qv 0) Ad Af)) (qf a2 hr (AO (qv 0) Ad Af))))))) Be) (Ag (Bz (By B9 (qv 1) Af) (Al (Aw (Ai (AJ Ad (qf a2 hr (AO (qv 0) (qf aJ hr (AT (qv 0))) Af)))))) Be) (Al (Aw (Ai (AJ Ad (qf a2 hr (AO (qv 0) Ad Af))))))))) (ifJ ?_ λrest=>?_)
  .refine B0 rfl rfl (Ae rfl (Bw (λc=>?_) (λc=>?_)))
   .refine Cs (Ae rfl (FV N O (.inr (.inr (.inl rfl))) (by decide) Ts λv1 t1 H1 a4 a5 a1 e1 y1=>?_));have N1:=N.keep a4 a5
    walk_at "n"
    refine Go (Lo (Hh (Ae rfl (Ae rfl (FV N1 O (.inl rfl) (by decide) Ts λv2 t2 H2 I a0 aI e2 y2=>(Ae rfl (FV (N1.keep I a0) O (.inl rfl) (by decide) Ts λv3 t3 H3 a3 a6 a8 e3 y3=>⟨zl 4,λp Y=>k.tup4 NS SO (DY a4 (DY I a3)) a6 ((a1.mono (AF.AE I a5)).mono (AF.AE a3 a0)) (aI.mono (AF.AE a3 a0)) a8 Y (Z3 e1 e2 e3) y1 y2 y3⟩)))))))
   refine B0 rfl rfl (Ae rfl (Bw (λc=>?_) (λc=>?_)))
   .refine Ae rfl (Ae rfl (Ek d ad S rfl N.r0 O.rl λkd CK H1 a4 a5=>FV (N.keep a4 a5) O CK (by decide) Qd λv1 t1 H2 I a0 a1 e1 y1=>⟨zl 2,λp Y=>k.IQ NS SO (DY a4 I) a0 a1 Y (S5 e1) y1⟩))
   .exact Ae rfl (FV N O (.inl rfl) (by decide) Qd λv1 t1 H2 I a0 a1 e1 y1=>⟨zl 2,λp Y=>k.IQ NS SO I a0 a1 Y (O6 e1) y1⟩)
  .refine B0 rfl rfl (Ae rfl (Bw (λc=>?_) (λc=>?_)))
   .refine Jf N.re λkvs ar kr h1 h2 h3 h4=>?_;have hg:AK H d (.str "records") (some (.ref ar)):=by rw[← h2];exact AK.k (k:=Sum.inr "records") h1
    refine Ae rfl (Ao d _ rfl hg (Ao ar kr rfl h3 (Au rfl rfl (Ae rfl (Bw (λc2=>?_) (λc2=>rest))))));have c2:(0:Int)<(kr.length:Nat):=JL c2;refine Cs (Ae rfl (Ae rfl (Ao d _ rfl hg (Ao ar kr rfl (.of h3) λl q=>?_))));generalize z:upd _ l _=H1;obtain⟨s1,g1⟩:=B8 q z;obtain⟨ds,ha⟩:=N.dr.dr;have N1:=N.keep (AA.AM s1) (BM.up N.dr.dr s1);refine Ch d ad l _ rfl N1.dr ((Ah ha q).symm) g1 (λz=>by have:=LB List.length z;rw[JB,OV]at this;omega) λx hx H2 I a0=>?_;refine Am (JT.mp hx) λp Y z1=>?_;subst z1;refine Am (h4.key Y) λnm aA e=>?_;rw[e];have N2:=N1.keep I a0
    walk_at "n"
    refine Cs (Ae rfl (Ae rfl (FV N2 O (.inr (.inr (.inr aA))) (by decide) Ts λv1 t1 H3 a3 a6 a1 e1 y1=>?_)));have N3:=N2.keep a3 a6
    walk_at "n"
    refine Jf N3.re λaM aD aK i1 i2 i3 i4=>?_;refine A0 (i4.has aA) λvf fl j1 j2 z1=>?_;refine Q1 z1 λaf z2 j4 j5 j6=>?_;subst z2;obtain⟨aG,aH⟩:=O.re nm fl j2;refine Go (Lo (Hh (Ae rfl (Ae rfl (Ae rfl (Ao d _ rfl (by rw[← i2];exact AK.k (k:=Sum.inr "records") i1) (Ae rfl (Ao aD _ rfl (by rw[← j1];exact AK.k (k:=Sum.inr nm) i3) (Ch d ad af _ rfl N3.dr j4 j5 (λz=>aH (by simpa using z)) λx hx H4 a7 a9=>?_)))))))));refine Am (JT.mp hx) λaF hf z1=>?_;subst z1;refine Ae rfl (FV (N3.keep a7 a9) O (.inl rfl) (by decide) Qd λv3 t3 H5 aB aE a8 e3 y3=>⟨zl 4,λp Y=>k.tup4 (t2:=.wd aF) NS SO (DY (AA.AM s1) (DY I (DY a3 (DY a7 aB)))) aE ((a1.mono (AF.AE a7 a6)).mono (AF.AE aB a9)) rfl a8 Y (Sz e1 aG hf e3) y1 Fd y3⟩)
   .exact Bw (λz=>by cases z) (λ_=>rest)
theorem FG:AD ["_law_now","_law_some","_law_kind_here"] ["_law_now"] (Aq Tl):=FS
theorem Xl (hm:3<=m)(F:BE K "_law_put" "_law_put" Tl f fd)(T:BH K mg)(a8:AQ P w K mg base 2 "_law_one_of" ["_law_now","_law_some"] Ps)(a7:AQ P w K mg base m "_law_value" ["_law_now","_law_kind_here","_law_deep"] (F8 5)):AI P w K mg base BV (m+1) f fd ["_law_now"] (Rr (λ_=>True) false):=by
 refine F.CZ FG λcdv A outer s H vs Q E hr h=>?_
 .refine Dp h λd ad aw as S W Y=>?_;refine Kz Y λκ kn se z2 NS SO _ k=>?_;subst z2;have nd:=FG.nd;have N:=NS.now;have EO:=SO.eo;have aK:(2000000:Nat)<=sizeLine:=by rw[KU];omega
  refine Ae (Ag (Xf (G9 (i0:=1) nd rfl rfl rfl (N':=["_law_kind_here","_law_now"]) (n:=1) (js:=[0]) (At.o ["_law_now"]) rfl (Tw (BP hr (qv 0) Ad)) (λ_ _ _=>(Bc (GD 0) (O9 (By F1 (Bl (show Ex _ (.builtin "len") (λxs H Q=>∃p ys,xs=[V.ref p]/\(AW K H p ys\/BW K H p ys)/\Q (.int ys.length) H)from Ji) rfl T.AY NT (AT (BP hr (BP hr (qv 1) Ad) (qv 0)))) Af)) (qv 0))))) (Ag (Bz (By B9 (Bl (show Ex _ (.builtin "len") (λxs H Q=>∃p ys,xs=[V.ref p]/\(AW K H p ys\/BW K H p ys)/\Q (.int ys.length) H)from Ji) rfl T.AY NT (AT (qv 1))) Af) (Al (Aw (Ai (AJ Ad (qf a7 hr (AO (qv 0) Ad Af)))))) Be) (Ag (Bd 2 nd (qf a8 hr (AJ (qv 0) (qv 1)))) (Al (Aw (Ai (AO Ad (qf a8 hr (AJ (qv 0) (BP hr (BP hr (qv 0) Ad) (qv 2)))) (qf a7 hr (AO (qv 0) (qv 2) Af))))))))) (Mg NS.HH λkvs ks h1 h3 h2 _ aI h4=>?_);refine Ck as ks h3 (Ae rfl (Ao d _ rfl (by rw[← h2];exact AK.k (k:=Sum.inr "seen") h1) (Ao as ks rfl h3 λo D O=>?_)));have a6:as≠D:=λz=>by rw[← z,Aj]at O;cases O
  have fD:H D=none:=by rw[Ak a6.symm]at O;exact O
  refine Nn (λi ys σ G=>(∃o0,σ=[o0,some (.ref d)])/\G D=some (.lst ys)/\AA (upd H as (.DZ o (.dK ks))) G/\(∀y∈ys,∃nm l xs,y=.str nm/\Bm ks (Sum.inr nm)=some (.ref l)/\(nm,xs)∈S.seen/\CI H ad (.ref l) xs/\xs≠[])/\ys.length<=i) (by rw[h4.len];have:=SO.sl;omega) O (Du ⟨_,rfl⟩ Aj ((AA.refl _).upd O) (λy hy=>by cases hy) (JG _)) (λi ys σ G hi ⟨_,hd,I,_,e⟩=>(Bc (I _ _ Aj) hd e)) ?_ ?_
  .rintro i ky x ys σ G hx ⟨⟨o0,rfl⟩,a1,I,hy,le⟩;refine Am (h4.key (JU hx)) λnm aF e=>?_;have e:kV ky=.str nm:=e;rw[e];refine A0 (h4.has aF) λv xs e1 e2 Y=>?_;refine Q1 Y λl z2 nl hl ll=>?_;subst z2;have aC:G d=some (.dK kvs):=I _ _ (by rw[Ak aI.symm];exact h1);have aE:G l=some (.lst (xs.map V.str)):=I _ _ (by rw[Ak (Bb hl h3 (by simp))];exact hl);refine Ae rfl (Ao d _ rfl (by rw[← h2];exact AK.k (k:=Sum.inr "seen") aC) (Ae rfl (Ao as _ rfl (.inl (Ao ks (Sum.inr nm) (.inr ⟨o,I _ _ Aj⟩) rfl e1.symm)) (Ao l _ rfl (.inl (AW.of aE)) (Au rfl rfl (Ae rfl (Bw (λc=>?_) (λc=>?_))))))))
   .refine Ab0 rfl a1 ⟨_,rfl⟩ Aj (Kw I O) ⟨λy a3=>?_,by rw[JH,KJ];omega⟩
    rcases JV.mp a3 with z|z
    .exact hy y z
    .rw [JM.mp z];refine Et nm l xs rfl e1 e2 (Cv l rfl nl hl ll) λz=>?_;rw[z]at c;cases c
   .exact Du ⟨_,rfl⟩ a1 I hy (by omega)
  .rintro ys σ G ⟨_,a1,I,hy,le⟩;refine Ar o (I _ _ Aj) ?_;generalize z:upd G as _=H1;have s1:AA H H1:=λq u e=>by
    rw[← z];by_cases c:q=as
    .rw [c,Aj];rw[c,h3]at e;exact e
    .rw [Ak c];exact I _ _ (by rw[Ak c];exact e)
   have gD:H1 D=some (.lst ys):=by rw[← z,Ak a6.symm];exact a1
   have N1:=N.keep (AA.AM s1) (BM.up N.dr.dr s1);have nD:D≠ad:=by
    obtain⟨ds,ha⟩:=N.dr.dr;exact(Ah ha fD).symm
   walk_at "n"
   refine Ae rfl (Cj D _ rfl (.inl (AW.of gD)) rfl (Ae rfl (Bw (λc=>?_) (λc=>?_))))
   .exact Ae rfl (FV N1 EO (.inl rfl) (by decide) Qd λv1 t1 H2 a0 a2 a4 e1 y1=>⟨zl 2,λp hp=>k.IQ NS SO (DY (AA.AM s1) a0) a2 a4 hp (O6 e1) y1⟩)
   have ne:ys≠[]:=λz=>c (by rw[z];exact JO rfl);dsimp only[Js];refine Cs (Ae rfl (Ae rfl (Ch d ad D ys rfl N1.dr nD gD ne λx hx H2 a0 a2=>?_)));refine Kz (hy x hx) λkd l xs Y e1 CK z2 aJ=>?_;subst Y;obtain⟨_,el,nl,hl,_⟩:=z2;cases el;have N2:=N1.keep a0 a2
   walk_at "n"
   obtain⟨ds,ha⟩:=N.dr.dr;have aB:=a0 _ _ (s1 _ _ h1) (Bb h1 ha (by simp));have aG:=a0 _ _ (s1 _ _ h3) (Bb h3 ha (by simp));have aD:=a0 _ _ (s1 _ _ hl) nl;refine Go (Lo (Hh (Ae rfl (Ae rfl (Ao d _ rfl (by rw[← h2];exact AK.k (k:=Sum.inr "seen") aB) (Ae rfl (Ao as _ rfl (by rw[← e1];exact AK.k (k:=Sum.inr kd) aG) (Ch d ad l _ rfl N2.dr nl aD (λz=>aJ (by simpa using z)) λx hx H3 a5 a9=>?_))))))));refine Am (JT.mp hx) λy a3 Y=>?_;subst Y;refine Ae rfl (Ae rfl (FV (N2.keep a5 a9) EO (SO.sk kd xs CK) (by decide) Qd λv1 t1 H4 aH aA a4 e1 y1=>⟨zl 3,λp hp=>k.HR (t1:=.wd y) NS SO (DY (AA.AM s1) (DY a0 (DY a5 aH))) aA rfl a4 hp (O1 (EO.se kd xs y CK a3).1 e1) Fd y1⟩))
section
theorem Ee:Cb s [] κ kn=some (κ,kn,false):=by rw[Cb]
theorem C5:Cb s (t::r) κ kn=(match BD s t κ kn with|some (κ1,kn1,e)=>if e then(if r.isEmpty then some (κ1,kn1,true)else none)else Cb s r κ1 kn1|none=>none):=by rw[Cb]<;>rfl
theorem Ds:∀{ts:List Th} {κ:Kd} {kn:List Str} {t:Th} {κ1 κ2:Kd} {kn1 kn2:List Str} {e:Bool},Cb s ts κ kn=some (κ1,kn1,false)->BD s t κ1 kn1=some (κ2,kn2,e)->Cb s (ts++[t]) κ kn=some (κ2,kn2,e)
 | [],κ,kn,t,κ1,κ2,kn1,kn2,e,h,h'=>by
  rw[Ee]at h;cases h;rw[OW,C5,h']
  cases e with
  | true=>rfl
  | false=>exact Ee (s:=s)
 | a::r,κ,kn,t,κ1,κ2,kn1,kn2,e,h,h'=>by
  rw[C5]at h;rw[OL,C5]
  cases q:BD s a κ kn with
  | none=>rw[q]at h;cases h
  | some p=>
   obtain⟨κ3,O,I⟩:=p;rw[q]at h
   cases I with
   | true=>
    simp only[NW]at h;split at h<;>cases h
   | false=>
    simp only[NZ,PN]at h ⊢;exact Ds h h'
theorem An8:∃I,Cu s [t,.tup a,.tup b]=[I,Cb s a,Cb s b]:=by
 cases t<;>(rw[Cu,Cu,Cu,Cu];exact⟨_,rfl⟩)
theorem An9:∃I,Cu s [t,.tup a]=[I,Cb s a]:=by
 cases t<;>(rw[Cu,Cu,Cu];exact⟨_,rfl⟩)
theorem Mq (ht:kE (s.e κ) t=some ("truth":Str))(ha:Cb s a κ kn=some (κ1,kn1,e1))(hb:Cb s b κ kn1=some (κ2,kn2,I)):BD s (.tup [.wd "if",t,.tup a,.tup b]) κ kn=some (κ,kn2,e1&&I):=by
 obtain⟨O,e⟩:=An8 (s:=s) (t:=t) (a:=a) (b:=b);rw[Cl,e];unfold EZ;rw[AN,AN,JN rfl];simp only[ht,NW,ha,hb]
theorem Hx (ht:kE (s.e κ) t=some ("truth":Str))(ha:Cb s a κ kn=some (κ1,kn1,e1)):BD s (.tup [.wd "while",t,.tup a]) κ kn=some (κ,kn1,false):=by
 obtain⟨I,e⟩:=An9 (s:=s) (t:=t) (a:=a);rw[Cl,e];unfold EZ;rw[AN,AN,AN,JN rfl];simp only[ht,NW,ha]
theorem Hy (ht:kE (s.e κ) t=some s.g):BD s (.tup [.wd "give",t]) κ kn=some (κ,kn,true):=by
 rw[Cl];unfold EZ;rw[AN,AN,AN,AN,JN rfl,kL1 ht];unfold EW;exact JN (JO rfl)
theorem Po (hn:-32768<=n/\n<=32767):BD s (.tup [.wd "fail",.num n]) κ kn=some (κ,kn,true):=by
 rw[Cl];unfold EZ;rw[AN,AN,AN,AN,AN,JN rfl];unfold EW;exact JN (JO hn)
end
theorem BG.back (h:BG S W κ kn s)(h':BG S' I κ' kn' s)(hw:I.length<=W.length)(sub:∀x∈kn,x∈kn'):BG S I κ kn' s:=
 ⟨h.eo,h.gi,h'.ok,h'.nd,λk xs x a b=>sub x (h.se k xs x a b),λk xs a=>by have:=h.ln k xs a;omega,h'.wl,by have:=h.sl;omega,h.sk,h.gk⟩
theorem Ru {kvs:List (Key×V)}{k:Key}{v u:V}(h:Bm kvs k=some u):(L2.putK kvs k v).length=kvs.length:=by
 unfold L2.putK;rw[Hw,h,JN (show(some u).isSome=true from rfl),JB]
theorem BN.refl:BN S S W W kn kn:=(Bc (El rfl rfl rfl rfl rfl rfl) ⟨JG _,JG _⟩ λ_ h=>h)
theorem BN.trans (a:BN S I W W1 kn kn1)(b:BN I O W1 W2 kn1 kn2):BN S O W W2 kn kn2:=
 (Bc (El (b.1.1.trans a.1.1) (b.1.2.1.trans a.1.2.1) (b.1.2.2.1.trans a.1.2.2.1) (b.1.2.2.2.1.trans a.1.2.2.2.1) (b.1.2.2.2.2.1.trans a.1.2.2.2.2.1) (b.1.2.2.2.2.2.trans a.1.2.2.2.2.2)) ⟨JY b.2.1.1 a.2.1.1,JY b.2.1.2 a.2.1.2⟩ λx h=>b.2.2 x (a.2.2 x h))
section
variable {G:Hp}{d ad aw as ao:Addr}{S S':GS}{W:List Str}
theorem AZ.back (N:AZ G d ad aw as S' W)(I:S'.AB=S.AB/\S'.AC=S.AC/\S'.given=S.given/\S'.ar=S.ar/\S'.af=S.af/\∀b∈S.bs,b∈S'.bs)(hd:G d=some (.dK kvs))(ho:G ao=some (.dK ks))(tb:Tab (CI G ad) ks S.seen)(nw:∀p∈ks,∀b∈aw::S.bs,p.2≠.ref b)(nd:ao≠d)(nr:ao≠S.ar)(nf:ao≠S.af.1) :
  AZ (upd G d (.dK (L2.putK kvs (Sum.inr "seen") (.ref ao)))) d ad aw ao S W:=by
 refine Ri N.ex λa1 ar af kr kf a2 n hv w1 w2 w3=>?_;obtain rfl:kvs=a1:=by have:=n.hd;rw[hd]at this;cases this;rfl
 have up:∀{a:Addr} {u:HO},G a=some u->a≠d->upd G d (.dK (L2.putK kvs (Sum.inr "seen") (.ref ao))) a=some u:=λg n=>by rw[Ak n];exact g
 have nt:∀{a:Addr} {ys:List V},G a=some (.tup ys)->upd G d (.dK (L2.putK kvs (Sum.inr "seen") (.ref ao))) a=some (.tup ys):=λg=>up g (Bb g hd (by simp));have nl:∀{a:Addr} {ys:List V},G a=some (.lst ys)->upd G d (.dK (L2.putK kvs (Sum.inr "seen") (.ref ao))) a=some (.lst ys):=λg=>up g (Bb g hd (by simp));have nx:∀v ys,CI G ad v ys->CI (upd G d (.dK (L2.putK kvs (Sum.inr "seen") (.ref ao)))) ad v ys:=λv ys ⟨a,e,m,g,q⟩=>(Cv a e m (nl g) q);have pv:∀{x:Str},x≠"seen"->Bm (L2.putK kvs (Sum.inr "seen") (.ref ao)) (Sum.inr x)=Bm kvs (Sum.inr x):=λhx=>by rw[Bx,JP λz=>hx (MD z)]
 have mm:∀b∈aw::S.bs,b∈aw::S'.bs:=λb hb=>by
  rcases JC.mp hb with rfl|hb
  .exact JJ
  .exact JE _ (I.2.2.2.2.2 b hb)
 obtain⟨ds,a0⟩:=N.dr.dr;refine⟨⟨(Ae Aj (by rw[pv (by decide)];exact n.vd)),ds,nl a0⟩,(X0 _ ar af kr kf ks ⟨Aj,by rw[pv (by decide)];exact n.vd,by rw[pv (by decide)];exact n.vr,by rw[pv (by decide)];exact n.vf,by rw[Bx,JN rfl],by rw[pv (by decide),← I.2.2.1];exact n.vg,up n.hr n.ap.1.2.2,up n.hf n.ap.1.2.1,up ho nd,by rw[← I.1];exact n.tr.imp nx,by rw[← I.2.1];exact n.tf.imp λv x ⟨t,v1,v3,e,g,a,b⟩=>(Ek t v1 v3 e (nt g) (nx _ _ a) (nx _ _ b)),tb.imp nx,(Bc (Bc nd n.ap.1.2.1 n.ap.1.2.2) (by rw[n.ea,I.2.2.2.1];exact nr) (by rw[n.eb.1,I.2.2.2.2.1];exact nf)),n.ea.trans I.2.2.2.1,⟨by rw[← I.2.2.2.2.1];exact n.eb.1,by rw[pv (by decide),← I.2.2.2.2.1];exact n.eb.2⟩,by rw[Ru n.vs];exact n.kl⟩ (by rw[pv (by decide)];exact hv) (λp O b hb=>w1 p O b (mm b hb)) nw λp O t v1 x v3 e g=>?_),nl N.hw,N.nw,N.nl,λb hb z=>?_⟩
 .refine Ut (n.tf.mem O) λfh t' u1 u3 Y g' _=>?_;rw[e]at Y;cases Y;rw[nt g']at g;cases g;exact λb hb=>w3 p O t _ _ _ e g' b (mm b hb)
 .by_cases c:b=d
  .rw [c,Aj]at z;cases z
  .rw [Ak c]at z;exact N.bl b (I.2.2.2.2.2 b hb) z
end
def PQ (m:Nat)(e:Bool)(s:SE)(d ad aw as:Addr)(S:GS)(W:List Str)(κ:Kd)(kn:List Str)(H:Hp)(Q:VK):Prop:=∀v ts H' O I κ' kn',AS H' v (.tup ts)->ts.length<=3->Cb s ts κ kn=some (κ',kn',e)->AZ H' d ad aw O S I->BG S I κ kn' s->EY d ad aw as H H'->(O=as\/H O=none)->BN S S W I kn kn'->(∀t∈ts,BI m t)->Q v H'
def Il (n:Nat):Sp:=λvs H Q _=>∃d ad aw as S W κ kn s,∃deep I:Nat,∃e:Bool,vs=[.ref d,.int deep,.int I,.bl e]/\AZ H d ad aw as S W/\BG S W κ kn s/\deep<n/\I<=2/\PQ (7+2*deep) e s d ad aw as S W κ kn H Q
def Z5 (n:Nat):Sp:=λvs H Q _=>∃d ad aw as S W κ kn s,∃deep:Nat,vs=[.ref d,.int deep]/\AZ H d ad aw as S W/\BG S W κ kn s/\deep<n/\SQ (7+2*deep) false s d ad aw as S W κ kn H Q
def EQ (m:Nat)(s:SE)(d ad aw as:Addr)(S:GS)(W:List Str)(κ:Kd)(kn:List Str)(H:Hp)(Q:VK):Prop:=∀v t H' O I kn',AS H' v t->BD s t κ kn=some (κ,kn',true)->AZ H' d ad aw O S I->BG S I κ kn' s->EY d ad aw as H H'->(O=as\/H O=none)->BN S S W I kn kn'->BI m t->Q v H'
def Nq (n:Nat):Sp:=λvs H Q _=>∃d ad aw as S W κ kn s,∃deep:Nat,vs=[.ref d,.int deep]/\AZ H d ad aw as S W/\BG S W κ kn s/\deep<n/\EQ (7+2*deep) s d ad aw as S W κ kn H Q
section
variable {H:Hp}{d ad aw as D:Addr}{S:GS}{W:List Str}{κ:Kd}{kn:List Str}{s:SE}
abbrev GS.bar (S:GS)(D:Addr):GS:={S with bs:=D::S.bs}
theorem BG.bar (h:BG S W κ kn s):BG (S.bar D) W κ kn s:=⟨⟨h.eo.re,h.eo.fu,h.eo.se,h.eo.rl,h.eo.ff,h.eo.rn⟩,h.gi,h.ok,h.nd,h.se,h.ln,h.wl,h.sl,h.sk,h.gk⟩
theorem AZ.fresh (N:AZ H d ad aw as S W)(hD:H D=none)(ys:List V):AZ (upd H D (.lst ys)) d ad aw as (S.bar D) W:=by
 have Y:=(AA.refl H).upd (o:=.lst ys) hD;have M:=N.keep (AA.AM Y) (BM.up N.dr.dr Y);refine Ri M.ex λkvs ar af kr kf ks n hv w1 w2 w3=>?_;have na:∀{v:V} {xs:List Str},CI H ad v xs->v≠.ref D:=λ⟨a,e,_,g,_⟩ z=>Ah g hD (V.ref.inj (e.symm.trans z));refine Ri N.ex λa7 a2 a0 a5 a4 a6 I _ u1 u2 u3=>?_;have e1:kvs=a7:=by have:=Y _ _ I.hd;rw[n.hd]at this;cases this;rfl
 subst e1;have e2:kr=a5:=by have:=Y _ _ I.hr;rw[show a2=ar from by have:=I.vr;rw[n.vr]at this;cases this;rfl,n.hr]at this;cases this;rfl
 have e3:ks=a6:=by have:=Y _ _ I.hs;rw[n.hs]at this;cases this;rfl
 have e4:kf=a4:=by have:=Y _ _ I.hf;rw[show a0=af from by have:=I.vf;rw[n.vf]at this;cases this;rfl,n.hf]at this;cases this;rfl
 subst e2 e3 e4;have two:∀{v:V},(∀b∈aw::S.bs,v≠.ref b)->v≠.ref D->∀b∈aw::D::S.bs,v≠.ref b:=λh1 h2 b hb=>by
  rcases JC.mp hb with rfl|hb
  .exact h1 _ JJ
  .rcases JC.mp hb with rfl|hb
   .exact h2
   .exact h1 _ (JE _ hb)
 refine⟨M.dr,(X0 kvs ar af kr kf ks ⟨n.hd,n.vd,n.vr,n.vf,n.vs,n.vg,n.hr,n.hf,n.hs,n.tr,n.tf,n.ts,n.ap,n.ea,n.eb,n.kl⟩ hv (λp O=>two (w1 p O) ?_) (λp O=>two (w2 p O) ?_) λp O t v1 x v3 e g=>?_),M.hw,M.nw,M.nl,λb hb z=>?_⟩
 .obtain⟨xs,h⟩:=I.tr.mem O;exact na h
 .obtain⟨xs,h⟩:=I.ts.mem O;exact na h
 .refine Q0 (I.tf.mem O) λfh t' c1 c3 e' g' a1 a3=>?_;rw[e]at e';cases e';rw[Y _ _ g']at g;cases g;have h:=u3 p O t _ _ _ e g';exact λb hb=>⟨two (λb hb=>(h b hb).1) (na a1) b hb,two (λb hb=>(h b hb).2) (na a3) b hb⟩
 .rcases JC.mp hb with rfl|hb
  .rw [Aj]at z;cases z
  .exact M.bl b hb z
theorem AZ.wr (N:AZ H d ad aw as S W)(hb:D∈S.bs)(n1:D≠ad)(n2:D≠aw)(hD:H D=some (.lst ys)):AZ (upd H D (.lst zs)) d ad aw as S W:=by
 have up:∀{a:Addr} {u:HO},H a=some u->a≠D->upd H D (.lst zs) a=some u:=λg n=>by rw[Ak n];exact g
 have nd:∀{a:Addr} {kvs:List (Key×V)},H a=some (.dK kvs)->upd H D (.lst zs) a=some (.dK kvs):=λg=>up g (Bb g hD (by simp));have nt:∀{a:Addr} {xs:List V},H a=some (.tup xs)->upd H D (.lst zs) a=some (.tup xs):=λg=>up g (Bb g hD (by simp));have nx:∀{v:V} {xs:List Str},v≠.ref D->CI H ad v xs->CI (upd H D (.lst zs)) ad v xs:=λnv ⟨a,e,n,g,l⟩=>(Cv a e n (up g λz=>nv (by rw[e,z])) l);have O:D∈aw::S.bs:=JE _ hb;refine Am N.dr.hd λa0 m1 m2=>?_;obtain⟨ds,hd⟩:=N.dr.dr;refine Ri N.ex λkvs ar af kr kf ks n hv w1 w2 w3=>⟨⟨(Ar a0 (nd m1) m2),ds,up hd n1.symm⟩,(X0 kvs ar af kr kf ks ⟨nd n.hd,n.vd,n.vr,n.vf,n.vs,n.vg,nd n.hr,nd n.hf,nd n.hs,n.tr.GL λp I x=>nx (w1 p I D O),n.tf.GL λp I x=>?_,n.ts.GL λp I x=>nx (w2 p I D O),n.ap,n.ea,n.eb,n.kl⟩ hv w1 w2 λp I t v1 x v3 e g=>?_),up N.hw n2.symm,N.nw,N.nl,λb hb z=>?_⟩
 .rintro ⟨t,v1,v3,e,g,a,b⟩;obtain⟨c1,c3⟩:=w3 p I t v1 _ v3 e g D O;exact Ek t v1 v3 e (nt g) (nx c1 a) (nx c3 b)
 .refine Ut (n.tf.mem I) λfh t' u1 u3 Y g' _=>?_;rw[e]at Y;cases Y;rw[nt g']at g;cases g;exact w3 p I t _ _ _ e g'
 .by_cases c:b=D
  .rw [c,Aj]at z;cases z
  .rw [Ak c]at z;exact N.bl b hb z
theorem AZ.asT (N:AZ G d ad aw I S' W')(O:EY d ad aw as H G)(ha:I=as\/H I=none)(h2:as2=I\/G as2=none):as2=as\/H as2=none:=by
 rcases h2 with rfl|h2
 .exact ha
 .by_cases c:as2=as
  .exact .inl c
  .cases h:H as2 with
   | none=>exact .inr rfl
   | some u=>
    exfalso;refine Co N.HH λkvs ks Y _=>?_;obtain⟨ds,j4⟩:=N.dr.dr;rw[O _ _ h (λz=>by rw[z,Y]at h2;cases h2) (λz=>by rw[z,j4]at h2;cases h2) (λz=>by rw[z,N.hw]at h2;cases h2) c]at h2;cases h2
theorem EY.step (Y:EY d ad aw as H G)(ha:I=as\/H I=none)(O:EY d ad aw I G H'):EY d ad aw as H H':=λq u e n1 n2 n3 n4=>O q u (Y q u e n1 n2 n3 n4) n1 n2 n3 (by
 rcases ha with rfl|ha
 .exact n4
 .exact Ah e ha)
end
theorem EU:AD ["_law_now","_law_deep","_law_many","_law_ends","_law_outer","_law_some"] ["_law_now","_law_deep","_law_many","_law_ends"] (Aq P6):=FS
theorem Nv (F:BE K "_law_part" "_law_part" P6 f fd)(T:BH K mg)(b3:AQ P w K mg base m "_law_statement" ["_law_now","_law_deep"] (Z5 n))(b2:AQ P w K mg base m "_law_ending" ["_law_now","_law_deep"] (Nq 1)):AI P w K mg base BV (m+1) f fd ["_law_now","_law_deep","_law_many","_law_ends"] (Il n):=by
 refine F.CZ EU λcdv A outer s H vs Q E hr h=>?_
 .refine Dp h λd ad aw as S W z1=>?_;refine Wd z1 λκ kn se deep aY I z2 NS SO hd bJ k=>?_;subst z2;have nd:=EU.nd;have b6:(2000000:Nat)<=sizeLine:=by rw[KU];omega
  refine Ae (Ag (Bd 4 nd (Cc Ll rfl T.HC boot_dict (AT (BP hr (qv 0) Ad)))) (Ag (G9 (i0:=5) nd rfl rfl rfl (N':=["_law_turn","_law_now","_law_deep"]) (n:=1) (js:=[0,1]) (At.o ["_law_now","_law_deep"]) rfl (Dh rfl T.BJ (AT (qv 2))) (λ_ _ _=>(Bc (GD 0) Dd (qf b3 hr (AJ (qv 1) (qv 2)))))) (Ag (Bd 5 nd (Ap Bj (qv 5) (E9 (N':=["_law_turn","_law_now"]) (n:=1) (js:=[0]) (At.o ["_law_now"]) rfl (Dh rfl T.BJ (AT (Cc Np rfl T.II boot_int (AT (qv 3))))) (λ_ _ _=>(Bc (GD 0) Dd (qf b2 hr (AJ (qv 1) Af))))))) (Ag (Dy (Dn hr) (qv 0) Ad (qv 4) rfl) (Al (Aw (Cc Ea rfl T.BR NO (AT (qv 5))))))))) (Mg NS.HH λkvs ks h1 h3 h2 _ bD h4=>?_);refine Cs (Ae rfl (Ao d _ rfl (by rw[← h2];exact AK.k (k:=Sum.inr "seen") h1) (Ao as ks rfl (.of h3) λao qo=>?_)));generalize z:upd _ ao _=Hc;obtain⟨s1,go⟩:=B8 qo z;have NC:=NS.keep (AA.AM s1) (BM.up NS.dr.dr s1)
  walk_at "n"
  refine Ae rfl (Cv aY rfl (by omega) (by omega) λD hD=>?_);have sD:=(AA.refl Hc).upd (o:=.lst []) hD;have b0:=NC.fresh hD [];have aM:D≠ad:=by
   obtain⟨ds,h⟩:=NC.dr.dr;exact(Ah h hD).symm
  have aN:D≠aw:=(Ah NC.hw hD).symm;refine Fv (n:=aY) (λi ys σ G=>(∃o0,σ=[o0,some (.ref d),some (.int deep)])/\G D=some (.lst ys)/\ys.length=i/\∃a1 S' Y κ' kn' ts,AZ G d ad aw a1 S' Y/\BG S' Y κ' kn' se/\Cb se ts κ kn=some (κ',kn',false)/\AL G ys ts/\(∀t∈ts,BI (7+2*deep) t)/\EY d ad aw as Hc G/\(a1=as\/Hc a1=none)/\BN (S.bar D) S' W Y kn kn') (by omega)
   (C6 ⟨_,rfl⟩ Aj rfl (Hu as (S.bar D) W κ kn [] b0 SO.bar Ee rfl Hg (Bc (AF.GJ (AA.AM sD)) (.inl rfl) BN.refl))) (λi ys σ G hi ⟨_,hd,e,_⟩=>⟨hd,OI e⟩) ?_ ?_
  .rintro i ys σ G hi ⟨⟨o0,rfl⟩,a5,le,a1,S',Y,κ',kn',ts,N',aF,st,th,yl,fr,ha,sm⟩;refine Ae rfl (Ae rfl (Ct d ad aw a1 S' Y (Bo κ' kn' se deep rfl N' aF hd λv t H' as2 S2 W2 κ2 kn2 tv av N2 aa aH ah aX yv=>A0 N'.HH λbE b9 j1 j3 _=>?_)));have aJ:=aH _ _ a5 (Bb a5 j1 (by simp)) aM aN (Bb a5 j3 (by simp));have aj:D∈S2.bs:=by rw[aX.1.2.2.2.2.2,sm.1.2.2.2.2.2];exact JJ
   refine Du aJ ⟨_,rfl⟩ Aj (by rw[JH,le];rfl) (Hu as2 S2 W2 κ2 kn2 (ts++[t]) (N2.wr aj aM aN aJ) aa (Ds st av) (((th.mono (N'.AE aH)).append (L8 tv)).mono (E5 aJ)) (Mf yl yv) (Bc (λq u e n1 n2 n3 n4=>?_) (N'.asT fr ha ah) (sm.trans aX)));rw[Ak (Ah e hD)];exact(fr.step ha aH) q u e n1 n2 n3 n4
  .rintro ys σ G ⟨_,a5,aV,a1,S',Y,κ',kn',ts,N',aF,st,th,yl,fr,ha,sm⟩;dsimp only[Dw]
   walk_at "n"
   refine Cs (Ae rfl (Ae rfl (.inr (Ar I rfl (Cv (if I then 1 else 0:Int) rfl (by cases I<;>decide) (by cases I<;>simp) λD2 a4=>?_)))));have aW:D2≠ad:=by
    obtain⟨ds,h⟩:=N'.dr.dr;exact(Ah h a4).symm
   have aZ:D2≠aw:=(Ah N'.hw a4).symm;have aq:D≠D2:=Ah a5 a4;have s2:=(AA.refl G).upd (o:=.lst []) a4;refine A0 N'.HH λbG bA j1 j3 _=>?_;refine Fv (n:=(if I then 1 else 0:Int).toNat) (λi zs σ X=>(∃o0,σ=[o0,some (.ref d)])/\X D2=some (.lst zs)/\zs.length=i/\X D=some (.lst ys)/\∃a3 W3 a2 us,AZ X d ad aw a3 (S'.bar D2) W3/\BG (S'.bar D2) W3 κ' a2 se/\Cb se (ts++us) κ kn=some (κ',a2,decide (0<i))/\AL X ys ts/\AL X zs us/\(∀t∈us,BI (7+2*deep) t)/\EY d ad aw as Hc X/\(a3=as\/Hc a3=none)/\BN S' S' Y W3 kn' a2) (by cases I<;>simp<;>omega)
    (Du ⟨_,rfl⟩ Aj rfl (s2 _ _ a5) (Ch a1 Y kn' [] (N'.fresh a4 []) aF.bar (by rw[NB];exact st) (th.mono s2.AE) rfl (C6 Hg (fr.trans (AF.GJ (AA.AM s2))) ha BN.refl))) (λi ys σ G hi ⟨_,hd,e,_⟩=>⟨hd,OI e⟩) ?_ ?_
   .rintro i zs σ X hi ⟨⟨o0,rfl⟩,hX,le,a6,a3,W3,a2,us,N3,aG,a8,aC,aD,yu,a9,aI,aK⟩;have i0:i=0:=by
     cases I with
     | true=>simp at hi;exact hi
     | false=>simp at hi
    subst i0;obtain rfl:zs=[]:=List.length_eq_zero_iff.mp le;obtain rfl:us=[]:=by have:=aD.len;exact List.length_eq_zero_iff.mp this.symm
    rw[NB]at a8;refine Ae rfl (Ct d ad aw a3 (S'.bar D2) W3 (Bo κ' a2 se 0 rfl N3 aG (by decide) λv t H' ae W4 am tv ax N4 ac aA ai au yv=>A0 N3.HH λbI bB l1 l3 _=>?_));have aB:=aA _ _ hX (Bb hX l1 (by simp)) aW aZ (Bb hX l3 (by simp));have al:=aA _ _ a6 (Bb a6 l1 (by simp)) aM aN (Bb a6 l3 (by simp));have tp:=N3.AE aA;refine El aB ⟨_,rfl⟩ Aj rfl (by rw[Ak aq];exact al) (Ch ae W4 am [t] (N4.wr JJ aW aZ aB) ac (Ds a8 ax) ((aC.mono tp).mono (E5 aB)) ((L8 tv).mono (E5 aB)) (C6 (Dt (yv.mono (by omega)) Hg) (λq u e n1 n2 n3 n4=>?_) (N3.asT a9 aI ai) (aK.trans ⟨(El rfl rfl rfl rfl rfl rfl),au.2⟩)));rw[Ak]
    .exact (a9.step aI aA) q u e n1 n2 n3 n4
    .intro c;subst c;have:=fr q u e n1 n2 n3 n4;rw[a4]at this;cases this
   .rintro zs σ X ⟨_,hX,le,a6,a3,W3,a2,us,N3,aG,a8,aC,aD,yu,a9,aI,aK⟩;have ag:decide (0<(if I then 1 else 0:Int).toNat)=I:=by cases I<;>rfl
    rw[ag]at a8;refine K1 a6 hX (by rw[aV,le];cases I<;>simp<;>omega) λp O f5 s5 g5=>?_
    walk_at "n"
    have N5:=N3.keep (AA.AM s5) (BM.up N3.dr.dr s5);refine A0 N5.HH λaE bC l1 l3 _=>?_;have a7:ao≠d/\ao≠ad/\ao≠aw/\ao≠as:=by
     obtain⟨ds,h⟩:=NS.dr.dr;exact C6 ((Ah h1 qo).symm) ((Ah h qo).symm) ((Ah NS.hw qo).symm) ((Ah h3 qo).symm)
    have aQ:EY d ad aw as Hc O:=a9.trans (AF.GJ (AA.AM s5));have aP:EY d ad aw as H O:=λq u e=>aQ q u (s1 _ _ e);refine Ae rfl (Ae rfl (Ao d _ rfl (CW.k (k:=Sum.inr "seen") l1 (by have:=N5.kl l1;omega)) ?_));have a0:=sm.trans aK;refine Ri NS.ex λbF b5 b4 b8 b7 aU n0 _ u1 u2 u3=>?_;obtain rfl:aU=ks:=by have:=n0.hs;rw[h3]at this;cases this;rfl
    have ay:Tab (CI O ad) aU S.seen:=h4.GL λq hq x ⟨a,e,m,g,l⟩=>(Cv a e m (aP _ _ g (Bb g h1 (by simp)) m (λz=>u2 q hq aw JJ (by rw[e,z])) (Bb g h3 (by simp))) l);have N6:=N5.back (S:=S) (El a0.1.1 a0.1.2.1 a0.1.2.2.1 a0.1.2.2.2.1 a0.1.2.2.2.2.1 λb hb=>JE _ (by rw[sm.1.2.2.2.2.2];exact JE _ hb)) l1 (aQ _ _ go a7.1 a7.2.1 a7.2.2.1 a7.2.2.2) ay u2 a7.1 (by rw[← n0.ea];exact(Ah n0.hr qo).symm) (by rw[← n0.eb.1];exact(Ah n0.hf qo).symm);have f6:EY d ad aw as O (upd O d (.dK (L2.putK aE (Sum.inr "seen") (.ref ao)))):=λq u e n _ _ _=>by rw[Ak n];exact e
    have t6:EG O (upd O d (.dK (L2.putK aE (Sum.inr "seen") (.ref ao)))):=λb xs e=>by rw[Ak (Bb e l1 (by simp))];exact e
    have g6:(upd O d (.dK (L2.putK aE (Sum.inr "seen") (.ref ao)))) p=some (.lst (ys++zs)):=by rw[Ak (Bb g5 l1 (by simp))];exact g5
    generalize upd O d (.dK (L2.putK aE (Sum.inr "seen") (.ref ao)))=H6 at *
    try dsimp only
    refine Go (Ae rfl (Ck p _ rfl (.inl ⟨AW.of g6,λtl q=>?_⟩)));have s7:=(AA.refl H6).upd (o:=.tup (ys++zs)) q;have az:=((((aC.append aD).mono s5.AE).mono t6).mono s7.AE);exact k _ (ts++us) _ ao W3 κ' a2 (Au rfl Aj az) (by rw[JH,← aC.len,← aD.len,aV,le];cases I<;>simp<;>omega) a8 (N6.keep (AA.AM s7) (BM.up N6.dr.dr s7)) (SO.back aG a0.2.1.1 a0.2.2) (aP.trans (f6.trans (AF.GJ (AA.AM s7)))) (.inr qo) ⟨(El rfl rfl rfl rfl rfl rfl),a0.2⟩ (λt ht=>(JV.mp ht).elim (yl t) (yu t))
section
variable {H H1:Hp}{d ad aw as:Addr}{S:GS}{W:List Str}{κ:Kd}{kn:List Str}{s:SE}{Q:VK}{e:Bool}
theorem SQ.le (k:SQ m e s d ad aw as S W κ kn H Q)(hm:m'<=m):SQ m' e s d ad aw as S W κ kn H Q:=λv t H' a0 S' O κ' kn' th st N I Y ha sm y=>k v t H' a0 S' O κ' kn' th st N I Y ha sm (y.mono hm)
theorem SQ.of (k:SQ m e s d ad aw as S W κ kn H Q)(O:AZ H1 d ad aw as S W)(I:AF ad H H1):SQ m e s d ad aw as S W κ kn H1 Q:=λv t H' a0 S' W' κ' kn' th st N Y fr ha sm y=>
 k v t H' a0 S' W' κ' kn' th st N Y ((AF.GJ I).trans fr) (O.asT (AF.GJ I) (.inl rfl) ha) sm y
theorem not12:(decide (v=V.int 1)&&decide (v=V.int 2))=false:=by
 by_cases c:v=V.int 1
 .subst c;rfl
 .rw [LC c];rfl
end
theorem CJ:AD ["_law_now","_law_deep","_law_draw","_law_way","_law_test","_law_first"] ["_law_now","_law_deep"] (Aq Hl):=FS
theorem Fp (hm:1<=m)(F:BE K "_law_statement" "_law_statement" Hl f fd)(T:BH K mg)(aa:AQ P w K mg base 1 "_law_next" ["_law_state"] Jv)(aX:AQ P w K mg base m "_law_let" ["_law_now"] (Rr (λW=>W≠[]) false))(aY:AQ P w K mg base m "_law_put" ["_law_now"] (Rr (λ_=>True) false))
  (aZ:AQ P w K mg base m "_law_deed" ["_law_now","_law_way"] W0)(aG:AQ P w K mg base m "_law_value" ["_law_now","_law_kind_here","_law_deep"] (F8 5))(aD:AQ P w K mg base m "_law_part" ["_law_now","_law_deep","_law_many","_law_ends"] (Il n)):AI P w K mg base BV (m+1) f fd ["_law_now","_law_deep"] (Z5 (n+1)):=by
 refine F.CZ CJ λcdv A outer s H vs Q E hr h=>?_
 .refine Dp h λd ad aw as S W z1=>?_;refine Us z1 λκ kn se deep z2 NS SO hd k=>?_;subst z2;have nd:=CJ.nd;refine Ae (Ag (Bd 2 nd (qf aa hr (AT (qv 0)))) (Ag (Bd 3 nd (Ap Bh (qv 2) Af)) (Ag (Bz (QW.pt (Iw (By F1 (Ey T.AY (BP hr (qv 0) Ad)) Af) (Ge (By Vh (qv 3) Af)))) (Al (Aw (qf aX hr (AT (qv 0))))) Be) (Ag (Bz (By Vh (qv 3) Af) (Al (Aw (qf aY hr (AT (qv 0))))) Be) (Ag (Bz (QW.pt (Iw (By B9 (qv 3) Af) (Ge (By F1 (qv 1) Af)))) (Ag (Bd 4 nd (qf aG hr (AO (qv 0) Ad Af))) (Ag (Bd 5 nd (qf aD hr (BF (qv 0) (Ap Fk (qv 1) Af) (Ap Bh (Ap Br (qv 2) Af) Af) (GC B9 (Ap Bh (Ap Br (qv 2) Af) Af) Af)))) (Al (Aw (Ai (BF Ad (qv 4) (qv 5) (qf aD hr (BF (qv 0) (Ap Fk (qv 1) Af) (Ap Bh (Ap Br (qv 2) Af) Af) (GC B9 (Ap Bh (Ap Br (qv 2) Af) Af) Af))))))))) Be) (Ag (Bz (QW.pt (Iw (By B9 (qv 3) Af) (Ge (By F1 (qv 1) Af)))) (Al (Aw (Ai (AO Ad (qf aG hr (AO (qv 0) Ad Af)) (qf aD hr (BF (qv 0) (Ap Fk (qv 1) Af) (Ap Bh (Ap Br (qv 2) Af) Af) (GC B9 (Ap Bh (Ap Br (qv 2) Af) Af) Af))))))) Be) (Al (Aw (qf aZ hr (AJ (qv 0) (Ap Bh (Ap Br (qv 2) Af) Af))))))))))) (Cs (Ae rfl (Ao d ad rfl NS.dr λx H1 aF aJ=>?_)));have O:=NS.keep aF aJ;have k:=k.of O aF
  walk_at "n"
  refine Cs (Ae rfl (Bp rfl rfl (by show(0:Int)<10;decide) ?_))
  walk_at "n"
  refine Mg O.HH λkvs ks h1 h3 h2 h5 ah h4=>?_;have EO:=SO.eo;refine Am (show ∃j:Nat,x/10%3=j/\j<3 from Kc (x/10) 3 (by decide)) λj1 aE ac=>Am (show ∃j:Nat,x/30%3=j/\j<3 from Kc (x/30) 3 (by decide)) λj2 aK ae=>ifJ ?_ λrest=>?_
  .refine Ae rfl (Au rfl rfl (Ae rfl (Bw (λc=>?_) (λc=>?_))))
   .exact Ae rfl (Ct d ad aw as S W (Et κ kn se rfl O SO trivial (k.le (by omega))))
   dsimp only[Js];refine ifJ ?_ λrest=>?_
   .refine ifJ ?_ λrest=>?_
    .exact Ae rfl (Ae rfl (Bp rfl rfl ⟨by decide,by decide⟩ (Bp rfl rfl (by show(0:Int)<5;decide) (Ct d ad aw as S W (ii43 κ kn se _ rfl O SO (k.le (by omega)))))))
    .refine B0 rfl rfl (Ae rfl (Bw (λc=>(Ae rfl (Au rfl rfl (Ae rfl (Bw (λY=>?_) (λY=>rest)))))) (λc=>Bw (λz=>by cases z) (λ_=>rest))));have Y:(0:Int)<deep:=JL Y;refine Ae rfl (FV O.now EO (.inr (.inl rfl)) (by decide) Qd λv1 t1 H2 a1 a5 aA e1 y1=>?_);have N2:=O.keep a1 a5;have k:=k.of N2 a1;refine Ae rfl (Ae rfl (Au rfl rfl (Ae rfl (Bp rfl rfl ⟨by decide,by decide⟩ (Bp rfl rfl (by show(0:Int)<3;decide) (Ae rfl (Bp rfl rfl ⟨by decide,by decide⟩ (Kx rfl rfl (by show(0:Int)<4;decide) rfl (Ct d ad aw as S W (Hu κ kn se (deep-1) j1 _ (by show[V.ref d,V.int ((deep:Int)-1),V.int (x/10%3),V.bl _]=_;rw[aE,show((deep:Int)-1)=((deep-1:Nat):Int)by omega]) N2 SO (by omega) (by omega) λv2 ts H3 a4 W3 κ3 a7 aB aP a9 N3 a3 a0 a2 a8 aC=>⟨zl 3,λp hp=>?_⟩))))))))));have I:=(AA.refl H3).upd (o:=.tup [.str "while",v1,v2]) hp;exact k _ (.tup [.wd "while",t1,.tup ts]) _ a4 S W3 κ a7 (Au rfl Aj (Au rfl rfl (Au rfl ((aA.mono (N2.AE a0)).mono I.AE) (Au rfl (aB.mono I.AE) rfl)))) (Hx e1 a9) (N3.keep (AA.AM I) (BM.up N3.dr.dr I)) a3 (a0.trans (AF.GJ (AA.AM I))) a2 a8 ((dle2 (y1.mono (by omega)) (Fe aC)).mono (by omega))
   .refine B0 rfl rfl (Ae rfl (Bw (λc=>(Ae rfl (Au rfl rfl (Ae rfl (Bw (λY=>?_) (λY=>rest)))))) (λc=>Bw (λz=>by cases z) (λ_=>rest))));have Y:(0:Int)<deep:=JL Y;refine Cs (Ae rfl (FV O.now EO (.inr (.inl rfl)) (by decide) Qd λv1 t1 H2 a1 a5 aA e1 y1=>?_));have N2:=O.keep a1 a5;have k:=k.of N2 a1
    walk_at "n"
    refine Cs (Ae rfl (Ae rfl (Au rfl rfl (Ae rfl (Bp rfl rfl ⟨by decide,by decide⟩ (Bp rfl rfl (by show(0:Int)<3;decide) (Ae rfl (Bp rfl rfl ⟨by decide,by decide⟩ (Kx rfl rfl (by show(0:Int)<4;decide) rfl (Ct d ad aw as S W (Hu κ kn se (deep-1) j1 _ (by show[V.ref d,V.int ((deep:Int)-1),V.int (x/10%3),V.bl _]=_;rw[aE,show((deep:Int)-1)=((deep-1:Nat):Int)by omega]) N2 SO (by omega) (by omega) λv2 ts H3 a4 W3 κ3 a7 aB aP a9 N3 a3 a0 a2 a8 aC=>?_)))))))))))
    walk_at "n"
    refine Go (Lo (Hh (Ae rfl (Ae rfl (Ae rfl (Ae rfl (Au rfl rfl (Ae rfl (Bp rfl rfl ⟨by decide,by decide⟩ (Bp rfl rfl (by show(0:Int)<3;decide) (Ae rfl (Bp rfl rfl ⟨by decide,by decide⟩ (Kx rfl rfl (by show(0:Int)<4;decide) rfl (Ct d ad aw a4 S W3 (Hu κ a7 se (deep-1) j2 _ (by show[V.ref d,V.int ((deep:Int)-1),V.int (x/30%3),V.bl _]=_;rw[aK,show((deep:Int)-1)=((deep-1:Nat):Int)by omega]) N3 a3 (by omega) (by omega) λv3 us H4 aI W4 κ4 aN aV ag aU N4 aH a6 aM aQ aW=>⟨zl 4,λp hp=>?_⟩)))))))))))))));have I:=(AA.refl H4).upd (o:=.tup [.str "if",v1,v2,v3]) hp;have st:=Mq e1 a9 aU;rw[not12]at st;exact k _ (.tup [.wd "if",t1,.tup ts,.tup us]) _ aI S W4 κ aN (Au rfl Aj (Au rfl rfl (Au rfl (((aA.mono (N2.AE a0)).mono (N3.AE a6)).mono I.AE) (Au rfl ((aB.mono (N3.AE a6)).mono I.AE) (Au rfl (aV.mono I.AE) rfl))))) st (N4.keep (AA.AM I) (BM.up N4.dr.dr I)) aH ((a0.step a2 a6).trans (AF.GJ (AA.AM I))) (N3.asT a0 a2 aM) (a8.trans aQ) ((dle3 (y1.mono (by omega)) (Fe aC) (Fe aW)).mono (by omega))
  .refine Ae rfl (Ao d _ rfl (by rw[← h5];exact AK.k (k:=Sum.inr "words") h1) (Ao aw _ rfl (.inl (AW.of O.hw)) (Au rfl rfl (Ae rfl (Bw (λc=>?_) (λc=>Bw (λz=>by cases z) (λ_=>rest)))))));have ne:W≠[]:=λz=>by rw[z]at c;cases c
   refine Ae rfl (Au rfl rfl (Ae rfl (Bw (λY=>(Ae rfl (Ct d ad aw as S W (Et κ kn se rfl O SO ne (k.le (by omega)))))) (λY=>rest))))
def Sm (f:Kd->List Str->SR):Prop:=∀κ kn κ' kn' e,f κ kn=some (κ',kn',e)->∀x∈kn,κ' x=κ x/\x∈kn'
section
theorem Es:Sm (λ_ _=>none):=λ_ _ _ _ _ h=>by cases h
theorem Db {α:Type}{c:Prop}[Decidable c]{a b z:α}(h:(if c then a else b)=z):(c/\a=z)\/b=z:=by
 by_cases q:c
 .rw [JN q]at h;exact .inl ⟨q,h⟩
 .rw [JP q]at h;exact .inr h
theorem Aj0 (h:EW b κ kn e=some (κ',kn',I)):b=true/\κ=κ'/\kn=kn':=by
 unfold EW at h;rcases Db h with⟨c,h⟩|h
 .cases h;exact Bc c rfl rfl
 .cases h
theorem Gq (h:EW b κ kn e=some (κ',kn',Y)):∀x∈kn,κ' x=κ x/\x∈kn':=by
 refine Bu (Aj0 h) λ_ I O=>?_;subst I O;exact λx hx=>⟨rfl,hx⟩
theorem Aa4 (hs:∀f∈su,Sm f):Sm (EZ s op r su):=by
 intro κ kn κ' kn' e h;unfold EZ at h;replace h:=Db h;rcases h with⟨_,h⟩|h
 .split at h
  .split at h
   .refine Bu (Aj0 h) λc z1 z2=>?_;subst z1 z2;intro y hy;refine⟨?_,JE _ hy⟩;unfold putK;rw[JP];intro z;subst z;simp[hy]at c
   .cases h
  .cases h
 replace h:=Db h;rcases h with⟨_,h⟩|h
 .split at h
  .split at h
   .exact Gq h
   .cases h
  .cases h
 replace h:=Db h;rcases h with⟨_,h⟩|h
 .split at h
  .rename_i f0 O fb;replace h:=Db h;rcases h with⟨_,h⟩|h
   .cases I:O κ kn with
    | none=>rw[I]at h;cases h
    | some Y=>
     obtain⟨κ1,kn1,e1⟩:=Y;rw[I]at h;dsimp only at h
     cases q2:fb κ kn1 with
     | none=>rw[q2]at h;cases h
     | some p2=>
      obtain⟨κ2,kn2,e2⟩:=p2;rw[q2]at h;cases h;exact λx hx=>⟨rfl,(hs fb (by simp) _ _ _ _ _ q2 x (hs O (by simp) _ _ _ _ _ I x hx).2).2⟩
   .cases h
  .cases h
 replace h:=Db h;rcases h with⟨_,h⟩|h
 .split at h
  .rename_i f0 O;replace h:=Db h;rcases h with⟨_,h⟩|h
   .cases I:O κ kn with
    | none=>rw[I]at h;cases h
    | some Y=>
     obtain⟨κ1,kn1,e1⟩:=Y;rw[I]at h;cases h;exact λx hx=>⟨rfl,(hs O (by simp) _ _ _ _ _ I x hx).2⟩
   .cases h
  .cases h
 replace h:=Db h;rcases h with⟨_,h⟩|h
 .exact Gq h
 replace h:=Db h;rcases h with⟨_,h⟩|h
 .split at h
  .exact Gq h
  .cases h
 replace h:=Db h;rcases h with⟨_,h⟩|h
 .split at h
  .split at h
   .split at h
    .exact Gq h
    .cases h
   .cases h
  .cases h
 replace h:=Db h;rcases h with⟨_,h⟩|h
 .exact Gq h
 replace h:=Db h;rcases h with⟨_,h⟩|h
 .exact Gq h
 replace h:=Db h;rcases h with⟨_,h⟩|h
 .split at h
  .exact Gq h
  .cases h
 cases h
mutual
theorem Rq:∀t:Th,Sm (BD s t)
 | .tup (.wd op::r)=>by rw[BD];exact Aa4 (Ga r)
 | .tup []=>by rw[BD];exact Es
 | .tup (.num _::_)=>by rw[BD];exact Es
 | .tup (.tup _::_)=>by rw[BD];exact Es
 | .num _=>by rw[BD];exact Es
 | .wd _=>by rw[BD];exact Es
theorem Ga:∀r:List Th,∀f∈Cu s r,Sm f
 | []=>by rw[Cu];exact λf h=>by cases h
 | .tup a::r=>by
  rw[Cu];intro f h
  rcases JC.mp h with rfl|h
  .exact Ij a
  .exact Ga r f h
 | .num _::r=>by
  rw[Cu];intro f h
  rcases JC.mp h with rfl|h
  .exact Es
  .exact Ga r f h
 | .wd _::r=>by
  rw[Cu];intro f h
  rcases JC.mp h with rfl|h
  .exact Es
  .exact Ga r f h
theorem Ij:∀ts:List Th,Sm (Cb s ts)
 | []=>by
  intro κ kn κ' kn' e h;rw[Cb]at h;cases h;exact λx hx=>⟨rfl,hx⟩
 | t::r=>by
  intro κ kn κ' kn' e h;rw[C5]at h
  cases q:BD s t κ kn with
  | none=>rw[q]at h;cases h
  | some p=>
   obtain⟨κ1,kn1,e1⟩:=p;rw[q]at h;have k1:=Rq t _ _ _ _ _ q
   cases e1 with
   | true=>
    simp only[NW]at h;split at h
    .cases h;exact k1
    .cases h
   | false=>
    simp only[NZ,PN]at h;have k2:=Ij r _ _ _ _ _ h;exact λx hx=>⟨(k2 x (k1 x hx).2).1.trans (k1 x hx).1,(k2 x (k1 x hx).2).2⟩
end
theorem BG.kinds (h:BG S W κ kn s)(h1:BG S W1 κ kn1 s)(e:∀x∈kn,κ1 x=κ x):BG S W1 κ1 kn1 s:=
 ⟨⟨h1.eo.re,h1.eo.fu,λk xs x a b=>⟨(e x (h.se k xs x a b)).trans (h1.eo.se k xs x a b).1,(h1.eo.se k xs x a b).2⟩,h1.eo.rl,h1.eo.ff,h1.eo.rn⟩,h1.gi,h1.ok,h1.nd,h1.se,h1.ln,h1.wl,h1.sl,h1.sk,h1.gk⟩
end
local macro_rules|`(tactic| walk_at "n")=>`(tactic| try dsimp only[L2.start,Dw,List.set_cons_succ,List.set_cons_zero,Za,Y9,Zo,Zn,List.length_cons,List.length_nil,Nat.reduceSub,Nat.reduceAdd,List.replicate_succ,List.replicate_zero])
def BQ (m:Nat)(s:SE)(d ad aw as:Addr)(S:GS)(W:List Str)(κ:Kd)(kn:List Str)(H:Hp)(Q:VK):Prop:=∀p ts H' O I κ' kn',AS H' (.ref p) (.tup ts)->Cb s ts κ kn=some (κ',kn',true)->AZ H' d ad aw O S I->BG S I κ kn' s->EY d ad aw as H H'->(O=as\/H O=none)->BN S S W I kn kn'->(∀t∈ts,BI m t)->Q (.ref p) H'
section
variable {K:PySem.W.Frag}{H H1 H2:Hp}{d ad aw as as1 as2 q:Addr}{S:GS}{W W1 W2:List Str}{κ κ1:Kd}{kn kn1 kn2:List Str}{s:SE}{Q:VK}{v1 v2:V}{ts:List Th}{t:Th}{m:Nat}
theorem EQ.of (k:EQ m s d ad aw as S W κ kn H Q)(O:AZ H1 d ad aw as S W)(I:AF ad H H1):EQ m s d ad aw as S W κ kn H1 Q:=λv t H' a0 W' kn' th st N Y fr ha sm y=>
 k v t H' a0 W' kn' th st N Y ((AF.GJ I).trans fr) (O.asT (AF.GJ I) (.inl rfl) ha) sm y
theorem BQ.cat (k:BQ m s d ad aw as S W κ kn H Q)(SO:BG S W κ kn s)(th:AS H1 v1 (.tup ts))(ln:ts.length<=3)(st:Cb s ts κ kn=some (κ1,kn1,false))(N1:AZ H1 d ad aw as1 S W1)(a0:EY d ad aw as H H1)(a2:as1=as\/H as1=none)(a6:BN S S W W1 kn kn1)
  (a9:AS H2 v2 t)(a8:BD s t κ1 kn1=some (κ1,kn2,true))(N2:AZ H2 d ad aw as2 S W2)(a4:BG S W2 κ1 kn2 s)(a1:EY d ad aw as1 H1 H2)(a5:as2=as1\/H1 as2=none)(a7:BN S S W1 W2 kn1 kn2)(hq:H2 q=none)(yl:∀t∈ts,BI m t)(y:BI m t):Af3 K v1 (.ref q) (upd H2 q (.tup [v2])) Q:=by
 refine A0 th λa xs z1 ga a3=>?_;subst z1;have I:=(AA.refl H2).upd (o:=.tup [v2]) hq;have tp:=N1.AE a1;have l:=a3.len;refine R9 (I _ _ (tp _ _ ga)) Aj (by rw[l];show _+1<=1000;omega) λp H' s4 g4=>?_;have O:=I.trans s4;have Y:=a6.trans a7;exact k p (ts++[t]) H' as2 W2 κ1 kn2 (Au rfl g4 ((((a3.mono tp).mono I.AE).append (L8 (a9.mono I.AE))).mono s4.AE)) (Ds st a8) (N2.keep (AA.AM O) (BM.up N2.dr.dr O)) (SO.back a4 Y.2.1.1 Y.2.2) ((a0.step a2 a1).trans (AF.GJ (AA.AM O))) (N1.asT a0 a2 a5) Y (Mf yl y)
end
theorem DN:AD ["_law_now","_law_deep","_law_draw","_law_test","_law_outer","_law_first"] ["_law_now","_law_deep"] (Aq Lc):=FS
theorem Hr (hm:1<=m)(F:BE K "_law_ending" "_law_ending" Lc f fd)(T:BH K mg)(bN:AQ P w K mg base 1 "_law_next" ["_law_state"] Jv)(aH:AQ P w K mg base m "_law_value" ["_law_now","_law_kind_here","_law_deep"] (F8 5))(aG:AQ P w K mg base m "_law_part" ["_law_now","_law_deep","_law_many","_law_ends"] (λvs H Q E=>0<n/\Il 1 vs H Q E))(aI:AQ P w K mg base m "_law_ending" ["_law_now","_law_deep"] (Nq n)):AI P w K mg base BV (m+1) f fd ["_law_now","_law_deep"] (Nq (n+1)):=by
 refine F.CZ DN λcdv A outer s H vs Q E hr h=>?_
 .refine Dp h λd ad aw as S W z1=>?_;refine Us z1 λκ kn se deep z2 NS SO hd k=>?_;subst z2;have nd:=DN.nd;refine Ae (Ag (Bd 2 nd (qf bN hr (AT (qv 0)))) (Ag (Bz (QW.pt (Iw (By B9 (Ap Bh (qv 2) Af) Af) (Ge (By F1 (qv 1) Af)))) (Ag (Bd 3 nd (qf aH hr (AO (qv 0) Ad Af))) (Ag (Bd 4 nd (Cc Ll rfl T.HC boot_dict (AT (BP hr (qv 0) Ad)))) (Ag (Bd 5 nd (Ap Ja (qf aG hr (BF (qv 0) Af (Ap Bh (Ap Br (qv 2) Af) Af) Fh)) (Ai (AT (qf aI hr (AJ (qv 0) (Ap Fk (qv 1) Af))))))) (Ag (Dy (Dn hr) (qv 0) Ad (qv 4) rfl) (Al (Aw (Ai (BF Ad (qv 3) (qv 5) (Ap Ja (qf aG hr (BF (qv 0) Af (Ap Bh (Ap Br (qv 2) Af) Af) Fh)) (Ai (AT (qf aI hr (AJ (qv 0) (Ap Fk (qv 1) Af)))))))))))))) Be) (Ag (Bz (By B9 (Ap Bh (qv 2) Af) Af) (Al (Aw (Ai (AJ Ad (Ap Bh (Ap Br (qv 2) Af) Af))))) Be) (Al (Aw (Ai (AJ Ad (qf aH hr (AO (qv 0) (BP hr (qv 0) Ad) Af))))))))) (Cs (Ae rfl (Ao d ad rfl NS.dr λx H1 aA aW=>?_)));have N1:=NS.keep aA aW;have k:=k.of N1 aA
  walk_at "n"
  refine dd61 N1.ex λkvs ar af kr kf ks n1 _=>?_;have EO:=SO.eo;refine ifJ ?_ λrest=>?_
  .refine ifJ ?_ λrest=>?_
   .have gg:AK H1 d (.str "given") (some (.str S.given)):=by rw[← n1.vg];exact AK.k (k:=Sum.inr "given") n1.hd
    refine Go (Lo (Hh (Ae rfl (Ae rfl (Ao d _ rfl gg (FV (deep:=2) N1.now EO SO.gk (by decide) (KS Gc (by decide)) λv1 t1 H2 a0 a3 a5 e1 y1=>⟨zl 2,λp hp=>?_⟩))))));have I:=(AA.refl H2).upd (o:=.tup [.str "give",v1]) hp;have O:=N1.keep a0 a3;exact k _ (.tup [.wd "give",t1]) _ as W kn (Au rfl Aj (Au rfl rfl (Au rfl (a5.mono I.AE) rfl))) (Hy (by rw[SO.gi];exact e1)) (O.keep (AA.AM I) (BM.up O.dr.dr I)) SO ((AF.GJ a0).trans (AF.GJ (AA.AM I))) (.inl rfl) BN.refl ((Ab7 y1).mono (by omega))
   .refine Ae rfl (Kx rfl rfl (by show(0:Int)<5;decide) rfl (Ae rfl (Bw (λc=>?_) (λc=>rest))));refine Go (Lo (Hh (Ae rfl (Bp rfl rfl ⟨by decide,by decide⟩ (Kx rfl rfl (by show(0:Int)<7;decide) (zl 2) λp hp=>?_)))));have I:=(AA.refl H1).upd (o:=.tup [.str "fail",.int (x/5%7)]) hp;exact k _ (.tup [.wd "fail",.num (x/5%7)]) _ as W kn (Au rfl Aj (Au rfl rfl (Au rfl rfl rfl))) (Po (by omega)) (N1.keep (AA.AM I) (BM.up N1.dr.dr I)) SO (AF.GJ (AA.AM I)) (.inl rfl) BN.refl ((Ab7 (n:=0) Ep).mono (by omega))
  .refine Ae rfl (Kx rfl rfl (by show(0:Int)<5;decide) rfl (Ae rfl (Bw (λc=>(Ae rfl (Au rfl rfl (Ae rfl (Bw (λc2=>?_) (λc2=>rest)))))) (λc=>Bw (λz=>by cases z) (λ_=>rest)))));have c2:(0:Int)<deep:=JL c2;have rk:Jm ("truth":Str) 1<5:=KS Gc (by decide);refine Cs (Ae rfl (FV (deep:=1) N1.now EO (.inr (.inl rfl)) (by decide) rk λv1 t1 H2 a0 a3 a5 e1 y1=>?_));have O:=N1.keep a0 a3;have k:=k.of O a0
   walk_at "n"
   refine Mg O.HH λbe aC h1 h3 h2 _ bc h4=>?_;refine Cs (Ae rfl (Ao d _ rfl (by rw[← h2];exact AK.k (k:=Sum.inr "seen") h1) (Ao as aC rfl (.of h3) λao Y=>?_)));generalize z:upd _ ao _=Hc;obtain⟨s1,go⟩:=B8 Y z;have NC:=O.keep (AA.AM s1) (BM.up O.dr.dr s1)
   walk_at "n"
   refine Am (show ∃j:Nat,x/5%2=j/\j<2 from Kc (x/5) 2 (by decide)) λj1 aX ba=>Am (show ∃j:Nat,x/10%2=j/\j<2 from Kc (x/10) 2 (by decide)) λj2 aY bb=>?_;refine Cs (Ae rfl (Ae rfl (Bp rfl rfl ⟨by decide,by decide⟩ (Kx rfl rfl (by show(0:Int)<2;decide) (by omega) (Ct d ad aw as S W (Hu κ kn se 0 j1 false (by show[V.ref d,V.int 0,V.int (x/5%2),V.bl _]=_;rw[aX];rfl) NC SO (by decide) (by omega) λv2 ts H3 aQ W3 κ3 am bB ax aD N3 aJ aZ ag az bK=>?_))))));have ke:=Ij ts _ _ _ _ _ aD;have bM:=SO.kinds aJ λx hx=>(ke x hx).1;have ed:[V.ref d,V.int ((deep:Int)-1)]=[V.ref d,V.int ((deep-1:Nat):Int)]:=by rw[show((deep:Int)-1)=((deep-1:Nat):Int)by omega]
   refine Ae rfl (Ae rfl (Au rfl rfl (Ct d ad aw aQ S W3 (Bo κ3 am se (deep-1) ed N3 bM (by omega) λv3 t3 H4 bQ W4 bW bC b6 N4 aK aa ah b0 y3=>⟨zl 1,λq hq=>BQ.cat (λp us H5 bR W5 κ5 aq bG b9 N5 a2 a8 bT b2 yp=>?_) SO bB ax aD N3 aZ ag az bC b6 N4 aK aa ah b0 hq (λt ht=>(bK t ht).mono (by omega)) y3⟩))))
   walk_at "n"
   refine A0 N5.HH λa6 bZ l1 l3 _=>?_;have a1:ao≠d/\ao≠ad/\ao≠aw/\ao≠as:=by
    obtain⟨ds,h⟩:=O.dr.dr;exact C6 ((Ah h1 Y).symm) ((Ah h Y).symm) ((Ah O.hw Y).symm) ((Ah h3 Y).symm)
   have a7:EY d ad aw as H2 H5:=λq u e=>a8 q u (s1 _ _ e);have bU:(2000000:Nat)<=sizeLine:=by rw[KU];omega
   refine Ae rfl (Ae rfl (Ao d _ rfl (CW.k (k:=Sum.inr "seen") l1 (by have:=N5.kl l1;omega)) (Ri O.ex λbd bP bO bY bV aB n0 _ u1 u2 u3=>?_)));obtain rfl:aB=aC:=by have:=n0.hs;rw[h3]at this;cases this;rfl
   have bA:Tab (CI H5 ad) aB S.seen:=h4.GL λq hq x ⟨a,e,m,g,l⟩=>(Cv a e m (a7 _ _ g (Bb g h1 (by simp)) m (λz=>u2 q hq aw JJ (by rw[e,z])) (Bb g h3 (by simp))) l);have N6:=N5.back (S:=S) (El rfl rfl rfl rfl rfl λb hb=>hb) l1 (a8 _ _ go a1.1 a1.2.1 a1.2.2.1 a1.2.2.2) bA u2 a1.1 (by rw[← n0.ea];exact(Ah n0.hr Y).symm) (by rw[← n0.eb.1];exact(Ah n0.hf Y).symm);have f6:EY d ad aw as H5 (upd H5 d (.dK (L2.putK a6 (Sum.inr "seen") (.ref ao)))):=λq u e n _ _ _=>by rw[Ak n];exact e
   have t6:EG H5 (upd H5 d (.dK (L2.putK a6 (Sum.inr "seen") (.ref ao)))):=λb xs e=>by rw[Ak (Bb e l1 (by simp))];exact e
   generalize upd H5 d (.dK (L2.putK a6 (Sum.inr "seen") (.ref ao)))=H6 at *;have a4:=a7.trans f6
   try dsimp only
   refine Go (Lo (Hh (Ae rfl (Ae rfl (Ae rfl (Ae rfl (Bp rfl rfl ⟨by decide,by decide⟩ (Kx rfl rfl (by show(0:Int)<2;decide) (by omega) (Ct d ad aw ao S W5 (Hu κ aq se 0 j2 false (by show[V.ref d,V.int 0,V.int (x/10%2),V.bl _]=_;rw[aY];rfl) N6 a2 (by decide) (by omega) λv7 bI H7 aU W7 κ7 au bD ay aE N7 aM ac ai b3 bL=>(Ae rfl (Ae rfl (Au rfl rfl (Ct d ad aw aU S W7 (Bo κ7 au se (deep-1) ed N7 (a2.kinds aM (λx hx=>(Ij bI _ _ _ _ _ aE x hx).1)) (by omega) λv8 t8 H8 bS W8 bX bE b7 N8 aN ae aj b4 y8=>⟨zl 1,λq hq=>BQ.cat (λp2 bJ H9 aV W9 κ9 av bF b8 N9 aP a9 al b5 y9=>⟨zl 4,λr hr=>?_⟩) a2 bD ay aE N7 ac ai b3 bE b7 N8 aN ae aj b4 hq (λt ht=>(bL t ht).mono (by omega)) y8⟩)))))))))))))));have I:=(AA.refl H9).upd (o:=.tup [.str "if",v1,.ref p,.ref p2]) hr;have aF:=N6.AE a9;exact k _ (.tup [.wd "if",t1,.tup us,.tup bJ]) _ aV W9 av (Au rfl Aj (Au rfl rfl (Au rfl (((a5.mono (O.AE a4)).mono aF).mono I.AE) (Au rfl (((bG.mono t6).mono aF).mono I.AE) (Au rfl (bF.mono I.AE) rfl))))) (Mq e1 b9 b8) (N9.keep (AA.AM I) (BM.up N9.dr.dr I)) aP ((a4.step (.inr Y) a9).trans (AF.GJ (AA.AM I))) (N6.asT a4 (.inr Y) al) (b2.trans b5) ((dle3 (y1.mono (by omega)) (Fe yp) (Fe y9)).mono (by omega))
end
end T
namespace T
open PySem PySem.Spec PySem.Builtin PySem.Builtin.Str PyProof.Rows PyProof L2
noncomputable def GA:Str:="etaoinshrdlucmfwypvbgkqjxz"
noncomputable def six:List Str:=["yes","no","main","list","truth","number"]
noncomputable def Kl:List Str:=["yes","no","main","list","truth"]
def Sn (ws:List Str):Prop:=ws.length=26/\ws.Nodup/\(∀x∈ws,Da x=true/\x∉six)/\∀x∈ws,x.length<=6
noncomputable def lt (i:Nat):Nat:=GA.cps.toList.getD i 0
theorem lt_inj:∀i<26,∀j<26,lt i=lt j->i=j:=by decide +kernel
theorem lt_ok:∀i<26,sgn (lt i)=true:=by decide +kernel
theorem lt_at:∀i<26,GA.cps.toList[i]?=some (lt i):=by decide +kernel
noncomputable def mkW (a b:Str)(c:Nat):Str:=a++⟨#[c]⟩++b
noncomputable def wq (x:Str):Str:=x++Txt.mul "q" (if x∈Kl then 1 else 0)
theorem mul0:Txt.mul "q" 0="":=by decide +kernel
theorem mul1:Txt.mul "q" 1="q":=by decide +kernel
theorem An4 (x:Str):x++("":Str)=x:=Str.ext' (by rw[OH];exact Array.append_empty)
theorem Jb (x y:Str):(x++y).length=x.length+y.length:=by unfold Str.length;rw[OH,Array.size_append]
theorem Kr (a b:Str)(c:Nat):(mkW a b c).length=a.length+1+b.length:=by unfold mkW;rw[Jb,Jb];rfl
theorem mkW_inj (h:mkW a b c=mkW a b d):c=d:=by
 unfold mkW at h;have h:=LB (λs:Str=>s.cps.toList) h;simp only[OH,OQ]at h;have h:=List.append_cancel_right h;have h:=List.append_cancel_left h;simpa using h
theorem Ml (h:x∈Kl):wq x=x++"q":=by unfold wq;rw[JN h,mul1]
theorem Mm (h:x∉Kl):wq x=x:=by unfold wq;rw[JP h,mul0,An4]
theorem app_q (h:x++("q":Str)=y++"q"):x=y:=by
 have h:=LB (λs:Str=>s.cps.toList) h;simp only[OH,OQ]at h;exact Str.ext' (by rw[← Array.toList_inj];exact List.append_cancel_right h)
theorem wq_inj (hl:x.length=y.length)(h:wq x=wq y):x=y:=by
 by_cases hx:x∈Kl
 .by_cases I:y∈Kl
  .rw [Ml hx,Ml I]at h;exact app_q h
  .rw [Ml hx,Mm I]at h;have:=LB Str.length h;rw[Jb,show("q":Str).length=1 from rfl]at this;omega
 .by_cases I:y∈Kl
  .rw [Mm hx,Ml I]at h;have:=LB Str.length h;rw[Jb,show("q":Str).length=1 from rfl]at this;omega
  .rwa [Mm hx,Mm I]at h
theorem five_q:∀x∈Kl,Da (x++"q")=true/\x++"q"∉six:=by decide +kernel
theorem wq_ok (h1:1<=x.length)(I:x.length<=5)(hs:∀c∈x.cps.toList,sgn c=true):Da (wq x)=true/\wq x∉six:=by
 by_cases hx:x∈Kl
 .rw [Ml hx];exact five_q x hx
 .rw [Mm hx];have O:x∉six:=λz=>by
   have:x∈Kl\/x="number":=by
    simp only[six,Kl,JC,JI,KG]at z ⊢
    rcases z with z|z|z|z|z|z<;>simp[z]
   rcases this with z|z
   .exact hx z
   .rw [z]at I;exact absurd I (by decide)
  refine⟨?_,O⟩;have n1:x≠"yes":=λz=>hx (by rw[z];simp[Kl]);have n2:x≠"no":=λz=>hx (by rw[z];simp[Kl]);unfold Da K2;simp only[JW,LJ,NA,Bool.or_eq_false_iff,MP];exact Bc ⟨⟨h1,by omega⟩,LO.mpr hs⟩ n1 n2
theorem wq_len (x:Str):(wq x).length<=x.length+1:=by
 by_cases h:x∈Kl
 .rw [Ml h,Jb];exact JG _
 .rw [Mm h];omega
noncomputable def wk (a b:Str)(m:Int)(k:Nat):Str:=wq (mkW a b (lt ((m+5*(k:Int))%26).toNat))
theorem wk_inj (hi:i<26)(I:j<26)(h:wk a b m i=wk a b m j):i=j:=by
 unfold wk at h;have h:=wq_inj (by rw[Kr,Kr]) h;have h:=lt_inj _ (by omega) _ (by omega) (mkW_inj h);omega
theorem goodW (hl:a.length+b.length<=4)(ha:∀c∈a.cps.toList,sgn c=true)(hb:∀c∈b.cps.toList,sgn c=true):Sn ((List.range 26).map (wk a b m)):=by
 refine C6 (by simp) ?_ (λx hx=>?_) λx hx=>?_
 .refine List.pairwise_map.mpr (List.Pairwise.imp_of_mem (fun {i j} hi Y a0 e=>(a0 (wk_inj (List.mem_range.mp hi) (List.mem_range.mp Y) e))) List.nodup_range)
 .refine Am (JT.mp hx) λk hk O=>?_;subst O;unfold wk;refine wq_ok (by rw[Kr];omega) (by rw[Kr];omega) λc I=>?_;unfold mkW at I;simp only[OH,OQ,JV]at I;rcases I with(I|I)|I
  .exact ha c I
  .simp at I;rw[I];exact lt_ok _ (by omega)
  .exact hb c I
 .refine Am (JT.mp hx) λk hk O=>?_;subst O;unfold wk;refine JY (wq_len _) ?_;rw[Kr];omega
theorem Rs (x:Str)(l u:Option Int):∀c∈(Txt.slice x l u).cps.toList,c∈x.cps.toList:=by
 intro c I;unfold Txt.slice at I;split at I
 .exact I
 .refine Am (List.mem_filterMap.mp (by simpa using I)) λi _ e=>?_;rw[← Array.getElem?_toList]at e;exact JU e
theorem Vc (x:Str)(n:Nat):(Txt.slice x none (some (n:Int))).length<=n:=by
 have h:(strSliceIndices none (some (n:Int)) 1 x.length).length<=n:=by
  unfold strSliceIndices sliceRange;simp only[show(1:Int)>0 by decide,NW,JB,List.length_range];split<;>(try split)<;>(try simp only[Int.ediv_one])<;>omega
 unfold Txt.slice;split
 .rename_i c;simp at c;omega
 .show (List.filterMap _ _).toArray.size<=n
  rw[JQ];exact JY (List.length_filterMap_le _ _) h
theorem Q6 (x:Str)(n:Nat)(hn:n<=x.length):n+(Txt.slice x (some (n:Int)) none).length<=x.length:=by
 rw[slice_from_eq (b:=(x.length:Int)) (by omega) (by omega) rfl]
 show n+((List.drop _ _).take _).toArray.size<=_
 rw[JQ,LG];omega
theorem Vx:∀ts:List Str,(∀t∈ts,t.length=1)->(Str.join "" ts).length<=ts.length
 | [],_=>JG 0
 | [x],h=>OI (h x JJ)
 | x::y::r,h=>by
  show(x++("":Str)++Str.join "" (y::r)).length<=_
  rw[Jb,An4,h x JJ];have:=Vx (y::r) λt ht=>h t (JE _ ht);rw[JR];omega
theorem Vw:∀ts:List Str,(∀t∈ts,∀c∈t.cps.toList,sgn c=true)->∀c∈(Str.join "" ts).cps.toList,sgn c=true
 | [],_=>λc I=>by cases I
 | [x],h=>h x JJ
 | x::y::r,h=>by
  intro c I;have I:c∈(x++("":Str)++Str.join "" (y::r)).cps.toList:=I;rw[An4,OH,OQ]at I
  rcases JV.mp I with I|I
  .exact h x JJ c I
  .exact Vw (y::r) (λt ht=>h t (JE _ ht)) c I
end T
namespace T
open PySem PySem.Spec PyProof PyProof.Rows L2
local macro_rules|`(tactic| walk_at "n")=>`(tactic| try dsimp only[L2.start,Dw,List.set_cons_succ,List.set_cons_zero,Za,Y9,Zo,Zn,List.length_cons,List.length_nil,Nat.reduceSub,Nat.reduceAdd,List.replicate_succ,List.replicate_zero])
theorem Gx (x:Str):∀xs:List Str,GZ (V.str x) (xs.map V.str)=decide (x∈xs)
 | []=>rfl
 | y::r=>by
  have I:=Gx x r;unfold GZ at *;rw[JX,NL,I]
  show(y==x||decide (x∈r))=_
  by_cases c:y=x
  .rw [c];simp
  .rw [show(y==x)=false from by simpa using c];rw[Bool.false_or];exact decide_eq_decide.mpr ⟨JE _,λh=>(JC.mp h).resolve_left λz=>c z.symm⟩
theorem R1:∀xs:List Str,(xs.map V.str).all Kk=true:=λxs=>by simp[Kk]
def S8:Sp:=λvs H Q _=>∃n:Int,vs=[.int n,.int 26]/\∀p ws H',Sn ws->H p=none->AA H H'->H' p=some (.lst (ws.map V.str))->Q (.ref p) H'
theorem Yj:∀xs:List Str,(∀x∈xs,x.length=1)->(xs.map (·.length)).sum=xs.length
 | [],_=>rfl
 | x::r,h=>by
  rw[JX,List.sum_cons,Yj r λy I=>h y (JE _ I),h x JJ,JR];omega
theorem bq (b:Bool):-1000<=(if b=true then 1 else 0:Int)/\(if b=true then 1 else 0:Int)<=1000/\(Txt.mul "q" (if b=true then 1 else 0:Int)).length<=1:=by cases b<;>decide +kernel
theorem wq_b (h:b=decide (x∈Kl)):x++Txt.mul "q" (if b=true then 1 else 0:Int)=wq x:=by
 rw[h];unfold wq;by_cases c:x∈Kl
 .rw [JN c,JO c];rfl
 .rw [JP c,LC c];rfl
section
variable {P:Program}{w:World}{K:PySem.W.Frag}{mg:Str->Option Value}{base:Heap}
theorem DX:AD ["_law_draw","_law_many","_law_letters","_law_stem","_law_at","_law_found","_law_k","_law_word"] ["_law_draw","_law_many"] (Aq Mz):=FS
theorem Tz (F:BE K "_law_words" "_law_words" Mz f fd)(T:BH K mg):AI P w K mg base BV 1 f fd ["_law_draw","_law_many"] S8:=by
 refine F.CZ DX λcdv A outer s H vs Q E hr h=>?_
 .refine Am h λn z1 k=>?_;subst z1;have nd:=DX.nd;have a7:(2000000:Nat)<=sizeLine:=by rw[KU];omega
  have a4:("etaoinshrdlucmfwypvbgkqjxz":Str).length<=sizeLine:=by rw[show("etaoinshrdlucmfwypvbgkqjxz":Str).length=26 from rfl];omega
  refine Ae (Ag (Tu (i:=2) nd rfl (Or.inr rfl) Ad) (Ag (Bd 3 nd (Lu PySem.F.plainAttrs_str PySem.F.slot_str_join PySem.F.type_str_join mt_join Ad (AT (E9 (N':=["_law_k","_law_draw","_law_letters"]) (n:=1) (js:=[0,2]) (At.o ["_law_letters","_law_draw"]) rfl (Dh rfl T.BJ (AT (Ap Bh (qv 0) Af))) (λ_ _ _=>(Bc (GD 0) Dd (Dv Al2 (qv 2) (Ap Bh (Ap Br (qv 1) (Ap Fa Af (Ap Fm Af (qv 0)))) Af) (λ_ _=>rfl)))))))) (Ag (Bd 4 nd (Ap Bh (Ap Br (qv 0) Af) (Ap Fa (Bl Mh rfl T.AY NT (AT (qv 3))) Af))) (Ag (Bd 5 nd (Az Cg)) (Ag (Ei MG rfl (Dh rfl T.BJ (AT (qv 1))) (HE 6 nd) (Ag (Bd 7 nd (Ap Lg (Ap Lg (Cd Ae8 (qv 3) Cm (Ca (qv 4))) (Dv Al2 (qv 2) (Ap Bh (Ap Fa (Ap Br (qv 0) Af) (Ap Fm Af (qv 6))) Af) (λ_ _=>rfl))) (Cd Ae8 (qv 3) (Ca (qv 4)) Cm))) (Al (Ax (Lu KD LM LN Ew (qv 5) (AT (Ap Lg (qv 7) (Ap Xk Ad (Cc Np rfl T.II boot_int (AT (Iy Ic (qv 7) (Az (Bq Ad (BF Ad Ad Ad Ad))) (by with_unfolding_all rfl)))))))))))) (Al (Aw (qv 5)))))))) (Am (show ∃j:Nat,n%5=j/\j<5 from Kc n 5 (by decide)) λj ej lj=>Cs ?_);refine Cs ⟨rfl,(Ae rfl (Bp rfl rfl (by show(0:Int)<5;decide) (Cv (n%5) rfl (by omega) (by omega) λD hD=>?_)))⟩;refine Fv (n:=(n%5).toNat) (λi ys σ G=>(∃o0,σ=[o0,some (.int n),some (.str GA)])/\AA H G/\∃us:List Str,G D=some (.lst ys)/\ys=us.map V.str/\us.length=i/\(∀u∈us,u.length=1)/\∀u∈us,∀c∈u.cps.toList,sgn c=true) (by omega)
   (Bc ⟨_,rfl⟩ ((AA.refl H).upd hD) (Ou [] Aj rfl rfl (by simp) (by simp))) (λi ys σ H' hi ⟨_,_,us,hd,e,hl,_⟩=>⟨hd,by rw[e,JB,hl];exact JG _⟩) ?_ ?_
  .rintro i ys σ G hi ⟨⟨o0,rfl⟩,sm,us,hd,rfl,hl,h1,h2⟩;refine Am (show ∃m:Nat,n/(32+7*((0:Int)+i))%26=m/\m<26 from Kc (n/(32+7*((0:Int)+i))) 26 (by decide)) λm em lm=>?_;refine Ae rfl (Ae rfl (Ae rfl (Bp rfl rfl (.inl ⟨by decide,by decide⟩) (Au rfl rfl (Bp rfl rfl (by show(0:Int)<32+7*((0:Int)+i)/\32+7*((0:Int)+i)<1073741824;omega) (Bp rfl rfl (by show(0:Int)<26;decide) (Kh GA _ (lt m) rfl rfl a4 (by show EL _ (n/(32+7*((0:Int)+i))%26)=_;rw[em];exact Bg (lt_at m lm)) hd (Bc ⟨_,rfl⟩ ?_ (Ou (us++[⟨#[lt m]⟩]) Aj (by simp) (by simp[hl]) ?_ ?_)))))))))
   .intro b ob e;rw[Ak (Ah e hD)];exact sm b ob e
   .intro u hu
    rcases JV.mp hu with z|z
    .exact h1 u z
    .rw [JM.mp z];rfl
   .intro u hu
    rcases JV.mp hu with z|z
    .exact h2 u z
    .rw [JM.mp z];intro c O;simp at O;rw[O];exact lt_ok m lm
  .rintro ys σ G ⟨⟨o0,rfl⟩,sm,us,hd,rfl,hl,h1,h2⟩;have hz:("":Str).length=0:=by decide +kernel
   refine Et "" D us rfl rfl (AW.of hd) (by rw[hz,Yj us h1];omega) ?_;have lst:(Str.join "" us).length<=4:=JY (Vx us h1) (by omega);have a3:=Vw us h2;generalize Str.join "" us=I at *;refine Am (show ∃a:Nat,n/5%((I.length:Int)+1)=a/\a<I.length+1 from Kc (n/5) (I.length+1) (by omega)) λa ea la=>?_;refine Cs (Ae rfl (Bp rfl rfl ⟨by decide,by decide⟩ (Ae rfl (B4 I rfl (by omega) (Au rfl rfl (Bp rfl rfl (by show(0:Int)<(I.length:Int)+1;omega) ?_))))))
   walk_at "n"
   rw[ea];refine Cs ⟨zl 0,λl a2=>?_⟩;have s2:=(AA.refl G).upd (o:=.lst []) a2;have g2:upd G l (.lst []) l=some (.lst []):=Aj;generalize upd G l (.lst [])=G1 at *
   walk_at "n"
   have nl:H l=none:=by
    cases e:H l with
    | none=>rfl
    | some u=>have:=sm _ _ e;rw[a2]at this;cases this
   have sH:=sm.trans s2;have a8:(Txt.slice I none (some (a:Int))).length<=a:=Vc I a;have a9:=Q6 I a (by omega);have sA:∀c∈(Txt.slice I none (some (a:Int))).cps.toList,sgn c=true:=λc O=>a3 c (Rs _ _ _ c O);have sB:∀c∈(Txt.slice I (some (a:Int)) none).cps.toList,sgn c=true:=λc O=>a3 c (Rs _ _ _ c O);have a5:=goodW (m:=n/25) (by omega) sA sB;have gk:=λH'=>k l _ H' a5 nl;refine Ae rfl (Cv 26 rfl (by omega) (by omega) (Gk (n:=26) (λi σ Y=>(∃o1 o2,σ=[some (.int n),some (.int 26),some (.str GA),some (.str I),some (.int a),some (.ref l),o1,o2])/\AA H Y/\Y l=some (.lst (((List.range i).map (wk (Txt.slice I none (some (a:Int))) (Txt.slice I (some (a:Int)) none) (n/25))).map V.str))) (Bc (L7 rfl) sH g2) ?_ ?_))
   .rintro i σ Y hi ⟨⟨o1,o2,rfl⟩,a1,a0⟩;refine Am (show ∃m:Nat,(n/25+5*((0:Int)+i))%26=m/\m<26 from Kc (n/25+5*((0:Int)+i)) 26 (by decide)) λm em lm=>?_;generalize eA:Txt.slice I none (some (a:Int))=A at *;generalize eB:Txt.slice I (some (a:Int)) none=B at *;have a6:=Kr A B (lt m);have hW:wk A B (n/25) i=wq (mkW A B (lt m)):=by unfold wk;rw[show(n/25+5*(i:Int))%26=(m:Int)by rw[← em,Int.zero_add]];rfl
    refine Cs (Ae rfl (Ae rfl (Ar a rfl (B4 I rfl (by omega) (Ae rfl (Ae rfl (Bp rfl rfl ⟨by decide,by decide⟩ (Ae rfl (Bp rfl rfl (.inl ⟨by decide,by decide⟩) (Au rfl rfl (Bp rfl rfl (by show(0:Int)<26;decide) (Et GA _ (lt m) rfl rfl a4 (by show EL _ ((n/25+5*((0:Int)+i))%26)=_;rw[em];exact Bg (lt_at m lm)) (Bp rfl rfl (by rw[eA];show A.length+1<=_;omega) (Ae rfl (Ae rfl (Ar a rfl (B4 I rfl (by omega) (Bp rfl rfl (by rw[eA,eB,Jb];show A.length+1+B.length<=_;omega) ?_))))))))))))))))));rw[eA,eB];refine norm (σ':=[some (.int n),some (.int 26),some (.str GA),some (.str I),some (.int a),some (.ref l),some (.int (0+i)),some (.str (mkW A B (lt m)))]) rfl (B0 rfl (.inl ⟨rfl,_,AW.of a0⟩) (Ae rfl (B0 rfl (zl 5) λq hq=>?_)));generalize z:upd _ q _=G2;obtain⟨s3,g3⟩:=B8 hq z;have e5:GZ (V.str (mkW A B (lt m))) [V.str "yes",V.str "no",V.str "main",V.str "list",V.str "truth"]=decide (mkW A B (lt m)∈Kl):=Gx _ Kl;refine Jp q _ rfl (.inl (AW.of g3)) rfl rfl (.inr (Ae rfl (Md "q" _ rfl rfl (by decide) ((bq _).1) ((bq _).2.1) (Bp rfl rfl (JY (Nat.add_le_add_left (bq _).2.2 _) (by rw[a6];omega)) (Kh l _ _ rfl rfl (s3 _ _ a0) (by simp;omega) (L7 rfl) ⟨λb u e=>?_,?_⟩)))))
    .rw [Ak (Ah e nl)];exact s3 _ _ (a1 _ _ e)
    .rw [Aj,List.range_succ,KI,KI,List.map_singleton,List.map_singleton,hW];exact LB (λx=>some (HO.lst (_++[V.str x]))) (wq_b e5)
   .rintro σ Y ⟨⟨o1,o2,rfl⟩,a1,a0⟩;exact Ae rfl (gk _ a1 a0)
structure BC (H:Hp)(d ad ak:Addr)(S:GS)(ST:List Str)(kvs kr kf:List (Key×V)):Prop where
 hd:H d=some (.dK kvs)
 vd:Bm kvs (Sum.inr "draws")=some (.ref ad)
 vr:Bm kvs (Sum.inr "records")=some (.ref S.ar)
 vf:Bm kvs (Sum.inr "functions")=some (.ref S.af.1)
 vk:Bm kvs (Sum.inr "stock")=some (.ref ak)
 vs:Bm kvs (Sum.inr "seen")≠none
 vg:Bm kvs (Sum.inr "given")≠none
 kl:kvs.length<=7
 kw:Bm kvs (Sum.inr "words")=none->kvs.length<=6
 hr:H S.ar=some (.dK kr)
 hf:H S.af.1=some (.dK kf)
 tr:Tab (CI H ad) kr S.AB
 tf:Tab (Fns H ad) kf S.AC
 nr:S.ar≠d
 nf:S.af.1≠d
 nrf:S.ar≠S.af.1
 w1:∀p∈kr,∀b∈S.bs,p.2≠.ref b
 w3:∀p∈kf,∀t v1 x v3,p.2=.ref t->H t=some (.tup [v1,x,v3])->∀b∈S.bs,v1≠.ref b/\v3≠.ref b
 bl:∀b∈S.bs,H b≠none
 hk:H ak=some (.lst (ST.map V.str))
 nk:ak≠ad
 sl:S.af.2=some (.ref ak)
 dr:BM H ad
theorem BK {kvs:List (Key×V)}{k:Key}{v:V}:(L2.putK kvs k v).length<=kvs.length+1/\(Bm kvs k≠none->(L2.putK kvs k v).length=kvs.length):=by
 cases e:Bm kvs k with
 | none=>rw[Ag3 v e,JH];exact⟨JG _,λz=>absurd rfl z⟩
 | some u=>rw[Ru e];exact⟨by omega,λ_=>rfl⟩
section
variable {H G:Hp}{d ad aw as ak:Addr}{S:GS}{ST W:List Str}{kvs kr kf:List (Key×V)}{g:Str}
theorem BC.start (I:BC H d ad ak S ST kvs kr kf)(hG:G d=some (.dK (L2.putK (L2.putK (L2.putK kvs (Sum.inr "given") (.str g)) (Sum.inr "words") (.ref aw)) (Sum.inr "seen") (.ref as))))(Y:∀q u,H q=some u->q≠d->G q=some u)(fa:H aw=none)(fs:H as=none)(nd:as≠d)
  (ga:G aw=some (.lst (W.map V.str)))(gs:G as=some (.dK []))(lw:W.length<=100):AZ G d ad aw as {S with seen:=[],given:=g} W:=by
 obtain⟨ds,a0⟩:=I.dr;have a4:ad≠d:=Bb a0 I.hd (by simp);have a2:=Y _ _ a0 a4;have up:∀{v:V} {xs:List Str},CI H ad v xs->CI G ad v xs:=λ⟨a,e,n,g,l⟩=>(Cv a e n (Y _ _ g (Bb g I.hd (by simp))) l);have na:∀{v:V} {xs:List Str},CI H ad v xs->v≠.ref aw:=λ⟨a,e,n,g,l⟩ z=>Ah g fa (V.ref.inj (e.symm.trans z));have nt:∀{t:Addr} {xs:List V},H t=some (.tup xs)->G t=some (.tup xs):=λg=>Y _ _ g (Bb g I.hd (by simp));have pv:∀{x:Str},x≠"given"->x≠"words"->x≠"seen"->Bm (L2.putK (L2.putK (L2.putK kvs (Sum.inr "given") (.str g)) (Sum.inr "words") (.ref aw)) (Sum.inr "seen") (.ref as)) (Sum.inr x)=Bm kvs (Sum.inr x):=λh1 h2 h3=>by
  rw[Bx,JP λz=>h3 (MD z),Bx,JP λz=>h2 (MD z),Bx,JP λz=>h1 (MD z)]
 have two:∀{v:V},v≠.ref aw->(∀b∈S.bs,v≠.ref b)->∀b∈aw::S.bs,v≠.ref b:=λh1 h2 b hb=>by
  rcases JC.mp hb with rfl|hb
  .exact h1
  .exact h2 b hb
 refine⟨⟨(Ae hG (by rw[pv (by decide) (by decide) (by decide)];exact I.vd)),ds,a2⟩,(X0 _ S.ar S.af.1 kr kf [] ⟨hG,by rw[pv (by decide) (by decide) (by decide)];exact I.vd,by rw[pv (by decide) (by decide) (by decide)];exact I.vr,by rw[pv (by decide) (by decide) (by decide)];exact I.vf,by rw[Bx,JN rfl],?_,Y _ _ I.hr I.nr,Y _ _ I.hf I.nf,gs,I.tr.imp λv x=>up,I.tf.imp λv x ⟨t,v1,v3,e,g,a,b⟩=>(Ek t v1 v3 e (nt g) (up a) (up b)),.nil,(Bc (Bc nd I.nf I.nr) (λz=>Ah I.hr fs z.symm) λz=>Ah I.hf fs z.symm),rfl,⟨rfl,by rw[pv (by decide) (by decide) (by decide),I.vk];exact I.sl.symm⟩,?_⟩ ?_ ?_ (λp O=>by cases O) ?_),ga,λz=>Ah a0 fa z.symm,lw,?_⟩
 .rw [Bx,AN,Bx,AN,Bx,JN rfl]
 .have e1:(L2.putK kvs (Sum.inr "given") (.str g)).length=kvs.length:=BK.2 I.vg;have e2:(L2.putK (L2.putK kvs (Sum.inr "given") (.str g)) (Sum.inr "words") (.ref aw)).length<=7:=by
   have w:Bm (L2.putK kvs (Sum.inr "given") (.str g)) (Sum.inr "words")=Bm kvs (Sum.inr "words"):=by rw[Bx,AN]
   by_cases c:Bm kvs (Sum.inr "words")=none
   .have:=I.kw c;have:=(BK (kvs:=L2.putK kvs (Sum.inr "given") (.str g)) (k:=Sum.inr "words") (v:=.ref aw)).1;omega
   .have:=(BK (kvs:=L2.putK kvs (Sum.inr "given") (.str g)) (k:=Sum.inr "words") (v:=.ref aw)).2 (by rw[w];exact c);have:=I.kl;omega
  rw[BK.2]
  .exact e2
  .rw [Bx,AN,Bx,AN];exact I.vs
 .rw [Bx,AN,Bx,JN rfl]
 .intro p O;obtain⟨xs,h⟩:=I.tr.mem O;exact two (na h) (I.w1 p O)
 .intro p O t v1 x v3 e g;refine Q0 (I.tf.mem O) λfh t' u1 u3 e' g' a1 a3=>?_;rw[e]at e';cases e';rw[nt g']at g;cases g;have h:=I.w3 p O t _ _ _ e g';exact λb hb=>⟨two (na a1) (λb hb=>(h b hb).1) b hb,two (na a3) (λb hb=>(h b hb).2) b hb⟩
 .intro b hb z
  cases h:H b with
  | none=>exact I.bl b hb h
  | some u=>
   by_cases c:b=d
   .rw [c,hG]at z;cases z
   .rw [Y _ _ h c]at z;cases z
theorem AZ.fin (N:AZ G d ad aw as S' W)(e:S'.AB=S.AB/\S'.AC=S.AC/\S'.ar=S.ar/\S'.af=S.af)(eb:∀b∈S.bs,b∈S'.bs)(hk:G ak=some (.lst (ST.map V.str)))(nk:ak≠ad)(sl:S.af.2=some (.ref ak))(nrf:S.ar≠S.af.1):∃kvs kr kf,BC G d ad ak S ST kvs kr kf:=by
 refine Ri N.ex λkvs ar af kr kf ks n hv w1 w2 w3=>Ox e λe1 e2 e3 O=>?_;obtain⟨ea,a0,a1⟩:ar=S.ar/\af=S.af.1/\Bm kvs (Sum.inr "stock")=S.af.2:=(Bc (n.ea.trans e3) (by rw[← O];exact n.eb.1) (by rw[← O];exact n.eb.2));subst ea a0;have Y:∀b∈S.bs,b∈aw::S'.bs:=λb hb=>JE _ (eb b hb);exact Rh kvs kr kf ⟨n.hd,n.vd,n.vr,n.vf,a1.trans sl,by rw[n.vs];simp,by rw[n.vg];simp,n.kl,(λz=>by rw[hv]at z;cases z),n.hr,n.hf,by rw[← e1];exact n.tr,by rw[← e2];exact n.tf,n.ap.1.2.2,n.ap.1.2.1,nrf,λp I b hb=>w1 p I b (Y b hb),λp I t v1 x v3 e g b hb=>w3 p I t v1 x v3 e g b (Y b hb),λb hb=>N.bl b (eb b hb),hk,nk,sl,N.dr.dr⟩
end
structure HD (S:GS)(s:SE)(ST:List Str):Prop where
 re:∀n fl,(n,fl)∈S.AB->s.R n=some fl/\fl≠[]
 fu:∀f h,(f,h)∈S.AC->s.F f=some (h.ks,h.k)/\(∀k∈h.ks,D7 S k)/\D7 S h.k/\h.ps.length=h.ks.length/\h.ks.length<=4/\h.ps.Nodup/\∀x∈h.ps,x∈ST
 rl:S.AB.length<=10
 ff:S.AC.length<=10
 rn:∀n:Str,n∈S.AB.map (·.1)->n≠"number"/\n≠"truth"/\n≠"list"
 gw:Sn ST
noncomputable def FA (ps ks:List Str):Kd:=λy=>((ps.zip ks).find? λp=>decide (p.1=y)).map (·.2)
noncomputable def Cf:List Str->List Str->List Str
 | p::ps,k::ks=>p::k::Cf ps ks
 | _,_=>[]
def FunT (s:SE)(name:Str)(fh:FH)(t:Th):Prop:=∃ts κ' kn',t=.tup (.wd "fun"::.wd name::.tup ((Cf fh.ps fh.ks).map .wd)::.wd fh.k::ts)/\Cb {s with g:=fh.k} ts (FA fh.ps fh.ks) fh.ps=some (κ',kn',true)/\ts.length<=4/\(∀t∈ts,BI 11 t)/\kn'.length<=100
theorem Ak4:∀{ps ks:List Str} {i:Nat} {x k:Str},ps.Nodup->ps[i]?=some x->ks[i]?=some k->FA ps ks x=some k
 | [],_,_,_,_,_,h,_=>by simp at h
 | _::_,[],i,x,k,_,_,h=>by simp at h
 | p::ps,q::ks,0,x,k,_,h1,h2=>by
  cases h1;cases h2;unfold FA;simp
 | p::ps,q::ks,i+1,x,k,nd,h1,h2=>by
  rw[List.getElem?_cons_succ]at h1 h2;have hx:x∈ps:=JU h1;have ne:p≠x:=λz=>(ML.mp nd).1 (z▸hx);have:=Ak4 (ML.mp nd).2 h1 h2;unfold FA at *;rw[List.zip_cons_cons,NH (by simpa using ne)];exact this
theorem BG.see (h:BG S W κ kn s)(hx:∀y∈xs,κ y=some kd/\y≠"yes"/\y≠"no"/\y∈kn)(hl:xs.length+W.length<=60)(hk:D7 S kd)(hs:S.seen.length+1+W.length<=70):BG {S with seen:=Fj S.seen kd xs} W κ kn s:=by
 refine⟨⟨h.eo.re,h.eo.fu,λk ys y a b=>?_,h.eo.rl,h.eo.ff,h.eo.rn⟩,h.gi,h.ok,h.nd,λk ys y a b=>?_,λk ys a=>?_,h.wl,?_,λk ys a=>(Ef a).elim (λz=>z.1▸hk) λz=>h.sk k ys z.1,h.gk⟩
 .rcases Ef a with⟨rfl,rfl⟩|⟨a,_⟩
  .refine Ox (hx y b) λI O Y _=>Bc I O Y
  .exact h.eo.se k ys y a b
 .rcases Ef a with⟨rfl,rfl⟩|⟨a,_⟩
  .exact (hx y b).2.2.2
  .exact h.se k ys y a b
 .rcases Ef a with⟨rfl,rfl⟩|⟨a,_⟩
  .exact hl
  .exact h.ln k ys a
 .have:=Ib S.seen kd xs
  show(Fj S.seen kd xs).length+_<=70
  omega
theorem HD.st {S:GS}{s:SE}{ST:List Str}(h:HD S s ST){f:Str}{fh:FH}(hf:(f,fh)∈S.AC){W:List Str}(I:W=ST.filter λx=>decide (x∉fh.ps)):BG {S with seen:=[],given:=fh.k} W (FA fh.ps fh.ks) fh.ps {s with g:=fh.k}:=by
 refine Ox h.gw λl nd ok _=>?_;have Y:W.length<=26:=by rw[I,← l];exact List.length_filter_le _ _
 refine⟨⟨h.re,λf h' O=>⟨(h.fu f h' O).1,(h.fu f h' O).2.1⟩,(λk xs x a=>by cases a),h.rl,h.ff,h.rn⟩,rfl,λx hx=>?_,?_,(λk xs x a=>by cases a),(λk xs a=>by cases a),by omega,by show 0+_<=70;omega,(λk xs a=>by cases a),(h.fu f fh hf).2.2.1⟩
 .rw [I]at hx;obtain⟨h1,h2⟩:=List.mem_filter.mp hx;exact⟨(ok x h1).1,JL h2⟩
 .rw [I];exact nd.filter _
def Ae7:Sp:=λvs H Q _=>∃d ad ak S ST kvs kr kf s name,∃I:Nat,vs=[.ref d,.str name,.int I]/\BC H d ad ak S ST kvs kr kf/\HD S s ST/\name∈S.AC.map (·.1)/\I<=3 /\
 ∀v t H' a0 Y O fh,AS H' v t->(name,fh)∈S.AC->FunT s name fh t->BC H' d ad ak S ST a0 Y O->(∀q u,H q=some u->q≠d->q≠ad->H' q=some u)->Q v H'
theorem Vz:∀ps ks:List Str,(Cf ps ks).length<=2*ps.length
 | [],_=>by unfold Cf;exact KY _
 | _::_,[]=>by unfold Cf;exact KY _
 | p::ps,k::ks=>by
  unfold Cf;have:=Vz ps ks;simp only[JR];omega
theorem Qu:∀{ps ks:List Str} {i:Nat} {x k:Str},ps[i]?=some x->ks[i]?=some k->Cf (ps.take (i+1)) (ks.take (i+1))=Cf (ps.take i) (ks.take i)++[x,k]
 | [],_,_,_,_,h,_=>by simp at h
 | _::_,[],_,_,_,_,h=>by simp at h
 | p::ps,q::ks,0,x,k,h1,h2=>by
  cases h1;cases h2;rfl
 | p::ps,q::ks,i+1,x,k,h1,h2=>by
  rw[List.getElem?_cons_succ]at h1 h2;rw[OR,OR,OR,OR]
  show p::q::Cf _ _=p::q::(Cf _ _++[x,k])
  rw[Qu h1 h2]
theorem Nh:∀xs:List Str,AL H (xs.map V.str) (xs.map .wd)
 | []=>rfl
 | x::r=>(Au rfl rfl (Nh r))
theorem CP:AD ["_law_now","_law_name","_law_many","_law_variables","_law_word","_law_kind_here","_law_some"] ["_law_now","_law_name","_law_many"] (Aq Iu):=FS
theorem Op (hm:1<=m)(F:BE K "_law_function" "_law_function" Iu f fd)(T:BH K mg)(cE:AQ P w K mg base m "_law_statement" ["_law_now","_law_deep"] (Z5 3))(cD:AQ P w K mg base m "_law_ending" ["_law_now","_law_deep"] (Nq 3)):AI P w K mg base BV (m+1) f fd ["_law_now","_law_name","_law_many"] Ae7:=by
 refine F.CZ CP λcdv A outer s H vs Q E hr h=>?_
 .refine Dp h λd ad ak S ST kvs Y=>?_;refine We Y λkr kf se name ac z2 I TO cC ce k=>?_;subst z2;have nd:=CP.nd;have cK:(2000000:Nat)<=sizeLine:=by rw[KU];omega
  refine Ae (Ag (Dy (Dn hr) (qv 0) Ad (BY (BP hr (BP hr (qv 0) Ad) (qv 1)) Af) rfl) (Ag (Dy (Dn hr) (qv 0) Ad (E9 (N':=["_law_word","_law_now","_law_name"]) (n:=1) (js:=[0,1]) (At.o ["_law_now","_law_name"]) rfl (Gf (BP hr (qv 0) Ad)) (λ_ _ _=>(Bc (GD 0) (O9 (Tt (show CV _ (compareOp .NotIn) (rIn K true)from I0) (qv 0) (Dv (show IxR _ (Ve K)from Lj) (BP hr (BP hr (qv 1) Ad) (qv 2)) Af (λ_ _=>rfl)) (by with_unfolding_all rfl))) (qv 0)))) rfl) (Ag (Dy (Dn hr) (qv 0) Ad Kb rfl) (Ag (Bd 3 nd (Az Cg)) (Ag (Ei MG rfl (Yr (b:=true) (c:=true) rfl T.n_zip (AJ (BY (BP hr (BP hr (qv 0) Ad) (qv 1)) Af) (BY (BP hr (BP hr (qv 0) Ad) (qv 1)) Af))) (Xg rfl (Ia (HE 4 nd) (Ia (HE 5 nd) Tx))) (Ag (Bd 3 nd (Ap Bj (qv 3) (Az (AJ (qv 4) (qv 5))))) (Al (Dy (Dn hr) (BP hr (qv 0) Ad) (qv 5) (Ap Bj (Qf (Dn hr) (BP hr (qv 0) Ad) (qv 5) (Az Cg) ⟨rfl,rfl,rfl,rfl⟩) (Az (AT (qv 4)))) rfl)))) (Ag (G9 (i0:=6) nd rfl rfl rfl (N':=["_law_turn","_law_now"]) (n:=1) (js:=[0]) (At.o ["_law_now"]) rfl (Dh rfl T.BJ (AT (qv 2))) (λ_ _ _=>(Bc (GD 0) Dd (qf cE hr (AJ (qv 1) Af))))) (Al (Aw (Cc Ea rfl T.BR NO (AT (Ap Bj (Ap Bj (Az (BF Ad (qv 1) (Cc Ea rfl T.BR NO (AT (qv 3))) (BP hr (qv 0) Ad))) (qv 6)) (Az (AT (qf cD hr (AJ (qv 0) Af))))))))))))))) ?_;refine A0 (I.tf.has cC) λfv fh ba aV Y=>?_;refine Jf Y λft v1 v3 z2 aD z3 z4=>?_;subst z2;obtain⟨l1,rfl,cY,aQ,Aj9⟩:=z3;obtain⟨l3,rfl,cZ,aF,len3⟩:=z4;refine G7 (TO.fu name fh aV) λcI bP cJ am ca Y=>?_;obtain⟨c0,cB⟩:=Y;have gF:∀{X:Hp} {kv:List (Key×V)},X d=some (.dK kv)->Bm kv (Sum.inr "functions")=some (.ref S.af.1)->AK X d (.str "functions") (some (.ref S.af.1)):=λh h'=>by rw[← h'];exact AK.k (k:=Sum.inr "functions") h
  have gN:∀{X:Hp},X S.af.1=some (.dK kf)->AK X S.af.1 (.str name) (some (.ref ft)):=λh=>by rw[← ba];exact AK.k (k:=Sum.inr name) h
  refine Ae rfl (Ao d _ rfl (gF I.hd I.vf) (Ae rfl (Ao S.af.1 _ rfl (gN I.hf) (Bo ft _ 1 _ rfl rfl (BW.of aD) rfl (Ae rfl (Ao d _ rfl (CW.k (k:=Sum.inr "given") I.hd (by have:=I.kl;omega)) ?_))))));have u1:∀q u,H q=some u->q≠d->upd H d (.dK (L2.putK kvs (Sum.inr "given") (.str fh.k))) q=some u:=λq u e n=>by rw[Ak n];exact e
  have g1:upd H d (.dK (L2.putK kvs (Sum.inr "given") (.str fh.k))) d=_:=Aj;have f1:∀q,upd H d (.dK (L2.putK kvs (Sum.inr "given") (.str fh.k))) q=none->H q=none:=λq e=>by
   by_cases c:q=d
   .rw [c,Aj]at e;cases e
   .rw [Ak c]at e;exact e
  generalize upd H d (.dK (L2.putK kvs (Sum.inr "given") (.str fh.k)))=H1 at *;have b6:∀{q:Addr} {xs:List V},H q=some (.lst xs)->H1 q=some (.lst xs):=λg=>u1 _ _ g (Bb g I.hd (by simp));have c5:=u1 _ _ aD (Bb aD I.hd (by simp));have bZ:=u1 _ _ I.hf I.nf;have az:=b6 I.hk;have c4:=b6 aF;have bD:Bm (L2.putK kvs (Sum.inr "given") (.str fh.k)) (Sum.inr "functions")=some (.ref S.af.1):=by rw[Bx,AN];exact I.vf
  have bz:Bm (L2.putK kvs (Sum.inr "given") (.str fh.k)) (Sum.inr "stock")=some (.ref ak):=by rw[Bx,AN];exact I.vk
  have cN:=(BK (kvs:=kvs) (k:=Sum.inr "given") (v:=.str fh.k)).1;have cQ:=I.kl;refine Ae rfl (Ao d _ rfl (by rw[← bz];exact AK.k (k:=Sum.inr "stock") g1) (B4 ak rfl ⟨_,AW.of az⟩ λaw aB=>?_));refine Nm (xs:=ST.map V.str) (λi ys σ G=>(∃o0,σ=[o0,some (.ref d),some (.str name)])/\G aw=some (.lst ys)/\AA H1 G/\ys=((ST.take i).filter λx=>decide (x∉fh.ps)).map V.str) (by rw[JB,TO.gw.1];omega) aB (C6 ⟨_,rfl⟩ Aj ((AA.refl H1).upd aB) rfl) (λi ys σ G hi ⟨_,hd,sm,e⟩=>(Bc (AW.of (sm _ _ az)) hd (by rw[e,JB];exact JY (List.length_filter_le _ _) (by rw[LG];omega)))) ?_ ?_
  .rintro i y ys σ G hy ⟨⟨o0,rfl⟩,a0,sm,rfl⟩;rw[KH]at hy;refine Am (Option.map_eq_some_iff.mp hy) λx hx Y=>?_;subst Y;refine Ae rfl (Ae rfl (Ao d _ rfl (gF (sm _ _ g1) bD) (Ae rfl (Ao S.af.1 _ rfl (gN (sm _ _ bZ)) (Bo ft _ 2 _ rfl rfl (BW.of (sm _ _ c5)) rfl (Jp l3 _ rfl (.inl (AW.of (sm _ _ c4))) rfl (R1 _) (Ae rfl ?_)))))));have tk:ST.take (i+1)=ST.take i++[x]:=B5 hx;have ci:GZ (V.str x) (fh.ps.map V.str)=decide (x∈fh.ps):=Gx x fh.ps;refine Bw (λc=>?_) (λc=>?_)
   .have c:(!GZ (V.str x) (fh.ps.map V.str))=true:=c;rw[ci,NA,MP]at c;refine Ab0 rfl a0 ⟨_,rfl⟩ Aj (Kw sm aB) ?_;rw[tk,No,PB (by simpa using c),List.filter_nil,KI];rfl
   .have c:¬(!GZ (V.str x) (fh.ps.map V.str))=true:=c;rw[ci,NA,MP,Classical.not_not]at c;refine C6 ⟨_,rfl⟩ a0 sm ?_;rw[tk,No,PD (by simpa using c),List.filter_nil,NB]
  .rintro ys σ G ⟨_,a0,sm,rfl⟩;rw[JB,LD]at a0;obtain⟨W,hW⟩:∃W,W=ST.filter λx=>decide (x∉fh.ps):=⟨_,rfl⟩;rw[← hW]at a0;have bM:=TO.st aV hW;have lW:W.length<=26:=by rw[hW,← TO.gw.1];exact List.length_filter_le _ _
   have gd:=sm _ _ g1;have b5:aw≠d:=(Ah g1 aB).symm;have cO:=(BK (kvs:=L2.putK kvs (Sum.inr "given") (.str fh.k)) (k:=Sum.inr "words") (v:=.ref aw)).1;refine Ae rfl (Ao d _ rfl (CW.k (k:=Sum.inr "words") gd (by omega)) ?_);generalize z2:upd G d _=G2;have g2:G2 d=some (.dK (L2.putK (L2.putK kvs (Sum.inr "given") (.str fh.k)) (Sum.inr "words") (.ref aw))):=by rw[← z2,Aj]
   have aq:G2 aw=some (.lst (W.map V.str)):=by rw[← z2,Ak b5];exact a0
   have u2:∀q u,H q=some u->q≠d->G2 q=some u:=λq u e n=>by rw[← z2,Ak n];exact sm _ _ (u1 q u e n)
   have f2:∀q,G2 q=none->H q=none:=λq e=>by
    by_cases c:q=d
    .rw [c,g2]at e;cases e
    .rw [← z2,Ak c]at e;exact f1 q (sm.free e)
   refine λas has=>?_;have s3:=(AA.refl G2).upd (o:=.dK []) has;refine Ae rfl (Ao d _ rfl (CW.k (k:=Sum.inr "seen") (s3 _ _ g2) (by omega)) ?_);have b4:as≠d:=(Ah g2 has).symm;have c9:aw≠as:=Ah aq has;generalize z3:upd (upd G2 as _) d _=G3;have g3:G3 d=some (.dK (L2.putK (L2.putK (L2.putK kvs (Sum.inr "given") (.str fh.k)) (Sum.inr "words") (.ref aw)) (Sum.inr "seen") (.ref as))):=by rw[← z3,Aj]
   have bV:G3 as=some (.dK []):=by rw[← z3,Ak b4,Aj]
   have au:G3 aw=some (.lst (W.map V.str)):=by rw[← z3,Ak b5,Ak c9];exact aq
   have u3:∀q u,H q=some u->q≠d->G3 q=some u:=λq u e n=>by rw[← z3,Ak n];exact s3 _ _ (u2 q u e n)
   have aj:H aw=none:=f1 aw aB;have aM:H as=none:=f2 as has;have N3:=I.start g3 u3 aj aM b4 au bV (by omega)
   try dsimp only
   refine Cs ⟨zl 0,λvl aX=>?_⟩;generalize z4:upd G3 vl _=G4;obtain⟨s4,bW⟩:=B8 aX z4
   walk_at "n"
   have N4:=N3.keep (AA.AM s4) (BM.up N3.dr.dr s4);have u4:∀q u,H q=some u->q≠d->G4 q=some u:=λq u e n=>s4 _ _ (u3 q u e n);have f4:∀q,G4 q=none->H q=none:=λq e=>by
    cases h:H q with
    | none=>rfl
    | some u=>
     by_cases c:q=d
     .rw [c,s4 _ _ g3]at e;cases e
     .rw [u4 q u h c]at e;cases e
   have gd4:=s4 _ _ g3;have aH:∀{q:Addr} {xs:List V},H q=some (.lst xs)->G4 q=some (.lst xs):=λg=>u4 _ _ g (Bb g I.hd (by simp));have bF:=u4 _ _ aD (Bb aD I.hd (by simp));have ax:=u4 _ _ I.hf I.nf;have bE:Bm (L2.putK (L2.putK (L2.putK kvs (Sum.inr "given") (.str fh.k)) (Sum.inr "words") (.ref aw)) (Sum.inr "seen") (.ref as)) (Sum.inr "functions")=some (.ref S.af.1):=by rw[Bx,AN,Bx,AN];exact bD
   have bK:∀{q:Addr} {xs:List V},H q=some (.lst xs)->q≠as:=λg=>Ah g aM;have bt:vl≠ad/\vl≠aw:=by
    obtain⟨ds,aC⟩:=N3.dr.dr;exact⟨(Ah aC aX).symm,(Ah au aX).symm⟩
   refine Ae rfl (Ao d _ rfl (gF gd4 bE) (Ae rfl (Ao S.af.1 _ rfl (gN ax) (Bo ft _ 2 _ rfl rfl (BW.of bF) rfl (Ae rfl (Ao d _ rfl (gF gd4 bE) (Ae rfl (Ao S.af.1 _ rfl (gN ax) (Bo ft _ 0 _ rfl rfl (BW.of bF) rfl (Cj l3 l1 rfl ⟨_,AW.of (aH aF)⟩ ⟨_,AW.of (aH aQ)⟩ ?_))))))))));refine V6 (xs:=fh.ps.map V.str) (ys:=fh.ks.map V.str) (λi σ X=>∃a3 o1 o2 O,σ=[some (.ref d),some (.str name),some (.int ac),some (.ref a3),o1,o2,none]/\X a3=some (.lst ((Cf (fh.ps.take i) (fh.ks.take i)).map V.str))/\(a3≠ad/\a3≠aw)/\AZ X d ad aw as {S with seen:=O,given:=fh.k} W/\BG {S with seen:=O,given:=fh.k} W (FA fh.ps fh.ks) fh.ps {se with g:=fh.k}/\O.length<=i/\(∀k xs,(k,xs)∈O->xs.length<=i)/\∀q u,G4 q=some u->q≠as->X q=some u)
    (Ch vl _ _ [] rfl bW bt N4 bM (Bc (JG _) (λk xs h=>by cases h) λq u e _=>e)) ?_ (by rw[JB,JB,am]) ?_ ?_
   .rintro i σ X hi ⟨a3,o1,o2,O,rfl,a6,_,_,_,_,_,fr⟩;exact⟨AW.of (fr _ _ (aH aF) (bK aF)),AW.of (fr _ _ (aH aQ) (bK aQ))⟩
   .rintro i x0 y0 σ X tp b0 b3 ⟨a3,o1,o2,O,rfl,a6,aZ,NX,SX,ls,lx,fr⟩ bg;rw[KH]at b0 b3;refine Am (Option.map_eq_some_iff.mp b0) λx hx Y=>?_;subst Y;refine Am (Option.map_eq_some_iff.mp b3) λkd CK Y=>?_;subst Y;have hi:i<fh.ks.length:=(List.getElem?_eq_some_iff.mp CK).1;have b2:=JU hx;have bX:D7 S kd:=bP kd (JU CK);have bj:FA fh.ps fh.ks x=some kd:=Ak4 c0 hx CK;have aW:Da x=true:=(TO.gw.2.2.1 x (cB x b2)).1;have b9:x≠"yes"/\x≠"no":=by
     unfold Da at aW;simp only[JW,NA,Bool.or_eq_false_iff,MP]at aW;exact aW.2
    refine Cj tp _ rfl (BW.of Aj) rfl (Al1 rfl (Au rfl rfl ?_));generalize z5:upd X tp _=X1;obtain⟨s5,_⟩:=B8 bg z5
    walk_at "n"
    refine Cs (Ae rfl (Ae rfl (B0 rfl (zl 2) λl2 q2=>?_)));generalize z6:upd X1 l2 _=X2;obtain⟨s6,g6⟩:=B8 q2 z6;refine K1 (s6 _ _ (s5 _ _ a6)) g6 ?_ λl4 X3 f7 s7 g7=>?_
    .rw [JB];have:=Vz (fh.ps.take i) (fh.ks.take i);rw[LG]at this
     show _+2<=1000
     omega
    have sa:=s5.trans (s6.trans s7);have a8:=NX.keep (AA.AM sa) (BM.up NX.dr.dr sa);have n4:l4≠ad/\l4≠aw:=by
     obtain⟨ds,aC⟩:=NX.dr.dr;exact⟨(Ah (s5.trans s6 _ _ aC) f7).symm,(Ah (s5.trans s6 _ _ NX.hw) f7).symm⟩
    have g7:X3 l4=some (.lst ((Cf (fh.ps.take (i+1)) (fh.ks.take (i+1))).map V.str)):=by
     rw[g7,Qu hx CK,KI];rfl
    walk_at "n"
    refine Mg a8.HH λbG a7 i1 i2 i3 i4 _ i5=>?_;have ay:∀{ag:Hp},AA X3 ag->AK ag d (.str "seen") (some (.ref as)):=λs=>by rw[← i3];exact AK.k (k:=Sum.inr "seen") (s _ _ i1)
    refine Ae rfl (Ao d _ rfl (ay (AA.refl X3)) (B4 as rfl (.inl ⟨a7,.of i2⟩) (B0 rfl (zl 0) λl q=>?_)));generalize z:upd _ l _=X4;obtain⟨s8,g8⟩:=B8 q z;refine Ar (Bm a7 (Sum.inr kd)) (AK.k (k:=Sum.inr kd) (s8 _ _ i2)) ?_;obtain⟨lo,xs,el,gl,bn,cb⟩:∃(lo:Addr) (xs:List Str),(Bm a7 (Sum.inr kd)).getD (.ref l)=.ref lo/\X4 lo=some (.lst (xs.map V.str))/\(∀y∈xs,∃ys,(kd,ys)∈O/\y∈ys)/\xs.length<=i:=by
     cases o:Bm a7 (Sum.inr kd)with
     | none=>exact Cj l [] rfl g8 (λy hy=>by cases hy) (KY _)
     | some v=>
      refine Am (i5.get o) λxs hs Y=>?_;refine Q1 Y λa e n' g ln=>Cj a xs e (s8 _ _ g) (λy hy=>(Ar xs hs hy)) (lx kd xs hs)
    rw[el];refine B0 rfl (zl 1) λl5 q5=>?_;generalize z:upd _ l5 _=X5;obtain⟨s9,g9⟩:=B8 q5 z;refine K1 (s9 _ _ gl) g9 (by rw[JB];show _+1<=1000;omega) λl6 X6 aK bu aN=>?_;have sx:=s8.trans (s9.trans bu);have N6:=a8.keep (AA.AM sx) (BM.up a8.dr.dr sx);have aN:X6 l6=some (.lst ((xs++[x]).map V.str)):=by rw[KI];exact aN
    have n1:l6≠ad:=by
     obtain⟨ds,ha⟩:=a8.dr.dr;exact(Ah (s9 _ _ (s8 _ _ ha)) aK).symm
    have n2:∀b∈aw::S.bs,l6≠b:=λb hb z=>by
     rcases JC.mp hb with rfl|hb
     .exact (Ah (s9 _ _ (s8 _ _ a8.hw)) aK).symm z
     .cases h:X3 b with
      | none=>exact a8.bl b hb h
      | some u=>exact(Ah (s9 _ _ (s8 _ _ h)) aK).symm z
    have cX:a7.length<=1000:=by rw[i5.len];show O.length<=1000;omega
    refine Ae rfl (Ao d _ rfl (ay sx) (Ae rfl (Ao as _ rfl (CW.k (k:=Sum.inr kd) (sx _ _ i2) (by omega)) ?_)));have N7:=N6.see (kd:=kd) (xs:=xs++[x]) (sx _ _ i2) aN n1 n2 (by rw[JH,KJ];omega);refine Ch l4 _ _ (Fj O kd (xs++[x])) rfl ?_ n4 N7 (SX.see (xs:=xs++[x]) (λy hy=>?_) (by rw[JH,KJ];omega) bX (by show O.length+1+_<=70;omega)) (Bc ?_ (λk zs hz=>?_) λq u e n=>?_)
    .rw [Ak (Bb g7 i2 (by simp))];exact sx _ _ g7
    .rcases JV.mp hy with h|h
     .refine Am (bn y h) λys a b=>Bu (SX.eo.se kd ys y a b) λc1 c2 c3=>C6 c1 c2 c3 (SX.se kd ys y a b)
     .rw [JM.mp h];exact C6 bj b9.1 b9.2 b2
    .have:=Ib O kd (xs++[x]);omega
    .rcases Ef hz with⟨rfl,rfl⟩|⟨a,_⟩
     .rw [JH,KJ];omega
     .have:=lx k zs a;omega
    .rw [Ak n];exact sx _ _ (sa _ _ (fr q u e n))
   .rintro σ X ⟨a3,o1,o2,O,rfl,a6,aZ,NX,SX,ls,lx,fr⟩;rw[JB,LD,am,LD]at a6
    try dsimp only
    have b8:a3≠d/\a3≠as:=by
     refine A0 NX.HH λbG a7 i1 i2 _=>⟨Bb a6 i1 (by simp),Bb a6 i2 (by simp)⟩
    refine Ae rfl (Cv ac rfl (by omega) (by omega) λD hD=>?_);have sD:=(AA.refl X).upd (o:=.lst []) hD;have c6:=NX.fresh hD [];have bI:D≠ad:=by
     obtain⟨ds,h⟩:=NX.dr.dr;exact(Ah h hD).symm
    have bJ:D≠aw:=(Ah NX.hw hD).symm;refine Fv (n:=ac) (λi ys σ G=>(∃o0,σ=[o0,some (.ref d)])/\G D=some (.lst ys)/\ys.length=i/\∃a4 S' W' κ' kn' ts,AZ G d ad aw a4 S' W'/\BG S' W' κ' kn' {se with g:=fh.k}/\Cb {se with g:=fh.k} ts (FA fh.ps fh.ks) fh.ps=some (κ',kn',false)/\AL G ys ts/\(∀t∈ts,BI 11 t)/\EY d ad aw as X G/\(a4=as\/X a4=none)/\BN (({S with seen:=O,given:=fh.k}:GS).bar D) S' W W' fh.ps kn') (by omega)
     (C6 ⟨_,rfl⟩ Aj rfl (Hu as (({S with seen:=O,given:=fh.k}:GS).bar D) W _ _ [] c6 SX.bar Ee rfl Hg (Bc (AF.GJ (AA.AM sD)) (.inl rfl) BN.refl))) (λi ys σ G hi ⟨_,hd,e,_⟩=>⟨hd,OI e⟩) ?_ ?_
    .rintro i ys σ G hi ⟨⟨o0,rfl⟩,a0,le,a4,S',W',κ',kn',ts,N',aI,st,th,yl,aA,ha,a2⟩;refine Ae rfl (Ct d ad aw a4 S' W' (Bo κ' kn' _ 2 rfl N' aI (by decide) λv t H' as2 S2 W2 κ2 kn2 tv aa N2 ah a5 av aG yv=>A0 N'.HH λbG a7 j1 j3 _=>?_));have aU:=a5 _ _ a0 (Bb a0 j1 (by simp)) bI bJ (Bb a0 j3 (by simp));have bY:D∈S2.bs:=by rw[aG.1.2.2.2.2.2,a2.1.2.2.2.2.2];exact JJ
     refine Du aU ⟨_,rfl⟩ Aj (by rw[JH,le];rfl) (Hu as2 S2 W2 κ2 kn2 (ts++[t]) (N2.wr bY bI bJ aU) ah (Ds st aa) (((th.mono (N'.AE a5)).append (L8 tv)).mono (E5 aU)) (Mf yl yv) (Bc (λq u e n1 n2 n3 n4=>?_) (N'.asT aA ha av) (a2.trans aG)));rw[Ak (Ah e hD)];exact(aA.step ha a5) q u e n1 n2 n3 n4
    .rintro ys σ G ⟨_,a0,aY,a4,S',W',κ',kn',ts,N',aI,st,th,yl,aA,ha,a2⟩;dsimp only[Dw]
     walk_at "n"
     have bh:=aA _ _ a6 b8.1 aZ.1 aZ.2 b8.2;refine Go (Ae rfl (Ae rfl (Ck a3 _ rfl (.inl ⟨AW.of bh,λvt bi=>?_⟩))));generalize z:upd G vt _=Y1;obtain⟨a9,bQ⟩:=B8 bi z;have bN:=N'.keep (AA.AM a9) (BM.up N'.dr.dr a9);refine dd61 bN.ex λcc cG cF cU cL cV n1 _=>?_;have bO:S'.given=fh.k:=a2.1.2.2.1;have bb:AK Y1 d (.str "given") (some (.str fh.k)):=by rw[← bO,← n1.vg];exact AK.k (k:=Sum.inr "given") n1.hd
     refine Ae rfl (Cj d _ rfl bb (zl 4) λp1 bc=>?_);generalize z:upd Y1 p1 _=Y2;obtain⟨aE,bR⟩:=B8 bc z;refine Ae rfl (K1 bR (aE _ _ (a9 _ _ a0)) (by rw[aY];show 4+_<=1000;omega) λp2 Y3 ai bA aP=>?_);have sb:=a9.trans (aE.trans bA);have aJ:=N'.keep (AA.AM sb) (BM.up N'.dr.dr sb);refine Ae rfl (Ct d ad aw a4 S' W' (Bo κ' kn' _ 2 rfl aJ aI (by decide) λv t H' as2 W2 kn2 tv aa N2 ah a5 av aG yv=>⟨zl 1,λp3 bd=>?_⟩));generalize z:upd H' p3 _=Y4;obtain⟨bB,bS⟩:=B8 bd z;refine A0 aJ.HH λcd cW j1 j3 _=>?_;have b7:p2≠ad/\p2≠aw:=by
      obtain⟨ds,aC⟩:=N'.dr.dr;exact⟨(Ah (a9.trans aE _ _ aC) ai).symm,(Ah (a9.trans aE _ _ N'.hw) ai).symm⟩
     have bU:=a5 _ _ aP (Bb aP j1 (by simp)) b7.1 b7.2 (Bb aP j3 (by simp));refine K1 (bB _ _ bU) bS (by rw[JH,aY];show 4+_+1<=1000;omega) λp4 Y5 cH bv bT=>(Ck p4 _ rfl (.inl ⟨AW.of bT,λtl bf=>?_⟩));have bw:=(AA.refl Y5).upd (o:=.tup ([V.str "fun",.str name,.ref vt,.str fh.k]++ys++[v])) bf;have sc:=bB.trans (bv.trans bw);have N9:=N2.keep (AA.AM sc) (BM.up N2.dr.dr sc);have bC:=aJ.AE a5;have al:∀q u,H q=some u->q≠d->q≠ad->upd Y5 tl (.tup ([V.str "fun",.str name,.ref vt,.str fh.k]++ys++[v])) q=some u:=λq u e n1 n2=>by
      have bL:q≠aw:=Ah e aj;have ae:q≠as:=Ah e aM;have eX:=fr q u (u4 q u e n1) ae;have eG:=aA q u eX n1 n2 bL ae;have c8:q≠a4:=by
       rcases ha with rfl|ha
       .exact ae
       .exact Ah eX ha
      exact sc _ _ (a5 q u (sb _ _ eG) n1 n2 bL c8)
     refine Jg (N9.fin (S:=S) (ak:=ak) (ST:=ST) (C6 a2.1.1 a2.1.2.1 a2.1.2.2.2.1 a2.1.2.2.2.2.1) (λb hb=>by rw[a2.1.2.2.2.2.2];exact JE _ hb) (al _ _ I.hk (Bb I.hk I.hd (by simp)) I.nk) I.nk I.sl I.nrf) λc7 br bp T9=>?_;have bx:AS Y1 (.ref vt) (.tup ((Cf fh.ps fh.ks).map .wd)):=(Au rfl bQ (Nh _));have be:AS (upd Y5 tl (.tup ([V.str "fun",.str name,.ref vt,.str fh.k]++ys++[v]))) (.ref tl) (.tup (.wd "fun"::.wd name::.tup ((Cf fh.ps fh.ks).map .wd)::.wd fh.k::(ts++[t]))):=by
      refine Au rfl Aj ?_;have a1:AL (upd Y5 tl (.tup ([V.str "fun",.str name,.ref vt,.str fh.k]++ys++[v]))) [V.str "fun",.str name,.ref vt,.str fh.k] [.wd "fun",.wd name,.tup ((Cf fh.ps fh.ks).map .wd),.wd fh.k]:=(Au rfl rfl (Au rfl rfl (Au rfl (((bx.mono (aE.trans bA).AE).mono bC).mono sc.AE) (Au rfl rfl rfl))));exact(a1.append (((th.mono sb.AE).mono bC).mono sc.AE)).append (L8 (tv.mono sc.AE))
     exact k _ _ _ c7 br bp fh be aV (Et (ts++[t]) _ _ rfl (Ds st aa) (by rw[JH,← th.len,aY];show _+1<=4;omega) (Mf yl yv) (by have h1:=a2.2.1.2;have h2:=aG.2.1.2;omega)) T9 al
def Tree (H:Hp)(d ad ak:Addr)(S:GS)(ST:List Str):Prop:=∃kvs kr kf,BC H d ad ak S ST kvs kr kf
section
variable {H H':Hp}{d ad ak D:Addr}{S:GS}{ST:List Str}
theorem BC.move (I:BC H d ad ak S ST kvs kr kf)(D:Addr)(k:AF D H H')(dr:BM H' ad)(h1:D≠d/\D≠S.ar/\D≠S.af.1/\D≠ak)(h2:∀t xs,H t=some (.tup xs)->t≠D)(h3:D=ad\/D∈S.bs)(h4:∀b∈S.bs,H b≠none->H' b≠none):BC H' d ad ak S ST kvs kr kf:=by
 have up:∀{v:V} {xs:List Str},v≠.ref D\/D=ad->CI H ad v xs->CI H' ad v xs:=λh ⟨a,e,n,g,l⟩=>(Cv a e n (k _ _ g (by
  rcases h with h|h
  .exact λz=>h (by rw[e,z])
  .rw [h];exact n)) l)
 have nt:∀{t:Addr} {xs:List V},H t=some (.tup xs)->H' t=some (.tup xs):=λg=>k _ _ g (h2 _ _ g);refine⟨k _ _ I.hd h1.1.symm,I.vd,I.vr,I.vf,I.vk,I.vs,I.vg,I.kl,I.kw,k _ _ I.hr h1.2.1.symm,k _ _ I.hf h1.2.2.1.symm,I.tr.GL λp O x=>up ?_,I.tf.GL λp O x=>?_,I.nr,I.nf,I.nrf,I.w1,λp O t v1 x v3 e g=>?_,λb hb=>h4 b hb (I.bl b hb),k _ _ I.hk h1.2.2.2.symm,I.nk,I.sl,dr⟩
 .rcases h3 with h|h
  .exact .inr h
  .exact .inl (I.w1 p O D h)
 .rintro ⟨t,v1,v3,e,g,a,b⟩;refine Ek t v1 v3 e (nt g) (up ?_ a) (up ?_ b)
  .rcases h3 with h|h
   .exact .inr h
   .exact .inl (I.w3 p O t _ _ _ e g D h).1
  .rcases h3 with h|h
   .exact .inr h
   .exact .inl (I.w3 p O t _ _ _ e g D h).2
 .refine Ut (I.tf.mem O) λfh t' u1 u3 Y g' _=>?_;rw[e]at Y;cases Y;rw[nt g']at g;cases g;exact I.w3 p O t _ _ _ e g'
theorem BC.keep (I:BC H d ad ak S ST kvs kr kf)(k:AF ad H H')(dr:BM H' ad):BC H' d ad ak S ST kvs kr kf:=by
 obtain⟨ds,O⟩:=I.dr;refine I.move ad k dr (C6 (Bb O I.hd (by simp)) (Bb O I.hr (by simp)) (Bb O I.hf (by simp)) I.nk.symm) (λt xs g=>Bb g O (by simp)) (.inl rfl) λb hb h=>?_;by_cases c:b=ad
 .obtain⟨Y,h'⟩:=dr;rw[c,h'];simp
 .cases e:H b with
  | none=>exact absurd e h
  | some u=>rw[k _ _ e c];simp
theorem BC.same (I:BC H d ad ak S ST kvs kr kf)(s:AA H H'):BC H' d ad ak S ST kvs kr kf:=I.keep (AA.AM s) (BM.up I.dr s)
theorem Tree.keep (T:Tree H d ad ak S ST)(k:AF ad H H')(dr:BM H' ad):Tree H' d ad ak S ST:=let ⟨kvs,kr,kf,I⟩:=T;(Rh kvs kr kf (I.keep k dr))
theorem Tree.same (T:Tree H d ad ak S ST)(s:AA H H'):Tree H' d ad ak S ST:=T.keep (AA.AM s) (by refine Jg T λkvs kr kf I=>?_;exact BM.up I.dr s)
theorem Tree.wr (T:Tree H d ad ak S ST)(hb:D∈S.bs)(n1:D≠ad)(n2:D≠ak)(O:H D=some (.lst ys)):Tree (upd H D (.lst zs)) d ad ak S ST:=by
 refine Jg T λkvs kr kf I=>?_;obtain⟨ds,Y⟩:=I.dr;refine Rh kvs kr kf (I.move D (λq u e n=>by rw[Ak n];exact e) ⟨ds,by rw[Ak n1.symm];exact Y⟩ (C6 (Bb O I.hd (by simp)) (Bb O I.hr (by simp)) (Bb O I.hf (by simp)) n2) (λt xs g=>Bb g O (by simp)) (.inr hb) λb hb h=>?_);by_cases c:b=D
 .rw [c,Aj];simp
 .rw [Ak c];exact h
theorem Tree.bar (T:Tree H d ad ak S ST)(hD:H D=none)(s:AA H H')(h':H' D≠none):Tree H' d ad ak (S.bar D) ST:=by
 have Y:∀{v:V} {xs:List Str},CI H ad v xs->v≠.ref D:=λ⟨a,e,_,g,_⟩ z=>Ah g hD (V.ref.inj (e.symm.trans z));refine Jg T λkvs kr kf I=>?_;have up:∀{v:V} {xs:List Str},CI H ad v xs->CI H' ad v xs:=λ⟨a,e,n,g,l⟩=>(Cv a e n (s _ _ g) l);refine Rh kvs kr kf ⟨s _ _ I.hd,I.vd,I.vr,I.vf,I.vk,I.vs,I.vg,I.kl,I.kw,s _ _ I.hr,s _ _ I.hf,I.tr.imp λv x=>up,I.tf.imp λv x ⟨t,v1,v3,e,g,a,b⟩=>(Ek t v1 v3 e (s _ _ g) (up a) (up b)),I.nr,I.nf,I.nrf,λp O b hb=>?_,λp O t v1 x v3 e g=>?_,λb hb=>?_,s _ _ I.hk,I.nk,I.sl,BM.up I.dr s⟩
 .obtain⟨xs,h⟩:=I.tr.mem O
  rcases JC.mp hb with rfl|hb
  .exact Y h
  .exact I.w1 p O b hb
 .refine Q0 (I.tf.mem O) λfh t' u1 u3 e' g' a1 a3=>?_;rw[e]at e';cases e';rw[s _ _ g']at g;cases g;intro b hb
  rcases JC.mp hb with rfl|hb
  .exact⟨Y a1,Y a3⟩
  .exact I.w3 p O t _ _ _ e g' b hb
 .rcases JC.mp hb with rfl|hb
  .exact h'
  .intro z
   cases e:H b with
   | none=>exact I.bl b hb e
   | some u=>rw[s _ _ e]at z;cases z
theorem Vg {kvs:List (Key×V)}{k:Key}{v:V}{p:Key×V}(h:p∈L2.putK kvs k v):p.2=v\/p∈kvs:=by
 unfold L2.putK at h;split at h
 .refine Am (JT.mp h) λq I e=>?_;split at e
  .rw [← e];exact .inl rfl
  .rw [← e];exact .inr I
 .rcases JV.mp h with z|z
  .exact .inr z
  .rw [JM.mp z];exact .inl rfl
theorem BC.wrD (I:BC H d ad ak S ST kvs kr kf)(h0:H a=some (.dK k0)):(∀{v:V} {xs:List Str},CI H ad v xs->CI (upd H a (.dK k1)) ad v xs)/\(∀{v:V} {f:FH},Fns H ad v f->Fns (upd H a (.dK k1)) ad v f)/\(∀{q:Addr} {xs:List V},H q=some (.lst xs)->upd H a (.dK k1) q=some (.lst xs))/\(∀b∈S.bs,upd H a (.dK k1) b≠none)/\BM (upd H a (.dK k1)) ad/\∀{t:Addr} {xs:List V},H t=some (.tup xs)↔upd H a (.dK k1) t=some (.tup xs):=by
 have nl:∀{q:Addr} {xs:List V},H q=some (.lst xs)->upd H a (.dK k1) q=some (.lst xs):=λg=>by rw[Ak (Bb g h0 (by simp))];exact g
 have O:∀{q:Addr} {xs:List V},H q=some (.tup xs)->upd H a (.dK k1) q=some (.tup xs):=λg=>by rw[Ak (Bb g h0 (by simp))];exact g
 have up:∀{v:V} {xs:List Str},CI H ad v xs->CI (upd H a (.dK k1)) ad v xs:=λ⟨a,e,n,g,l⟩=>(Cv a e n (nl g) l);obtain⟨ds,Y⟩:=I.dr;refine El up (λ⟨t,v1,v3,e,g,a,b⟩=>(Ek t v1 v3 e (O g) (up a) (up b))) nl (λb hb z=>?_) ⟨ds,nl Y⟩ (@λt' a0=>⟨O,λg=>?_⟩)
 .by_cases c:b=a
  .rw [c,Aj]at z;cases z
  .rw [Ak c]at z;exact I.bl b hb z
 .by_cases c:t'=a
  .rw [c,Aj]at g;cases g
  .rw [Ak c]at g;exact g
theorem BC.recP (I:BC H d ad ak S ST kvs kr kf)(hl:H l=some (.lst (fl.map V.str)))(n1:l≠ad)(n2:∀b∈S.bs,l≠b)(Y:fl.length<=100):Tree (upd H S.ar (.dK (L2.putK kr (Sum.inr n) (.ref l)))) d ad ak {S with AB:=Fj S.AB n fl} ST:=by
 refine G7 (I.wrD (k1:=L2.putK kr (Sum.inr n) (.ref l)) I.hr) λw1 w2 w3 w4 w5 w6=>?_;refine Rh kvs _ kf ⟨by rw[Ak I.nr.symm];exact I.hd,I.vd,I.vr,I.vf,I.vk,I.vs,I.vg,I.kl,I.kw,Aj,by rw[Ak I.nrf.symm];exact I.hf,Tab.put (I.tr.imp λv x=>w1) (w1 (Cv l rfl n1 hl Y)),I.tf.imp λv x=>w2,I.nr,I.nf,I.nrf,λp O b hb=>?_,λp O t v1 x v3 e g=>I.w3 p O t v1 x v3 e (w6.mpr g),w4,w3 I.hk,I.nk,I.sl,w5⟩
 rcases Vg O with h|h
 .rw [h];exact λz=>n2 b hb (V.ref.inj z)
 .exact I.w1 p h b hb
theorem BC.funP (I:BC H d ad ak S ST kvs kr kf)(ht:H t=some (.tup [v1,.str fh.k,v3]))(h1:CI H ad v1 fh.ks)(h3:CI H ad v3 fh.ps)(n2:∀b∈S.bs,v1≠.ref b/\v3≠.ref b):Tree (upd H S.af.1 (.dK (L2.putK kf (Sum.inr n) (.ref t)))) d ad ak {S with AC:=Fj S.AC n fh} ST:=by
 refine G7 (I.wrD (k1:=L2.putK kf (Sum.inr n) (.ref t)) I.hf) λw1 O w3 w4 w5 Y=>?_;refine Rh kvs kr _ ⟨by rw[Ak I.nf.symm];exact I.hd,I.vd,I.vr,I.vf,I.vk,I.vs,I.vg,I.kl,I.kw,by rw[Ak I.nrf];exact I.hr,Aj,I.tr.imp λv x=>w1,Tab.put (I.tf.imp λv x=>O) (O (Ek t v1 v3 rfl ht h1 h3)),I.nr,I.nf,I.nrf,I.w1,λp hp t' u1 x u3 e g=>?_,w4,w3 I.hk,I.nk,I.sl,w5⟩
 rcases Vg hp with h|h
 .rw [h]at e;cases e;have g:=Y.mpr g;rw[ht]at g;cases g;exact n2
 .exact I.w3 p h t' u1 x u3 e (Y.mpr g)
theorem Tree.CQ (T:Tree H d ad ak S ST):Rec0 H d ad S:=by
 refine Jg T λkvs kr kf I=>⟨⟨(Ar kvs I.hd I.vd),I.dr⟩,kvs,S.ar,kr,I.hd,I.vr,I.hr,I.tr⟩
end
theorem Y8 {ST:List Str}(nd:ST.Nodup){i:Nat}{x:Str}(h:ST[i]?=some x):x∉ST.drop (i+1):=by
 intro z;have e:ST=ST.take (i+1)++ST.drop (i+1):=(List.take_append_drop _ _).symm;rw[e]at nd;have hx:x∈ST.take (i+1):=by rw[B5 h];simp
 exact(LI.mp nd).2.2 x hx x z rfl
theorem Uc {ST:List Str}(nd:ST.Nodup){j:Nat}{x:Str}(h:x∈ST.drop j):x∉ST.take j:=by
 intro z;have e:ST=ST.take j++ST.drop j:=(List.take_append_drop _ _).symm;rw[e]at nd;exact(LI.mp nd).2.2 x z x h rfl
theorem Gy {ST:List Str}{i j:Nat}(h:i<=j){x:Str}(hx:x∈ST.drop j):x∈ST.drop i:=by
 have:ST.drop j=(ST.drop i).drop (j-i):=by rw[List.drop_drop];congr 1;omega
 rw[this]at hx;exact MF hx
theorem Ph {ST:List Str}(h:ST[i]?=some x):x∈ST.drop i:=by
 have:(ST.drop i)[0]?=some x:=by rw[List.getElem?_drop];exact h
 exact JU this
theorem Lv {ST:List Str}{j:Nat}(h:j<ST.length):∃x,ST[j]?=some x/\((ST.take (j+1)).map V.str)[((ST.take (j+1)).map V.str).length-1]?=some (.str x)/\((ST.take (j+1)).map V.str).dropLast=(ST.take j).map V.str:=by
 obtain⟨x,hx⟩:∃x,ST[j]?=some x:=⟨_,KN h⟩;refine B4 x hx ?_ ?_
 .rw [B5 hx];simp
 .rw [B5 hx];simp
theorem Am4 (xs:List Str)(n:Nat):Ec (xs.map V.str) none (some (n:Int))=(xs.take n).map V.str:=by
 unfold Ec;rw[JB,HT.EV,HT.BX,List.drop_zero,Nat.sub_zero,List.map_take];by_cases c:n<=xs.length
 .rw [MV c]
 .rw [OM (by omega),LU (by rw[JB];exact JG _),LU (by rw[JB];omega)]
theorem Am5 (xs:List Str)(n:Nat)(h:n<=xs.length):Ec (xs.map V.str) (some (n:Int)) none=(xs.drop n).map V.str:=by
 unfold Ec;rw[JB,HT.EV,HT.BX,MV h,List.map_drop,LU];rw[MN,JB];exact JG _
structure CA (ST:List Str)(j:Nat)(AB:List (Str×List Str)):Prop where
 nd:(AB.map (·.1)).Nodup
 ok:∀n fl,(n,fl)∈AB->n∈ST.drop j/\fl≠[]/\fl.length<=4/\fl.Nodup/\∀x∈fl,x∈ST.drop j
theorem HP {α:Type}{tab:List (Str×α)}{n:Str}:(tab.any λp=>decide (p.1=n))=true↔n∈tab.map (·.1):=by
 rw[PM,JT];exact⟨λ⟨p,h1,h2⟩=>(Ar p h1 (JL h2)),λ⟨p,h1,h2⟩=>(Ar p h1 (JO h2))⟩
theorem FE {α:Type}{tab:List (Str×α)}{n:Str}{x:α}:(n∈tab.map (·.1)->(Fj tab n x).map (·.1)=tab.map (·.1))/\(n∉tab.map (·.1)->Fj tab n x=tab++[(n,x)]):=by
 unfold Fj;refine⟨λh=>?_,λh=>?_⟩
 .rw [JN (HP.mpr h),List.map_map];refine List.map_congr_left λp _=>?_
  show(if p.1=n then(p.1,x)else p).1=p.1
  split<;>rfl
 .rw [JP λz=>h (HP.mp z)]
theorem Yt {α:Type}{tab:List (Str×α)}{n:Str}{x:α}(h:(tab.map (·.1)).Nodup):((Fj tab n x).map (·.1)).Nodup:=by
 by_cases c:n∈tab.map (·.1)
 .rw [FE.1 c];exact h
 .rw [FE.2 c,KI,List.map_singleton];refine LI.mpr (Bc h (by simp) λa ha b hb e=>?_);have e:a=n:=e.trans (JM.mp hb);exact c (e▸ha)
theorem CA.mono {ST:List Str}{i j:Nat}{AB:List (Str×List Str)}(h:CA ST j AB)(hi:i<=j):CA ST i AB:=
 ⟨h.nd,λn fl a=>let ⟨b1,I,O,Y,b5⟩:=h.ok n fl a;(Du (Gy hi b1) I O Y λx hx=>Gy hi (b5 x hx))⟩
theorem CA.put {ST:List Str}{j:Nat}{AB:List (Str×List Str)}(h:CA ST j AB){n:Str}{fl:List Str}(hn:n∈ST.drop j/\fl≠[]/\fl.length<=4/\fl.Nodup/\∀x∈fl,x∈ST.drop j):CA ST j (Fj AB n fl):=
 ⟨Yt h.nd,λm I a=>by
  rcases Ef a with⟨rfl,rfl⟩|⟨a,_⟩
  .exact hn
  .exact h.ok m I a⟩
structure DJ (ST:List Str)(j:Nat)(NM:List Str)(S:GS):Prop where
 nd:(S.AC.map (·.1)).Nodup
 nm:NM.Nodup/\∀x∈NM,x∈ST/\x∉ST.take j
 ks:∀f:Str,f∈S.AC.map (·.1)->(f="main"\/f∈ST)/\f∉ST.take j/\f∉NM
 ok:∀f h,(f,h)∈S.AC->(∀k∈h.ks,D7 S k)/\D7 S h.k/\h.ps.length=h.ks.length/\h.ks.length<=4/\h.ps.Nodup/\∀x∈h.ps,x∈ST
 mn:∃h:FH,(("main":Str),h)∈S.AC/\h.k="number"/\∀k∈h.ks,k="number"
 ln:S.AC.length<=5
theorem DJ.add {ST:List Str}{j I:Nat}{NM Y:List Str}{S:GS}(h:DJ ST j NM S)(gw:Sn ST)(hj:I<=j)(O:Y.Nodup/\∀x∈Y,x∈NM){f:Str}(hf:f∈ST/\f∉S.AC.map (·.1)/\f∉ST.take I/\f∉Y){fh:FH}(ho:(∀k∈fh.ks,D7 S k)/\D7 S fh.k/\fh.ps.length=fh.ks.length/\fh.ks.length<=4/\fh.ps.Nodup/\∀x∈fh.ps,x∈ST)(hl:S.AC.length<=4):DJ ST I Y {S with AC:=Fj S.AC f fh}:=by
 have sub:∀x,x∈ST.take I->x∈ST.take j:=λx hx=>by
  have:ST.take I=(ST.take j).take I:=by rw[List.take_take];congr 1;omega
  rw[this]at hx;exact MZ hx
 refine Bk h.mn λmh m1 m2 m3=>?_;have a0:f≠"main":=λz=>hf.2.1 (z▸JT.mpr (Ae m1 rfl));have e:=(FE (tab:=S.AC) (n:=f) (x:=fh)).2 hf.2.1;refine⟨Yt h.nd,⟨O.1,λx hx=>⟨(h.nm.2 x (O.2 x hx)).1,λz=>(h.nm.2 x (O.2 x hx)).2 (sub x z)⟩⟩,λg hg=>?_,λg gh hg=>?_,(B4 mh ?_ m2 m3),?_⟩
 .have hg:g∈(Fj S.AC f fh).map (·.1):=hg;rw[e,KI]at hg
  rcases JV.mp hg with z|z
  .refine Bu (h.ks g z) λa b c=>Bc a (λy=>b (sub g y)) λy=>c (O.2 g y)
  .rw [show g=f from JM.mp z];exact⟨.inr hf.1,hf.2.2⟩
 .rcases Ef hg with⟨rfl,rfl⟩|⟨a,_⟩
  .exact ho
  .exact h.ok g gh a
 .show (("main":Str),mh)∈Fj S.AC f fh
  rw[e];exact LQ _ m1
 .show (Fj S.AC f fh).length<=5
  rw[e,JH];show _+1<=5;omega
theorem Tab.keys {α:Type}{R:V->α->Prop}{kvs:List (Key×V)}{tab:List (Str×α)}(h:Tab R kvs tab):(kvs.map λp=>kV p.1)=(tab.map (·.1)).map V.str:=by
 unfold Tab at h
 induction h with
 | nil=>rfl
 | cons h1 _ I=>rw[JX,JX,JX,I,h1.1];rfl
theorem Tab.at {α:Type}{R:V->α->Prop}:∀{kvs:List (Key×V)} {tab:List (Str×α)} {i:Nat} {k:Key} {v:V},Tab R kvs tab->kvs[i]?=some (k,v)->∃n x,tab[i]?=some (n,x)/\k=Sum.inr n:=fun {kvs tab i k v} h=>by
 unfold Tab at h
 induction h generalizing i with
 | nil=>intro e;simp at e
 | @cons a b _ _ h1 _ I=>
  intro e
  cases i with
  | zero=>
   cases e;exact Ck b.1 b.2 rfl h1.1
  | succ i=>exact I (by simpa using e)
noncomputable def Gp (p:Str×List Str):Th:=.tup (.wd "record"::.wd p.1::p.2.map .wd)
structure GN where
 nm:Str
 fh:FH
 ts:List Th
noncomputable def Fc (f:GN):Th:=.tup (.wd "fun"::.wd f.nm::.tup ((Cf f.fh.ps f.fh.ks).map .wd)::.wd f.fh.k::f.ts)
noncomputable def FZ (AB:List (Str×List Str))(n:Str):Option (List Str):=(AB.find? λp=>decide (p.1=n)).map (·.2)
noncomputable def GB (AC:List GN)(n:Str):Option (List Str×Str):=(AC.find? λf=>decide (f.nm=n)).map λf=>(f.fh.ks,f.fh.k)
def Ny (AB:List (Str×List Str))(k:Str):Prop:=k="number"\/k="truth"\/k="list"\/k∈AB.map (·.1)
structure TreeR (AB:List (Str×List Str))(AC:List GN):Prop where
 rn:(AB.map (·.1)).Nodup
 ro:∀n fl,(n,fl)∈AB->Da n=true/\n≠"number"/\n≠"truth"/\n≠"list"/\fl≠[]/\fl.length<=4/\fl.Nodup/\∀x∈fl,Da x=true
 fn:(AC.map (·.nm)).Nodup
 fo:∀f∈AC,Da f.nm=true/\f.fh.ps.length=f.fh.ks.length/\f.fh.ks.length<=4/\f.fh.ps.Nodup/\(∀x∈f.fh.ps,Da x=true)/\(∀k∈f.fh.ks,Ny AB k)/\Ny AB f.fh.k/\∃κ kn,Cb ⟨FZ AB,GB AC,f.fh.k⟩ f.ts (FA f.fh.ps f.fh.ks) f.fh.ps=some (κ,kn,true)/\kn.length<=100
 mn:∃f∈AC,f.nm="main"/\f.fh.k="number"/\∀k∈f.fh.ks,k="number"
def TreeG (t:Th):Prop:=∃AB AC,t=.tup (.wd "program"::(AB.map Gp++AC.map Fc))/\TreeR AB AC/\(∀p∈AB,p.1.length<=6)/\(∀f∈AC,f.nm.length<=6/\f.ts.length<=4/\∀t∈f.ts,BI 11 t)/\AB.length<=5/\AC.length<=5
noncomputable def lkH (AC:List (Str×FH))(n:Str):Option (List Str×Str):=(AC.find? λp=>decide (p.1=n)).map λp=>(p.2.ks,p.2.k)
theorem Hf {α:Type}{key:α->Str}:∀{l:List α} {x:α},(l.map key).Nodup->x∈l->l.find? (λy=>decide (key y=key x))=some x
 | [],_,_,h=>by cases h
 | y::r,x,nd,h=>by
  rw[JX,ML]at nd
  rcases JC.mp h with rfl|h
  .rw [List.find?_cons_of_pos (by simp)]
  .have ne:key y≠key x:=λz=>nd.1 (z▸JT.mpr (Ar x h rfl));rw[NH (by simpa using ne)];exact Hf nd.2 h
theorem Ui (nd:(AB.map (·.1)).Nodup)(h:(n,fl)∈AB):FZ AB n=some fl:=by
 unfold FZ;rw[show(λp:Str×List Str=>decide (p.1=n))=λp=>decide (p.1=(n,fl).1)from rfl,Hf nd h];rfl
theorem Zb (nd:(AC.map (·.1)).Nodup)(h:(n,fh)∈AC):lkH AC n=some (fh.ks,fh.k):=by
 unfold lkH;rw[show(λp:Str×FH=>decide (p.1=n))=λp=>decide (p.1=(n,fh).1)from rfl,Hf nd h];rfl
theorem Pb (nd:(fs.map (·.nm)).Nodup)(h:f∈fs):GB fs f.nm=some (f.fh.ks,f.fh.k):=by
 unfold GB;rw[Hf (key:=GN.nm) nd h];rfl
theorem Me {α:Type}{key:α->Str}{l:List α}{n:Str}(h:n∉l.map key):l.find? (λy=>decide (key y=n))=none:=by
 rw[List.find?_eq_none];intro y I z;exact h (JT.mpr (Ar y I (JL z)))
theorem lkF_eq (nd:(AC.map (·.1)).Nodup)(Y:(fs.map (·.nm)).Nodup)(h1:∀f∈fs,(f.nm,f.fh)∈AC)(h2:∀n:Str,n∈AC.map (·.1)->n∈fs.map (·.nm)):GB fs=lkH AC:=by
 funext n;by_cases c:n∈fs.map (·.nm)
 .refine Am (JT.mp c) λf hf O=>?_;subst O;rw[Pb Y hf,Zb nd (h1 f hf)]
 .have I:n∉AC.map (·.1):=λz=>c (h2 n z);unfold GB lkH;rw[Me (key:=GN.nm) c,Me (key:=Prod.fst) I];rfl
theorem treeOk {S:GS}{ST NM:List Str}{j j':Nat}(O:CA ST j S.AB)(I:DJ ST j' NM S)(gw:Sn ST)(hl:S.AB.length<=5):HD S ⟨FZ S.AB,lkH S.AC,""⟩ ST:=
 ⟨λn fl h=>⟨Ui O.nd h,(O.ok n fl h).2.1⟩,λf h hf=>⟨Zb I.nd hf,I.ok f h hf⟩,by omega,by have:=I.ln;omega,λn hn=>by
  refine Am (JT.mp hn) λp Y z1=>?_;subst z1;have:=(gw.2.2.1 p.1 (MF (O.ok p.1 p.2 Y).1)).2
  exact(Bc (λz=>this (by rw[z];decide)) (λz=>this (by rw[z];decide)) λz=>this (by rw[z];decide)),gw⟩
def FncOk (S:GS)(f:GN):Prop:=(f.nm,f.fh)∈S.AC/\(∃κ kn,Cb ⟨FZ S.AB,lkH S.AC,f.fh.k⟩ f.ts (FA f.fh.ps f.fh.ks) f.fh.ps=some (κ,kn,true)/\kn.length<=100)/\f.ts.length<=4/\∀t∈f.ts,BI 11 t
theorem treeG {S:GS}{ST NM:List Str}{j j':Nat}(Y:CA ST j S.AB)(I:DJ ST j' NM S)(gw:Sn ST)(hl:S.AB.length<=5){fs:List GN}(hf:∀f∈fs,FncOk S f)(hn:fs.map (·.nm)=S.AC.map (·.1)\/fs.map (·.nm)=(S.AC.map (·.1)).reverse):TreeG (.tup (.wd "program"::(S.AB.map Gp++fs.map Fc))):=by
 have a2:(fs.map (·.nm)).Nodup:=by
  rcases hn with h|h
  .rw [h];exact I.nd
  .rw [h];exact List.pairwise_reverse.mpr (I.nd.imp λh z=>h z.symm)
 have sub:∀n:Str,n∈S.AC.map (·.1)->n∈fs.map (·.nm):=λn h=>by
  rcases hn with e|e
  .rw [e];exact h
  .rw [e];exact List.mem_reverse.mpr h
 have eF:=lkF_eq I.nd a2 (λf h=>(hf f h).1) sub;have O:∀x,x∈ST->Da x=true/\x.length<=6:=λx h=>⟨(gw.2.2.1 x h).1,gw.2.2.2 x h⟩;have a0:∀f∈fs,f.nm="main"\/f.nm∈ST:=λf h=>(I.ks f.nm (JT.mpr (Ae ((hf f h).1) rfl))).1;refine Md S.AB fs rfl ⟨Y.nd,λn fl h=>?_,a2,λf h=>?_,?_⟩ (λp hp=>?_) (λf h=>⟨?_,(hf f h).2.2⟩) hl ?_
 .refine Ii (Y.ok n fl h) λa b c d e=>?_;have g:=gw.2.2.1 n (MF a);exact El g.1 (λz=>g.2 (by rw[z];decide)) (λz=>g.2 (by rw[z];decide)) (λz=>g.2 (by rw[z];decide)) b (Bc c d λx hx=>(O x (MF (e x hx))).1)
 .refine G7 (I.ok f.nm f.fh (hf f h).1) λa b c d e g=>El ?_ c d e (λx hx=>(O x (g x hx)).1) (Bc a b ?_)
  .rcases a0 f h with z|z
   .rw [z];decide +kernel
   .exact (O _ z).1
  .rw [eF];exact(hf f h).2.1
 .refine Bk I.mn λh m1 m2 m3=>Am (JT.mp (sub "main" (JT.mpr (Ae m1 rfl)))) λf a1 e=>?_;have h1:=(hf f a1).1;rw[e]at h1;have e2:f.fh=h:=by
   have a:=Hf (key:=Prod.fst) I.nd h1;have b:=Hf (key:=Prod.fst) I.nd m1;rw[a]at b;exact LB Prod.snd (KR b)
  exact Cv f a1 e (by rw[e2];exact m2) (by rw[e2];exact m3)
 .exact (O _ (MF (Y.ok p.1 p.2 hp).1)).2
 .rcases a0 f h with z|z
  .rw [z];decide +kernel
  .exact (O _ z).2
 .have e:fs.length=S.AC.length:=by
   rcases hn with h|h
   .have:=LB List.length h;simpa using this
   .have:=LB List.length h;simpa using this
  rw[e];exact I.ln
theorem two_of {α:Type}:∀{l:List α},l.length=2->∃a b,l=[a,b]
 | [a,b],_=>(Ki a b rfl)
def Wt:Sp:=λvs H Q _=>∃ad,∃ds:List Int,vs=[.ref ad]/\H ad=some (.lst (ds.map V.int))/\∀v t H',AS H' v t->TreeG t->AF ad H H'->BM H' ad->Q v H'
noncomputable def GR (ad ar af as:Addr):List (Key×V):=[(Sum.inr "draws",.ref ad),(Sum.inr "records",.ref ar),(Sum.inr "functions",.ref af),(Sum.inr "seen",.ref as),(Sum.inr "given",.str "")]
theorem mk0 {ad ar af as:Addr}:Eb [] [(Sum.inr "draws",V.ref ad),(Sum.inr "records",.ref ar),(Sum.inr "functions",.ref af),(Sum.inr "seen",.ref as),(Sum.inr "given",.str "")]=GR ad ar af as:=by kernel_rfl
theorem kv5_at {ad ar af as:Addr}:Bm (GR ad ar af as) (Sum.inr "draws")=some (.ref ad)/\Bm (GR ad ar af as) (Sum.inr "records")=some (.ref ar)/\Bm (GR ad ar af as) (Sum.inr "functions")=some (.ref af)/\Bm (GR ad ar af as) (Sum.inr "seen")=some (.ref as)/\Bm (GR ad ar af as) (Sum.inr "given")=some (.str "")/\Bm (GR ad ar af as) (Sum.inr "words")=none/\(GR ad ar af as).length=5:=(El (by kernel_rfl) (by kernel_rfl) (by kernel_rfl) (by kernel_rfl) (by kernel_rfl) ⟨by kernel_rfl,rfl⟩)
theorem ET:AD ["_law_draws_here","_law_now","_law_words_here","_law_turn","_law_name","_law_names","_law_more","_law_kinds_here","_law_things"] ["_law_draws_here"] (Aq P5):=FS
theorem Vi (hm:3<=m)(F:BE K "_law_tree" "_law_tree" P5 f fd)(T:BH K mg)(aF:AQ P w K mg base 1 "_law_next" ["_law_state"] Jv)(eC:AQ P w K mg base 1 "_law_words" ["_law_draw","_law_many"] S8)(cn:AQ P w K mg base 3 "_law_kind" ["_law_now"] Px)(eD:AQ P w K mg base m "_law_function" ["_law_now","_law_name","_law_many"] Ae7):AI P w K mg base BV (m+1) f fd ["_law_draws_here"] Wt:=by
 refine F.CZ ET λcdv A outer s H vs Q E hr h=>?_
 .refine A0 h λad ds z1 cD k=>?_;subst z1;have nd:=ET.nd;have eI:(2000000:Nat)<=sizeLine:=by rw[KU];omega
  refine Ae (Ag (Tu (i:=1) nd rfl (Or.inr rfl) (Ap1 (J9 Ad (qv 0) (J9 Ad Kb (J9 Ad Kb (J9 Ad Kb (J9 Ad Ad Ao7))))) rfl rfl (by simp) (by decide))) (Ag (Dy (Dn hr) (qv 1) Ad (qf eC hr (AJ (qf aF hr (AT (qv 1))) Af)) rfl) (Ag (Tu (i:=2) nd rfl (Or.inr rfl) (Cc Uv rfl T.FF boot_list (AT (BP hr (qv 1) Ad)))) (Ag (Ei MG rfl (Dh rfl T.BJ (AT (Ap Bh (qf aF hr (AT (qv 1))) Af))) (HE 3 nd) (Ag (Bd 4 nd (Lf KD MW MX Nd (qv 2))) (Al (Dy (Dn hr) (BP hr (qv 1) Ad) (qv 4) (E9 (N':=["_law_k","_law_words_here"]) (n:=1) (js:=[2]) (At.o ["_law_words_here"]) rfl (Dh rfl T.BJ (AT (Ap Fa Af (Ap Bh (qf aF hr (AT (qv 1))) Af)))) (λ_ _ _=>(Bc (GD 0) Dd (Ap3 K KD MW MX Nd (qv 1))))) rfl)))) (Ag (Bd 5 nd (Cc (G0 rfl) rfl T.FF boot_list (AT (BP hr (qv 1) Ad)))) (Ag (Bz (QW.pt (Iw (By B9 (Ey T.AY (qv 5)) Af) (Ge (By B9 (Ap Bh (qf aF hr (AT (qv 1))) Af) Af)))) (Ag (Bd 6 nd (Ap Bj (Az (AT (Lf KD MW MX Nd (qv 2)))) (BP hr (BP hr (qv 1) Ad) (Dv Dj (qv 5) Af (λ_ _=>rfl))))) (Al (Dy (Dn hr) (BP hr (qv 1) Ad) (Dv Dj (qv 5) Af (λ_ _=>rfl)) (Cd O8 (qv 6) Cm (Ca Af)) rfl))) Be) (Ag (Bd 7 nd (Ap op_repL (Az (AT Ad)) (Ap Bh (qf aF hr (AT (qv 1))) Af))) (Ag (Dy (Dn hr) (BP hr (qv 1) Ad) Ad (Ai (AO (qv 7) Ad (Cd O8 (BP hr (qv 1) Ad) Cm (Ca (Ey T.AY (qv 7)))))) rfl) (Ag (Ei MG rfl (Dh rfl T.BJ (AT (Ap Bh (qf aF hr (AT (qv 1))) Af))) (HE 3 nd) (Ag (G9 (i0:=7) nd rfl rfl rfl (N':=["_law_k","_law_now"]) (n:=1) (js:=[1]) (At.o ["_law_now"]) rfl (Dh rfl T.BJ (AT (Ap Bh (qf aF hr (AT (qv 1))) Af))) (λ_ _ _=>(Bc (GD 0) Dd (qf cn hr (AT (qv 1)))))) (Ag (Bd 4 nd (Lf KD MW MX Nd (Dv Dj (Az (AJ (qv 2) (qv 5))) (Cc Np rfl T.II boot_int (AT (Dl (GC F1 (Ey T.AY (qv 5)) Af) (Dz (GC B9 (Ap Bh (qf aF hr (AT (qv 1))) Af) Af))))) (λ_ _=>rfl)))) (Al (Dy (Dn hr) (BP hr (qv 1) Ad) (qv 4) (Ai (AO (qv 7) (qf cn hr (AT (qv 1))) (Cd O8 (BP hr (qv 1) Ad) (Ca (Ap Fk Af (Ey T.AY (qv 7)))) Cm))) rfl))))) (Ag (Xf (G9 (i0:=8) nd rfl rfl rfl (N':=["_law_name","_law_now"]) (n:=1) (js:=[1]) (At.o ["_law_now"]) rfl (Tw (BP hr (qv 1) Ad)) (λ_ _ _=>(Bc (GD 0) Dd (Cc (show Ex _ (.type "tuple") (λxs H Q=>∃p ys,xs=[.ref p]/\((AW K H p ys/\∀l,H l=none->Q (.ref l) (upd H l (.tup ys)))\/BW K H p ys/\Q (.ref p) H))from Ea) rfl T.BR NO (AT (Ap Bj (Az (AJ Ad (qv 0))) (BP hr (BP hr (qv 1) Ad) (qv 0))))))))) (Ag (Bd 5 nd (Cc (G0 rfl) rfl T.FF boot_list (AT (BP hr (qv 1) Ad)))) (Ag (Bz (By B9 (Ap Bh (qf aF hr (AT (qv 1))) Af) Af) (Al (Ax (Lf KD PySem.F.slot_list_reverse PySem.F.type_list_reverse Xr (qv 5)))) Be) (Ag (Ei MG rfl (Gf (qv 5)) (HE 4 nd) (Al (Ax (Lu KD LM LN Ew (qv 8) (AT (qf eD hr (AO (qv 1) (qv 4) (Ap Bh (qf aF hr (AT (qv 1))) Af)))))))) (Al (Aw (Cc Ea rfl T.BR NO (AT (Ap Bj (Az (AT Ad)) (qv 8))))))))))))))))))) (Cs λd hd=>?_);generalize z1:upd H d _=H1;obtain⟨s1,g1⟩:=B8 hd z1;refine Ae rfl λar bR=>?_;generalize z2:upd H1 ar _=H2;obtain⟨s2,g2⟩:=B8 bR z2;refine λaf b8=>?_;generalize z3:upd H2 af _=H3;obtain⟨s3,g3⟩:=B8 b8 z3;refine λas has=>?_;generalize z4:upd H3 as _=H4;obtain⟨s4,g4⟩:=B8 has z4;refine⟨s4 _ _ (s3 _ _ (s2 _ _ g1)),(B4 [(Sum.inr "draws",.ref ad),(Sum.inr "records",.ref ar),(Sum.inr "functions",.ref af),(Sum.inr "seen",.ref as),(Sum.inr "given",.str "")] rfl (by show 5<=15;decide) ?_)⟩;rw[mk0];have be:ar≠d:=(Ah g1 bR).symm;have bc:af≠d:=(Ah (s2 _ _ g1) b8).symm;have di:ar≠af:=Ah g2 b8;have cV:=s1.trans (s2.trans (s3.trans s4));have k5:AF ad H (upd H4 d (.dK (GR ad ar af as))):=λq u e n=>by rw[Ak (Ah e hd)];exact cV _ _ e
  have d5:upd H4 d (.dK (GR ad ar af as)) ad=some (.lst (ds.map V.int)):=by rw[Ak (Ah cD hd)];exact cV _ _ cD
  have g5:upd H4 d (.dK (GR ad ar af as)) d=some (.dK (GR ad ar af as)):=Aj;have r5:upd H4 d (.dK (GR ad ar af as)) ar=some (.dK []):=by rw[Ak be];exact s4 _ _ (s3 _ _ g2)
  have f5:upd H4 d (.dK (GR ad ar af as)) af=some (.dK []):=by rw[Ak bc];exact s4 _ _ g3
  generalize upd H4 d (.dK (GR ad ar af as))=H5 at *;have d7:H ar=none:=s1.free bR;have d4:H af=none:=(s1.trans s2).free b8;refine G7 (kv5_at (ad:=ad) (ar:=ar) (af:=af) (as:=as)) λe1 e2 e3 e4 e5 z1=>?_;obtain⟨e6,e7⟩:=z1
  walk_at "n"
  refine Ae rfl (Ao d ad rfl ⟨(Ae g5 e1),ds,d5⟩ λn6 H6 bG c0=>(Ar n6 rfl λak ST H7 gw cB s7 gk=>?_));have cQ:d≠ad:=Bb g5 d5 (by simp);have g6:=bG _ _ g5 cQ;have g7:=s7 _ _ g6;refine Ae rfl (Ao d _ rfl (CW.k (k:=Sum.inr "stock") g7 (by show 5<sizeLine;omega)) ?_);have eA:ak≠d:=(Ah g6 cB).symm;have eB:ar≠ad:=Bb r5 d5 (by simp);have e9:af≠ad:=Bb f5 d5 (by simp);have de:ak≠ad:=by
   obtain⟨a4,h⟩:=c0;exact(Ah h cB).symm
  have T8:Tree (upd H7 d (.dK (L2.putK (GR ad ar af as) (Sum.inr "stock") (.ref ak)))) d ad ak ⟨[],[],[],"",ar,(af,some (.ref ak)),[]⟩ ST:=by
   have pv:∀{x:Str},x≠"stock"->Bm (L2.putK (GR ad ar af as) (Sum.inr "stock") (.ref ak)) (Sum.inr x)=Bm (GR ad ar af as) (Sum.inr x):=λh=>by rw[Bx,JP λz=>h (MD z)]
   refine Rh _ [] [] ⟨Aj,by rw[pv (by decide)];exact e1,by rw[pv (by decide)];exact e2,by rw[pv (by decide)];exact e3,by rw[Bx,JN rfl],by rw[pv (by decide),e4];simp,by rw[pv (by decide),e5];simp,JY BK.1 (by show 6<=7;decide),λ_=>JY BK.1 (by show 6<=6;decide),by rw[Ak be];exact s7 _ _ (bG _ _ r5 eB),by rw[Ak bc];exact s7 _ _ (bG _ _ f5 e9),.nil,.nil,be,bc,di,(λp hp=>by cases hp),(λp hp=>by cases hp),(λb hb=>by cases hb),by rw[Ak eA];exact gk,de,rfl,?_⟩;obtain⟨a4,h⟩:=c0;exact⟨a4,by rw[Ak cQ.symm];exact s7 _ _ h⟩
  have k8:AF ad H (upd H7 d (.dK (L2.putK (GR ad ar af as) (Sum.inr "stock") (.ref ak)))):=λq u e n=>by rw[Ak (Ah e hd)];exact s7 _ _ (bG _ _ (k5 q u e n) n)
  generalize upd H7 d (.dK (L2.putK (GR ad ar af as) (Sum.inr "stock") (.ref ak)))=H8 at *
  try dsimp only
  refine Jg (id T8) λeW eL eK aq=>?_;refine Cs (Ae rfl (Ao d _ rfl (by rw[← aq.vk];exact AK.k (k:=Sum.inr "stock") aq.hd) (Ao ak _ rfl (.inl (AW.of aq.hk)) λI b2=>?_)));generalize z9:upd H8 I _=H9;obtain⟨s9,c8⟩:=B8 b2 z9;have T9:=T8.bar b2 s9 (by rw[c8];simp);have a3:I≠ad/\I≠ak:=by
   obtain⟨a4,h⟩:=aq.dr;exact⟨(Ah h b2).symm,(Ah aq.hk b2).symm⟩
  have k9:AF ad H H9:=k8.trans s9;have b7:H I=none:=by
   cases h:H I with
   | none=>rfl
   | some u=>have:=k8 _ _ h a3.1;rw[b2]at this;cases this
  walk_at "n"
  obtain⟨S1,az⟩:∃S1:GS,S1=({AB:=[],AC:=[],seen:=[],given:="",ar:=ar,af:=(af,some (.ref ak)),bs:=[I]}:GS):=⟨_,rfl⟩;have T9:Tree H9 d ad ak {S1 with AB:=[]} ST:=by rw[az];exact T9
  have eb:S1.bs=[I]:=by rw[az]
  have ef:S1.AC=[]:=by rw[az]
  have ea:H S1.ar=none:=by rw[az];exact d7
  have cy:H S1.af.1=none:=by rw[az];exact d4
  have eH:ST.length=26:=gw.1
  refine Ae rfl (Ao d ad rfl T9.CQ.dr λcI eE bu dq=>(Bp rfl rfl (by show(0:Int)<3;decide) (Cv (cI%3) rfl (by omega) (by omega) (Gk (n:=(cI%3).toNat) (λi σ X=>∃j AB o3 o4,σ=[some (.ref ad),some (.ref d),some (.ref I),o3,o4,none,none,none,none]/\Tree X d ad ak {S1 with AB:=AB} ST/\X I=some (.lst ((ST.take j).map V.str))/\CA ST j AB/\26<=j+5*i/\j<=26/\AB.length<=i/\AF ad H X)
   (Ch 26 [] _ _ rfl (T9.keep bu dq) (by rw[LU (by omega)];exact bu _ _ c8 a3.1) ⟨List.nodup_nil,λn fl h=>by cases h⟩ (by omega) (Bc (by omega) (by simp) (DY k9 bu))) ?_ ?_))))
  .rintro i σ X hi ⟨j,AB,o3,o4,rfl,TX,a7,RO,ac,ae,bV,kX⟩;obtain⟨j,rfl⟩:∃j',j=j'+1:=⟨j-1,by omega⟩;refine Bk (Lv (ST:=ST) (j:=j) (by omega)) λx hx aI aB=>Cs (B0 rfl (.inl ⟨rfl,_,AW.of a7⟩) (Et I _ (.str x) rfl rfl a7 aI ?_));rw[aB];have aV:=TX.wr (zs:=(ST.take j).map V.str) (by rw[show({S1 with AB:=AB}:GS).bs=S1.bs from rfl,eb];exact JM.mpr rfl) a3.1 a3.2 a7;have dC:upd X I (.lst ((ST.take j).map V.str)) I=some (.lst ((ST.take j).map V.str)):=Aj;have ai:AF ad H (upd X I (.lst ((ST.take j).map V.str))):=λq u e n=>by rw[Ak (Ah e b7)];exact kX q u e n
   generalize upd X I (.lst ((ST.take j).map V.str))=X1 at *
   walk_at "n"
   refine Ae rfl (Ao d ad rfl aV.CQ.dr λb3 X2 bv cX=>(Bp rfl rfl (by show(0:Int)<4;decide) (Au rfl rfl (Cv (1+b3%4) rfl (by omega) (by omega) λD hD=>?_))));have cu:=aV.keep bv cX;have aY:=bv _ _ dC a3.1;have bF:=DY ai bv;have bL:D≠I:=(Ah aY hD).symm;have cN:D≠ad:=by
    obtain⟨a4,h⟩:=cX;exact(Ah h hD).symm
   have fD:H D=none:=by
    cases h:H D with
    | none=>rfl
    | some u=>have:=bF _ _ h cN;rw[hD]at this;cases this
   refine Fv (n:=(1+b3%4).toNat) (λi ys σ G=>(∃o0,σ=[o0,some (.ref I)])/\∃fl,ys=fl.map V.str/\G D=some (.lst ys)/\G I=some (.lst ((ST.take (j-i)).map V.str))/\fl.length=i/\fl.Nodup/\(∀y∈fl,y∈ST.drop (j-i))/\AF I X2 G) (by omega)
    ⟨⟨_,rfl⟩,[],rfl,Aj,by rw[Ak bL.symm,Nat.sub_zero];exact aY,rfl,List.nodup_nil,(λy hy=>by cases hy),λq u e _=>by rw[Ak (Ah e hD)];exact e⟩ (λi ys σ G hi ⟨_,fl,e,hd,_,l,_⟩=>⟨hd,by rw[e,JB,l];exact JG _⟩) ?_ ?_
   .rintro i2 ys σ G dJ ⟨⟨o0,rfl⟩,fl,rfl,aC,hG,bJ,bb,aG,kG⟩;obtain⟨j',ej⟩:∃j',j-i2=j'+1:=⟨j-i2-1,by omega⟩;have d1:j-(i2+1)=j':=by omega
    rw[ej]at hG aG;rw[d1];refine Bk (Lv (ST:=ST) (j:=j') (by omega)) λy hy dj dk=>B0 rfl (.inl ⟨rfl,_,AW.of hG⟩) (Et I _ (.str y) rfl rfl hG dj ?_);rw[dk];refine Bc (by rw[Ak bL];exact aC) ⟨_,rfl⟩ (Nj (fl++[y]) (by simp) Aj (by rw[Ak bL.symm,Aj]) (by simp[bJ]) ?_ ⟨λz hz=>?_,λq u e n=>?_⟩)
    .refine LI.mpr (Bc bb (by simp) λa ha b hb e=>?_);have e:a=y:=e.trans (JM.mp hb);exact Y8 gw.2.1 hy (e▸aG a ha)
    .rcases JV.mp hz with h|h
     .exact Gy (OZ _) (aG z h)
     .rw [JM.mp h];exact Ph hy
    .rw [Ak (Ah e hD),Ak n];exact kG q u e n
   .rintro ys σ G ⟨_,fl,rfl,aC,hG,bJ,bb,aG,kG⟩;refine Jg cu λeV dX eJ aW=>?_;have dH:I∈({S1 with AB:=AB}:GS).bs:=by rw[show({S1 with AB:=AB}:GS).bs=S1.bs from rfl,eb];exact JM.mpr rfl
    have au:=aW.move I kG (by obtain⟨a4,h⟩:=aW.dr;exact⟨a4,kG _ _ h a3.1.symm⟩) (C6 (Bb aY aW.hd (by simp)) (Bb aY aW.hr (by simp)) (Bb aY aW.hf (by simp)) a3.2) (λt xs g=>Bb g aY (by simp)) (.inr dH) (λb hb h=>by
     by_cases c:b=I
     .rw [c,hG];simp
     .cases e:X2 b with
      | none=>exact absurd e h
      | some u=>rw[kG _ _ e c];simp)
    have dZ:dX.length<=10:=by rw[aW.tr.len];show AB.length<=10;omega
    refine Ae rfl (Ao d _ rfl (by rw[← au.vr];exact AK.k (k:=Sum.inr "records") au.hd) (Ae rfl (Ao S1.ar _ rfl (CW.k (k:=Sum.inr x) au.hr (by omega)) ?_)));have T3:=au.recP (n:=x) aC cN (by rw[show({S1 with AB:=AB}:GS).bs=S1.bs from rfl,eb];intro b hb;rw[JM.mp hb];exact bL) (by omega);have c1:(1+b3%4).toNat<=4/\1<=(1+b3%4).toNat:=by omega
    refine Ch (j-(1+b3%4).toNat) (Fj AB x fl) _ _ rfl T3 (by rw[Ak (Bb hG au.hr (by simp))];exact hG) ((RO.mono (by omega)).put (Du (Gy (by omega) (Ph hx)) ?_ (by omega) bb aG)) (by omega) (Bc (by omega) ?_ λq u e n=>?_)
    .intro z;rw[z]at bJ;simp at bJ;omega
    .have:=Ib AB x fl;omega
    .have dF:=bF q u e n;have df:q≠S1.ar:=Ah e ea;rw[Ak df];exact kG q u dF (Ah e b7)
  .rintro σ X ⟨j,AB,o3,o4,rfl,TX,a7,RO,ac,ae,bV,kX⟩;have ac:16<=j:=by omega
   have bV:AB.length<=2:=by omega
   have ac:16<=j:=by omega
   refine Jg (id TX) λkvs kr kf O=>?_;have b9:∀{Y:Hp},AA X Y->AK Y d (.str "records") (some (.ref S1.ar)):=λs=>by rw[← O.vr];exact AK.k (k:=Sum.inr "records") (s _ _ O.hd)
   try dsimp only
   refine Cs (Ae rfl (Ao d _ rfl (b9 (AA.refl X)) (Ao S1.ar kr rfl (.of O.hr) λan aa=>?_)));rw[O.tr.keys];generalize z:upd X an _=X1;obtain⟨s1,g1⟩:=B8 aa z;have T1:=TX.bar aa s1 (by rw[g1];simp);have a6:an≠ad/\an≠ak/\an≠I:=by
    obtain⟨a4,h⟩:=O.dr;exact Bc ((Ah h aa).symm) ((Ah O.hk aa).symm) ((Ah a7 aa).symm)
   have ai:AF ad H X1:=kX.trans s1;have d6:H an=none:=by
    cases h:H an with
    | none=>rfl
    | some u=>have:=kX _ _ h a6.1;rw[aa]at this;cases this
   have aJ:=s1 _ _ a7;obtain⟨NM,bN⟩:∃NM,NM=AB.map (·.1):=⟨_,rfl⟩;have ay:NM.Nodup/\∀x∈NM,x∈ST/\x∈ST.drop j:=by
    rw[bN];refine⟨RO.nd,λx hx=>?_⟩;refine Am (JT.mp hx) λp hp z1=>?_;subst z1;have:=(RO.ok p.1 p.2 hp).1;exact⟨MF this,this⟩
   rw[← bN]at g1;have dO:∀x∈NM,x∈AB.map (·.1):=λx hx=>by rw[← bN];exact hx
   walk_at "n"
   obtain⟨S2,b0⟩:∃S2:GS,S2=S1.bar an:=⟨_,rfl⟩;have T1:Tree X1 d ad ak {S2 with AB:=AB} ST:=by rw[b0];exact T1
   have aM:S2.bs=[an,I]:=by rw[b0,← eb]
   have c5:S2.AC=[]:=by rw[b0];exact ef
   have cz:H S2.ar=none:=by rw[b0];exact ea
   have c3:H S2.af.1=none:=by rw[b0];exact cy
   have db:∀r:List (Str×List Str),I∈({S2 with AB:=r}:GS).bs:=λr=>by show I∈S2.bs;rw[aM];simp
   have eR:∀r:List (Str×List Str),an∈({S2 with AB:=r}:GS).bs:=λr=>by show an∈S2.bs;rw[aM];simp
   refine join (λσ' Y=>∃o6 j AB,σ'=[some (.ref ad),some (.ref d),some (.ref I),o3,o4,some (.ref an),o6,none,none]/\Tree Y d ad ak {S2 with AB:=AB} ST/\Y I=some (.lst ((ST.take j).map V.str))/\Y an=some (.lst (NM.map V.str))/\CA ST j AB/\15<=j/\j<=26/\AB.length<=3/\AF ad H Y/\∀x∈NM,x∈ST/\x∉ST.take j) ?_ λrest=>?_
   .rintro σ Y ⟨o6,j,AB,rfl,TY,a7,ce,RO,ac,ae,bV,kY,ca⟩
    try dsimp only
    refine Cs ⟨zl 1,λl1 ag=>?_⟩;generalize z:upd Y l1 _=Y1;obtain⟨s1,aN⟩:=B8 ag z;refine Ae rfl (Ao d ad rfl ((TY.same s1).CQ.dr) λbZ Y2 a0 aA=>(Bp rfl rfl (by show(0:Int)<3;decide) (Kh l1 _ (.str "number") rfl rfl ?_ (by omega) (by omega) λkl bA=>?_)))
    .refine a0 _ _ aN ?_;obtain⟨a4,h⟩:=TY.CQ.dr.dr;exact(Ah h ag).symm
    refine Am (show ∃c:Nat,bZ%3=c/\c<3 from Kc bZ 3 (by decide)) λc ec lc=>?_;have e1:List.replicate (bZ%3).toNat (V.str "number")=(List.replicate c ("number":Str)).map V.str:=by rw[ec,List.map_replicate];rfl
    rw[e1];generalize z:upd Y2 kl _=Y3;obtain⟨s3,g3⟩:=B8 bA z;have T3:=((TY.same s1).keep a0 aA).same s3;have dS:AF ad H Y3:=(DY (kY.trans s1) a0).trans s3;have bi:=s3 _ _ (a0 _ _ (s1 _ _ a7) a3.1);have bn:=s3 _ _ (a0 _ _ (s1 _ _ ce) a6.1);have bd:kl≠ad/\kl≠I/\kl≠an:=by
     obtain⟨a4,h⟩:=aA;exact Bc ((Ah h bA).symm) ((Ah (a0 _ _ (s1 _ _ a7) a3.1) bA).symm) ((Ah (a0 _ _ (s1 _ _ ce) a6.1) bA).symm)
    walk_at "n"
    refine Jg (id T3) λkvs kr kf O=>?_;refine Ae rfl (Ae rfl (Ao d _ rfl (by rw[← O.vk];exact AK.k (k:=Sum.inr "stock") O.hd) (Ae rfl (Ao kl _ rfl (.inl (AW.of g3)) (Ae rfl (Ao ak _ rfl (AW.of O.hk) λpl aH=>?_))))));have b6:Ec (ST.map V.str) none (some (((List.replicate c ("number":Str)).map V.str).length:Nat))=(ST.take c).map V.str:=by rw[JB,MA];exact Am4 ST c
    rw[b6];generalize z:upd Y3 pl _=Y4;obtain⟨s4,g4⟩:=B8 aH z;refine⟨zl 3,λtl aP=>?_⟩;generalize z:upd Y4 tl _=Y5;obtain⟨s5,g5⟩:=B8 aP z;have a8:=(O.same s4).same s5;have aQ:pl≠ad/\pl≠I/\pl≠an:=by
     obtain⟨a4,h⟩:=O.dr;exact Bc ((Ah h aH).symm) ((Ah bi aH).symm) ((Ah bn aH).symm)
    have d2:kf=[]:=by
     have:=O.tf.len;rw[show({S2 with AB:=AB}:GS).AC=[] from c5]at this;exact List.length_eq_zero_iff.mp this
    refine Ae rfl (Ao d _ rfl (by rw[← a8.vf];exact AK.k (k:=Sum.inr "functions") a8.hd) (Ao S2.af.1 _ rfl (CW.k (k:=Sum.inr "main") a8.hf (by rw[d2];show 0<sizeLine;omega)) ?_))
    have T6:=a8.funP (n:="main") (v1:=.ref kl) (v3:=.ref pl) (fh:=⟨List.replicate c "number","number",ST.take c⟩) g5 (Cv kl rfl bd.1 (s5 _ _ (s4 _ _ g3)) (by rw[MA];omega)) (Cv pl rfl aQ.1 (s5 _ _ g4) (by rw[LG];omega)) (λb hb=>by
     have hb:b∈[an,I]:=by rw[← aM];exact hb
     simp only[JC,JI,KG]at hb
     rcases hb with rfl|rfl
     .exact⟨λz=>bd.2.2 (V.ref.inj z),λz=>aQ.2.2 (V.ref.inj z)⟩
     .exact⟨λz=>bd.2.1 (V.ref.inj z),λz=>aQ.2.1 (V.ref.inj z)⟩)
    have dt:upd Y5 S2.af.1 (.dK (L2.putK kf (Sum.inr "main") (.ref tl))) I=some (.lst ((ST.take j).map V.str)):=by rw[Ak (Bb (s5 _ _ (s4 _ _ bi)) a8.hf (by simp))];exact s5 _ _ (s4 _ _ bi)
    have dv:upd Y5 S2.af.1 (.dK (L2.putK kf (Sum.inr "main") (.ref tl))) an=some (.lst (NM.map V.str)):=by rw[Ak (Bb (s5 _ _ (s4 _ _ bn)) a8.hf (by simp))];exact s5 _ _ (s4 _ _ bn)
    have dU:AF ad H (upd Y5 S2.af.1 (.dK (L2.putK kf (Sum.inr "main") (.ref tl)))):=λq u e n=>by rw[Ak (Ah e c3)];exact s5 _ _ (s4 _ _ (dS q u e n))
    generalize upd Y5 S2.af.1 (.dK (L2.putK kf (Sum.inr "main") (.ref tl)))=Y6 at *;have em:Fj ({S2 with AB:=AB}:GS).AC "main" (⟨List.replicate c "number","number",ST.take c⟩:FH)=[(("main":Str),(⟨List.replicate c "number","number",ST.take c⟩:FH))]:=by rw[show({S2 with AB:=AB}:GS).AC=[] from c5];rfl
    rw[em]at T6;have ck:("main":Str)∉ST:=λz=>(gw.2.2.1 _ z).2 (by decide);have cq:DJ ST j NM {S2 with AB:=AB,AC:=[(("main":Str),(⟨List.replicate c "number","number",ST.take c⟩:FH))]}:=by
     refine⟨by simp,⟨ay.1,λx hx=>ca x hx⟩,λf hf=>?_,λf h hf=>?_,(B0 (JM.mpr rfl) rfl λk hk=>List.eq_of_mem_replicate hk),by show 1<=5;decide⟩
     .have hf:f="main":=by simpa using hf
      rw[hf];exact Bc (.inl rfl) (λz=>ck (MZ z)) λz=>ck (ca _ z).1
     .have hf:h=⟨List.replicate c "number","number",ST.take c⟩:=by
       have:=JM.mp hf;exact LB Prod.snd this
      rw[hf];refine El (λk hk=>.inl (List.eq_of_mem_replicate hk)) (.inl rfl) ?_ ?_ (gw.2.1.sublist (NK _ _)) λx hx=>MZ hx
      .show (ST.take c).length=(List.replicate c _).length
       rw[LG,MA];omega
      .show (List.replicate c _).length<=4
       rw[MA];omega
    refine Ae rfl (Ao d ad rfl T6.CQ.dr λcJ Y7 bI cx=>(Bp rfl rfl (by show(0:Int)<3;decide) (Cv (cJ%3) rfl (by omega) (by omega) (Gk (n:=(cJ%3).toNat) (λi σ X=>∃j NM AC p3 p4 p7,σ=[some (.ref ad),some (.ref d),some (.ref I),p3,p4,some (.ref an),o6,p7,none]/\Tree X d ad ak {S2 with AB:=AB,AC:=AC} ST/\X I=some (.lst ((ST.take j).map V.str))/\X an=some (.lst (NM.map V.str))/\DJ ST j NM {S2 with AB:=AB,AC:=AC}/\15<=j+i/\j<=26/\AC.length<=1+i/\AF ad H X)
     (Hu j NM _ _ _ _ rfl (T6.keep bI cx) (bI _ _ dt a3.1) (bI _ _ dv a6.1) cq (C6 (by omega) ae (by show 1<=1+0;omega) (DY dU bI))) ?_ ?_))))
    .rintro i σ X hi ⟨j,NM,AC,p3,p4,p7,rfl,TX,cd,cf,FO,ac,ae,aG,kX⟩;refine Ae rfl (Ao d ad rfl TX.CQ.dr λcK X1 a5 aK=>(Bp rfl rfl (by show(0:Int)<5;decide) (Cv (cK%5) rfl (by omega) (by omega) λD hD=>?_)));have aV:=TX.keep a5 aK;have aJ:=a5 _ _ cd a3.1;have aj:=a5 _ _ cf a6.1;have ai:=DY kX a5;have nD:D≠ad/\D≠I/\D≠an:=by
      obtain⟨a4,h⟩:=aK;exact Bc ((Ah h hD).symm) ((Ah aJ hD).symm) ((Ah aj hD).symm)
     have sD:=(AA.refl X1).upd (o:=.lst []) hD;refine Fv (n:=(cK%5).toNat) (λi ys σ G=>(∃o0,σ=[o0,some (.ref d)])/\G D=some (.lst ys)/\∃ks,ys=ks.map V.str/\ks.length=i/\(∀k∈ks,D7 {S2 with AB:=AB,AC:=AC} k)/\AF ad X1 G/\BM G ad) (by omega)
      (Bc ⟨_,rfl⟩ Aj (Ou [] rfl rfl (λk hk=>by cases hk) (AA.AM sD) (BM.up aV.CQ.dr.dr sD))) (λi ys σ G hi ⟨_,hd,ks,e,l,_⟩=>⟨hd,by rw[e,JB,l];exact JG _⟩) ?_ ?_
     .rintro i2 ys σ G dJ ⟨⟨o0,rfl⟩,aC,ks,rfl,cH,bU,kG,dG⟩;refine Ae rfl (Ek d ad _ rfl ((aV.keep kG dG).CQ) (by show AB.length<=10;omega) λkd CK G2 a0 aA=>C6 (a0 _ _ aC nD.1) ⟨_,rfl⟩ Aj (Ou (ks++[kd]) (by simp) (by simp[cH]) (λk hk=>?_) (λq u e n=>?_) ?_))
      .rcases JV.mp hk with h|h
       .exact bU k h
       .rw [JM.mp h];exact CK
      .rw [Ak (Ah e hD)];exact a0 _ _ (kG q u e n) n
      .obtain⟨a4,h⟩:=aA;exact⟨a4,by rw[Ak nD.1.symm];exact h⟩
     .rintro ys σ G ⟨_,aC,ks,rfl,cH,bU,kG,dG⟩;have TG:=aV.keep kG dG;have cc:=kG _ _ aJ a3.1;have bp:=kG _ _ aj a6.1;have cG:=DY ai kG;have dz:ks.length<=4:=by omega
      dsimp only[Dw]
      walk_at "n"
      have e0:I∈({S2 with AB:=AB,AC:=AC}:GS).bs:=by show I∈S2.bs;rw[aM];simp
      have e8:an∈({S2 with AB:=AB,AC:=AC}:GS).bs:=by show an∈S2.bs;rw[aM];simp
      refine join (λσ' Y=>∃(nm:Str) (j':Nat) (a9:List Str),σ'=[some (.ref ad),some (.ref d),some (.ref I),some (.int (0+i)),some (.str nm),some (.ref an),o6,some (.ref D),none]/\Tree Y d ad ak {S2 with AB:=AB,AC:=AC} ST/\Y I=some (.lst ((ST.take j').map V.str))/\Y an=some (.lst (a9.map V.str))/\Y D=some (.lst (ks.map V.str))/\(j'<=j/\j<=j'+1)/\(a9.Nodup/\∀x∈a9,x∈NM)/\(nm∈ST/\nm∉AC.map (·.1)/\nm∉ST.take j'/\nm∉a9)/\AF ad H Y) ?_ λrest=>?_
      .rintro σ Y ⟨nm,j',a9,rfl,TY,du,dw,bQ,dL,dE,bE,kY⟩;have eF:True:=trivial;refine Ae rfl (Ae rfl (Ek d ad _ rfl TY.CQ (by show AB.length<=10;omega) λkd CK Y1 a5 aK=>Jg (TY.keep a5 aK) λkvs kr kf O=>?_));have c9:=a5 _ _ bQ nD.1;refine Ae rfl (Ao d _ rfl (by rw[← O.vk];exact AK.k (k:=Sum.inr "stock") O.hd) (Ae rfl (Ao D _ rfl (.inl (AW.of c9)) (Au rfl rfl (Ae rfl (Ao ak _ rfl (AW.of O.hk) λpl aH=>?_))))));have c1:(26:Int)-((ks.map V.str).length:Nat)=((26-ks.length:Nat):Int):=by rw[JB];omega
       have b6:Ec (ST.map V.str) (some (26-((ks.map V.str).length:Nat))) none=(ST.drop (26-ks.length)).map V.str:=by rw[c1];exact Am5 ST _ (by omega)
       rw[b6];generalize z:upd Y1 pl _=Y4;obtain⟨s4,g4⟩:=B8 aH z;refine⟨zl 3,λtl aP=>?_⟩;generalize z:upd Y4 tl _=Y5;obtain⟨s5,g5⟩:=B8 aP z;have a8:=(O.same s4).same s5;have aJ:=a5 _ _ du a3.1;have aj:=a5 _ _ dw a6.1;have aQ:pl≠ad/\pl≠I/\pl≠an:=by
        obtain⟨a4,h⟩:=O.dr;exact Bc ((Ah h aH).symm) ((Ah aJ aH).symm) ((Ah aj aH).symm)
       have eO:kf.length<=10:=by rw[O.tf.len];show AC.length<=10;omega
       refine Ae rfl (Ao d _ rfl (by rw[← a8.vf];exact AK.k (k:=Sum.inr "functions") a8.hd) (Ae rfl (Ao S2.af.1 _ rfl (CW.k (k:=Sum.inr nm) a8.hf (by omega)) ?_)))
       have T6:=a8.funP (n:=nm) (v1:=.ref D) (v3:=.ref pl) (fh:=⟨ks,kd,ST.drop (26-ks.length)⟩) g5 (Cv D rfl nD.1 (s5 _ _ (s4 _ _ c9)) (by show ks.length<=100;omega)) (Cv pl rfl aQ.1 (s5 _ _ g4) (by show(ST.drop _).length<=100;rw[MN];omega)) (λb hb=>by
        have hb:b∈[an,I]:=by rw[← aM];exact hb
        simp only[JC,JI,KG]at hb
        rcases hb with rfl|rfl
        .exact⟨λz=>nD.2.2 (V.ref.inj z),λz=>aQ.2.2 (V.ref.inj z)⟩
        .exact⟨λz=>nD.2.1 (V.ref.inj z),λz=>aQ.2.1 (V.ref.inj z)⟩)
       refine Hu j' a9 (Fj AC nm ⟨ks,kd,ST.drop (26-ks.length)⟩) _ _ _ rfl T6 (by rw[Ak (Bb (s5 _ _ (s4 _ _ aJ)) a8.hf (by simp))];exact s5 _ _ (s4 _ _ aJ)) (by rw[Ak (Bb (s5 _ _ (s4 _ _ aj)) a8.hf (by simp))];exact s5 _ _ (s4 _ _ aj)) (FO.add gw dL.1 dE bE (El bU CK (by show(ST.drop _).length=ks.length;rw[MN];omega) dz (gw.2.1.sublist (List.drop_sublist _ _)) λx hx=>MF hx) (by show AC.length<=4;omega)) (C6 (by omega) (by omega) ?_ λq u e n=>by rw[Ak (Ah e c3)];exact s5 _ _ (s4 _ _ (a5 _ _ (kY q u e n) n)));have:=Ib AC nm (⟨ks,kd,ST.drop (26-ks.length)⟩:FH);omega
      .refine Ae rfl (B0 rfl (zl 2) λl hl=>?_);generalize z:upd G l _=G1;obtain⟨s1,aN⟩:=B8 hl z;have am:=TG.same s1;have nl:l≠ad:=by
        obtain⟨a4,h⟩:=dG;exact(Ah h hl).symm
       have cm:∀Y,AF ad G1 Y->BM Y ad->Y l=some (.lst [.ref I,.ref an])/\∃x,(∃j',((ST.take j).map V.str)[((ST.take j).map V.str).length-1]?=some (.str x)/\((ST.take j).map V.str).dropLast=(ST.take j').map V.str/\ST[j']?=some x/\j=j'+1)/\Y I=some (.lst ((ST.take j).map V.str)):=λY kb dr=>by
        obtain⟨j',rfl⟩:∃j',j=j'+1:=⟨j-1,by omega⟩;refine Bk (Lv (ST:=ST) (j:=j') (by omega)) λx hx aI aB=>⟨kb _ _ aN nl,(Ar x (Cv j' aI aB hx rfl) (kb _ _ (s1 _ _ cc) a3.1))⟩
       have cZ:∀Y,AF ad G1 Y->BM Y ad->∀x j',((ST.take j).map V.str).dropLast=(ST.take j').map V.str->ST[j']?=some x->j=j'+1->∃(nm:Str) (j':Nat) (a9:List Str),[some (.ref ad),some (.ref d),some (.ref I),some (.int (0+i)),some (.str x),some (.ref an),o6,some (.ref D),none]=[some (.ref ad),some (.ref d),some (.ref I),some (.int (0+i)),some (.str nm),some (.ref an),o6,some (.ref D),none]/\Tree (upd Y I (.lst ((ST.take j).map V.str).dropLast)) d ad ak {S2 with AB:=AB,AC:=AC} ST/\upd Y I (.lst ((ST.take j).map V.str).dropLast) I=some (.lst ((ST.take j').map V.str))/\upd Y I (.lst ((ST.take j).map V.str).dropLast) an=some (.lst (a9.map V.str))/\upd Y I (.lst ((ST.take j).map V.str).dropLast) D=some (.lst (ks.map V.str))/\(j'<=j/\j<=j'+1)/\(a9.Nodup/\∀x∈a9,x∈NM)/\(nm∈ST/\nm∉AC.map (·.1)/\nm∉ST.take j'/\nm∉a9)/\AF ad H (upd Y I (.lst ((ST.take j).map V.str).dropLast)):=λY kb dr x j' aB hx ej=>by
        have bW:x∈ST.take j:=by rw[ej,B5 hx];simp
        refine Kh x j' NM rfl ((am.keep kb dr).wr e0 a3.1 a3.2 (kb _ _ (s1 _ _ cc) a3.1)) (by rw[Aj,aB]) (by rw[Ak a6.2.2];exact kb _ _ (s1 _ _ bp) a6.1) (by rw[Ak nD.2.1];exact kb _ _ (s1 _ _ aC) nD.1) (C6 (by omega) ⟨FO.nm.1,λx h=>h⟩ (C6 (MZ bW) (λz=>(FO.ks x z).2.1 bW) (λz=>Uc gw.2.1 (Ph hx) z) λz=>(FO.nm.2 x z).2 bW) λq u e n=>by rw[Ak (Ah e b7)];exact kb _ _ (s1 _ _ (cG q u e n)) n)
       refine Ae rfl (Ao an _ rfl (.inl (AW.of (s1 _ _ bp))) (Au rfl rfl (Ae rfl (Bw (λc=>?_) (λc=>?_)))))
       .refine Ae rfl (Ao d ad rfl am.CQ.dr λdc G2 a0 aA=>(Kx rfl rfl (by show(0:Int)<4;decide) rfl (.inr (Ae rfl ?_))));refine Fg (cm G2 a0 aA) λbB z1=>?_;refine Am z1 λx z2 a7=>?_;obtain⟨j',aI,aB,hx,ej⟩:=z2;generalize (decide ((λi j=>V.int (i%j)) dc 4=V.int 0))=cb
        cases cb with
        | false=>exact Ch l _ 0 (.ref I) rfl rfl (AW.of bB) rfl (.inl ⟨rfl,_,AW.of a7⟩) (Et I _ (.str x) rfl rfl a7 aI (rest _ _ (cZ G2 a0 aA x j' aB hx ej)))
        | true=>
         obtain⟨aU,y,rfl⟩:∃aU y,NM=aU++[y]:=by
          rcases List.eq_nil_or_concat NM with rfl|⟨zs,y,rfl⟩
          .cases c
          .exact Ki zs y (by simp)
         have bj:=a0 _ _ (s1 _ _ bp) a6.1;have bX:y∈aU++[y]:=by simp
         have cU:=LI.mp FO.nm.1;have eN:((aU++[y]).map V.str).dropLast=aU.map V.str:=by simp
         refine Ch l _ 1 (.ref an) rfl rfl (AW.of bB) rfl (.inl ⟨rfl,_,AW.of bj⟩) (Et an _ (.str y) rfl rfl bj (by simp) (rest _ _ (Kh y j aU rfl ((am.keep a0 aA).wr e8 a6.1 a6.2.1 bj) (by rw[Ak a6.2.2.symm];exact a7) (by rw[Aj,eN]) (by rw[Ak nD.2.2];exact a0 _ _ (s1 _ _ aC) nD.1) (C6 (by omega) ⟨cU.1,λx h=>LQ _ h⟩ (C6 ((FO.nm.2 y bX).1) (λz=>(FO.ks y z).2.2 bX) ((FO.nm.2 y bX).2) λz=>cU.2.2 y z y (by simp) rfl) λq u e n=>by rw[Ak (Ah e d6)];exact a0 _ _ (s1 _ _ (cG q u e n)) n))))
       .refine Fg (cm G1 (λ_ _ e _=>e) am.CQ.dr.dr) λbB z1=>?_;refine Am z1 λx z2 a7=>?_;obtain⟨j',aI,aB,hx,ej⟩:=z2;exact .inr (Ar false rfl (Ch l _ _ (.ref I) rfl rfl (AW.of bB) rfl (.inl ⟨rfl,_,AW.of a7⟩) (Et I _ (.str x) rfl rfl a7 aI (rest _ _ (cZ G1 (λ_ _ e _=>e) am.CQ.dr.dr x j' aB hx ej)))))
    .rintro σ X ⟨j3,cr,AC,p3,p4,p7,rfl,TX,cd,cf,FO,ac,ae,aG,kX⟩;refine Jg (id TX) λkvs kr kf O=>?_
     try dsimp only
     refine Ck S2.ar kr O.hr (Ae rfl (Ao d _ rfl (by rw[← O.vr];exact AK.k (k:=Sum.inr "records") O.hd) (Ao S2.ar kr rfl O.hr λo D hD=>?_)));have cO:S2.ar≠D:=λz=>by rw[← z,Aj]at hD;cases hD
     have fD:X D=none:=by rw[Ak cO.symm]at hD;exact hD
     refine Nn (λi ys σ G=>(∃o0,σ=[o0,some (.ref d)])/\G D=some (.lst ys)/\AA (upd X S2.ar (.DZ o (.dK kr))) G/\AL G ys ((AB.take i).map Gp)/\ys.length<=i) (by rw[O.tr.len];show AB.length<=_;omega) hD (Du ⟨_,rfl⟩ Aj ((AA.refl _).upd hD) rfl (JG _)) (λi ys σ G hi ⟨_,hd,sm,_,e⟩=>(Bc (sm _ _ Aj) hd e)) ?_ ?_
     .rintro i ky x ys σ G hx ⟨⟨o0,rfl⟩,bS,sm,th,le⟩;refine Co (O.tr.at hx) λnm fl cE z1=>?_;subst z1;have bK:=JU cE;refine A0 (O.tr.has (n:=nm) (JT.mpr (Ae bK rfl))) λv d8 e1 e2 z1=>?_;refine Q1 z1 λla z2 n1 ga ln=>?_;subst z2;obtain rfl:fl=d8:=by
       have a1:=Hf (key:=Prod.fst) RO.nd bK;have a2:=Hf (key:=Prod.fst) RO.nd e2;rw[a1]at a2;exact LB Prod.snd (KR a2)
      have aC:G d=some (.dK kvs):=sm _ _ (by rw[Ak O.nr.symm];exact O.hd);have dM:G la=some (.lst (fl.map V.str)):=sm _ _ (by rw[Ak (Bb ga O.hr (by simp))];exact ga);refine B0 rfl (zl 2) λl1 ag=>?_;generalize z:upd G l1 _=G1;obtain⟨s1,aN⟩:=B8 ag z;refine Ae rfl (Ao d _ rfl (by rw[← O.vr];exact AK.k (k:=Sum.inr "records") (s1 _ _ aC)) (Ae rfl (Ao S2.ar _ rfl (.inl (Ao kr (Sum.inr nm) (.inr ⟨o,s1 _ _ (sm _ _ Aj)⟩) rfl e1.symm)) (K1 aN (s1 _ _ dM) (by rw[JB];show 2+_<=1000;omega) λl2 G2 f2 s2 g2=>(Ck l2 _ rfl (.inl ⟨AW.of g2,λtl aP=>?_⟩))))));have s3:=(AA.refl G2).upd (o:=.tup ([V.str "record",.str nm]++fl.map V.str)) aP;have sx:=s1.trans (s2.trans s3);have cC:=sx _ _ bS;refine El cC ⟨_,rfl⟩ Aj (Kw (sm.trans sx) hD) ?_ (by rw[JH,KJ];omega);rw[B5 cE,KI];have tt:AS (upd G2 tl (.tup ([V.str "record",.str nm]++fl.map V.str))) (.ref tl) (Gp (nm,fl)):=(Au rfl Aj (Au rfl rfl (Au rfl rfl (Nh fl))));exact((th.mono sx.AE).append (L8 tt)).mono (E5 cC)
     .rintro ys σ G ⟨_,bS,sm,th,le⟩;refine Ar o (sm _ _ Aj) ?_;rw[O.tr.len,show({S2 with AB:=AB,AC:=AC}:GS).AB=AB from rfl,LD]at th;generalize z:upd G S2.ar _=H1;have s1:AA X H1:=λq u e=>by
       rw[← z];by_cases c:q=S2.ar
       .rw [c,Aj];rw[c,O.hr]at e;exact e
       .rw [Ak c];exact sm _ _ (by rw[Ak c];exact e)
      have gD:H1 D=some (.lst ys):=by rw[← z,Ak cO.symm];exact bS
      have cW:AL H1 ys (AB.map Gp):=th.mono λb xs e=>by
       rw[← z,Ak];exact e;intro z2;have:=sm _ _ (Aj (H:=X) (a:=S2.ar) (o:=.DZ o (.dK kr)));rw[← z2,e]at this;cases this
      have bx:=TX.bar fD s1 (by rw[gD];simp);have ci:AF ad H H1:=kX.trans s1;have nD:D≠ad/\D≠ak:=by
       obtain⟨a4,h⟩:=O.dr;exact⟨(Ah h fD).symm,(Ah O.hk fD).symm⟩
      have d3:H D=none:=by
       cases h:H D with
       | none=>rfl
       | some u=>have:=kX _ _ h nD.1;rw[fD]at this;cases this
      have eQ:ys.length<=10:=by rw[cW.len,JB];omega
      dsimp only[Dw]
      walk_at "n"
      refine Jg (id bx) λkvs kr kf O=>?_;refine Cs (Ae rfl (Ao d _ rfl (by rw[← O.vf];exact AK.k (k:=Sum.inr "functions") O.hd) (Ao S2.af.1 kf rfl (.of O.hf) λnl ah=>?_)));rw[O.tf.keys];generalize z:upd H1 nl _=H2;obtain⟨s2,g2⟩:=B8 ah z;have T2:=bx.bar ah s2 (by rw[g2];simp);have aE:nl≠ad/\nl≠ak/\nl≠D:=by
       obtain⟨a4,h⟩:=O.dr;exact Bc ((Ah h ah).symm) ((Ah O.hk ah).symm) ((Ah gD ah).symm)
      have cj:AF ad H H2:=ci.trans s2;have c7:=s2 _ _ gD;have bg:=cW.mono s2.AE;have d9:H nl=none:=by
       cases h:H nl with
       | none=>rfl
       | some u=>have:=ci _ _ h aE.1;rw[ah]at this;cases this
      obtain⟨S4,aZ⟩:∃S4:GS,S4=(({S2 with AB:=AB,AC:=AC}:GS).bar D).bar nl:=⟨_,rfl⟩;have T2:Tree H2 d ad ak S4 ST:=by rw[aZ];exact T2
      have bM:DJ ST j3 cr S4:=by rw[aZ];exact⟨FO.nd,FO.nm,FO.ks,FO.ok,FO.mn,FO.ln⟩
      have bw:CA ST j S4.AB:=by rw[aZ];exact RO
      have c6:S4.AB=AB:=by rw[aZ]
      have g2:H2 nl=some (.lst ((S4.AC.map (·.1)).map V.str)):=by rw[aZ];exact g2
      have b4:D∈S4.bs/\nl∈S4.bs:=by rw[aZ];exact⟨JE _ JJ,JJ⟩
      rw[← c6]at bg;have l4:S4.AB.length<=5:=by rw[c6];omega
      have cs:=treeOk bw bM gw l4
      walk_at "n"
      refine join (λσ' Y=>∃ord:List Str,σ'=[some (.ref ad),some (.ref d),some (.ref I),p3,p4,some (.ref nl),o6,p7,some (.ref D)]/\(ord=S4.AC.map (·.1)\/ord=(S4.AC.map (·.1)).reverse)/\Tree Y d ad ak S4 ST/\Y nl=some (.lst (ord.map V.str))/\Y D=some (.lst ys)/\AL Y ys (S4.AB.map Gp)/\AF ad H Y) ?_ λrest=>?_
      .rintro σ Y ⟨ord,rfl,bt,TY,cg,bQ,dm,kY⟩;have eX:ord.length<=5:=by
        have:=bM.ln
        rcases bt with h|h
        .rw [h,JB];exact this
        .rw [h,List.length_reverse,JB];exact this
       try dsimp only
       refine Ae rfl (B4 nl rfl ⟨_,AW.of cg⟩ (Kj (xs:=ord.map V.str) (λi σ X=>∃q4 us fs,σ=[some (.ref ad),some (.ref d),some (.ref I),p3,q4,some (.ref nl),o6,p7,some (.ref D)]/\X nl=some (.lst (ord.map V.str))/\X D=some (.lst us)/\Tree X d ad ak S4 ST/\AF ad H X/\fs.map (·.nm)=ord.take i/\(∀f∈fs,FncOk S4 f)/\AL X us (S4.AB.map Gp++fs.map Fc))
        (Kh _ ys [] rfl cg bQ TY kY (Bc rfl (λf hf=>by cases hf) (by rw[NG,NB];exact dm))) (λi σ X hi ⟨_,_,_,_,h,_⟩=>AW.of h) ?_ ?_))
       .rintro i x0 σ X cF ⟨q4,us,fs,rfl,br,ax,TX,kX,aX,bT,b5⟩;rw[KH]at cF;refine Am (Option.map_eq_some_iff.mp cF) λnm bE z1=>?_;subst z1;have bK:nm∈S4.AC.map (·.1):=by
         have:=JU bE
         rcases bt with h|h
         .rw [h]at this;exact this
         .rw [h]at this;exact List.mem_reverse.mp this
        have da:us.length<=20:=by
         rw[b5.len,JH,JB,JB];have:=LB List.length aX;rw[JB,LG]at this;omega
        refine B0 rfl (.inl ⟨rfl,_,AW.of ax⟩) (Ae rfl (Ae rfl (Ae rfl (Ao d ad rfl TX.CQ.dr λba X1 a5 aK=>(Bp rfl rfl (by show(0:Int)<4;decide) (Am (show ∃c:Nat,ba%4=c/\c<4 from Kc ba 4 (by decide)) λc4 d0 eM=>Jg (TX.keep a5 aK) λkvs kr kf O=>?_))))));refine Ct d ad ak S4 ST kvs (Ff kr kf _ nm c4 (by show[V.ref d,V.str nm,V.int (ba%4)]=_;rw[d0]) O cs bK (by omega) λv t H' dy dW dV fh tv dI FT cv fr=>?_);refine Gz FT λts κ' kn' z1 dQ bY=>?_;subst z1;have dD:D≠d/\nl≠d:=⟨Bb (a5 _ _ ax nD.1) O.hd (by simp),Bb (a5 _ _ br aE.1) O.hd (by simp)⟩;have bP:=fr _ _ (a5 _ _ ax nD.1) dD.1 nD.1;have dN:=fr _ _ (a5 _ _ br aE.1) dD.2 aE.1;have T':Tree H' d ad ak S4 ST:=(Rh dy dW dV cv);have dn:EG X H':=λb xs e=>by
         have e1:=a5 _ _ e (by obtain⟨a4,h⟩:=TX.CQ.dr.dr;exact Bb e h (by simp));exact fr _ _ e1 (Bb e1 O.hd (by simp)) (by obtain⟨a4,h⟩:=aK;exact Bb e1 h (by simp))
        refine Et D us v rfl rfl bP (by omega) (Kh _ (us++[v]) (fs++[⟨nm,fh,ts⟩]) rfl (by rw[Ak aE.2.2];exact dN) Aj (T'.wr b4.1 nD.1 nD.2 bP) (λq u e n=>?_) (Bc ?_ (λf hf=>?_) ?_))
        .rw [Ak (Ah e d3)];exact fr _ _ (a5 _ _ (kX q u e n) n) (Ah e hd) n
        .rw [KI,aX,B5 bE];rfl
        .rcases JV.mp hf with h|h
         .exact bT f h
         .rw [JM.mp h];exact C6 dI (Ck κ' kn' dQ bY.2.2) bY.1 bY.2.1
        .rw [KI,← List.append_assoc];exact((b5.mono dn).append (L8 tv)).mono (E5 bP)
       .rintro σ X ⟨q4,us,fs,rfl,br,ax,TX,kX,aX,bT,b5⟩;rw[JB,LD]at aX;have da:us.length<=20:=by
         rw[b5.len,JH,JB,JB];have:=LB List.length aX;rw[JB]at this;omega
        try dsimp only
        refine Go ⟨zl 1,λq1 dP=>?_⟩;generalize z:upd X q1 _=X1;obtain⟨s1,aN⟩:=B8 dP z;refine Ae rfl (K1 aN (s1 _ _ ax) (by show 1+_<=1000;omega) λq2 X2 f2 s2 dA=>(Ck q2 _ rfl (.inl ⟨AW.of dA,λtl aP=>?_⟩)));have s3:=(AA.refl X2).upd (o:=.tup ([V.str "program"]++us)) aP;have sx:=s1.trans (s2.trans s3);exact k _ (.tup (.wd "program"::(S4.AB.map Gp++fs.map Fc))) _ (Au rfl Aj (Au rfl rfl (b5.mono sx.AE))) (treeG bw bM gw l4 bT (by rw[aX];exact bt)) (kX.trans sx) (BM.up TX.CQ.dr.dr sx)
      .refine Ae rfl (Ao d ad rfl T2.CQ.dr λeT H3 aD bz=>(Kx rfl rfl (by show(0:Int)<2;decide) rfl (Ae rfl (Bw (λc=>?_) (λc=>?_)))))
       .have bD:=aD _ _ g2 aE.1;have er:((S4.AC.map (·.1)).map V.str).reverse=(S4.AC.map (·.1)).reverse.map V.str:=by rw[List.map_reverse]
        refine B0 rfl (.inl ⟨rfl,_,AW.of bD⟩) (Cj nl _ rfl rfl bD (rest _ _ (Ab0 rfl (.inr rfl) ((T2.keep aD bz).wr b4.2 aE.1 aE.2.1 bD) (by rw[Aj,er]) (by rw[Ak aE.2.2.symm];exact aD _ _ c7 nD.1) ⟨(bg.mono (AF.AE aD T2.CQ.dr.dr)).mono (E5 bD),λq u e n=>by rw[Ak (Ah e d9)];exact aD _ _ (cj q u e n) n⟩)))
       .exact rest _ _ (Ab0 rfl (.inl rfl) (T2.keep aD bz) (aD _ _ g2 aE.1) (aD _ _ c7 nD.1) ⟨bg.mono (AF.AE aD T2.CQ.dr.dr),DY cj aD⟩)
   .have cY:∀Y,AF ad X1 Y->BM Y ad->∃o6 j AB,[some (.ref ad),some (.ref d),some (.ref I),o3,o4,some (.ref an),none,none,none]=[some (.ref ad),some (.ref d),some (.ref I),o3,o4,some (.ref an),o6,none,none]/\Tree Y d ad ak {S2 with AB:=AB} ST/\Y I=some (.lst ((ST.take j).map V.str))/\Y an=some (.lst (NM.map V.str))/\CA ST j AB/\15<=j/\j<=26/\AB.length<=3/\AF ad H Y/\∀x∈NM,x∈ST/\x∉ST.take j:=λY kb dr=>(Kh none j AB rfl (T1.keep kb dr) (kb _ _ aJ a3.1) (kb _ _ g1 a6.1) RO (Du (by omega) ae (by omega) (DY ai kb) λx hx=>⟨(ay.2 x hx).1,Uc gw.2.1 (ay.2 x hx).2⟩));refine Ae rfl (Cj an _ rfl (.inl (AW.of g1)) rfl (Ae rfl (Bw (λc=>?_) (λc=>Bw (λz=>by cases z) λ_=>rest _ _ (cY X1 (λ_ _ e _=>e) T1.CQ.dr.dr)))));refine Ae rfl (Ao d ad rfl T1.CQ.dr λeS X2 a0 aA=>(Kx rfl rfl (by show(0:Int)<2;decide) rfl (Ae rfl (Bw (λc2=>?_) (λc2=>rest _ _ (cY X2 a0 aA))))));have dY:NM.length=2:=by
     have:=V.int.inj (JL c);rw[JB]at this;omega
    refine Gi (two_of dY) λn0 n1 z1=>?_;subst z1;have T2:=T1.keep a0 aA;have bF:=DY ai a0;have bh:=a0 _ _ aJ a3.1;have g2:=a0 _ _ g1 a6.1;obtain⟨j,rfl⟩:∃j',j=j'+1:=⟨j-1,by omega⟩;refine Bk (Lv (ST:=ST) (j:=j) (by omega)) λx hx aI aB=>Cs (B0 rfl (.inl ⟨rfl,_,AW.of bh⟩) (Et I _ (.str x) rfl rfl bh aI ?_));rw[aB];have T3:=T2.wr (zs:=(ST.take j).map V.str) (db _) a3.1 a3.2 bh;have bO:upd X2 I (.lst ((ST.take j).map V.str)) I=some (.lst ((ST.take j).map V.str)):=Aj;have av:upd X2 I (.lst ((ST.take j).map V.str)) an=some (.lst ([n0,n1].map V.str)):=by rw[Ak a6.2.2];exact g2
    have dR:AF ad H (upd X2 I (.lst ((ST.take j).map V.str))):=λq u e n=>by rw[Ak (Ah e b7)];exact bF q u e n
    generalize upd X2 I (.lst ((ST.take j).map V.str))=X3 at *;refine⟨zl 1,λl1 ag=>?_⟩;generalize z:upd X3 l1 _=X4;obtain⟨s4,g4⟩:=B8 ag z;refine Jg (T3.same s4) λkvs kr kf O=>?_;refine A0 (O.tr.has (n:=n0) (dO n0 (by simp))) λlv fl hv aG z1=>?_;refine Q1 z1 λl0 z2 eU dB eP=>?_;subst z2;refine Ii (RO.ok n0 fl aG) λf1 f2 f3 f4 f5=>?_;have b9:∀{Y:Hp},AA X4 Y->AK Y d (.str "records") (some (.ref S2.ar)):=λs=>by rw[← O.vr];exact AK.k (k:=Sum.inr "records") (s _ _ O.hd)
    refine Ae rfl (Ao d _ rfl (b9 (AA.refl X4)) (Ae rfl (Bo an _ 0 (.str n0) rfl rfl (AW.of (s4 _ _ av)) rfl (Ao S2.ar _ rfl (by rw[← hv];exact AK.k (k:=Sum.inr n0) O.hr) (K1 g4 dB (by rw[JB];show 1+_<=1000;omega) λl2 X5 eG s5 g5=>?_)))))
    walk_at "n"
    refine Ae rfl (Ar 4 rfl (Ao l2 _ rfl (AW.of g5) λl3 bC=>?_));have b6:Ec ([V.str x]++fl.map V.str) none (some 4)=((x::fl).take 4).map V.str:=by
     exact Am4 (x::fl) 4
    rw[b6];generalize z:upd X5 l3 _=X6;obtain⟨s6,g6⟩:=B8 bC z;have sx:=s5.trans s6;have dZ:kr.length<=10:=by rw[O.tr.len];show AB.length<=10;omega
    refine Ae rfl (Ao d _ rfl (b9 sx) (Ae rfl (Bo an _ 1 (.str n1) rfl rfl (AW.of (sx _ _ (s4 _ _ av))) rfl (Ao S2.ar _ rfl (CW.k (k:=Sum.inr n1) (sx _ _ O.hr) (by omega)) ?_))));have nx:x∉fl:=λz=>Y8 gw.2.1 hx (f5 x z);have dh:(x::fl).Nodup:=ML.mpr ⟨nx,f4⟩;have cw:=O.same sx;have cL:l3≠ad/\∀b∈({S2 with AB:=AB}:GS).bs,l3≠b:=by
     obtain⟨a4,h⟩:=O.dr;refine⟨(Ah (s5 _ _ h) bC).symm,λb hb=>?_⟩;have hb:b∈[an,I]:=by rw[← aM];exact hb
     simp only[JC,JI,KG]at hb
     rcases hb with rfl|rfl
     .exact (Ah (s5 _ _ (s4 _ _ av)) bC).symm
     .exact (Ah (s5 _ _ (s4 _ _ bO)) bC).symm
    have T7:=cw.recP (n:=n1) g6 cL.1 cL.2 (by rw[LG];omega);have bf:=s4.trans sx;refine rest _ _ (Kh _ j (Fj AB n1 ((x::fl).take 4)) rfl T7 (by rw[Ak (Bb (s4 _ _ bO) O.hr (by simp))];exact bf _ _ bO) (by rw[Ak (Bb (s4 _ _ av) O.hr (by simp))];exact bf _ _ av) ((RO.mono (OZ j)).put (Du ?_ ?_ ?_ ?_ ?_)) (Du (by omega) (by omega) ?_ (λq u e n=>?_) λy hy=>?_))
    .exact Gy (OZ j) (ay.2 n1 (by simp)).2
    .simp
    .rw [LG];omega
    .exact dh.sublist (NK _ _)
    .intro y hy
     rcases JC.mp (MZ hy)with rfl|h
     .exact Ph hx
     .exact Gy (OZ j) (f5 y h)
    .have:=Ib AB n1 ((x::fl).take 4);omega
    .rw [Ak (Ah e cz)];exact bf _ _ (dR q u e n)
    .have:=ay.2 y hy;exact⟨this.1,Uc gw.2.1 (Gy (OZ j) this.2)⟩
end
end T
namespace T
open PySem PySem.Spec PyProof.Rows L2
structure TxtG (K:PySem.W.Frag)(mg:Str->Option Value)(t1 t2 t3 t4:Tok):Prop where
 g_LEAST:mg "LEAST"=some (.int (-32768) t1)
 g_MOST:mg "MOST"=some (.int 32767 t2)
 GI:mg "MOST_FIELDS"=some (.int 4 t3)
 FD:mg "MOST_VARIABLES"=some (.int 4 t4)
structure TxX (K:PySem.W.Frag)(mg:Str->Option Value)(cP cT cR cM cA cS:Addr):Prop where
 g_P:mg "PassError"=some (.ref cP)
 g_T:mg "NoText"=some (.ref cT)
 g_R:mg "NoTree"=some (.ref cR)
 g_M:mg "NoMiddle"=some (.ref cM)
 g_A:mg "NoMachine"=some (.ref cA)
 g_S:mg "NoPass"=some (.ref cS)
 ex:PySem.W.excIn K cR [.type "ValueError",.type "Exception",.type "BaseException",.type "object"] "ValueError.__new__"=true
 xc:GH K cR
 mt:PySem.W.exmOne K (.ref cR) (.ref cP)=some true
 i3:PySem.W.kitAny K (.ref cR) [.ref cA,.ref cM,.ref cS]=some false
 iT:PySem.W.kitOne K (.ref cR) (.ref cT)=some false
 iR:PySem.W.kitOne K (.ref cR) (.ref cR)=some true
 iV:PySem.W.kitOne K (.ref cR) (.type "ValueError")=some true
 nV:mg "ValueError"=none
def Pq:Sp:=λvs H Q _=>∃x:Str,vs=[.bl true,.str x]/\Q .BO H
def Eo (cR:Addr):Sp:=λvs H Q E=>∃(b:Bool) (x:Str),vs=[.bl b,.str x]/\(b=true->Q .BO H)/\(b=false->E (.ref cR) none H)
noncomputable def numT:Th->Bool
 | .num _=>true
 | _=>false
noncomputable def langT:Th->Bool
 | .num n=>decide (-32768<=n/\n<=32767)
 | _=>false
noncomputable def asc (x:Str):Bool:=x.cps.all (·<128)&&decide (x.length<=1000)
noncomputable def U2:Th->Bool
 | .wd x=>K2 x
 | _=>false
noncomputable def Aj4:Th->Bool
 | .wd x=>Da x
 | _=>false
noncomputable def An3:Th->Bool
 | .wd x=>asc x
 | _=>true
def Ae5:Sp:=λvs H Q _=>∃v th,vs=[v]/\AS H v th/\Q (.bl (numT th)) H
def Ym:Sp:=λvs H Q _=>∃v th,vs=[v]/\AS H v th/\Q (.bl (langT th)) H
def Ta:Sp:=λvs H Q _=>∃v th,vs=[v]/\AS H v th/\An3 th=true/\∀H',AA H H'->Q (.bl (U2 th)) H'
def O7:Sp:=λvs H Q _=>∃v th,vs=[v]/\AS H v th/\An3 th=true/\∀H',AA H H'->Q (.bl (Aj4 th)) H'
def Ww:Sp:=λvs H Q _=>∃x,vs=[.str x]/\Da x=true/\∀H',AA H H'->Q (.bl true) H'
theorem An2 (h:K2 x=true):asc x=true:=by
 unfold K2 at h;simp only[JW,LJ,LO]at h;obtain⟨⟨h1,O⟩,hs⟩:=h;unfold asc;rw[JW,← Array.all_toList,LO,LJ];refine⟨λc I=>?_,by omega⟩;have:=hs c I;unfold sgn at this;simp only[JW,LJ]at this ⊢;omega
theorem Wk (h:Da x=true):asc x=true:=by
 unfold Da at h;rw[JW]at h;exact An2 h.1
theorem Wv:∀vs H Q E,Ww vs H Q E->O7 vs H Q E:=λvs H Q E ⟨x,e,hn,k⟩=>(Cj (.str x) (.wd x) e rfl (Wk hn) λH' s=>by
 have:=k H' s;rw[← hn]at this
 exact this)
theorem Xz (x:Str):GZ (V.str x) [V.str "yes",V.str "no"]=(decide (x="yes")||decide (x="no")):=by
 rw[show[V.str "yes",V.str "no"]=(["yes","no"]:List Str).map V.str from rfl,Gx];rw[MU];simp
theorem sgn_eq (c:Nat):(!decide (([c]:List Nat)<[97])&&!decide (([122]:List Nat)<[c]))=sgn c:=by
 have h1:(([c]:List Nat)<[97])↔c<97:=by
  constructor
  .intro h
   cases h with
   | cons h=>cases h
   | rel h=>exact h
  .exact λh=>.rel h
 have h2:(([122]:List Nat)<[c])↔122<c:=by
  constructor
  .intro h
   cases h with
   | cons h=>cases h
   | rel h=>exact h
  .exact λh=>.rel h
 unfold sgn;by_cases a:c<97<;>by_cases b:122<c<;>simp[h1,h2,a,b]<;>omega
theorem cd_a:("a":Str).cps.toList=[97]:=by decide +kernel
theorem cd_z:("z":Str).cps.toList=[122]:=by decide +kernel
noncomputable def headT:Th->Str->Bool
 | .tup (.wd y::_),x=>decide (y=x)
 | _,_=>false
def Te:Sp:=λvs H Q _=>∃v y r x,vs=[v,.str x]/\AS H v (.tup (.wd y::r))/\Q (.bl (decide (y=x))) H
theorem Je (x y:Str):decide (V.str x=V.str y)=decide (x=y):=by
 rw[MU,LJ,LJ];exact⟨V.str.inj,LB V.str⟩
section
variable {P:Program}{w:World}{K:PySem.W.Frag}{mg:Str->Option Value}{base:Heap}{t1 t2 t3 t4:Tok}{cP cT cR cM cA cS:Addr}
theorem Tj:AD ["thing"] ["thing"] (Aq M6):=FS
theorem T5 (F:BE K "is_number" "is_number" M6 f fd)(T:BH K mg):AI P w K mg base BV 1 f fd ["thing"] Ae5:=by
 refine F.CZ Tj λcdv A outer s H vs Q E hr h=>?_
 .refine A0 h λv th I hi k=>?_;subst I;refine Ae (Al (Aw (Dl (Bl B7 rfl T.AH Cp (AJ (qv 0) (Dq (v:=.ty "int") rfl T.II boot_int rfl))) (Dz (Af8 (Bl B7 rfl T.AH Cp (AJ (qv 0) (Dq (v:=.ty "bool") rfl T.n_bool boot_bool rfl)))))))) ?_
  cases th with
  | num n=>
   cases(show v=.int n from hi);refine Ae rfl (D6 rfl (.int _) (Vv _) (Ae rfl (Ht (Ae rfl (D6 rfl (.int _) (Um _) (Ae rfl k))))))
  | wd x=>
   cases(show v=.str x from hi);exact Ae rfl (D6 rfl (.str _) rfl (Ae rfl k))
  | tup l=>
   refine A0 hi λa us I hu hl=>?_;subst I;exact Ae rfl (D6 rfl (.tup hu) rfl (Ae rfl k))
theorem Lq:AD ["thing"] ["thing"] (Aq Hn):=FS
theorem Lz (F:BE K "is_of_language" "is_of_language" Hn f fd)(TG:TxtG K mg t1 t2 t3 t4)(O:AQ P w K mg base 1 "is_number" ["thing"] Ae5):AI P w K mg base BV 2 f fd ["thing"] Ym:=by
 refine F.CZ Lq λcdv A outer s H vs Q E hr h=>?_
 .refine A0 h λv th I hi k=>?_;subst I;refine Ae (Al (Aw (Dl (qf O hr (AT (qv 0))) (Dz (Qg Qi Qi (Pa rfl TG.g_LEAST) (qv 0) (Pa rfl TG.g_MOST)))))) (Ae rfl (Ao v th rfl hi ?_))
  cases th with
  | num n=>
   cases(show v=.int n from hi);refine Ae rfl (Ht ?_);have k:Q (.bl (decide (-32768<=n/\n<=32767))) H:=k;refine Ae rfl (Au rfl rfl (Ae rfl (Bw (λh=>?_) (λh=>?_))))
   .refine Au rfl rfl ?_;have h1:=JL h;have e:decide (-32768<=n/\n<=32767)=decide (n<=32767):=by
     by_cases h2:n<=32767<;>simp[h1,h2]
    rw[e]at k;exact k
   .have e:decide (-32768<=n/\n<=32767)=false:=LC λz=>h (JO z.1);rw[e]at k;exact k
  | wd x=>exact Ae rfl k
  | tup l=>exact Ae rfl k
theorem FQ:AD ["so","why"] ["so","why"] (Aq Yp):=FS
theorem ok_want (F:BE K "want" "want" Yp f fd):AI P w K mg base BV 1 f fd ["so","why"] Pq:=by
 refine F.CZ FQ λcdv A outer s H vs Q E hr h=>?_
 .refine Am h λx I k=>?_;subst I;have nd:=FQ.nd;refine Ae (Al (Bz (Qe (Ho (qv 0))) (Al Af7) Be)) (Ae rfl (Ae rfl k))
theorem Ai8 (F:BE K "want" "want" Yp f fd)(I:TxX K mg cP cT cR cM cA cS):AI P w K mg base (DP P w) 1 f fd ["so","why"] (Eo cR):=by
 refine F.DM FQ λcdv A outer s H vs Q E hr h=>?_
 .refine A0 h λb x O k1 k2=>?_;subst O;have nd:=FQ.nd;refine Ae (Al (Bz (Qe (Ho (qv 0))) (Al (Af6 Av rfl rfl PySem.F.excBase_ValueError rfl I.g_R I.ex (AT (qv 1)))) Be)) ?_
  cases b with
  | true=>exact Ae rfl (Ae rfl (k1 rfl))
  | false=>exact Ae rfl (Ae rfl (B0 rfl (zl 1) (k2 rfl)))
theorem Xb:AD ["thing"] ["thing"] (Aq Tn):=FS
theorem Xn (F:BE K "is_word" "is_word" Tn f fd)(T:BH K mg):AI P w K mg base BV 1 f fd ["thing"] Ta:=by
 refine F.CZ Xb λcdv A outer s H vs Q E hr h=>?_
 .refine Gh h λv th I hi ha k=>?_;subst I;refine Ae (Ag (Bz (QW.pt (qw_or (Qe (Ho (Bl B7 rfl T.AH Cp (AJ (qv 0) (Dq (v:=.ty "str") rfl T.FK boot_str rfl))))) (Af4 (Qe (Af5 Qi Qi Af (Bl Mh rfl T.AY NT (AT (qv 0))) Af))))) (Al (Aw Fh)) Be) (Al (Aw (Bl (Ko rfl) rfl T.HJ boot_all (AT (E9 (N':=["sign"]) (n:=1) At.n rfl (qi_str (qv 0)) (λ_ _ _=>(Bc (GD 0) Dd (Qg Rv Rv Ad (qv 0) Ad))))))))) ?_
  cases th with
  | num i=>
   cases(show v=.int i from hi);exact Ae rfl (D6 rfl (.int _) rfl (Ae rfl (k H (AA.refl H))))
  | tup l=>
   refine A0 hi λa us I hu hl=>?_;subst I;exact Ae rfl (D6 rfl (.tup hu) rfl (Ae rfl (k H (AA.refl H))))
  | wd x=>
   cases(show v=.str x from hi);have a0:x.cps.all (·<128)=true/\x.length<=1000:=by
    have h':(x.cps.all (·<128)&&decide (x.length<=1000))=true:=ha;rw[JW]at h';exact⟨h'.1,JL h'.2⟩
   refine Ae rfl (D6 rfl (.str _) rfl (Ae rfl ?_));have hz:x.length<=sizeLine:=JY a0.2 (by decide);refine Ae rfl (B4 x rfl hz (Au rfl rfl (Ae rfl ?_)));have key:U2 (.wd x)=(decide (1<=x.length)&&decide (x.length<=8)&&x.cps.toList.all sgn):=rfl;refine Bw (λh1=>?_) (λh1=>?_)
   .have a1:1<=x.length:=by have:=JL h1;omega
    refine Au rfl rfl (Ae rfl (Bw (λh2=>?_) (λh2=>?_)))
    .have O:¬x.length<=8:=λz=>by
      have:decide ((x.length:Int)<=8)=true:=JO (by omega);rw[this]at h2;cases h2
     have e:U2 (.wd x)=false:=by rw[key,LC O];simp
     have:=k H (AA.refl H);rw[e]at this;exact this
    .have O:x.length<=8:=by
      cases e:decide ((x.length:Int)<=8)with
      | true=>have:=JL e;omega
      | false=>rw[e]at h2;exact absurd rfl h2
     refine Ae rfl (B4 x rfl a0.1 λD hD=>Am8 (λi ys σ H'=>(∃o,σ=[o])/\H'=upd H D (.lst ys)/\ys=(x.cps.toList.take i).map λc=>V.bl (sgn c)) hz (Bc ⟨_,rfl⟩ rfl (by simp)) ?_ ?_ ?_)
     .rintro i ys σ H' hi ⟨_,rfl,rfl⟩;exact⟨Aj,by simp;omega⟩
     .rintro i c ys σ H' hc ⟨⟨o,rfl⟩,rfl,rfl⟩;have a2:x.cps.toList[i]?=some c:=by simpa using hc
      have e1:=sgn_eq c;have nx:((x.cps.toList.take i).map λc=>V.bl (sgn c))++[V.bl (sgn c)]=(x.cps.toList.take (i+1)).map λc=>V.bl (sgn c):=by
       rw[List.take_add_one,a2];simp
      refine Ae rfl (Au rfl rfl (Ae rfl (Bw (λh3=>?_) (λh3=>?_))))
      .refine jj25 rfl rfl Aj ⟨_,rfl⟩ Ln ?_;rw[← nx];rw[cd_a]at h3;rw[cd_z];have Y:(!decide (([c]:List Nat)<[97]))=true:=h3;rw[Y,Bool.true_and]at e1;rw[← e1]
      .refine C6 Aj ⟨_,rfl⟩ Ln ?_;rw[← nx];rw[cd_a]at h3;have Y:(!decide (([c]:List Nat)<[97]))=false:=by simpa using h3
       rw[Y,Bool.false_and]at e1;rw[← e1]
     .rintro ys σ H' ⟨_,rfl,rfl⟩;refine Ao D (x.cps.toList.map sgn) rfl (.inl (.inl ?_)) ?_
      .rw [Aj];simp;rw[LU (by simp)];rfl
      .have e:((x.cps.toList.map sgn).all id)=U2 (.wd x):=by
        rw[key,JO a1,JO O];simp
       rw[e];exact k _ (AA.upd (AA.refl H) hD)
   .have e:U2 (.wd x)=false:=by
     have:¬1<=x.length:=λz=>h1 (JO (by omega));rw[key,LC this];simp
    have:=k H (AA.refl H);rw[e]at this;exact Ae rfl this
theorem Xc:AD ["thing"] ["thing"] (Aq Tp):=FS
theorem Xo (F:BE K "is_name" "is_name" Tp f fd)(a0:AQ P w K mg base 1 "is_word" ["thing"] Ta):AI P w K mg base BV 2 f fd ["thing"] O7:=by
 refine F.CZ Xc λcdv A outer s H vs Q E hr h=>?_
 .refine Gh h λv th O hi ha k=>?_;subst O;refine Ae (Al (Aw (Dl (qf a0 hr (AT (qv 0))) (Dz (Iy I0 (qv 0) (Ai (AJ Ad Ad)) (by with_unfolding_all rfl)))))) (Ae rfl (Cj v th rfl hi ha λH1 s1=>(Ae rfl (Bw (λh1=>?_) (λh1=>?_)))))
  .cases th with
   | num i=>cases h1
   | tup l=>cases h1
   | wd x=>
    cases(show v=.str x from hi);have Y:K2 x=true:=h1;refine B0 rfl (zl 2) λp I=>(Jp p _ rfl (.inr (.inl (.inl Aj))) rfl rfl ?_);have e:Aj4 (.wd x)=!GZ (V.str x) [V.str "yes",V.str "no"]:=by
     show(K2 x&&!(decide (x="yes")||decide (x="no")))=_
     rw[Y,Xz,Bool.true_and]
    have:=k _ (s1.upd (o:=.tup [V.str "yes",V.str "no"]) I);rw[e]at this;exact this
  .have e:Aj4 th=false:=by
    cases th with
    | num i=>rfl
    | tup l=>rfl
    | wd x=>
     have:K2 x=false:=by
      cases e:K2 x with
      | false=>rfl
      | true=>exact absurd e h1
     show(K2 x&&_)=false
     rw[this];rfl
   have:=k _ s1;rw[e]at this;exact this
theorem Tk:AD ["thing","word"] ["thing","word"] (Aq M7):=FS
theorem Ua (F:BE K "is_headed" "is_headed" M7 f fd)(T:BH K mg):AI P w K mg base BV 1 f fd ["thing","word"] Te:=by
 refine F.CZ Tk λcdv A outer s H vs Q E hr h=>?_
 .refine Ut h λv y r x I hi k=>?_;subst I;refine Ae (Al (Aw (Dl (Bl B7 rfl T.AH Cp (AJ (qv 0) (Dq (v:=.ty "tuple") rfl T.BR NO rfl))) (Dl (GC F1 (Ey T.AY (qv 0)) Af) (Dz (GC B9 (BY (qv 0) Af) (qv 1))))))) ?_;refine A0 hi λa us I hu z2=>?_;refine A0 z2 λY vr z3 h0 a0=>?_;subst I z3;cases(show Y=.str y from h0);refine Ae rfl (D6 rfl (.tup hu) rfl (Ae rfl (Ht (Ae rfl (Ao a _ rfl (.inr (.inl (.inl hu))) (Au rfl rfl (Ae rfl ?_)))))));have O:decide ((((V.str y::vr).length:Nat):Int)>0)=true:=JO (by simp);rw[O];refine Ht (Ae rfl (Bo _ _ 0 (.str y) rfl rfl (.inl (.inl hu)) (Bg (j:=0) rfl) (B0 rfl (show scal (V.str y) (V.str x)=true from rfl) ?_)));rw[Je];exact k
theorem Qh (met:List Str)(x:Str)(h:x∉met):L2.putK (met.map λy=>((Sum.inr y:Key),V.bl true)) (Sum.inr x) (V.bl true)=(met++[x]).map λy=>((Sum.inr y:Key),V.bl true):=by
 unfold L2.putK;rw[JP]
 .simp
 .rw [PM];rintro⟨kv,Y,e⟩;refine Am (JT.mp Y) λy I O=>?_;subst O;have:(Sum.inr y:Key)=Sum.inr x:=JL e;cases this;exact h I
theorem valS (met:List Str)(x:Str):(Bm (met.map λy=>((Sum.inr y:Key),V.bl true)) (Sum.inr x)).isSome=decide (x∈met):=by
 induction met with
 | nil=>rfl
 | cons y met I=>
  rw[JX];by_cases e:y=x
  .rw [C7 (LB Sum.inr e),e];simp
  .rw [C8 (λz=>e (MD z)),I,MU,LJ,LJ,JC];exact⟨.inr,λz=>z.resolve_left λq=>e q.symm⟩
def Ae3 (K:PySem.W.Frag):Sp:=λvs H Q _=>∃(b:Bool) (a:Addr) (xs:List Str),vs=[.ref a]/\DO b K H a (xs.map V.str)/\xs.length<=1000/\xs.Nodup/\∀H',AA H H'->Q .BO H'
def Vb (K:PySem.W.Frag):Sp:=λvs H Q _=>∃(b:Bool) (a:Addr) (xs:List Str),vs=[.ref a]/\DO b K H a (xs.map V.str)/\xs.length<=1000/\xs.Nodup/\∀H',AA H H'->Q (.bl true) H'
theorem DO.same (s:AA H H')(h:DO b K H a xs):DO b K H' a xs:=by
 cases b with
 | true=>exact AA.seq s (show AW K H a xs from h)
 | false=>
  have h:BW K H a xs:=h
  show BW K H' a xs
  rcases h with h|h
  .exact .inl (h.elim (λh=>.inl (s _ _ h)) λ⟨o,h⟩=>.inr ⟨o,s _ _ h⟩)
  .exact .inr h
theorem DH:AD ["things","met","index","thing"] ["things"] (Aq J8):=FS
theorem Qo (F:BE K "first_again" "first_again" J8 f fd)(T:BH K mg):AI P w K mg base BV 1 f fd ["things"] (Ae3 K):=by
 refine F.CZ DH λcdv A outer s H vs Q E hr h=>?_
 .refine Kz h λb a xs O hq hl GO k1=>?_;subst O;have nd:=DH.nd;have a3:(2000000:Nat)<=sizeLine:=by rw[KU];omega
  refine Ae (Ag (Bd 1 nd Kb) (Ag (Ei MG rfl (Ao8 (b:=b) rfl T.HQ (AT (qv 0))) (Xg rfl (Ia (HE 2 nd) (Ia (HE 3 nd) Tx))) (Ag (Bz (qt_din (Dn hr) (qv 3) (qv 1)) (Al (Aw (qv 2))) Be) (Al (Dy (Dn hr) (qv 1) (qv 3) Fh rfl)))) (Al (Aw Af9)))) (λd hd=>(Ae rfl (B4 a rfl ⟨_,DO.same (AA.upd (AA.refl H) hd) hq⟩ (Al6 (xs:=xs.map V.str) (λi σ H'=>(∃o1 o2,σ=[some (.ref a),some (.ref d),o1,o2])/\AA H H'/\H' d=some (.dK ((xs.take i).map λy=>((Sum.inr y:Key),V.bl true)))) (Bc (L7 rfl) (AA.upd (AA.refl H) hd) Aj) ?_ ?_ ?_))))
  .rintro i σ H' hi ⟨_,I,_⟩;exact DO.same I hq
  .rintro i v σ H' p hv ⟨⟨o1,o2,rfl⟩,I,a0⟩ Y;rw[KH]at hv;refine Am (Option.map_eq_some_iff.mp hv) λx hx O=>?_;subst O;have a1:upd H' p (.tup [.int i,.str x]) d=some (.dK ((xs.take i).map λy=>((Sum.inr y:Key),V.bl true))):=by
    rw[Ak (Ah a0 Y)];exact a0
   have a2:AA H (upd H' p (.tup [.int i,.str x])):=I.upd Y;have li:i<xs.length:=(List.getElem?_eq_some_iff.mp hx).1;have tk:xs.take (i+1)=xs.take i++[x]:=B5 hx;have hm:x∉xs.take i:=λz=>by
    have:=GO.sublist (NK (i+1) xs);rw[tk,LI]at this;exact this.2.2 x z x (by simp) rfl
   refine Cj p _ rfl (BW.of Aj) rfl (Al1 rfl (Au rfl rfl (Ae rfl (Ae rfl (Ao d _ rfl (AK.k (k:=Sum.inr x) a1) (Ae rfl (Bw (λh=>?_) (λh=>?_))))))))
   .rw [valS]at h;exact absurd (JL h) hm
   .refine Ae rfl (Ae rfl (Jp d _ rfl (CW.k (k:=Sum.inr x) a1 (by simp;omega)) (L7 rfl) (Kw a2 hd) ?_));rw[Aj,Qh _ _ hm,tk]
  .rintro σ H' ⟨_,I,_⟩;exact k1 H' I
theorem Q9:AD ["things"] ["things"] (Aq Ld):=FS
theorem Rg (F:BE K "all_unlike" "all_unlike" Ld f fd)(Y:AQ P w K mg base 1 "first_again" ["things"] (Ae3 K)):AI P w K mg base BV 2 f fd ["things"] (Vb K):=by
 refine F.CZ Q9 λcdv A outer s H vs Q E hr h=>?_
 .refine Kz h λb a xs O I hl GO k=>?_;subst O;refine Ae (Al (Aw (GC op_isN (qf Y hr (AT (qv 0))) Af9))) (Ae rfl (Et b a xs rfl I hl GO λH' s'=>⟨rfl,k H' s'⟩))
end
end T
namespace T
open PySem PySem.Spec PyProof PyProof.Rows L2
theorem wb (h:b=true):[V.bl b,V.str x]=[V.bl true,V.str x]:=by rw[h]
theorem Mj {K:PySem.W.Frag}{a D:Addr}{xs:List Str}{te:TE}{σ0:L2.St}{H1:Hp}{Q:Hp->Prop}(hq:H1 a=some (.tup (xs.map V.str)))(hD:H1 D=none)(hz:xs.length<=1000)
   (hs:∀x∈xs,∀H' (R:VK),AA H1 H'->(∀a0,AA H' a0->R (.bl true) a0)->te (σ0.set 0 (some (.str x))) H' R)(hd:∀H',AA H1 H'->H' D=some (.lst ((xs.map λ_=>true).map V.bl))->Q H') :
   ∃W:Nat->Nat->L2.St->Hp->Prop,(∃m,W 0 m σ0 (upd H1 D (.lst [])))/\∀i m σ' H',W i m σ' H' ->
     ((IJ K a).stop i H'/\Q H')\/((IJ K a).go i H'/\∃(Ay:V->L2.St->Hp->Prop) (An:L2.St->Hp->Prop),(∀y σ3 H5,Ay y σ3 H5->∃ys,H5 D=some (.lst ys)/\ys.length<sizeLine/\∃m',m'<m/\W (i+1) m' σ3 (upd H5 D (.lst (ys++[y])))) /\
       (∀σ3 Y,An σ3 Y->∃m',m'<m/\W (i+1) m' σ3 Y) /\
       ∀x H2,(IJ K a).FY i H' x H2->(Dw 0) x σ' H2 λσ3 H3=>tYes σ3 H3 λok Y=>if ok=true then te σ3 Y (λy H5=>Ay y σ3 H5)else An σ3 Y):=by
 have a2:(2000000:Nat)<=sizeLine:=by rw[KU];omega
 refine Q2 (xs:=xs.map V.str) (λi ys σ H'=>(σ=σ0\/∃v,σ=σ0.set 0 (some v))/\AA H1 H'/\H' D=some (.lst ys)/\ys=((xs.take i).map λ_=>true).map V.bl) (by rw[JB];omega) (C6 (.inl rfl) (AA.upd (AA.refl H1) hD) Aj (by simp)) ?_ ?_ ?_
 . rintro i ys σ H' hi ⟨_,O,I,rfl⟩;exact Bc (.inl (.inl (O _ _ hq))) I (by simp;omega)
 . rintro i v ys σ H' hv ⟨hσ,O,I,rfl⟩;rw[KH]at hv;refine Am (Option.map_eq_some_iff.mp hv) λx hx z1=>?_;subst z1;have eσ:σ.set 0 (some (.str x))=σ0.set 0 (some (.str x)):=by
     rcases hσ with rfl|⟨v',rfl⟩
     . rfl
     . rw[List.set_set]
   show te (σ.set 0 (some (.str x))) H' _
   rw[eσ];refine hs x (JU hx) H' _ O λa0 a1=>(Du (a1 _ _ I) (.inr ⟨_,rfl⟩) (Kw (O.trans a1) hD) Aj ?_);rw[B5 hx];simp
 . rintro ys σ H' ⟨_,O,I,rfl⟩;rw[JB,LD]at I;exact hd H' O I
theorem Pj (xs:List Str):(xs.map λ_=>true).all id=true:=by simp
theorem D9 (us:List V)(n:Nat):Ec us (some (n:Int)) none=us.drop n:=by
 unfold Ec;rw[HT.BX,HT.EV]
 rcases Nat.le_total n us.length with h|h
 .rw [MV h,LU (by simp)]
 .rw [OM h,LV (JG _),LV h];simp
theorem Fq {us:List V}{n:Nat}{hi:Option Int}(h1:0<n)(h2:0<us.length):¬(HT.BA us.length 0 (some (n:Int))=0/\HT.BA us.length us.length hi=us.length):=λz=>by
 have:=z.1;rw[HT.BX]at this;omega
structure TxK (K:PySem.W.Frag)(mg:Str->Option Value)(aO:Addr):Prop where
 FL:mg "OWN_KINDS"=some (.ref aO)
 own:∀H,BW K H aO [.str "number",.str "truth",.str "list"]
theorem Ze (x:Str):GZ (V.str x) [V.str "number",V.str "truth",V.str "list"]=decide (x∈(["number","truth","list"]:List Str)):=Gx x ["number","truth","list"]
theorem Jc:∀{xs:List Str} {us:List V},AL H us (xs.map .wd)->us=xs.map V.str
 | [],us,h=>h
 | x::r,us,h=>by
  refine A0 h λv vr I h1 h2=>?_;subst I;rw[show v=.str x from h1,Jc h2];rfl
def Ae4:Sp:=λvs H Q _=>∃v n fl,vs=[v]/\AS H v (Gp (n,fl))/\(Da n=true/\n≠"number"/\n≠"truth"/\n≠"list"/\fl≠[]/\fl.length<=4/\fl.Nodup/\∀x∈fl,Da x=true)/\∀H',AA H H'->Q .BO H'
theorem Kv:∀{ps ks:List Str},ps.length=ks.length->alt ((Cf ps ks).map V.str)=ps.map V.str
 | [],_,_=>by unfold Cf;rfl
 | p::ps,k::ks,h=>by
  unfold Cf
  show V.str p::alt ((Cf ps ks).map V.str)=_
  rw[Kv (by simpa using h)];rfl
theorem Eu:∀{ps ks:List Str},ps.length=ks.length->alt (((Cf ps ks).map V.str).drop 1)=ks.map V.str
 | [],[],_=>by unfold Cf;rfl
 | [p],[k],h=>by rfl
 | p::p2::ps,k::k2::ks,h=>by
  have I:=Eu (ps:=p2::ps) (ks:=k2::ks) (by simpa using h)
  show V.str k::alt (((Cf (p2::ps) (k2::ks)).map V.str).drop 1)=_
  rw[I];rfl
 | [_],[],h=>by simp at h
 | [],_::_,h=>by simp at h
 | _::_::_,[],h=>by simp at h
 | _::_::_,[_],h=>by simp at h
 | [_],_::_::_,h=>by simp at h
theorem R0:∀{ps ks:List Str},ps.length=ks.length->(Cf ps ks).length=2*ks.length
 | [],[],_=>rfl
 | p::ps,k::ks,h=>by
  unfold Cf;have:=R0 (ps:=ps) (ks:=ks) (by simpa using h);simp only[JR];omega
 | [],_::_,h=>by simp at h
 | _::_,[],h=>by simp at h
theorem Jd (h:AS H v (Fc f)):∃a b us,v=.ref a/\H a=some (.tup (.str "fun"::.str f.nm::.ref b::.str f.fh.k::us))/\H b=some (.tup ((Cf f.fh.ps f.fh.ks).map V.str))/\AL H us f.ts:=by
 refine A0 h λa us I hu z2=>?_;refine A0 z2 λY r0 z3 h0 z4=>?_;refine A0 z4 λv1 r1 z5 h1 z6=>?_;refine A0 z6 λv2 r2 z7 h2 z8=>?_;refine A0 z8 λv3 O z9 h3 h4=>?_;subst I z3 z5 z7 z9;refine A0 h2 λb ws I hb hw=>?_;subst I;cases(show Y=.str "fun" from h0);cases(show v1=.str f.nm from h1);cases(show v3=.str f.fh.k from h3);rw[Jc hw]at hb;exact Ek a b O rfl hu hb h4
def Td:Sp:=λvs H Q _=>∃k r kr,vs=[.str k,.ref r]/\H r=some (.dK kr)/\(k="number"\/k="truth"\/k="list"\/(Bm kr (Sum.inr k)).isSome=true)/\Q (.bl true) H
def FunH (kr:List (Key×V))(f:GN):Prop:=Da f.nm=true/\f.fh.ps.length=f.fh.ks.length/\f.fh.ks.length<=4/\f.fh.ps.Nodup/\(∀x∈f.fh.ps,Da x=true)/\(∀k∈f.fh.k::f.fh.ks,k="number"\/k="truth"\/k="list"\/(Bm kr (Sum.inr k)).isSome=true)
def spHd:Sp:=λvs H Q _=>∃v f r kr,vs=[v,.ref r]/\AS H v (Fc f)/\H r=some (.dK kr)/\FunH kr f/\∀H',AA H H'->Q .BO H'
def Wx:Sp:=λvs H Q _=>∃v f,vs=[v]/\AS H v (Fc f)/\f.fh.ps.length=f.fh.ks.length/\f.fh.ks.length<=4/\f.fh.k="number"/\(∀k∈f.fh.ks,k="number")/\∀H',AA H H'->Q .BO H'
section
variable {P:Program}{w:World}{K:PySem.W.Frag}{mg:Str->Option Value}{base:Heap}{t1 t2 t3 t4:Tok}{aO:Addr}
theorem Lp:AD ["record"] ["record"] (Aq Hj):=FS
theorem Lw (F:BE K "look_at_record" "look_at_record" Hj f fd)(T:BH K mg)(TG:TxtG K mg t1 t2 t3 t4)(TK:TxK K mg aO)(I:AQ P w K mg base 1 "want" ["so","why"] Pq)(a8:AQ P w K mg base 1 "is_headed" ["thing","word"] Te)
  (a2:AQ P w K mg base 2 "is_name" ["thing"] Ww)(a9:AQ P w K mg base 2 "all_unlike" ["things"] (Vb K)):AI P w K mg base BV 4 f fd ["record"] Ae4:=by
 refine F.CZ Lp λcdv A outer s H vs Q E hr h=>?_
 .refine Jf h λv n fl O hi Y k=>?_;subst O;obtain⟨hn,o1,o2,o3,a3,aA,fnd,a4⟩:=Y;refine Ae (Ag (Ax (qf I hr (AJ (qf a8 hr (AJ (qv 0) Ad)) Ad))) (Ag (Ax (qf I hr (AJ (Qg Qi Qi Af (Ey T.AY (qv 0)) (Ap Fa Af (Pa rfl TG.GI))) Ad))) (Ag (Ax (qf I hr (AJ (Dl (qf a2 hr (AT (BY (qv 0) Af))) (Dz (Iy I0 (BY (qv 0) Af) (Ix rfl TK.FL) (by with_unfolding_all rfl)))) Ad))) (Ag (Ax (qf I hr (AJ (Bl (Ko rfl) rfl T.HJ boot_all (AT (E9 (N':=["field"]) (n:=1) At.n rfl (Hq (Cd E6 (qv 0) (Ca Af) Cm)) (λ_ _ _=>(Bc (GD 0) Dd (qf a2 hr (AT (qv 0)))))))) Ad))) (Al (Ax (qf I hr (AJ (qf a9 hr (AT (Cd E6 (qv 0) (Ca Af) Cm))) Ad)))))))) ?_;have a6:=hi;refine A0 hi λa us O hu Y=>?_;refine A0 Y λv0 r0 z3 h0 z4=>?_;refine A0 z4 λv1 r1 z5 h1 h2=>?_;subst O z3 z5;cases(show v0=.str "record" from h0);cases(show v1=.str n from h1);cases(Jc h2);have aB:0<fl.length:=List.length_pos_iff.mpr a3;have sq:∀H',AA H H'->BW K H' a (.str "record"::.str n::fl.map V.str):=λH' s'=>.inl (.inl (s' _ _ hu));have len:(V.str "record"::V.str n::fl.map V.str).length=2+fl.length:=by simp;omega
  refine Ae rfl (ii42 _ "record" _ "record" rfl a6 (Ae (wb (JO rfl)) ?_));refine Ae rfl (Ao a _ rfl (.inr (sq H (AA.refl H))) (Au rfl rfl (Ae rfl (Bw (λc=>?_) (λc=>absurd (JO (by rw[len];omega)) c)))));refine Au rfl rfl (Au rfl rfl (Ae (wb (JO (by rw[len];omega))) (Ae rfl (Bo _ _ 1 (.str n) rfl rfl (sq H (AA.refl H)) (Bg (j:=1) rfl) (B4 n rfl hn λH1 s1=>(Ae rfl (Ht ?_)))))));have eo:GZ (V.str n) [V.str "number",V.str "truth",V.str "list"]=false:=by rw[Ze];simp[o1,o2,o3]
  refine Ae rfl (Bo _ _ 1 (.str n) rfl rfl (sq H1 s1) (Bg (j:=1) rfl) (Jp aO _ rfl (.inr (TK.own H1)) rfl rfl (Ae (wb (by show(!GZ _ _)=true;rw[eo];rfl)) ?_)));refine Ae rfl (Ar 2 rfl (Cj a _ rfl (sq H1 s1) (Fq (n:=2) (by decide) (by rw[len];omega)) λp hp=>(B4 p rfl ⟨_,.inl (.inl Aj)⟩ λD hD=>?_)));have a0:Ec (.str "record"::.str n::fl.map V.str) (some 2) none=fl.map V.str:=D9 _ 2;rw[a0]at hD ⊢;have s2:AA H (upd H1 p (.tup (fl.map V.str))):=s1.upd hp;refine Mj (xs:=fl) Aj hD (by omega) (λx hx H' R s' kR=>(Ae rfl (B4 x rfl (a4 x hx) kR))) λH3 s3 a5=>Ao D _ rfl (.inl (.inl a5)) (Ae (wb (Pj fl)) ?_);have a1:=s2.trans s3;refine Ae rfl (Ar 2 rfl (Cj a _ rfl (sq H3 a1) (Fq (n:=2) (by decide) (by rw[len];omega)) λp2 a7=>?_));rw[a0];exact Et false p2 fl rfl (.inl (.inl Aj)) (by omega) fnd λH4 s4=>(Ae (wb rfl) (k _ ((a1.upd a7).trans s4)))
theorem Xd:AD ["thing","records"] ["thing","records"] (Aq Tq):=FS
theorem Xp (F:BE K "is_kind" "is_kind" Tq f fd)(T:BH K mg)(I:TxK K mg aO):AI P w K mg base BV 1 f fd ["thing","records"] Td:=by
 refine F.CZ Xd λcdv A outer s H vs Q E hr h=>?_
 .refine Jf h λx r kr O hd hk k=>?_;subst O;refine Ae (Al (Aw (Dl (Bl B7 rfl T.AH Cp (AJ (qv 0) (Dq (v:=.ty "str") rfl T.FK boot_str rfl))) (Dz (qe_or (Iy Ic (qv 0) (Ix rfl I.FL) (by with_unfolding_all rfl)) (Dz (Le (Dn hr) (qv 0) (qv 1)))))))) (Ae rfl (D6 rfl (.str _) rfl (Ae rfl (Ht (Ae rfl (Jp aO _ rfl (.inr (I.own H)) rfl rfl (Ae rfl (Bw (λh=>k) (λh=>?_)))))))));have h:¬GZ (V.str x) [V.str "number",V.str "truth",V.str "list"]=true:=h;rw[Ze,LJ]at h;have hs:(Bm kr (Sum.inr x)).isSome=true:=by
   rcases hk with z|z|z|z
   .exact absurd (by rw[z];simp) h
   .exact absurd (by rw[z];simp) h
   .exact absurd (by rw[z];simp) h
   .exact z
  exact Ae rfl (Ae rfl (Ao r _ rfl (AK.k (k:=Sum.inr x) hd) (by rw[hs];exact k)))
theorem DA:AD ["fun","records","variables"] ["fun","records"] (Aq Jz):=FS
theorem Oi (F:BE K "look_at_head" "look_at_head" Jz f fd)(T:BH K mg)(TG:TxtG K mg t1 t2 t3 t4)(I:AQ P w K mg base 1 "want" ["so","why"] Pq)
  (a6:AQ P w K mg base 2 "is_name" ["thing"] Ww)(aC:AQ P w K mg base 2 "all_unlike" ["things"] (Vb K))(a5:AQ P w K mg base 1 "is_kind" ["thing","records"] Td):AI P w K mg base BV 4 f fd ["fun","records"] spHd:=by
 refine F.CZ DA λcdv A outer s H vs Q E hr h=>?_
 .refine Us h λv f r kr z1 hi hd z2 k=>?_;subst z1;obtain⟨hn,Y,aD,GO,aB,a2⟩:=z2;have nd:=DA.nd;refine Jf (Jd hi) λa b us z1 hu hb aE=>?_;subst z1;have sq:∀H',AA H H'->BW K H' a (.str "fun"::.str f.nm::.ref b::.str f.fh.k::us):=λH' s'=>.inl (.inl (s' _ _ hu));have O:∀H',AA H H'->BW K H' b ((Cf f.fh.ps f.fh.ks).map V.str):=λH' s'=>.inl (.inl (s' _ _ hb));have lb:((Cf f.fh.ps f.fh.ks).map V.str).length=2*f.fh.ks.length:=by rw[JB,R0 Y]
  refine Ae (Ag (Ax (qf I hr (AJ (Dl (GC op_ge (Ey T.AY (qv 0)) Af) (Dz (qf a6 hr (AT (BY (qv 0) Af))))) Ad))) (Ag (Bd 2 nd (BY (qv 0) Af)) (Ag (Ax (qf I hr (AJ (Dl (Bl B7 rfl T.AH Cp (AJ (qv 2) (Dq (v:=.ty "tuple") rfl T.BR NO rfl))) (Dz (GC B9 (Ap Bh (Ey T.AY (qv 2)) Af) Af))) Ad))) (Ag (Ax (qf I hr (AJ (GC Qi (Ey T.AY (qv 2)) (Ap Fm Af (Pa rfl TG.FD))) Ad))) (Ag (Ax (qf I hr (AJ (Bl (Ko rfl) rfl T.HJ boot_all (AT (E9 (N':=["name"]) (n:=1) At.n rfl (Hq (Ev (qv 2) Cm)) (λ_ _ _=>(Bc (GD 0) Dd (qf a6 hr (AT (qv 0)))))))) Ad))) (Ag (Ax (qf I hr (AJ (qf aC hr (AT (Ev (qv 2) Cm))) Ad))) (Ag (Ax (qf I hr (AJ (Bl (Ko rfl) rfl T.HJ boot_all (AT (E9 (N':=["kind","records"]) (n:=1) (js:=[1]) (At.o ["records"]) rfl (Hq (Ev (qv 2) (Ca Af))) (λ_ _ _=>(Bc (GD 0) Dd (qf a5 hr (AJ (qv 0) (qv 1)))))))) Ad))) (Al (Ax (qf I hr (AJ (qf a5 hr (AJ (BY (qv 0) Af) (qv 1))) Ad))))))))))) ?_;refine Ae rfl (Ao a _ rfl (.inr (sq H (AA.refl H))) (Au rfl rfl (Ae rfl (Bw (λh1=>(Ae rfl (Bo _ _ 1 _ rfl rfl (sq H (AA.refl H)) (Bg (j:=1) rfl) (B4 f.nm rfl hn λH1 s1=>(Ae (wb rfl) (Ae rfl (Bo _ _ 2 _ rfl rfl (sq H1 s1) (Bg (j:=2) rfl) (Ae rfl (D6 rfl (.tup (s1 _ _ hb)) rfl (Ae rfl (Ht (Ae rfl (Ao b _ rfl (.inr (O H1 s1)) (Kx rfl rfl (show(0:Int)<2 by decide) rfl (Ae (wb (JO ?_)) ?_))))))))))))))) (λh1=>absurd (JO (by simp;omega)) h1)))))
  .refine LB V.int ?_;rw[lb];omega
  refine Ae rfl (Ao b _ rfl (.inr (O H1 s1)) (Cj 2 4 rfl rfl (.inl ⟨by decide,by decide⟩) (Au rfl rfl (Ae (wb (JO (by rw[lb];omega))) (Ae rfl (Ao b _ rfl (O H1 s1) λp hp=>(B4 p rfl ⟨_,.inl (.inl Aj)⟩ λD hD=>?_)))))));have ea:alt (((Cf f.fh.ps f.fh.ks).map V.str).drop (HT.BA ((Cf f.fh.ps f.fh.ks).map V.str).length 0 none))=f.fh.ps.map V.str:=Kv Y;have eb:alt (((Cf f.fh.ps f.fh.ks).map V.str).drop (HT.BA ((Cf f.fh.ps f.fh.ks).map V.str).length 0 (some 1)))=f.fh.ks.map V.str:=by
   rw[show(some 1:Option Int)=some ((1:Nat):Int)from rfl,HT.BX]
   rcases Nat.le_total 1 ((Cf f.fh.ps f.fh.ks).map V.str).length with h|h
   .rw [MV h];exact Eu Y
   .rw [OM h,← Eu Y,LV (JG _),LV h]
  rw[ea]at hD ⊢;have s2:AA H (upd H1 p (.tup (f.fh.ps.map V.str))):=s1.upd hp;refine Mj (xs:=f.fh.ps) Aj hD (by omega) (λx hx H' R s' kR=>(Ae rfl (B4 x rfl (aB x hx) kR))) λH3 s3 a7=>?_;have a3:=s2.trans s3;refine Ao D _ rfl (.inl (.inl a7)) (Ae (wb (Pj _)) (Ae rfl (Ao b _ rfl (O H3 a3) λp2 a9=>?_)));rw[ea];refine Et false p2 f.fh.ps rfl (.inl (.inl Aj)) (by omega) GO λH5 s5=>(Ae (wb rfl) ?_);have a4:=(a3.upd a9).trans s5;refine Ae rfl (Ae rfl (Ao b _ rfl (O H5 a4) λp3 aA=>(B4 p3 rfl ⟨_,.inl (.inl Aj)⟩ λD2 a1=>?_)));rw[eb]at a1 ⊢;have s6:AA H (upd H5 p3 (.tup (f.fh.ks.map V.str))):=a4.upd aA;refine Mj (xs:=f.fh.ks) Aj a1 (by omega) (λx hx H' R s' kR=>(Ae rfl (Ae rfl (Ek x r kr rfl ((s6.trans s') _ _ hd) (a2 x (JE _ hx)) (kR H' (AA.refl H')))))) λH7 s7 a8=>?_;have a0:=s6.trans s7;refine Ao D2 _ rfl (.inl (.inl a8)) (Ae (wb (Pj _)) (Ae rfl (Bo _ _ 3 _ rfl rfl (sq H7 a0) (Bg (j:=3) rfl) (Ae rfl (Ek f.fh.k r kr rfl (a0 _ _ hd) (a2 _ JJ) (Ae (wb rfl) (k H7 a0)))))))
theorem Oc:AD ["fun"] ["fun"] (Aq Jy):=FS
theorem Oh (F:BE K "look_at_main" "look_at_main" Jy f fd)(T:BH K mg)(a1:AQ P w K mg base 1 "want" ["so","why"] Pq):AI P w K mg base BV 2 f fd ["fun"] Wx:=by
 refine F.CZ Oc λcdv A outer s H vs Q E hr h=>?_
 .refine Mg h λv f I hi a0 a5 hg z2=>?_;subst I;obtain⟨a3,k⟩:=z2;refine Jf (Jd hi) λa b us I hu hb a6=>?_;subst I;refine Ae (Ag (Ax (qf a1 hr (AJ (GC B9 (BY (qv 0) Af) Ad) Ad))) (Al (Ax (qf a1 hr (AJ (Bl (Ko rfl) rfl T.HJ boot_all (AT (E9 (N':=["kind"]) (n:=1) At.n rfl (Hq (Ev (BY (qv 0) Af) (Ca Af))) (λ_ _ _=>(Bc (GD 0) Dd (GC B9 (qv 0) Ad)))))) Ad))))) ?_;refine Ae rfl (Ch _ _ 3 _ rfl rfl (.inl (.inl hu)) (Bg (j:=3) rfl) rfl (Ae (wb (by rw[Je];exact JO hg)) (Ae rfl (Bo _ _ 2 (.ref b) rfl rfl (.inl (.inl hu)) (Bg (j:=2) rfl) (Ae rfl (Ao b _ rfl (.inl (.inl hb)) λO a4=>(B4 O rfl ⟨_,.inl (.inl Aj)⟩ λD2 Y=>?_)))))));have eb:alt (((Cf f.fh.ps f.fh.ks).map V.str).drop (HT.BA ((Cf f.fh.ps f.fh.ks).map V.str).length 0 (some 1)))=f.fh.ks.map V.str:=by
   rw[show(some 1:Option Int)=some ((1:Nat):Int)from rfl,HT.BX]
   rcases Nat.le_total 1 ((Cf f.fh.ps f.fh.ks).map V.str).length with h|h
   .rw [MV h];exact Eu a0
   .rw [OM h,← Eu a0,LV (JG _),LV h]
  rw[eb]at Y ⊢;have s6:AA H (upd H O (.tup (f.fh.ks.map V.str))):=(AA.refl H).upd a4;refine Mj (xs:=f.fh.ks) Aj Y (by omega) (λx hx H' R s' kR=>(B0 rfl rfl ?_)) λH7 s7 a2=>?_
  .rw [Je,JO (a3 x hx)];exact kR H' (AA.refl H')
  .exact Ao D2 _ rfl (.inl (.inl a2)) (Ae (wb (Pj _)) (k H7 (s6.trans s7)))
end
inductive KInv (E:CE)(k op:Str)(r:List Th):Prop
 | call (f:Str) (es:List Th) (ws:List Str) (h:op="call") (hr:r=.wd f::es) (hf:E.F f=some (ws,k)) (he:kL E es=ws.map some)
 | new (fl:List Str) (h:op="new") (hr:r=[.wd k]) (hR:E.R k=some fl)
 | get (e:Th) (f k0:Str) (fl:List Str) (h:op="get") (hr:r=[e,.wd f]) (he:kE E e=some k0) (hR:E.R k0=some fl) (hf:f∈fl) (hk:k="number")
 | eq (a b:Th) (k0:Str) (h:op="=") (hr:r=[a,b]) (ha:kE E a=some k0) (hb:kE E b=some k0) (h0:k0="number"\/k0="truth") (hk:k="truth")
 | oth (ws:List Str) (h1:op≠"call") (h2:op≠"new") (h3:op≠"get") (h4:op≠"=") (ht:takes.lookup op=some ws) (hg:gives.lookup op=some k) (he:kL E r=ws.map some)
theorem Al0 (h:kE E (.tup l)=some k):∃op r,l=.wd op::r/\KInv E k op r:=by
 match l,h with
 | [],h=>rw[kE]at h;cases h
 | .num _::_,h=>rw[kE]at h;cases h
 | .tup _::_,h=>rw[kE]at h;cases h
 | .wd op::r,h=>
  refine Ck op r rfl ?_;rw[Ej]at h;unfold HG at h;split at h
  .rename_i I;split at h
   .rename_i f es x a0 e1;rw[Bf]at e1;have O:kL E es=a0:=(MS e1).2;split at h
    .rename_i ws k' hf;split at h
     .rename_i hw;cases h;exact .call f es ws I rfl hf (O.trans hw)
     .cases h
    .cases h
   .cases h
  .rename_i h1;split at h
   .rename_i I;split at h
    .rename_i n;split at h
     .rename_i fl hR;cases h;exact .new fl I rfl hR
     .cases h
    .cases h
   .rename_i h2;split at h
    .rename_i I;split at h
     .rename_i e f k0 x e1;rw[Bf,Bf,Cw]at e1;have O:kE E e=some k0:=(MS e1).1;split at h
      .rename_i fl hR;split at h
       .rename_i hf;cases h;exact .get e f k0 fl I rfl O hR hf rfl
       .cases h
      .cases h
     .cases h
    .rename_i h3;split at h
     .rename_i I;split at h
      .rename_i k0 k2 e1;split at h
       .rename_i Y;cases h
        match r,e1 with
        | [],e1=>rw[Cw]at e1;cases e1
        | [a],e1=>rw[Bf,Cw]at e1;have:=LB List.length e1;simp at this
        | [a,b],e1=>
         rw[Bf,Bf,Cw]at e1;have O:=(MS e1).1;have e3:=(MS (MS e1).2).1;exact .eq a b k0 I rfl O (e3.trans Y.2) Y.1 rfl
        | a::b::c::r',e1=>rw[Bf,Bf,Bf]at e1;have:=LB List.length e1;simp at this
       .cases h
      .cases h
     .rename_i h4;split at h
      .rename_i ws k' ht hg;split at h
       .rename_i hw;cases h;exact .oth ws h1 h2 h3 h4 ht hg hw
       .cases h
      .cases h
theorem Er {α:Type}:∀{l:List (Str×α)} {x:Str} {v:α},l.lookup x=some v->(x,v)∈l
 | [],_,_,h=>by cases h
 | (y,u)::r,x,v,h=>by
  rw[MO]at h
  cases c:x==y with
  | true=>rw[c]at h;cases h;rw[eq_of_beq c];exact JJ
  | false=>rw[c]at h;exact JE _ (Er h)
noncomputable def hw:List Str:=["+","-","*","/","rest","<","and","or","not","list","long","at","out","store","=","get","call","new","let","put","if","while","give","fail","set","do","mod","zza","yes","jump","record"]
noncomputable def V8:Th->Bool
 | .tup _=>false
 | _=>true
noncomputable def FX:List Th->Bool
 | .wd op::a::f::_=>decide (op∈hw)&&(V8 f||!(decide (op="get")||decide (op="set")))&&(An3 a||!decide (op="let"))
 | .wd op::_=>decide (op∈hw)
 | _=>true
noncomputable def CH:Nat->Th->Bool
 | _,.num _=>true
 | _,.wd _=>true
 | 0,.tup _=>false
 | n+1,.tup l=>FX l&&l.all (CH n)
theorem Ft (h:CH (n+1) (.tup l)=true):FX l=true/\∀t∈l,CH n t=true:=by
 unfold CH at h;rw[JW,LO]at h;exact h
theorem Cr (h:FX l=true)(h2:∀t∈l,CH n t=true):CH (n+1) (.tup l)=true:=by
 unfold CH;rw[JW,LO];exact⟨h,h2⟩
theorem Dc:CH n (.wd x)=true:=by unfold CH;rfl
theorem Pc:CH n (.num x)=true:=by unfold CH;rfl
theorem Ai9 (h:FX (.wd op::r)=true):op∈hw:=by
 match r,h with
 | [],h=>exact JL h
 | [_],h=>exact JL h
 | _::_::_,h=>
  unfold FX at h;rw[JW,JW]at h;exact JL h.1.1
theorem Y0 (h:FX (.wd op::a::f::r)=true)(I:op="get"\/op="set"):V8 f=true:=by
 unfold FX at h;rw[JW,JW]at h;have h2:=h.1.2
 rcases I with rfl|rfl<;>simpa using h2
theorem okH_let (h:FX (.wd "let"::a::f::r)=true):An3 a=true:=by
 unfold FX at h;rw[JW]at h;simpa using h.2
theorem Eg (h:op∈hw)(h1:op≠"get")(h2:op≠"set")(h3:op≠"let"):FX (.wd op::r)=true:=by
 match r with
 | []=>exact JO h
 | [_]=>exact JO h
 | _::_::_=>
  unfold FX;simp[h,h1,h2,h3]
theorem Xy:∀{es:List Th} {ws:List Str},kL E es=ws.map some->∀e∈es,∃k,kE E e=some k
 | [],_,_=>λe he=>by cases he
 | x::r,[],h=>by rw[Bf]at h;cases h
 | x::r,q::ws,h=>λe he=>by
  rw[Bf,JX]at h
  rcases JC.mp he with rfl|he
  .exact⟨q,(MS h).1⟩
  .exact Xy (MS h).2 e he
theorem Ih:∀{n:Nat} {e:Th} {k:Str},kE E e=some k->BI n e->CH n e=true
 | _,.num _,_,_,_=>Pc
 | _,.wd _,_,_,_=>Dc
 | 0,.tup _,_,_,h=>by unfold BI at h;cases h
 | n+1,.tup l,k,hk,hd=>by
  refine Co (Al0 hk) λop r z1 a0=>?_;subst z1;have hd:=Qw hd;have all:∀{es:List Th} {ws:List Str},(∀t∈es,BI n t)->kL E es=ws.map some->∀t∈es,CH n t=true:=λh1 h2 t ht=>let ⟨_,hk⟩:=Xy h2 t ht;Ih hk (h1 t ht)
  cases a0 with
  | call f es ws h hr hf he=>
   subst h hr;refine Cr (Eg (by decide) (by decide) (by decide) (by decide)) λt ht=>?_
   rcases JC.mp ht with rfl|ht
   .exact Dc
   rcases JC.mp ht with rfl|ht
   .exact Dc
   exact all (λt z=>hd t (JE _ (JE _ z))) he t ht
  | new fl h hr hR=>
   subst h hr;refine Cr (Eg (by decide) (by decide) (by decide) (by decide)) λt ht=>?_;simp only[JC,JI,KG]at ht
   rcases ht with rfl|rfl<;>exact Dc
  | get e f k0 fl h hr he hR hf hk=>
   subst h hr;refine Cr (by unfold FX;simp[hw,V8,show ¬(("get":Str)="let")from by decide]) λt ht=>?_;simp only[JC,JI,KG]at ht
   rcases ht with rfl|rfl|rfl
   .exact Dc
   .exact Ih he (hd _ (by simp))
   .exact Dc
  | eq a b k0 h hr ha hb h0 hk=>
   subst h hr;refine Cr (Eg (by decide) (by decide) (by decide) (by decide)) λt ht=>?_;simp only[JC,JI,KG]at ht
   rcases ht with rfl|rfl|rfl
   .exact Dc
   .exact Ih ha (hd _ (by simp))
   .exact Ih hb (hd _ (by simp))
  | oth ws h1 h2 h3 h4 ht hg he=>
   have key:∀p∈takes,p.1∈hw/\p.1≠"get"/\p.1≠"set"/\p.1≠"let":=by decide
   refine Ox (key _ (Er ht)) λI O Y q4=>Cr (Eg I O Y q4) λt ht=>?_
   rcases JC.mp ht with rfl|ht
   .exact Dc
   exact all (λt z=>hd t (JE _ z)) he t ht
def KdR (kks:List (Key×V))(κ:Kd):Prop:=∀x,Bm kks (Sum.inr x)=(κ x).map V.str
structure GU (K:PySem.W.Frag)(C:Addr):Prop where
 cl:Cls K C
 n1:BL K C "records"
 n2:BL K C "functions"
 n3:BL K C "gives"
 n4:BL K C "known"
structure TxT (K:PySem.W.Frag)(w:World)(mg:Str->Option Value)(aT aR:Addr)(fT:Str->Addr):Prop where
 GY:mg "TAKES"=some (.ref aT)
 takes:FN K w aT (T.takes.map λp=>(p.1,V.ref (fT p.1)))
 tk:∀p∈T.takes,∀H,BW K H (fT p.1) (p.2.map V.str)
 GP:mg "RESULTS"=some (.ref aR)
 ress:FN K w aR (T.gives.map λp=>(p.1,V.str p.2))
 no1:∀op∈hw,T.takes.lookup op=none->PySem.W.nsIn K aT op=some none
 no2:∀op∈hw,T.gives.lookup op=none->PySem.W.nsIn K aR op=some none
structure Lk (C:Addr)(H:Hp)(o r fn kn:Addr)(s:SE):Prop where
 ob:∃dx fs,H o=some (.ins C dx fs)/\fs.lookup ("records":Str)=some (V.ref r)/\fs.lookup ("functions":Str)=some (V.ref fn)/\fs.lookup ("gives":Str)=some (V.str s.g)/\fs.lookup ("known":Str)=some (V.ref kn)
 rcd:∃kr,H r=some (.dK kr)/\(∀n fl,s.R n=some fl->∃t,Bm kr (Sum.inr n)=some (.ref t)/\H t=some (.tup (fl.map V.str)))/\∀n,s.R n=none->Bm kr (Sum.inr n)=none
 fnd:∃kf,H fn=some (.dK kf)/\(∀f ks k,s.F f=some (ks,k)->∃v g,Bm kf (Sum.inr f)=some v/\AS H v (Fc g)/\g.fh.ks=ks/\g.fh.k=k/\g.fh.ps.length=ks.length/\ks.length<=4)/\∀f,s.F f=none->Bm kf (Sum.inr f)=none
theorem Lk.AE (h:Lk C H o r fn kn s)(t:EG H H')(s1:∀dx fs,H o=some (.ins C dx fs)->H' o=some (.ins C dx fs))(s2:∀kr,H r=some (.dK kr)->H' r=some (.dK kr))(s3:∀kr,H fn=some (.dK kr)->H' fn=some (.dK kr)):Lk C H' o r fn kn s:=by
 obtain⟨⟨dx,fs,e1,I⟩,⟨kr,O,Y,a0⟩,kf,e5,e6,a1⟩:=h;exact⟨(Ck dx fs (s1 _ _ e1) I),(B4 kr (s2 _ O) (λn fl h=>let ⟨t',a,b⟩:=Y n fl h;(Ar t' a (t _ _ b))) a0),kf,s3 _ e5,λf ks k h=>let ⟨v,g,a,b,c⟩:=e6 f ks k h;(Ao v g a (b.mono t) c),a1⟩
theorem Lk.same (h:Lk C H o r fn kn s)(I:AA H H'):Lk C H' o r fn kn s:=h.AE I.AE (λ_ _ e=>I _ _ e) (λ_ e=>I _ _ e) λ_ e=>I _ _ e
noncomputable def Nk (E:CE)(e:Th):Th->Bool
 | .wd f=>(match kE E e with|some k=>(match E.R k with|some fl=>decide (f∈fl)|none=>false)|none=>false)
 | _=>false
section
variable (K:PySem.W.Frag)(C cR:Addr)
def Mt (n:Nat):Sp:=λvs H Q E=>∃o r fn kn s κ kks v kd e,vs=[.ref o,v,.ref kd]/\Lk C H o r fn kn s/\H kd=some (.dK kks)/\KdR kks κ/\AS H v e/\CH n e=true/\(∀k,kE (s.e κ) e=some k->∀H',AA H H'->Q (.str k) H')/\(kE (s.e κ) e=none->∀H',AA H H'->E (.ref cR) none H')
def Wz (n:Nat):Sp:=λvs H Q E=>∃o r fn kn s κ kks v kd l,vs=[.ref o,v,.ref kd]/\Lk C H o r fn kn s/\H kd=some (.dK kks)/\KdR kks κ/\AS H v (.tup l)/\CH n (.tup l)=true/\(∀k,kE (s.e κ) (.tup l)=some k->∀H',AA H H'->Q (.str k) H')/\(kE (s.e κ) (.tup l)=none->∀H',AA H H'->E (.ref cR) none H')
def Ms (n:Nat):Sp:=λvs H Q E=>∃o r fn kn s κ kks a b kd us es,∃ws:List Str,vs=[.ref o,.ref a,.ref b,.ref kd]/\Lk C H o r fn kn s/\H kd=some (.dK kks)/\KdR kks κ/\BW K H a us/\AL H us es/\BW K H b (ws.map V.str)/\(∀e∈es,CH n e=true)/\(kL (s.e κ) es=ws.map some->∀H',AA H H'->Q .BO H')/\(kL (s.e κ) es≠ws.map some->∀H',AA H H'->E (.ref cR) none H')
def Va (n:Nat):Sp:=λvs H Q E=>∃o r fn kn s κ kks v vf kd e tf,vs=[.ref o,v,vf,.ref kd]/\Lk C H o r fn kn s/\H kd=some (.dK kks)/\KdR kks κ/\AS H v e/\AS H vf tf/\CH n e=true/\V8 tf=true/\(Nk (s.e κ) e tf=true->∀H',AA H H'->Q .BO H')/\(Nk (s.e κ) e tf=false->∀H',AA H H'->E (.ref cR) none H')
end
theorem U9 {K:PySem.W.Frag}{H H':Hp}{a:Addr}{xs:List V}(s:AA H H')(h:BW K H a xs):BW K H' a xs:=DO.same (b:=false) s h
theorem Ak8 (E:CE):∀(l:List Th) (i:Nat),(kL E l)[i]?=l[i]?.map (kE E):=λl=>by
 induction l with
 | nil=>intro i;rw[Cw];simp
 | cons x r I=>
  intro i;rw[Bf]
  cases i with
  | zero=>rfl
  | succ i=>exact I i
theorem Rx (E:CE):∀l:List Th,(kL E l).length=l.length
 | []=>by rw[Cw];rfl
 | x::r=>by rw[Bf,JR,JR,Rx E r]
theorem kL_eq {E:CE}{es:List Th}{ws:List Str}(hl:es.length=ws.length)(h:∀(i:Nat) (e:Th) (q:Str),es[i]?=some e->ws[i]?=some q->kE E e=some q):kL E es=ws.map some:=by
 refine List.ext_getElem? λi=>?_;rw[Ak8,KH]
 cases e1:es[i]? with
 | none=>
  have:ws[i]?=none:=by rw[ON]at e1 ⊢;omega
  rw[this];rfl
 | some e=>
  have O:i<es.length:=(List.getElem?_eq_some_iff.mp e1).1;have I:ws[i]?=some ws[i]:=KN (by omega);rw[I];exact LB some (h i e _ e1 I)
section
variable {P:Program}{w:World}{K:PySem.W.Frag}{mg:Str->Option Value}{base:Heap}{t1 t2 t3 t4:Tok}{C aT aR cR:Addr}{fT:Str->Addr}
theorem P4:AD ["look","e","kinds"] ["look","e","kinds"] (Aq J7):=FS
theorem Qn (hm:2<=m)(F:BE K "kind_looked" "kind_looked" J7 f fd)(T:BH K mg)(a0:AU P w K mg base 1 "want" ["so","why"] (Eo cR))(a3:AQ P w K mg base 2 "is_of_language" ["thing"] Ym)
  (a2:AU P w K mg base m "kind_of_parts" ["look","e","kinds"] (Wz C cR n)):AI P w K mg base (DP P w) (m+1) f fd ["look","e","kinds"] (Mt C cR n):=by
 refine F.DM P4 λcdv A outer s H vs Q E hr h=>?_
 .refine Dp h λo r fn kn se κ O=>?_;refine F3 O λkks v kd e z2 lk CK hκ hi z3=>?_;refine Bu z3 λhd k1 k2=>?_;subst z2;refine Ae (Ag (Bz (Ho (Bl B7 rfl T.AH Cp (AJ (qv 1) (Dq (v:=.ty "tuple") rfl T.BR NO rfl)))) (Al (Aw (CD a2 (B2 Av rfl) hr (AO (qv 0) (qv 1) (qv 2))))) Be) (Ag (Bz (Ho (Bl B7 rfl T.AH Cp (AJ (qv 1) (Dq (v:=.ty "str") rfl T.FK boot_str rfl)))) (Ag (Bz (Tt Ic (qv 1) (Ai (AJ Ad Ad)) (by with_unfolding_all rfl)) (Al (Aw Ad)) Be) (Ag (Ax (CD a0 (B2 Av rfl) hr (AJ (Le (Dn hr) (qv 1) (qv 2)) Ad))) (Al (Aw (BP hr (qv 2) (qv 1)))))) Be) (Ag (Ax (CD a0 (B2 Av rfl) hr (AJ (qf a3 hr (AT (qv 1))) Ad))) (Al (Aw Ad))))) ?_
  cases e with
  | num i=>
   cases(show v=.int i from hi);refine Ae rfl (D6 rfl (.int _) rfl (Ae rfl (Ae rfl (D6 rfl (.int _) rfl (Ae rfl (Ae rfl (Ao (.int i) (.num i) rfl rfl (Au rfl (λh=>?_) λh=>?_))))))))
   .have h':=JL h;exact k1 "number" (by rw[kE,JN h']) H (AA.refl H)
   .have h':=LW h;exact k2 (by rw[kE,JP h']) H (AA.refl H)
  | wd x=>
   cases(show v=.str x from hi);refine Ae rfl (D6 rfl (.str _) rfl (Ae rfl (Ae rfl (D6 rfl (.str _) rfl (Ae rfl ?_)))));refine B0 rfl (zl 2) λp I=>(Jp p _ rfl (.inr (.inl (.inl Aj))) rfl rfl (Ae rfl (Bw (λh=>?_) (λh=>?_))))
   .have h':GZ (V.str x) [V.str "yes",V.str "no"]=true:=h;rw[Xz]at h';have h2:x="yes"\/x="no":=by simpa using h'
    exact k1 "truth" (by rw[kE,JN h2]) _ ((AA.refl H).upd I)
   .have h2:¬(x="yes"\/x="no"):=λz=>h (by
     show GZ (V.str x) [V.str "yes",V.str "no"]=true
     rw[Xz]
     simpa using z)
    have kp:kE (se.e κ) (.wd x)=κ x:=by rw[kE,JP h2];rfl
    have Y:upd H p (.tup [.str "yes",.str "no"]) kd=some (.dK kks):=by rw[Ak (Ah CK I)];exact CK
    refine Ae rfl (Ae rfl (Ao kd _ rfl (AK.k (k:=Sum.inr x) Y) (Au rfl (λh3=>?_) λh3=>?_)))
    .rw [hκ x]at h3
     cases e:κ x with
     | none=>rw[e]at h3;cases h3
     | some k=>
      have e':Bm kks (Sum.inr x)=some (V.str k):=by rw[hκ x,e];rfl
      exact Ae rfl (Ae rfl (Ao kd (.str k) rfl (e'▸AK.k (k:=Sum.inr x) Y) (k1 k (kp.trans e) _ ((AA.refl H).upd I))))
    .rw [hκ x]at h3
     cases e:κ x with
     | none=>exact k2 (kp.trans e) _ ((AA.refl H).upd I)
     | some k=>rw[e]at h3;cases h3
  | tup l=>
   have a1:=hi;refine A0 a1 λa us O hu _=>?_;subst O;refine Ae rfl (D6 rfl (.tup hu) rfl (Ae rfl (Ae rfl (Ae rfl (Ae rfl (Ct o r fn kn se κ (Ch kks _ kd l rfl lk CK hκ hi (Bc hd k1 k2))))))))
theorem CN:AD ["look","parts","wanted","kinds","part","kind"] ["look","parts","wanted","kinds"] (Aq Io):=FS
theorem Na (hm:1<=m)(F:BE K "look_at_parts" "look_at_parts" Io f fd)(T:BH K mg)(a2:AU P w K mg base 1 "want" ["so","why"] (Eo cR))(a5:AU P w K mg base m "kind_looked" ["look","e","kinds"] (Mt C cR n)):AI P w K mg base (DP P w) (m+1) f fd ["look","parts","wanted","kinds"] (Ms K C cR n):=by
 refine F.DM CN λcdv A outer s H vs Q E hr h=>?_
 .refine Dp h λo r fn kn se κ z1=>?_;refine Dp z1 λkks a b kd us es z2=>?_;refine dd15 z2 λws z3 lk CK hκ ha z4=>?_;refine Ii z4 λa1 hb hd k1 k2=>?_;subst z3;have nd:=CN.nd;have len:=a1.len;refine Ae (Ag (Ax (CD a2 (B2 Av rfl) hr (AJ (GC B9 (Ey T.AY (qv 1)) (Ey T.AY (qv 2))) Ad))) (Al (Ei OF rfl (Yr (b:=false) (c:=false) rfl T.n_zip (AJ (qv 1) (qv 2))) (Xg rfl (Ia (HE 4 nd) (Ia (HE 5 nd) Tx))) (Al (Ax (CD a2 (B2 Av rfl) hr (AJ (GC B9 (CD a5 (B2 Av rfl) hr (AO (qv 0) (qv 4) (qv 3))) (qv 5)) Ad))))))) (Ae rfl (Ao a us rfl (.inr ha) (Ae rfl (Cj b _ rfl (.inr hb) rfl (Au rfl (λh1=>?_) λh1=>k2 (λz=>?_) H (AA.refl H))))))
  .have g1:es.length=ws.length:=by
    have:=V.int.inj (JL h1);simp at this;omega
   refine Ae rfl (Ae rfl (Cj a b rfl ⟨_,ha⟩ ⟨_,hb⟩ (V6 (xs:=us) (ys:=ws.map V.str) (λi σ H'=>(∃o1 o2,σ=[some (.ref o),some (.ref a),some (.ref b),some (.ref kd),o1,o2])/\AA H H'/\∀(j:Nat) (e:Th) (q:Str),j<i->es[j]?=some e->ws[j]?=some q->kE (se.e κ) e=some q) (Bc (L7 rfl) (AA.refl H) λj _ _ hj=>absurd hj (OB j)) ?_ (by rw[len,g1,JB]) ?_ ?_)))
   .rintro i σ H' _ ⟨_,I,_⟩;exact⟨U9 I ha,U9 I hb⟩
   .rintro i x y σ H' tp hx hy ⟨⟨o1,o2,rfl⟩,I,Y⟩ a4;refine Am (a1.get hx) λe he ie=>?_;rw[KH]at hy;refine Am (Option.map_eq_some_iff.mp hy) λq hq z1=>?_;subst z1;have O:AA H (upd H' tp (.tup [x,.str q])):=I.upd a4
    have a0:kE (se.e κ) e≠some q->kL (se.e κ) es≠ws.map some:=λh z=>h (by
     have:(kL (se.e κ) es)[i]?=(ws.map some)[i]?:=by rw[z]
     rw[Ak8,he,KH,hq]at this
     exact KR this)
    refine Cj tp _ rfl (BW.of Aj) rfl (Al1 rfl (Au rfl rfl ?_));refine Ae rfl (Ae rfl (Ae rfl (Ct o r fn kn se κ (Ch kks x kd e rfl (lk.same O) (O _ _ CK) hκ (ie.mono O.AE) (Bc (hd e (JU he)) (λk hk H1 s1=>(B0 rfl rfl (Au rfl (λh2=>?_) λh2=>k2 (a0 ?_) H1 (O.trans s1)))) λhk H1 s1=>k2 (a0 (by rw[hk];simp)) H1 (O.trans s1))))))
    .rw [Je]at h2;have e2:=JL h2;refine Bc (L7 rfl) (O.trans s1) λj e' q' hj h1 h3=>?_
     rcases Nat.lt_or_ge j i with h|h
     .exact Y j e' q' h h1 h3
     .have:j=i:=by omega
      subst this;rw[he]at h1;rw[hq]at h3;cases h1;cases h3;rw[hk,e2]
    .rw [Je]at h2;rw[hk];exact λz=>LW h2 (KR z)
   .rintro σ H' ⟨⟨o1,o2,rfl⟩,I,Y⟩;exact k1 (kL_eq g1 λi e q h1 h2=>Y i e q (by have:=(List.getElem?_eq_some_iff.mp h1).1;omega) h1 h2) H' I
  .have:=LB List.length z;rw[Rx,JB]at this;have a3:=LW h1;exact a3 (by rw[JB,len,this])
theorem CO:AD ["look","e","field","kinds","record"] ["look","e","field","kinds"] (Aq Iq):=FS
theorem Nb (hm:1<=m)(F:BE K "look_at_field" "look_at_field" Iq f fd)(LT:GU K C)(a6:AU P w K mg base 1 "want" ["so","why"] (Eo cR))(a7:AU P w K mg base m "kind_looked" ["look","e","kinds"] (Mt C cR n)):AI P w K mg base (DP P w) (m+1) f fd ["look","e","field","kinds"] (Va C cR n):=by
 refine F.DM CO λcdv A outer s H vs Q E hr h=>?_
 .refine Dp h λo r fn kn se κ z1=>?_;refine Wd z1 λkks v vf kd e tf z2 lk CK hκ hi z3=>?_;refine Ii z3 λa0 hd a2 k1 k2=>?_;subst z2;have nd:=CO.nd;have a5:kE (se.e κ) e=none->Nk (se.e κ) e tf=false:=λh=>by
   cases tf<;>simp[Nk,h]
  refine Ae (Ag (Bd 4 nd (CD a7 (B2 Av rfl) hr (AO (qv 0) (qv 1) (qv 3)))) (Al (Ax (CD a6 (B2 Av rfl) hr (AJ (Dl (Le (Dn hr) (qv 4) (Ka (qv 0) rfl)) (Dz (Iy Ic (qv 2) (BP hr (Ka (qv 0) rfl) (qv 4)) (by with_unfolding_all rfl)))) Ad))))) (Ae rfl (Ae rfl (Ae rfl (Ct o r fn kn se κ (Ch kks v kd e rfl lk CK hκ hi (Bc hd (λkk hk H1 s1=>?_) λhk H1 s1=>k2 (a5 hk) H1 s1))))));obtain⟨⟨dx,fs,e1,I,f2,f3,f4⟩,⟨kr,e3,e4,a1⟩,kf,e5,e6,a8⟩:=lk.same s1
  cases hR:se.R kk with
  | none=>
   have hg:AK H1 r (.str kk) none:=by rw[← a1 kk hR];exact AK.k (k:=Sum.inr kk) e3
   have O:(se.e κ).R kk=none:=hR;have:Nk (se.e κ) e tf=false:=by cases tf<;>simp[Nk,hk,O]
   exact Ae rfl (Ae rfl (Ff o C dx fs _ rfl e1 LT.cl LT.n1 I (Ao r _ rfl hg (Ae rfl (G6 (Au rfl (λz=>(nomatch z)) λ_=>k2 this H1 s1))))))
  | some fl=>
   refine Am (e4 kk fl hR) λt a3 a4=>?_;have hg:AK H1 r (.str kk) (some (.ref t)):=by rw[← a3];exact AK.k (k:=Sum.inr kk) e3
   have Y:Kk vf=true/\GZ vf (fl.map V.str)=Nk (se.e κ) e tf:=by
    cases tf with
    | num i=>
     cases(show vf=.int i from a0);refine⟨rfl,?_⟩;simp[Nk,GZ,eqV]
    | wd x=>
     cases(show vf=.str x from a0);refine⟨rfl,?_⟩;have O:(se.e κ).R kk=some fl:=hR;rw[Gx];simp[Nk,hk,O]
    | tup l=>cases a2
   refine Ae rfl (Ae rfl (Ff o C dx fs _ rfl e1 LT.cl LT.n1 I (Ao r _ rfl hg (Ae rfl (Ht (Ae rfl (Ae rfl (Ff o C dx fs _ rfl e1 LT.cl LT.n1 I (Ae rfl (Ao r _ rfl hg (Jp t _ rfl (.inr (.inl (.inl a4))) Y.1 (R1 _) (Au rfl (λh=>k1 ?_ H1 s1) λh=>k2 ?_ H1 s1))))))))))))
   .rw [← Y.2];exact h
   .rw [← Y.2];exact h
end
theorem Al9 (I:ps.length=ks.length):alt (((Cf ps ks).map V.str).drop (HT.BA ((Cf ps ks).map V.str).length 0 (some 1)))=ks.map V.str:=by
 rw[show(some 1:Option Int)=some ((1:Nat):Int)from rfl,HT.BX]
 rcases Nat.le_total 1 ((Cf ps ks).map V.str).length with h|h
 .rw [MV h];exact Eu I
 .rw [OM h,← Eu I,LV (JG _),LV h]
theorem lenI {us:List V}{k:Int}(c:decide (V.int (us.length:Int)=V.int k)=true):(us.length:Int)=k:=V.int.inj (JL c)
theorem Aj8 {α:Type}:∀{l:List α},l.length=2->∃a b,l=[a,b]
 | [a,b],_=>(Ki a b rfl)
section
theorem kEc:kE E (.tup (.wd "call"::.wd f::es))=(match E.F f with|some (ws,k)=>if kL E es=ws.map some then some k else none|none=>none):=by
 rw[Ej,Bf];unfold HG;rw[JN rfl]<;>rfl
theorem kEc0:kE E (.tup [.wd "call"])=none:=by
 rw[Ej];unfold HG;rw[JN rfl]
theorem kEc1 (h:∀f,x≠.wd f):kE E (.tup (.wd "call"::x::es))=none:=by
 rw[Ej,Bf];unfold HG;rw[JN rfl]
 cases x with
 | wd f=>exact absurd rfl (h f)
 | num n=>rfl
 | tup l=>rfl
theorem kEn:kE E (.tup (.wd "new"::r))=(match r with|[.wd n]=>(match E.R n with|some _=>some n|none=>none)|_=>none):=by
 rw[Ej];unfold HG;rw[AN,JN rfl]<;>rfl
theorem kEg0 (h:r.length≠2):kE E (.tup (.wd "get"::r))=none:=by
 rw[Ej];unfold HG;rw[AN,AN,JN rfl]
 match r,h with
 | [],_=>rfl
 | [_],_=>rfl
 | [_,_],h=>exact absurd rfl h
 | _::b::_::_,_=>cases b<;>rfl
theorem kEg:kE E (.tup [.wd "get",e,tf])=if Nk E e tf=true then some ("number":Str)else none:=by
 rw[Ej,Bf,Bf,Cw];unfold HG;rw[AN,AN,JN rfl]
 cases tf with
 | num n=>rfl
 | tup l=>rfl
 | wd f=>
  unfold Nk
  cases kE E e with
  | none=>rfl
  | some k=>
   show(match E.R k with|some fl=>if f∈fl then some ("number":Str)else none|none=>none)=if(match E.R k with|some fl=>decide (f∈fl)|none=>false)=true then some ("number":Str)else none
   cases E.R k with
   | none=>rfl
   | some fl=>
    show(if f∈fl then some ("number":Str)else none)=if decide (f∈fl)=true then some ("number":Str)else none
    by_cases h:f∈fl<;>simp[h]
theorem kEq0 (h:r.length≠2):kE E (.tup (.wd "="::r))=none:=by
 rw[Ej];unfold HG;rw[AN,AN,AN,JN rfl]
 match r,h with
 | [],_=>rw[Cw]
 | [a],_=>rw[Bf,Cw];cases kE E a<;>rfl
 | [_,_],h=>exact absurd rfl h
 | a::b::c::r,_=>rw[Bf,Bf,Bf];cases kE E a<;>rfl
theorem kEq:kE E (.tup [.wd "=",a,b])=(match kE E a with|some k=>if(k="number"\/k="truth")/\kE E b=some k then some ("truth":Str)else none|none=>none):=by
 rw[Ej,Bf,Bf,Cw];unfold HG;rw[AN,AN,AN,JN rfl];cases kE E a<;>rfl
theorem kEo {op:Str}{r:List Th}(n1:op≠"call")(n2:op≠"new")(n3:op≠"get")(n4:op≠"="):kE E (.tup (.wd op::r))=(match takes.lookup op,gives.lookup op with|some ws,some k=>if kL E r=ws.map some then some k else none|_,_=>none):=by
 rw[Ej];unfold HG;rw[JP n1,JP n2,JP n3,JP n4]<;>rfl
end
section
variable {P:Program}{w:World}{K:PySem.W.Frag}{mg:Str->Option Value}{base:Heap}{t1 t2 t3 t4:Tok}{C aT aR cR:Addr}{fT:Str->Addr}
theorem CU:AD ["look","e","kinds","fun","first"] ["look","e","kinds"] (Aq Iv):=FS
theorem Nc (hm:1<=m)(F:BE K "kind_of_parts" "kind_of_parts" Iv f fd)(T:BH K mg)(TT:TxT K w mg aT aR fT)(LT:GU K C)(a8:AU P w K mg base 1 "want" ["so","why"] (Eo cR))
  (ae:AU P w K mg base m "kind_looked" ["look","e","kinds"] (Mt C cR n))(aI:AU P w K mg base m "look_at_parts" ["look","parts","wanted","kinds"] (Ms K C cR n))(ag:AU P w K mg base m "look_at_field" ["look","e","field","kinds"] (Va C cR n)):AI P w K mg base (DP P w) (m+1) f fd ["look","e","kinds"] (Wz C cR (n+1)):=by
 refine F.DM CU λcdv A outer s H vs Q E hr h=>?_
 .refine Dp h λo r fn kn se κ O=>?_;refine F3 O λkks v kd l z2 lk CK hκ hi z3=>?_;refine Bu z3 λhd k1 k2=>?_;subst z2;have nd:=CU.nd;have ai:(2000000:Nat)<=sizeLine:=by rw[KU];omega
  obtain⟨AR,a9⟩:=Ft hd;have I:=AA.refl H;refine Ae (Ag (Ax (CD a8 (B2 Av rfl) hr (AJ (Dl (GC F1 (Ey T.AY (qv 1)) Af) (Dz (Bl B7 rfl T.AH Cp (AJ (BY (qv 1) Af) (Dq (v:=.ty "str") rfl T.FK boot_str rfl))))) Ad))) (Ag (Bz (By B9 (BY (qv 1) Af) Ad) (Ag (Ax (CD a8 (B2 Av rfl) hr (AJ (Dl (GC op_ge (Ey T.AY (qv 1)) Af) (Dl (Bl B7 rfl T.AH Cp (AJ (BY (qv 1) Af) (Dq (v:=.ty "str") rfl T.FK boot_str rfl))) (Dz (Le (Dn hr) (BY (qv 1) Af) (Ka (qv 0) rfl))))) Ad))) (Ag (Bd 3 nd (BP hr (Ka (qv 0) rfl) (BY (qv 1) Af))) (Ag (Ax (CD aI (B2 Av rfl) hr (BF (qv 0) (Cd E6 (qv 1) (Ca Af) Cm) (Ev (BY (qv 3) Af) (Ca Af)) (qv 2)))) (Al (Aw (BY (qv 3) Af)))))) Be) (Ag (Bz (By B9 (BY (qv 1) Af) Ad) (Ag (Ax (CD a8 (B2 Av rfl) hr (AJ (Dl (GC B9 (Ey T.AY (qv 1)) Af) (Dl (Bl B7 rfl T.AH Cp (AJ (BY (qv 1) Af) (Dq (v:=.ty "str") rfl T.FK boot_str rfl))) (Dz (Le (Dn hr) (BY (qv 1) Af) (Ka (qv 0) rfl))))) Ad))) (Al (Aw (BY (qv 1) Af)))) Be) (Ag (Bz (By B9 (BY (qv 1) Af) Ad) (Ag (Ax (CD a8 (B2 Av rfl) hr (AJ (GC B9 (Ey T.AY (qv 1)) Af) Ad))) (Al (Ax (CD ag (B2 Av rfl) hr (BF (qv 0) (BY (qv 1) Af) (BY (qv 1) Af) (qv 2)))))) (Al (Bz (By B9 (BY (qv 1) Af) Ad) (Ag (Ax (CD a8 (B2 Av rfl) hr (AJ (GC B9 (Ey T.AY (qv 1)) Af) Ad))) (Ag (Bd 4 nd (CD ae (B2 Av rfl) hr (AO (qv 0) (BY (qv 1) Af) (qv 2)))) (Ag (Ax (CD a8 (B2 Av rfl) hr (AJ (Iy Ic (qv 4) (Ai (AJ Ad Ad)) (by with_unfolding_all rfl)) Ad))) (Al (Ax (CD aI (B2 Av rfl) hr (BF (qv 0) (Cd E6 (qv 1) (Ca Af) Cm) (Ai (AT (qv 4))) (qv 2)))))))) (Ag (Ax (CD a8 (B2 Av rfl) hr (AJ (Dl (Ty TT.takes rfl TT.GY (BY (qv 1) Af)) (Dz (Ty TT.ress rfl TT.GP (BY (qv 1) Af)))) Ad))) (Al (Ax (CD aI (B2 Av rfl) hr (BF (qv 0) (Cd E6 (qv 1) (Ca Af) Cm) (Ls TT.takes rfl TT.GY (BY (qv 1) Af) (λ_ _=>rfl)) (qv 2))))))))) (Al (Aw (Ls TT.ress rfl TT.GP (BY (qv 1) Af) (λ_ _=>rfl)))))))) ?_;refine A0 hi λa us O hu aK=>?_;subst O;have sq:∀{H'},AA H H'->BW K H' a us:=λs'=>.inl (.inl (s' _ _ hu));have a2:kE (se.e κ) (.tup l)=none->∀{b:Bool} {x:Str} {G:Prop},b=false->(∃(b':Bool) (x':Str),[V.bl b,V.str x]=[V.bl b',V.str x']/\(b'=true->G)/\(b'=false->E (.ref cR) none H)):=λh b x G hb=>(Ao b x rfl (λz=>Bool.noConfusion (hb.symm.trans z)) λ_=>k2 h H I)
  cases l with
  | nil=>
   cases(show us=[] from aK);refine Ae rfl (Ao a _ rfl (.inr (sq I)) (Au rfl rfl (Ae rfl (Bw (λc=>absurd c (by decide)) (λ_=>a2 (by rw[kE]) rfl)))))
  | cons aW rs=>
  refine A0 aK λv0 vr O h0 a4=>?_;subst O;refine Ae rfl (Ao a _ rfl (.inr (sq I)) (Au rfl rfl (Ae rfl (Bw (λ_=>?_) (λc=>absurd (JO (by simp)) c)))));have Y:EL (v0::vr) 0=some v0:=Bg (j:=0) rfl
  cases aW with
  | num i=>
   cases(show v0=.int i from h0);exact Ae rfl (Bo _ _ 0 _ rfl rfl (sq I) Y (D6 rfl (.int _) rfl (a2 (by rw[kE]) rfl)))
  | tup l0=>
   refine A0 h0 λa0 aN O aB _=>?_;subst O;exact Ae rfl (Bo _ _ 0 _ rfl rfl (sq I) Y (D6 rfl (.tup aB) rfl (a2 (by rw[kE]) rfl)))
  | wd op=>
  cases(show v0=.str op from h0);obtain⟨⟨dx,fs,e1,f1,f2,f3,f4⟩,⟨kr,e3,e4,aQ⟩,kf,e5,e6,aU⟩:=id lk;have len:=a4.len;refine Ae rfl (Bo _ _ 0 _ rfl rfl (sq I) Y (D6 rfl (.str _) rfl (Au rfl (λ_=>?_) λz=>(nomatch z))));by_cases c1:op="call"
  .subst c1;refine Ae rfl (Ch _ _ 0 _ rfl rfl (sq I) Y rfl (Ae rfl (Bw (λ_=>?_) (λc=>absurd (JO rfl) c))))
   cases rs with
   | nil=>
    cases(show vr=[] from a4);refine Ae rfl (Ao a _ rfl (.inr (sq I)) (Au rfl rfl (Ae rfl (Bw (λc=>absurd c (by decide)) (λ_=>a2 kEc0 rfl)))))
   | cons x es=>
   refine A0 a4 λv1 a6 O h1 a7=>?_;subst O;have a1:EL (V.str "call"::v1::a6) 1=some v1:=Bg (j:=1) rfl;refine Ae rfl (Ao a _ rfl (.inr (sq I)) (Au rfl rfl (Ae rfl (Bw (λ_=>?_) (λc=>absurd (JO (by simp;omega)) c)))))
   cases x with
   | num i=>
    cases(show v1=.int i from h1);exact Ae rfl (Bo _ _ 1 _ rfl rfl (sq I) a1 (D6 rfl (.int _) rfl (Ae rfl (G6 (a2 (kEc1 (by simp)) rfl)))))
   | tup l0=>
    refine A0 h1 λa0 aN O aB _=>?_;subst O;exact Ae rfl (Bo _ _ 1 _ rfl rfl (sq I) a1 (D6 rfl (.tup aB) rfl (Ae rfl (G6 (a2 (kEc1 (by simp)) rfl)))))
   | wd a3=>
   cases(show v1=.str a3 from h1);refine Ae rfl (Bo _ _ 1 _ rfl rfl (sq I) a1 (D6 rfl (.str _) rfl (Ae rfl (Ht ?_))))
   cases hf:se.F a3 with
   | none=>
    have hg:AK H fn (.str a3) none:=by rw[← aU a3 hf];exact AK.k (k:=Sum.inr a3) e5
    have aE:(se.e κ).F a3=none:=hf;exact Ae rfl (Bo _ _ 1 _ rfl rfl (sq I) a1 (Ae rfl (Ff o C dx fs _ rfl e1 LT.cl LT.n2 f2 (Ao fn _ rfl hg (a2 (by rw[kEc,aE]) rfl)))))
   | some q=>
   obtain⟨ws,kk⟩:=q;have aE:(se.e κ).F a3=some (ws,kk):=hf;refine Mg (e6 a3 ws kk hf) λfv g g1 g2 g3 g4 g5 g6=>?_;have hg:AK H fn (.str a3) (some fv):=by rw[← g1];exact AK.k (k:=Sum.inr a3) e5
   refine Jf (Jd g2) λfa fb ah O aG aX al=>?_;subst O;rw[g4]at aG;refine Ae rfl (Bo _ _ 1 _ rfl rfl (sq I) a1 (Ae rfl (Ff o C dx fs _ rfl e1 LT.cl LT.n2 f2 (Ao fn _ rfl hg (Au rfl (λ_=>(Ae rfl (Ff o C dx fs _ rfl e1 LT.cl LT.n2 f2 (Ae rfl (Bo _ _ 1 _ rfl rfl (sq I) a1 (Ao fn _ rfl hg (Ae rfl (Ae rfl (Ar 2 rfl (Cj a _ rfl (sq I) (Fq (n:=2) (by decide) (by simp)) λp hp=>?_)))))))))) λz=>(nomatch z))))));rw[show Ec (V.str "call"::V.str a3::a6) (some 2) none=a6 from D9 _ 2];generalize z:upd H p _=H1;obtain⟨s1,q1⟩:=B8 hp z;refine Ae rfl (Bo _ _ 2 _ rfl rfl (.inl (.inl (s1 _ _ aG))) (Bg (j:=2) rfl) (Ae rfl (Ao fb _ rfl (.inl (.inl (s1 _ _ aX))) λp2 aY=>?_)));rw[Al9 (by rw[g3];exact g5),g3];generalize z:upd H1 p2 _=H2;obtain⟨s2,q2⟩:=B8 aY z;have a5:=s1.trans s2;refine Ae rfl (Ct o r fn kn se κ (Ct kks p p2 kd a6 es (Nj ws rfl (lk.same a5) (a5 _ _ CK) hκ (.inl (.inl (s2 _ _ q1))) (Du (a7.mono a5.AE) (.inl (.inl q2)) (λe aA=>a9 e (JE _ (JE _ aA))) (λhe H3 s3=>?_) λhe H3 s3=>k2 (by rw[kEc,aE];exact JP he) H3 (a5.trans s3)))));have aC:=a5.trans s3;exact Ae rfl (Bo _ _ 3 _ rfl rfl (.inl (.inl (aC _ _ aG))) (Bg (j:=3) rfl) (k1 kk (by rw[kEc,aE];exact JN he) H3 aC))
  refine Ae rfl (Ch _ _ 0 _ rfl rfl (sq I) Y rfl (Ae rfl (Bw (λc=>absurd (seI c) c1) (λ_=>?_))));by_cases c2:op="new"
  .subst c2;refine Ae rfl (Ch _ _ 0 _ rfl rfl (sq I) Y rfl (Ae rfl (Bw (λ_=>(Ae rfl (Cj a _ rfl (.inr (sq I)) rfl (Ae rfl (Bw (λc=>?_) (λc=>?_)))))) (λc=>absurd (JO rfl) c))))
   .obtain⟨x,rfl⟩:∃x,rs=[x]:=List.length_eq_one_iff.mp (by have:=lenI c;simp at this;omega);refine A0 a4 λv1 a6 O h1 a7=>?_;subst O;cases(show a6=[] from a7);have a1:EL [V.str "new",v1] 1=some v1:=Bg (j:=1) rfl
    cases x with
    | num i=>
     cases(show v1=.int i from h1);exact Ae rfl (Bo _ _ 1 _ rfl rfl (sq I) a1 (D6 rfl (.int _) rfl (Ae rfl (G6 (a2 (by rw[kEn]) rfl)))))
    | tup l0=>
     refine A0 h1 λa0 aN O aB _=>?_;subst O;exact Ae rfl (Bo _ _ 1 _ rfl rfl (sq I) a1 (D6 rfl (.tup aB) rfl (Ae rfl (G6 (a2 (by rw[kEn]) rfl)))))
    | wd nm=>
    cases(show v1=.str nm from h1);refine Ae rfl (Bo _ _ 1 _ rfl rfl (sq I) a1 (D6 rfl (.str _) rfl (Ae rfl (Ht ?_))))
    cases hR:se.R nm with
    | none=>
     have aF:(se.e κ).R nm=none:=hR;have hg:AK H r (.str nm) none:=by rw[← aQ nm hR];exact AK.k (k:=Sum.inr nm) e3
     exact Ae rfl (Bo _ _ 1 _ rfl rfl (sq I) a1 (Ae rfl (Ff o C dx fs _ rfl e1 LT.cl LT.n1 f1 (Ao r _ rfl hg (a2 (by rw[kEn];simp only[aF]) rfl)))))
    | some fl=>
     have aF:(se.e κ).R nm=some fl:=hR;refine Am (e4 nm fl hR) λt ac aj=>?_;have hg:AK H r (.str nm) (some (.ref t)):=by rw[← ac];exact AK.k (k:=Sum.inr nm) e3
     refine Ae rfl (Bo _ _ 1 _ rfl rfl (sq I) a1 (Ae rfl (Ff o C dx fs _ rfl e1 LT.cl LT.n1 f1 (Ao r _ rfl hg (Au rfl (λ_=>?_) λz=>(nomatch z))))));exact Ae rfl (Bo _ _ 1 _ rfl rfl (sq I) a1 (k1 nm (by rw[kEn];simp only[aF]) H I))
   .refine a2 ?_ (by simpa using c);rw[kEn]
    match rs,a4,len,c with
    | [],_,_,_=>rfl
    | [x],_,len,c=>exact absurd (JO (by rw[JR,len];rfl)) c
    | a::_::_,_,_,_=>cases a<;>rfl
  refine Ae rfl (Ch _ _ 0 _ rfl rfl (sq I) Y rfl (Ae rfl (Bw (λc=>absurd (seI c) c2) (λ_=>?_))));by_cases c3:op="get"
  .subst c3;refine Ae rfl (Ch _ _ 0 _ rfl rfl (sq I) Y rfl (Ae rfl (Bw (λ_=>(Ae rfl (Cj a _ rfl (.inr (sq I)) rfl (Au rfl (λc=>?_) λc=>k2 (kEg0 λz=>?_) H I)))) (λc=>absurd (JO rfl) c))))
   .refine Gi (show ∃e tf,rs=[e,tf] from Aj8 (by have:=lenI c;simp at this;omega)) λe tf O=>?_;subst O;refine A0 a4 λv1 a6 O h1 z2=>?_;refine A0 z2 λv2 aH z3 h2 a7=>?_;subst O z3;cases(show aH=[] from a7);have a1:EL [V.str "get",v1,v2] 1=some v1:=Bg (j:=1) rfl;have aP:EL [V.str "get",v1,v2] 2=some v2:=Bg (j:=2) rfl;refine Ae rfl (Ae rfl (Bo _ _ 1 _ rfl rfl (sq I) a1 (Ae rfl (Bo _ _ 2 _ rfl rfl (sq I) aP (Ae rfl (Ct o r fn kn se κ (Hu kks v1 v2 kd e tf rfl lk CK hκ h1 (Du h2 (a9 e (by simp)) (Y0 AR (.inl rfl)) (λhf H1 s1=>?_) λhf H1 s1=>k2 (by rw[kEg,hf];rfl) H1 s1))))))));exact Ae rfl (Bo _ _ 0 _ rfl rfl (sq s1) Y (Ao "get" (.str "number") rfl (by decide) (k1 "number" (by rw[kEg,hf];rfl) H1 s1)))
   .exact LW c (by rw[JR,len,z];rfl)
  refine Ae rfl (Ch _ _ 0 _ rfl rfl (sq I) Y rfl (Ae rfl (Bw (λc=>absurd (seI c) c3) (λ_=>?_))));by_cases c4:op="="
  .subst c4;refine Ae rfl (Ch _ _ 0 _ rfl rfl (sq I) Y rfl (Ae rfl (Bw (λ_=>(Ae rfl (Cj a _ rfl (.inr (sq I)) rfl (Au rfl (λc=>?_) λc=>k2 (kEq0 λz=>?_) H I)))) (λc=>absurd (JO rfl) c))))
   .refine Gi (show ∃e tf,rs=[e,tf] from Aj8 (by have:=lenI c;simp at this;omega)) λea eb O=>?_;subst O;refine A0 a4 λv1 a6 O h1 z2=>?_;refine A0 z2 λv2 aH z3 h2 a7=>?_;subst O z3;cases(show aH=[] from a7);have a1:EL [V.str "=",v1,v2] 1=some v1:=Bg (j:=1) rfl;refine Ae rfl (Ae rfl (Bo _ _ 1 _ rfl rfl (sq I) a1 (Ae rfl (Ct o r fn kn se κ (Ch kks v1 kd ea rfl lk CK hκ h1 (Bc (a9 ea (by simp)) (λk0 ha H1 s1=>?_) λha H1 s1=>k2 (by rw[kEq,ha]) H1 s1))))));have ek:GZ (V.str k0) [V.str "number",V.str "truth"]=decide (k0="number"\/k0="truth"):=by
     rw[show[V.str "number",V.str "truth"]=(["number","truth"]:List Str).map V.str from rfl,Gx];rw[MU];simp
    refine B0 rfl (zl 2) λp hp=>(Jp p _ rfl (.inr (.inl (.inl Aj))) rfl rfl (Au rfl (λh=>?_) λh=>k2 ?_ _ (s1.upd hp)))
    .have h0:k0="number"\/k0="truth":=JL (ek▸h);generalize z:upd H1 p _=H2;obtain⟨s2,q2⟩:=B8 hp z;have a5:=s1.trans s2;refine Ae rfl (Ae rfl (Ar 2 rfl (Cj a _ rfl (sq a5) (Fq (n:=2) (by decide) (by simp)) λp3 aZ=>?_)));rw[show Ec [V.str "=",v1,v2] (some 2) none=[v2] from D9 _ 2];generalize z:upd H2 p3 _=H3;obtain⟨s3,q3⟩:=B8 aZ z;refine B0 rfl (zl 1) λp4 aa=>?_;generalize z:upd H3 p4 _=H4;obtain⟨s4,q4⟩:=B8 aa z;have aD:=a5.trans (s3.trans s4);refine Ae rfl (Ct o r fn kn se κ (Ct kks p3 p4 kd [v2] [eb] (Nj [k0] rfl (lk.same aD) (aD _ _ CK) hκ (.inl (.inl (s4 _ _ q3))) (Du (Ao v2 [] rfl (h2.mono aD.AE) rfl) (.inl (.inl q4)) (λe aA=>a9 e (by rw[JM.mp aA];simp)) (λhb H5 s5=>?_) λhb H5 s5=>k2 ?_ H5 (aD.trans s5)))))
     .have aM:=aD.trans s5;rw[Bf,Cw]at hb;have aV:kE (se.e κ) eb=some k0:=(MS hb).1;exact Ae rfl (Bo _ _ 0 _ rfl rfl (sq aM) Y (Ao "=" (.str "truth") rfl (by decide) (k1 "truth" (by rw[kEq,ha];exact JN ⟨h0,aV⟩) H5 aM)))
     .rw [kEq,ha];refine JP λz=>hb ?_;rw[Bf,Cw,z.2];rfl
    .rw [kEq,ha];exact JP λz=>LW (ek▸h) z.1
   .exact LW c (by rw[JR,len,z];rfl)
  refine Ae rfl (Ch _ _ 0 _ rfl rfl (sq I) Y rfl (Ae rfl (Bw (λc=>absurd (seI c) c4) (λ_=>?_))));have aJ:=Ai9 AR
  cases ht:takes.lookup op with
  | none=>exact Ae rfl (Bo _ _ 0 _ rfl rfl (sq I) Y (Ar op rfl (.inr ⟨TT.no1 op aJ ht,(Ae rfl (G6 (a2 (by rw[kEo c1 c2 c3 c4,ht]) rfl)))⟩)))
  | some ws=>
  have m1:(op,V.ref (fT op))∈takes.map λp=>(p.1,V.ref (fT p.1)):=JT.mpr (Ae (Er ht) rfl);refine Ae rfl (Bo _ _ 0 _ rfl rfl (sq I) Y (Ar op rfl (.inl (Ae m1 (Ae rfl (Ht ?_))))))
  cases hg:gives.lookup op with
  | none=>exact Ae rfl (Bo _ _ 0 _ rfl rfl (sq I) Y (Ar op rfl (.inr ⟨TT.no2 op aJ hg,a2 (by rw[kEo c1 c2 c3 c4,ht,hg]) rfl⟩)))
  | some kk=>
  have m2:(op,V.str kk)∈gives.map λp=>(p.1,V.str p.2):=JT.mpr (Ae (Er hg) rfl);refine Ae rfl (Bo _ _ 0 _ rfl rfl (sq I) Y (Ar op rfl (.inl (Ae m2 (Au rfl (λ_=>(Ae rfl (Ae rfl (Ar 1 rfl (Cj a _ rfl (sq I) (Fq (n:=1) (by decide) (by simp)) λp hp=>?_))))) λz=>(nomatch z))))));rw[show Ec (V.str op::vr) (some 1) none=vr from D9 _ 1];generalize z:upd H p _=H1;obtain⟨s1,q1⟩:=B8 hp z;refine Ae rfl (Bo _ _ 0 _ rfl rfl (sq s1) Y (Ao op _ rfl m1 (Ae rfl (Ct o r fn kn se κ (Ct kks p (fT op) kd vr rs (Nj ws rfl (lk.same s1) (s1 _ _ CK) hκ (.inl (.inl q1)) (Du (a4.mono s1.AE) (TT.tk _ (Er ht) _) (λe aA=>a9 e (JE _ aA)) (λhe H3 s3=>?_) λhe H3 s3=>k2 (by rw[kEo c1 c2 c3 c4,ht,hg];exact JP he) H3 (s1.trans s3))))))));have aC:=s1.trans s3;exact Ae rfl (Bo _ _ 0 _ rfl rfl (sq aC) Y (Ao op _ rfl m2 (k1 kk (by rw[kEo c1 c2 c3 c4,ht,hg];exact JN he) H3 aC)))
end
section
theorem Kt (h:BD s (.tup (.wd "let"::r)) κ kn=some (κ',kn',e)):∃x u k,r=[.wd x,u]/\kE (s.e κ) u=some k/\Da x=true/\x∉kn/\κ'=putK κ x k/\kn'=x::kn/\e=false:=by
 rw[Cl]at h;unfold EZ at h;rw[JN rfl]at h;split at h
 .rename_i x u;split at h
  .rename_i k hk;unfold EW at h;obtain⟨c,h⟩|h:=Db h
   .cases h;rw[JW,NA,MP]at c;exact Kh x u k rfl hk c.1 c.2 rfl ⟨rfl,rfl⟩
   .cases h
  .cases h
 .cases h
theorem Ks (h:BD s (.tup (.wd "put"::r)) κ kn=some (κ',kn',e)):∃x u k,r=[.wd x,u]/\κ x=some k/\kE (s.e κ) u=some k/\κ'=κ/\kn'=kn/\e=false:=by
 rw[Cl]at h;unfold EZ at h;rw[AN,JN rfl]at h;split at h
 .rename_i x u;split at h
  .rename_i k hk;unfold EW at h;obtain⟨c,h⟩|h:=Db h
   .cases h;exact Kh x u k rfl hk (JL c) rfl rfl rfl
   .cases h
  .cases h
 .cases h
theorem F0:∃f,Cu s (t::r)=f::Cu s r/\(∀κ kn x,f κ kn=some x->∃a,t=.tup a/\Cb s a κ kn=some x):=by
 cases t with
 | num i=>rw[Cu];exact Ae rfl λκ kn x h=>by cases h
 | wd i=>rw[Cu];exact Ae rfl λκ kn x h=>by cases h
 | tup a=>rw[Cu];exact Ae rfl λκ kn x h=>(Ar a rfl h)
theorem Pk:Cu s []=[]:=by rw[Cu]
theorem Kg (h:BD s (.tup (.wd "if"::r)) κ kn=some (κ',kn',e)):∃t a b κ1 kn1 e1 κ2 I,r=[t,.tup a,.tup b]/\kE (s.e κ) t=some ("truth":Str)/\Cb s a κ kn=some (κ1,kn1,e1)/\Cb s b κ kn1=some (κ2,kn',I)/\κ'=κ/\e=(e1&&I):=by
 rw[Cl]at h;unfold EZ at h;rw[AN,AN,JN rfl]at h;split at h
 .rename_i t y z f0 fa fb hs;refine Am (F0 (s:=s) (t:=t) (r:=[y,z])) λg0 q0 _=>Am (F0 (s:=s) (t:=y) (r:=[z])) λg1 q1 Y=>Am (F0 (s:=s) (t:=z) (r:=[])) λg2 q2 p2=>?_;rw[q0,q1,q2,Pk]at hs;cases hs;obtain⟨c,h⟩|h:=Db h
  .split at h
   .rename_i x kn1 e1 h1;split at h
    .rename_i x2 kn2 I h2;cases h;refine Am (Y _ _ _ h1) λa O ha=>?_;subst O;refine Am (p2 _ _ _ h2) λb O hb=>?_;subst O;exact Ct t a b _ kn1 e1 (Md _ I rfl c ha hb rfl rfl)
    .cases h
   .cases h
  .cases h
 .cases h
theorem Fs (h:BD s (.tup (.wd "while"::r)) κ kn=some (κ',kn',e)):∃t a κ1 e1,r=[t,.tup a]/\kE (s.e κ) t=some ("truth":Str)/\Cb s a κ kn=some (κ1,kn',e1)/\κ'=κ/\e=false:=by
 rw[Cl]at h;unfold EZ at h;rw[AN,AN,AN,JN rfl]at h;split at h
 .rename_i t y f0 fa hs;refine Am (F0 (s:=s) (t:=t) (r:=[y])) λg0 O _=>Am (F0 (s:=s) (t:=y) (r:=[])) λg1 Y I=>?_;rw[O,Y,Pk]at hs;cases hs;obtain⟨c,h⟩|h:=Db h
  .split at h
   .rename_i x kn1 e1 h1;cases h;refine Am (I _ _ _ h1) λa z1 ha=>?_;subst z1;exact Bo t a _ e1 rfl c ha rfl rfl
   .cases h
  .cases h
 .cases h
theorem Ak5 (h:kL E r=[x]):∃a,r=[a]/\kE E a=x:=by
 match r,h with
 | [],h=>rw[Cw]at h;cases h
 | [a],h=>rw[Bf,Cw]at h;exact Ar a rfl ((MS h).1)
 | a::b::r,h=>rw[Bf,Bf]at h;have:=LB List.length h;simp at this
theorem Ma (h:BD s (.tup (.wd "give"::r)) κ kn=some (κ',kn',e)):∃t,r=[t]/\kE (s.e κ) t=some s.g/\κ'=κ/\kn'=kn/\e=true:=by
 rw[Cl]at h;unfold EZ at h;rw[AN,AN,AN,AN,JN rfl]at h;unfold EW at h;obtain⟨c,h⟩|h:=Db h
 .cases h;refine Am (Ak5 (JL c)) λa I q=>?_;subst I;exact Ou a rfl q rfl rfl rfl
 .cases h
theorem Mb (h:BD s (.tup (.wd "fail"::r)) κ kn=some (κ',kn',e)):∃n,r=[.num n]/\(-32768<=n/\n<=32767)/\κ'=κ/\kn'=kn/\e=true:=by
 rw[Cl]at h;unfold EZ at h;rw[AN,AN,AN,AN,AN,JN rfl]at h;split at h
 .rename_i n;unfold EW at h;obtain⟨c,h⟩|h:=Db h
  .cases h;exact Ou n rfl (JL c) rfl rfl rfl
  .cases h
 .cases h
theorem L9 (h:BD s (.tup (.wd "set"::r)) κ kn=some (κ',kn',e)):∃t f v k fl,r=[t,.wd f,v]/\kE (s.e κ) t=some k/\s.R k=some fl/\f∈fl/\kE (s.e κ) v=some ("number":Str)/\κ'=κ/\kn'=kn/\e=false:=by
 rw[Cl]at h;unfold EZ at h;rw[AN,AN,AN,AN,AN,AN,JN rfl]at h;split at h
 .rename_i t f v;split at h
  .rename_i k hk;split at h
   .rename_i fl hR;unfold EW at h;obtain⟨c,h⟩|h:=Db h
    .cases h;rw[JW,LJ,LJ]at c;exact Ff t f v k fl rfl hk hR c.1 c.2 (Bc rfl rfl rfl)
    .cases h
   .cases h
  .cases h
 .cases h
theorem Ig {op:Str}(I:op="out"\/op="store")(h:BD s (.tup (.wd op::r)) κ kn=some (κ',kn',e)):∃ws,(op,ws)∈takes/\kL (s.e κ) r=ws.map some/\κ'=κ/\kn'=kn/\e=false:=by
 rw[Cl]at h;unfold EZ at h
 rcases I with rfl|rfl
 .rw [AN,AN,AN,AN,AN,AN,AN,JN rfl]at h;unfold EW at h;obtain⟨c,h⟩|h:=Db h
  .cases h;exact Ou ["number"] (by decide) (JL c) rfl rfl rfl
  .cases h
 .rw [AN,AN,AN,AN,AN,AN,AN,AN,JN rfl]at h;unfold EW at h;obtain⟨c,h⟩|h:=Db h
  .cases h;exact Ou ["list","number","number"] (by decide) (JL c) rfl rfl rfl
  .cases h
theorem Up (h:BD s (.tup (.wd "do"::r)) κ kn=some (κ',kn',e)):∃t k,r=[t]/\kE (s.e κ) t=some k/\κ'=κ/\kn'=kn/\e=false:=by
 rw[Cl]at h;unfold EZ at h;rw[AN,AN,AN,AN,AN,AN,AN,AN,AN,JN rfl]at h;split at h
 .rename_i t;unfold EW at h;obtain⟨c,h⟩|h:=Db h
  .cases h;obtain⟨k,hk⟩:=Option.isSome_iff_exists.mp c;exact Jp t k rfl hk rfl rfl rfl
  .cases h
 .cases h
noncomputable def As:List (Str×Nat):=[("let",3),("put",3),("if",4),("while",3),("out",2),("give",2),("fail",2),("set",4),("store",4),("do",2)]
theorem Ak7:∀r:List Th,(kL E r).length=r.length
 | []=>by rw[Cw];rfl
 | a::r=>by rw[Bf,JR,JR,Ak7 r]
theorem Ju {t:Th}(h:BD s t κ kn=some (κ',kn',e)):∃op r,t=.tup (.wd op::r)/\(op,r.length+1)∈As:=by
 match t,h with
 | .num _,h=>rw[BD]at h;cases h
 | .wd _,h=>rw[BD]at h;cases h
 | .tup [],h=>rw[BD]at h;cases h
 | .tup (.num _::_),h=>rw[BD]at h;cases h
 | .tup (.tup _::_),h=>rw[BD]at h;cases h
 | .tup (.wd op::r),h=>
  refine Ck op r rfl ?_;by_cases Y:op="let"
  .subst Y;refine Gg (Kt h) λx u k I _=>?_;subst I
   show(("let":Str),3)∈As;decide
  by_cases c2:op="put"
  .subst c2;refine Gg (Ks h) λx u k I _=>?_;subst I
   show(("put":Str),3)∈As;decide
  by_cases c3:op="if"
  .subst c3;refine Dp (Kg h) λt a b κ1 kn1 e1 I=>?_;refine Co I λκ2 e2 z2 _=>?_;subst z2
   show(("if":Str),4)∈As;decide
  by_cases c4:op="while"
  .subst c4;refine dd41 (Fs h) λt a κ1 e1 I _=>?_;subst I
   show(("while":Str),3)∈As;decide
  by_cases c5:op="give"
  .subst c5;refine Am (Ma h) λt I _=>?_;subst I
   show(("give":Str),2)∈As;decide
  by_cases c6:op="fail"
  .subst c6;refine Am (Mb h) λt I _=>?_;subst I
   show(("fail":Str),2)∈As;decide
  by_cases c7:op="set"
  .subst c7;refine dd51 (L9 h) λt f v k fl I _=>?_;subst I
   show(("set":Str),4)∈As;decide
  by_cases O:op="out"\/op="store"
  .refine Bk (Ig O h) λws m hk _=>?_;have l:=LB List.length hk;rw[Ak7,JB]at l
   rcases O with rfl|rfl
   .have:ws.length=1:=by
     have:∀p∈takes,p.1="out"->p.2.length=1:=by decide
     exact this _ m rfl
    rw[l,this];decide
   .have:ws.length=3:=by
     have:∀p∈takes,p.1="store"->p.2.length=3:=by decide
     exact this _ m rfl
    rw[l,this];decide
  by_cases c9:op="do"
  .subst c9;refine Co (Up h) λt k I _=>?_;subst I
   show(("do":Str),2)∈As;decide
  rw[PJ]at O;rw[Cl]at h;unfold EZ at h;rw[JP Y,JP c2,JP c3,JP c4,JP c5,JP c6,JP c7,JP O.1,JP O.2,JP c9]at h;cases h
end
section
variable {s:SE}
end
mutual
noncomputable def Gv:Th->Nat
 | .tup (.wd op::_::r)=>if op="let" then 1 else if op="if"\/op="while" then Jl r else 0
 | _=>0
noncomputable def Jl:List Th->Nat
 | []=>0
 | .tup a::r=>Ed a+Jl r
 | .wd _::r=>Jl r
 | .num _::r=>Jl r
noncomputable def Ed:List Th->Nat
 | []=>0
 | t::r=>Gv t+Ed r
end
theorem Gu:Gv (.tup (.wd op::a::r))=if op="let" then 1 else if op="if"\/op="while" then Jl r else 0:=by rw[Gv]
theorem Uk:Gv (.tup [.wd "if",t,.tup a,.tup b])=Ed a+Ed b:=by
 rw[Gu,AN,JN (.inl rfl),Jl,Jl,Jl];rfl
theorem Lh:Gv (.tup [.wd "while",t,.tup a])=Ed a:=by
 rw[Gu,AN,JN (.inr rfl),Jl,Jl];rfl
theorem Uj {op:Str}{a:Th}{r:List Th}(h1:op≠"let")(h2:op≠"if")(h3:op≠"while"):Gv (.tup (.wd op::a::r))=0:=by
 rw[Gu,JP h1,JP (by simp[h2,h3])]
theorem Dm:Ed (t::r)=Gv t+Ed r:=by rw[Ed]
theorem Gj:Ed []=0:=by rw[Ed]
theorem B6 (h:∀κ' kn' e,BD s t κ kn=some (κ',kn',e)->False):BD s t κ kn=none:=by
 cases e:BD s t κ kn with
 | none=>rfl
 | some p=>exact(h p.1 p.2.1 p.2.2 e).elim
def Fine (s:SE)(n:Nat)(t:Th):Prop:=∀κ kn κ' kn' e,BD s t κ kn=some (κ',kn',e)->CH n t=true/\kn'.length=kn.length+Gv t
theorem Zj:∀{ts:List Th},(∀t∈ts,Fine s n t)->∀{κ kn κ' kn' e},Cb s ts κ kn=some (κ',kn',e)->(∀t∈ts,CH n t=true)/\kn'.length=kn.length+Ed ts
 | [],_,κ,kn,κ',kn',e,h=>by
  rw[Ee]at h;cases h;exact⟨λt ht=>(nomatch ht),by rw[Gj];rfl⟩
 | t::r,hf,κ,kn,κ',kn',e,h=>by
  rw[C5]at h
  cases q:BD s t κ kn with
  | none=>rw[q]at h;cases h
  | some p=>
   obtain⟨κ1,kn1,e1⟩:=p;rw[q]at h;dsimp only at h;obtain⟨I,l1⟩:=hf t JJ _ _ _ _ _ q;have rest:Cb s r κ1 kn1=some (κ',kn',e)\/(r=[]/\kn'=kn1):=by
    cases e1 with
    | true=>
     rw[JN rfl]at h;split at h
     .rename_i c;cases h;exact .inr ⟨List.isEmpty_iff.mp c,rfl⟩
     .cases h
    | false=>rw[AN]at h;exact .inl h
   rcases rest with h|⟨rfl,rfl⟩
   .obtain⟨O,l2⟩:=Zj (λt ht=>hf t (JE _ ht)) h;refine⟨λx hx=>?_,by rw[Dm];omega⟩
    rcases JC.mp hx with rfl|hx
    .exact I
    .exact O x hx
   .refine⟨λx hx=>?_,by rw[Dm,Gj];omega⟩;rw[JM.mp hx];exact I
theorem Am1 (h:∀t∈a,CH n t=true)(I:∀t∈a,∃op r,t=.tup (.wd op::r)):CH (n+1) (.tup a)=true:=by
 refine Cr ?_ h
 match a,I with
 | [],_=>rfl
 | t::r,I=>
  refine Gi (I t JJ) λop Y O=>?_;subst O;rfl
theorem Mn:∀{ts:List Th} {κ kn x},Cb s ts κ kn=some x->∀t∈ts,∃op r,t=.tup (.wd op::r)
 | [],_,_,_,_=>λt ht=>(nomatch ht)
 | t::r,κ,kn,x,h=>λu hu=>by
  rw[C5]at h
  cases q:BD s t κ kn with
  | none=>rw[q]at h;cases h
  | some p=>
   obtain⟨κ1,kn1,e1⟩:=p;rw[q]at h;dsimp only at h
   rcases JC.mp hu with rfl|hu
   .refine Co (Ju q) λop I e _=>Ki op I e
   .cases e1 with
    | true=>
     rw[JN rfl]at h;split at h
     .rename_i c;rw[List.isEmpty_iff.mp c]at hu;cases hu
     .cases h
    | false=>rw[AN]at h;exact Mn h u hu
theorem fine:∀{n:Nat} {t:Th},BI n t->Fine s n t
 | _,.num _,_=>λκ kn κ' kn' e h=>by rw[BD]at h;cases h
 | _,.wd _,_=>λκ kn κ' kn' e h=>by rw[BD]at h;cases h
 | 0,.tup _,h=>by unfold BI at h;cases h
 | n+1,.tup l,hd=>λκ kn κ' kn' e h=>by
  have sh:=Ju h;refine Co sh λop r q hm=>?_;cases q;have hd:=Qw hd;have part:∀{a:List Th},Th.tup a∈(Th.wd op::r)->∀{κ kn κ' kn' e},Cb s a κ kn=some (κ',kn',e)->CH n (.tup a)=true/\kn'.length=kn.length+Ed a:=fun {a} ha {κ kn κ' kn' e} hs=>by
   have Y:=hd _ ha
   match n,Y with
   | 0,Y=>unfold BI at Y;cases Y
   | n'+1,Y=>
    obtain⟨d1,l1⟩:=Zj (n:=n') (λt ht=>fine (Qw Y t ht)) hs;exact⟨Am1 d1 (Mn hs),l1⟩
  by_cases c1:op="let"
  .subst c1;refine Rj (Kt h) λx u k I hk hn _ _ z2=>?_;subst I;obtain⟨rfl,_⟩:=z2;refine⟨Cr (by unfold FX;simp[hw,An3,Wk hn,show ¬((("let":Str)="get"))from by decide,show ¬((("let":Str)="set"))from by decide]) λt ht=>?_,by rw[Gu,JN rfl];simp⟩;simp only[JC,JI,KG]at ht
   rcases ht with rfl|rfl|rfl
   .exact Dc
   .exact Dc
   .exact Ih hk (hd _ (by simp))
  by_cases c3:op="if"
  .subst c3;refine Dp (Kg h) λt a b κ1 kn1 e1 I=>?_;refine Yb I λκ2 e2 z2 hk ha hb _=>?_;clear I;subst z2;obtain⟨d1,l1⟩:=part (by simp) ha;obtain⟨d2,l2⟩:=part (by simp) hb;refine⟨Cr (Eg (by decide) (by decide) (by decide) (by decide)) λt ht=>?_,by rw[Uk];omega⟩;simp only[JC,JI,KG]at ht
   rcases ht with rfl|rfl|rfl|rfl
   .exact Dc
   .exact Ih hk (hd _ (by simp))
   .exact d1
   .exact d2
  by_cases c4:op="while"
  .subst c4;refine Q0 (Fs h) λt a κ1 e1 I hk ha _=>?_;subst I;obtain⟨d1,l1⟩:=part (by simp) ha;refine⟨Cr (Eg (by decide) (by decide) (by decide) (by decide)) λt ht=>?_,by rw[Lh];omega⟩;simp only[JC,JI,KG]at ht
   rcases ht with rfl|rfl|rfl
   .exact Dc
   .exact Ih hk (hd _ (by simp))
   .exact d1
  have a1:r≠[]:=λz=>by
   subst z;have:∀p∈As,p.2≠1:=by decide
   exact this _ hm rfl
  refine Gi (List.exists_cons_of_ne_nil a1) λr0 rs I=>?_;subst I;rw[Uj c1 c3 c4];by_cases c2:op="put"
  .subst c2;refine Rj (Ks h) λx u k q _ hk _ I _=>?_;subst I;rw[q]at hd ⊢;refine⟨Cr (Eg (by decide) (by decide) (by decide) (by decide)) λt ht=>?_,rfl⟩;simp only[JC,JI,KG]at ht
   rcases ht with rfl|rfl|rfl
   .exact Dc
   .exact Dc
   .exact Ih hk (hd _ (by simp))
  by_cases c5:op="give"
  .subst c5;refine Ow (Ma h) λt q hk _ I _=>?_;subst I;rw[q]at hd ⊢;refine⟨Cr (Eg (by decide) (by decide) (by decide) (by decide)) λt ht=>?_,rfl⟩;simp only[JC,JI,KG]at ht
   rcases ht with rfl|rfl
   .exact Dc
   .exact Ih hk (hd _ (by simp))
  by_cases c6:op="fail"
  .subst c6;refine Ow (Mb h) λt q hk _ I _=>?_;subst I;rw[q];refine⟨Cr (Eg (by decide) (by decide) (by decide) (by decide)) λt ht=>?_,rfl⟩;simp only[JC,JI,KG]at ht
   rcases ht with rfl|rfl
   .exact Dc
   .exact Pc
  by_cases c7:op="set"
  .subst c7;refine We (L9 h) λt f v k fl q hk _ _ hv I=>?_;refine Bu I λ_ z2 _=>?_;subst z2;rw[q]at hd ⊢;refine⟨Cr (by unfold FX;simp[hw,V8,show ¬((("set":Str)="let"))from by decide]) λt ht=>?_,rfl⟩;simp only[JC,JI,KG]at ht
   rcases ht with rfl|rfl|rfl|rfl
   .exact Dc
   .exact Ih hk (hd _ (by simp))
   .exact Dc
   .exact Ih hv (hd _ (by simp))
  by_cases O:op="out"\/op="store"
  .refine Ow (Ig O h) λws m hk _ I _=>?_;subst I;refine⟨Cr (Eg (by rcases O with rfl|rfl<;>decide) (by rcases O with rfl|rfl<;>decide) c7 c1) λt ht=>?_,rfl⟩
   rcases JC.mp ht with rfl|ht
   .exact Dc
   obtain⟨k,a0⟩:=Xy hk t ht;exact Ih a0 (hd _ (JE _ ht))
  by_cases c9:op="do"
  .subst c9;refine Yb (Up h) λt k q hk _ I _=>?_;subst I;rw[q]at hd ⊢;refine⟨Cr (Eg (by decide) (by decide) (by decide) (by decide)) λt ht=>?_,rfl⟩;simp only[JC,JI,KG]at ht
   rcases ht with rfl|rfl
   .exact Dc
   .exact Ih hk (hd _ (by simp))
  rw[PJ]at O;rw[Cl]at h;unfold EZ at h;rw[JP c1,JP c2,JP c3,JP c4,JP c5,JP c6,JP c7,JP O.1,JP O.2,JP c9]at h;cases h
theorem Wb:∀t:Th,∃n,BI n t:=λt=>by
 refine Th.rec (motive_1:=λt=>∃n,BI n t) (motive_2:=λl=>∃n,∀t∈l,BI n t) (λ_=>⟨0,Ep⟩) (λ_=>⟨0,Fd⟩) (λl I=>?_) ⟨0,λt ht=>(nomatch ht)⟩ (λa l O Y=>?_) t
 .obtain⟨n,h⟩:=I;exact⟨n+1,Fe h⟩
 .obtain⟨n,h⟩:=O;obtain⟨m,h'⟩:=Y;exact⟨n+m,Dt (h.mono (by omega)) λt ht=>(h' t ht).mono (by omega)⟩
theorem lets_of (h:BD s t κ kn=some (κ',kn',e)):kn'.length=kn.length+Gv t:=by
 obtain⟨n,hn⟩:=Wb t;exact(fine hn _ _ _ _ _ h).2
theorem Aj7 (h:Cb s ts κ kn=some (κ',kn',e)):kn'.length=kn.length+Ed ts:=by
 obtain⟨n,hn⟩:=Wb (.tup ts)
 match n,hn with
 | 0,hn=>unfold BI at hn;cases hn
 | n+1,hn=>exact(Zj (n:=n) (λt ht=>fine (Qw hn t ht)) h).2
def Sx (xs:List Addr)(H H':Hp):Prop:=∀b o,H b=some o->b∉xs->H' b=some o
theorem Sx.trans (a:Sx xs H H1)(b:Sx xs H1 H2):Sx xs H H2:=λc o h n=>b c o (a c o h n) n
theorem B3 (a:AA H H1):Sx xs H H1:=λc o h _=>a c o h
theorem Sx.more (a:Sx [x] H H1):Sx (x::ys) H H1:=λc o h n=>a c o h (λz=>n (by rw[JM.mp z];exact JJ))
structure HY (C:Addr)(H:Hp)(o r fn kn kd:Addr)(s:SE)(κ:Kd)(kns:List Str):Prop where
 lk:Lk C H o r fn kn s
 hkn:∃kk,H kn=some (.dK kk)/\(∀x,(Bm kk (Sum.inr x)).isSome=decide (x∈kns))/\kk.length<=kns.length
 CK:∃kks,H kd=some (.dK kks)/\KdR kks κ/\kks.length<=kns.length
 d:(r≠kn/\r≠kd)/\(fn≠kn/\fn≠kd)/\kn≠kd
section
theorem HY.same (h:HY C H o r fn kn kd s κ kns)(I:AA H H'):HY C H' o r fn kn kd s κ kns:=
 ⟨h.lk.same I,let ⟨kk,a,b⟩:=h.hkn;(Ar kk (I _ _ a) b),let ⟨kk,a,b⟩:=h.CK;(Ar kk (I _ _ a) b),h.d⟩
theorem HY.AE (h:HY C H o r fn kn kd s κ kns)(Y:Sx [kn,kd] H H'):EG H H':=λb xs e=>by
 refine Am h.hkn λk1 I _=>Am h.CK λk2 O _=>Y b _ e (by simp[Bb e I (by simp),Bb e O (by simp)])
theorem HY.move (h:HY C H o r fn kn kd s κ kns)(I:Sx [kn,kd] H H')(h1:∃kk,H' kn=some (.dK kk)/\(∀x,(Bm kk (Sum.inr x)).isSome=decide (x∈O))/\kk.length<=O.length)(h2:∃kks,H' kd=some (.dK kks)/\KdR kks κ'/\kks.length<=O.length):HY C H' o r fn kn kd s κ' O:=by
 refine Am h.hkn λk1 Y _=>Am h.CK λk2 a2 _=>⟨h.lk.AE (h.AE I) (λ_ _ e=>I _ _ e (by simp[Bb e Y (by simp),Bb e a2 (by simp)])) (λ_ e=>I _ _ e (by simp[h.d.1.1,h.d.1.2])) λ_ e=>I _ _ e (by simp[h.d.2.1.1,h.d.2.1.2]),h1,h2,h.d⟩
end
noncomputable def Z0 (s:SE):Th->Kd->List Str->SR
 | .tup a=>Cb s a
 | _=>λ_ _=>none
noncomputable def Nw:Th->Nat
 | .tup a=>Ed a
 | _=>0
theorem Aj6:Gv (.tup [.wd "if",t,x,y])=Nw x+Nw y:=by
 rw[Gu,AN,JN (.inl rfl)];cases x<;>cases y<;>simp[Jl,Nw]
theorem Vs:Gv (.tup [.wd "while",t,x])=Nw x:=by
 rw[Gu,AN,JN (.inr rfl)];cases x<;>simp[Jl,Nw]
theorem Mo (h:Z0 s t κ kn=some x):∃a,t=.tup a/\Cb s a κ kn=some x:=by
 cases t with
 | tup a=>exact Ar a rfl h
 | num _=>cases h
 | wd _=>cases h
section
variable (C cR:Addr)
def IX (n:Nat)(h:Str):Sp:=λvs H Q E=>∃o r fn kn kd s κ kns v rest,vs=[.ref o,v,.ref kd]/\HY C H o r fn kn kd s κ kns/\AS H v (.tup (.wd h::rest))/\(h,rest.length+1)∈As/\CH n (.tup (.wd h::rest))=true/\kns.length+Gv (.tup (.wd h::rest))<=100/\(∀κ' I e,BD s (.tup (.wd h::rest)) κ kns=some (κ',I,e)->∀H',Sx [kn,kd] H H'->HY C H' o r fn kn kd s κ' I->Q (.bl e) H')/\(BD s (.tup (.wd h::rest)) κ kns=none->∀H',Sx [kn,kd] H H'->E (.ref cR) none H')
def spS (n:Nat):Sp:=λvs H Q E=>∃o r fn kn kd s κ kns v t,vs=[.ref o,v,.ref kd]/\HY C H o r fn kn kd s κ kns/\AS H v t/\CH (n+1) t=true/\kns.length+Nw t<=100/\(∀κ' I e,Z0 s t κ kns=some (κ',I,e)->∀H',Sx [kn] H H'->HY C H' o r fn kn kd s κ I->Q (.bl e) H')/\(Z0 s t κ kns=none->∀H',Sx [kn] H H'->E (.ref cR) none H')
end
theorem Kf {op:Str}{r:List Th}{k:Nat}(h:(op,r.length+1)∈As)(hk:∀p∈As,p.1=op->p.2=k+1):r.length=k:=by
 have:=hk _ h rfl;omega
theorem Aj9 {α:Type}:∀{l:List α},l.length=1->∃a,l=[a]
 | [a],_=>⟨a,rfl⟩
theorem len3 {α:Type}:∀{l:List α},l.length=3->∃a b c,l=[a,b,c]
 | [a,b,c],_=>(Rh a b c rfl)
theorem kLa (h:kL E [u]=[k].map some):kE E u=some k:=by
 rw[Bf,Cw]at h;exact(MS h).1
theorem kLb (h:kE E u=some k):kL E [u]=[k].map some:=by
 rw[Bf,Cw,h];rfl
section
variable {P:Program}{w:World}{K:PySem.W.Frag}{mg:Str->Option Value}{base:Heap}{t1 t2 t3 t4:Tok}{C aT aR cR:Addr}{fT:Str->Addr}
theorem DK:AD ["look","statement","kinds","variable"] ["look","statement","kinds"] (Aq La):=FS
theorem Ql (hm:2<=m)(F:BE K "look_at_let" "look_at_let" La f fd)(LT:GU K C)(a5:AU P w K mg base 1 "want" ["so","why"] (Eo cR))(aD:AQ P w K mg base 2 "is_name" ["thing"] O7)
  (aE:AU P w K mg base m "kind_looked" ["look","e","kinds"] (Mt C cR n)):AI P w K mg base (DP P w) (m+1) f fd ["look","statement","kinds"] (IX C cR (n+1) "let"):=by
 refine F.DM DK λcdv A outer s H vs Q E hr h=>?_
 .refine Dp h λo r fn kn kd se O=>?_;refine F3 O λκ kns v rest z2 L hi a8 hd z3=>?_;refine Bu z3 λhb k1 k2=>?_;subst z2;refine Gi (Aj8 (Kf (k:=2) a8 (by decide))) λtx u O=>?_;subst O;have nd:=DK.nd;have aG:(2000000:Nat)<=sizeLine:=by rw[KU];omega
  obtain⟨AR,hd⟩:=Ft hd;rw[Gu,JN rfl]at hb;refine A0 hi λa us O hu z2=>?_;refine A0 z2 λv0 vr z3 h0 z4=>?_;refine A0 z4 λv1 aH z5 h1 z6=>?_;refine A0 z6 λv2 aA z7 h2 aC=>?_;subst O z3 z5 z7;cases(show aA=[] from aC);obtain⟨⟨dx,fs,e1,f1,f2,f3,f4⟩,_,_⟩:=id L.lk;refine Bk L.hkn λY a2 a1 aF=>Bk L.CK λkks FM FR gd3=>?_;have d3:=L.d.2.2;have a6:EL [v0,v1,v2] 1=some v1:=Bg (j:=1) rfl;have a7:EL [v0,v1,v2] 2=some v2:=Bg (j:=2) rfl;refine Ae (Ag (Bd 3 nd (BY (qv 1) Af)) (Ag (Ax (CD a5 (B2 Av rfl) hr (AJ (qf aD hr (AT (qv 3))) Ad))) (Ag (Ax (CD a5 (B2 Av rfl) hr (AJ (Z8 (Dn hr) (qv 3) (Ka (qv 0) rfl)) Ad))) (Ag (Dy (Dn hr) (qv 2) (qv 3) (CD aE (B2 Av rfl) hr (AO (qv 0) (BY (qv 1) Af) (qv 2))) rfl) (Ag (Dy (Dn hr) (Ka (qv 0) rfl) (qv 3) Fh rfl) (Al (Aw Fh))))))) (Ae rfl (Bo _ _ 1 _ rfl rfl (.inl (.inl hu)) a6 (Ae rfl (Cj v1 tx rfl h1 (okH_let AR) λH1 s1=>(Au rfl (λI=>?_) λI=>k2 (B6 λκ' kn' e h=>?_) H1 (B3 s1))))))
  rotate_left
  .refine Jf (Kt h) λx u' k q _ hn _=>?_;cases q;exact Bool.noConfusion (I.symm.trans hn)
  obtain⟨x,rfl⟩:∃x,tx=.wd x:=by
   cases tx with
   | wd x=>exact⟨x,rfl⟩
   | num _=>cases I
   | tup _=>cases I
  cases(show v1=.str x from h1);have I:Da x=true:=I;have hg:AK H1 kn (.str x) (Bm Y (Sum.inr x)):=AK.k (k:=Sum.inr x) (s1 _ _ a2);refine Ae rfl (Ae rfl (Ff o C dx fs _ rfl (s1 _ _ e1) LT.cl LT.n4 f4 (Ao kn _ rfl hg (Au rfl (λhx=>?_) λhx=>k2 (B6 λκ' kn' e h=>?_) H1 (B3 s1)))))
  rotate_left
  .refine Kz (Kt h) λx' u' k q _ _ hn _=>?_;cases q;rw[a1 x,LC hn]at hx;cases hx
  have a9:x∉kns:=by
   rw[a1 x]at hx;exact LW (by simpa using hx)
  refine Ae rfl (Ae rfl (Bo _ _ 2 _ rfl rfl (.inl (.inl (s1 _ _ hu))) a7 (Ae rfl (Ct o r fn kn se κ (Ch kks v2 kd u rfl (L.lk.same s1) (s1 _ _ FM) FR (h2.mono s1.AE) (Bc (hd u (by simp)) (λkk hk H2 s2=>?_) λhk H2 s2=>k2 (B6 λκ' kn' e h=>?_) H2 (B3 (s1.trans s2))))))))
  rotate_left
  .refine Gz (Kt h) λx' u' k q a3 _=>?_;cases q;rw[hk]at a3;cases a3
  have a0:=s1.trans s2;refine Ae rfl (Ae rfl (Ao kd _ rfl (CW.k (k:=Sum.inr x) (a0 _ _ FM) (by omega)) ?_));have aB:upd H2 kd (.dK (L2.putK kks (Sum.inr x) (.str kk))) kn=some (.dK Y):=by rw[Ak d3];exact a0 _ _ a2
  have no1:o≠kd:=Bb e1 FM (by simp);refine Ae rfl (Ff o C dx fs _ rfl (by rw[Ak no1];exact a0 _ _ e1) LT.cl LT.n4 f4 (Ae rfl (Ao kn _ rfl (CW.k (k:=Sum.inr x) aB (by omega)) ?_)));have sx:Sx [kn,kd] H (upd (upd H2 kd (.dK (L2.putK kks (Sum.inr x) (.str kk)))) kn (.dK (L2.putK Y (Sum.inr x) (.bl true)))):=λb u hb a4=>by
   rw[Ak λz=>a4 (by simp[z]),Ak λz=>a4 (by simp[z])];exact a0 _ _ hb
  refine k1 _ _ _ (Ik I a9 hk) _ sx (L.move sx (B0 Aj (λy=>?_) ?_) (B0 (by rw[Ak d3.symm,Aj]) (λy=>?_) ?_))
  .rw [Bx];by_cases c:y=x
   .rw [JN (LB Sum.inr c),c];simp
   .rw [JP λz=>c (MD z),a1 y];simp[c]
  .have:=(BK (kvs:=Y) (k:=Sum.inr x) (v:=.bl true)).1;rw[JR];omega
  .rw [Bx];unfold putK;by_cases c:y=x
   .rw [JN c,JN (LB Sum.inr c)];rfl
   .rw [JP c,JP λz=>c (MD z)];exact FR y
  .have:=(BK (kvs:=kks) (k:=Sum.inr x) (v:=.str kk)).1;rw[JR];omega
theorem DF:AD ["look","statement","kinds","variable"] ["look","statement","kinds"] (Aq K9):=FS
theorem Qk (hm:1<=m)(F:BE K "look_at_put" "look_at_put" K9 f fd)(T:BH K mg)(aA:AU P w K mg base 1 "want" ["so","why"] (Eo cR))(aB:AU P w K mg base m "look_at_parts" ["look","parts","wanted","kinds"] (Ms K C cR n)):AI P w K mg base (DP P w) (m+1) f fd ["look","statement","kinds"] (IX C cR (n+1) "put"):=by
 refine F.DM DF λcdv A outer s H vs Q E hr h=>?_
 .refine Dp h λo r fn kn kd se I=>?_;refine F3 I λκ kns v rest z2 L hi a4 hd z3=>?_;refine Bu z3 λhb k1 k2=>?_;subst z2;refine Gi (Aj8 (Kf (k:=2) a4 (by decide))) λtx u I=>?_;subst I;have nd:=DF.nd;obtain⟨AR,hd⟩:=Ft hd;refine A0 hi λa us I hu z2=>?_;refine A0 z2 λv0 vr z3 h0 z4=>?_;refine A0 z4 λv1 aD z5 h1 z6=>?_;refine A0 z6 λv2 a8 z7 h2 a9=>?_;subst I z3 z5 z7;cases(show a8=[] from a9);refine Bk L.CK λkks FM FR gd3=>?_;have S0:=AA.refl H;refine Ae (Ag (Bd 3 nd (BY (qv 1) Af)) (Ag (Ax (CD aA (B2 Av rfl) hr (AJ (Dl (Bl B7 rfl T.AH Cp (AJ (qv 3) (Dq (v:=.ty "str") rfl T.FK boot_str rfl))) (Dz (Le (Dn hr) (qv 3) (qv 2)))) Ad))) (Ag (Ax (CD aB (B2 Av rfl) hr (BF (qv 0) (Cd E6 (qv 1) (Ca Af) Cm) (Ai (AT (BP hr (qv 2) (qv 3)))) (qv 2)))) (Al (Aw Fh))))) (Ae rfl (Bo _ _ 1 _ rfl rfl (.inl (.inl hu)) (Bg (j:=1) rfl) ?_));have a2:(∀x,tx≠.wd x)->BD se (.tup [.wd "put",tx,u]) κ kns=none:=λhx=>B6 λκ' kn' e h=>by
   refine Gg (Ks h) λx u' k q _=>?_;cases q;exact hx x rfl
  cases tx with
  | num i=>
   cases(show v1=.int i from h1);exact Ae rfl (D6 rfl (.int _) rfl (Ae rfl (G6 (Au rfl (λz=>(nomatch z)) λ_=>k2 (a2 (by simp)) H (B3 S0)))))
  | tup l0=>
   refine A0 h1 λa0 aC I a7 _=>?_;subst I;exact Ae rfl (D6 rfl (.tup a7) rfl (Ae rfl (G6 (Au rfl (λz=>(nomatch z)) λ_=>k2 (a2 (by simp)) H (B3 S0)))))
  | wd x=>
  cases(show v1=.str x from h1)
  cases a1:κ x with
  | none=>
   have hg:AK H kd (.str x) none:=by
    have:=AK.k (k:=Sum.inr x) FM;rw[FR x,a1]at this;exact this
   refine Ae rfl (D6 rfl (.str _) rfl (Ae rfl (Ht (Ae rfl (Ae rfl (Ao kd _ rfl hg (Au rfl (λz=>(nomatch z)) λ_=>k2 (B6 λκ' kn' e h=>(Gz (Ks h) λx' u' k q Y _=>?_)) H (B3 S0))))))));cases q;rw[a1]at Y;cases Y
  | some kk=>
  have hg:∀{X},AA H X->AK X kd (.str x) (some (.str kk)):=λs=>by
   have:=AK.k (k:=Sum.inr x) (s _ _ FM);rw[FR x,a1]at this;exact this
  refine Ae rfl (D6 rfl (.str _) rfl (Ae rfl (Ht (Ae rfl (Ae rfl (Ao kd _ rfl (hg S0) (Au rfl (λ_=>(Ae rfl (Ae rfl (Ar 2 rfl (Cj a _ rfl (.inl (.inl hu)) (Fq (n:=2) (by decide) (by simp)) λp hp=>?_))))) λz=>(nomatch z))))))));rw[show Ec [v0,V.str x,v2] (some 2) none=[v2] from D9 _ 2];generalize z:upd H p _=H1;obtain⟨s1,q1⟩:=B8 hp z;refine Ae rfl (Ae rfl (Cj kd _ rfl (hg s1) (zl 1) λp2 a5=>?_));generalize z:upd H1 p2 _=H2;obtain⟨s2,q2⟩:=B8 a5 z;have O:=s1.trans s2;refine Ae rfl (Ct o r fn kn se _ (Ct kks p p2 kd [v2] [u] (Nj [kk] rfl (L.lk.same O) (O _ _ FM) FR (.inl (.inl (s2 _ _ q1))) (Du (Ao v2 [] rfl (h2.mono O.AE) rfl) (.inl (.inl q2)) (λe a3=>hd e (by rw[JM.mp a3];simp)) (λhk H3 s3=>k1 _ _ _ (O1 a1 (kLa hk)) _ (B3 (O.trans s3)) (L.same (O.trans s3))) λhk H3 s3=>k2 (B6 λκ' kn' e h=>(Jf (Ks h) λx' u' k q Y a6 _=>?_)) _ (B3 (O.trans s3))))));cases q;rw[a1]at Y;cases Y;exact hk (kLb a6)
theorem Od:AD ["look","statement","kinds"] ["look","statement","kinds"] (Aq J0):=FS
theorem Oj (F:BE K "look_at_give" "look_at_give" J0 f fd)(LT:GU K C)(a5:AU P w K mg base m "look_at_parts" ["look","parts","wanted","kinds"] (Ms K C cR n)):AI P w K mg base (DP P w) (m+1) f fd ["look","statement","kinds"] (IX C cR (n+1) "give"):=by
 refine F.DM Od λcdv A outer s H vs Q E hr h=>?_
 .refine Dp h λo r fn kn kd se Y=>?_;refine F3 Y λκ kns v rest z2 L hi a1 hd z3=>?_;refine Bu z3 λhb k1 k2=>?_;subst z2;obtain⟨u,rfl⟩:=Aj9 (Kf (k:=1) a1 (by decide));obtain⟨AR,hd⟩:=Ft hd;refine A0 hi λa us Y hu z2=>?_;refine A0 z2 λv0 vr z3 h0 z4=>?_;refine A0 z4 λv1 a3 z5 h1 a4=>?_;subst Y z3 z5;cases(show a3=[] from a4);obtain⟨⟨dx,fs,e1,f1,f2,f3,f4⟩,_,_⟩:=id L.lk;refine Bk L.CK λkks FM FR gd3=>Ae (Ag (Ax (CD a5 (B2 Av rfl) hr (BF (qv 0) (Cd E6 (qv 1) (Ca Af) Cm) (Ai (AT (Ka (qv 0) rfl))) (qv 2)))) (Al (Aw Fh))) (Ae rfl (Ae rfl (Ar 1 rfl (Cj a _ rfl (.inl (.inl hu)) (Fq (n:=1) (by decide) (by simp)) λp hp=>?_))));rw[show Ec [v0,v1] (some 1) none=[v1] from D9 _ 1];generalize z:upd H p _=H1;obtain⟨s1,q1⟩:=B8 hp z;refine Ae rfl (Ff o C dx fs _ rfl (s1 _ _ e1) LT.cl LT.n3 f3 ⟨(zl 1),λp2 a2=>?_⟩);generalize z:upd H1 p2 _=H2;obtain⟨s2,q2⟩:=B8 a2 z;have I:=s1.trans s2;refine Ae rfl (Ct o r fn kn se _ (Ct kks p p2 kd [v1] [u] (Nj [se.g] rfl (L.lk.same I) (I _ _ FM) FR (.inl (.inl (s2 _ _ q1))) (Du (Ao v1 [] rfl (h1.mono I.AE) rfl) (.inl (.inl q2)) (λe a0=>hd e (by rw[JM.mp a0];simp)) (λhk H3 O=>k1 _ _ _ (Hy (kLa hk)) _ (B3 (I.trans O)) (L.same (I.trans O))) λhk H3 O=>k2 (B6 λκ' kn' e h=>(Bk (Ma h) λt q hq _=>?_)) _ (B3 (I.trans O))))));cases q;exact hk (kLb hq)
theorem Oe:AD ["look","statement","kinds"] ["look","statement","kinds"] (Aq J2):=FS
theorem Ol (hm:2<=m)(F:BE K "look_at_fail" "look_at_fail" J2 f fd)(a3:AU P w K mg base 1 "want" ["so","why"] (Eo cR))(a4:AQ P w K mg base 2 "is_of_language" ["thing"] Ym):AI P w K mg base (DP P w) (m+1) f fd ["look","statement","kinds"] (IX C cR (n+1) "fail"):=by
 refine F.DM Oe λcdv A outer s H vs Q E hr h=>?_
 .refine Dp h λo r fn kn kd se I=>?_;refine F3 I λκ kns v rest O L hi a0 hd Y=>?_;refine Bu Y λhb k1 k2=>?_;subst O;obtain⟨u,rfl⟩:=Aj9 (Kf (k:=1) a0 (by decide));refine A0 hi λa us I hu O=>?_;refine A0 O λv0 vr Y h0 z4=>?_;refine A0 z4 λv1 a1 z5 h1 a2=>?_;subst I Y z5;cases(show a1=[] from a2);refine Ae (Ag (Ax (CD a3 (B2 Av rfl) hr (AJ (qf a4 hr (AT (BY (qv 1) Af))) Ad))) (Al (Aw Fh))) (Ae rfl (Bo _ _ 1 _ rfl rfl (.inl (.inl hu)) (Bg (j:=1) rfl) (Ao v1 u rfl h1 (Au rfl (λhn=>?_) λhn=>k2 (B6 λκ' kn' e h=>?_) H (B3 (AA.refl H))))))
  .cases u with
   | num i=>exact k1 _ _ _ (Po (JL hn)) H (B3 (AA.refl H)) L
   | wd _=>cases hn
   | tup _=>cases hn
  .refine Bk (Mb h) λt q hq _=>?_;cases q;exact LW hn hq
theorem P3:AD ["look","statement","kinds"] ["look","statement","kinds"] (Aq K8):=FS
theorem Qj (F:BE K "look_at_set" "look_at_set" K8 f fd)(a9:AU P w K mg base m "look_at_parts" ["look","parts","wanted","kinds"] (Ms K C cR n))(a8:AU P w K mg base m "look_at_field" ["look","e","field","kinds"] (Va C cR n)):AI P w K mg base (DP P w) (m+1) f fd ["look","statement","kinds"] (IX C cR (n+1) "set"):=by
 refine F.DM P3 λcdv A outer s H vs Q E hr h=>?_
 .refine Dp h λo r fn kn kd se Y=>?_;refine F3 Y λκ kns v rest z2 L hi a4 hd z3=>?_;refine Bu z3 λhb k1 k2=>?_;subst z2;refine Jg (len3 (Kf (k:=3) a4 (by decide))) λt tf u Y=>?_;subst Y;obtain⟨AR,hd⟩:=Ft hd;refine A0 hi λa us Y hu z2=>?_;refine A0 z2 λv0 vr z3 h0 z4=>?_;refine A0 z4 λv1 aA z5 h1 z6=>?_;refine A0 z6 λv2 aB z7 h2 z8=>?_;refine A0 z8 λv3 a6 z9 h3 a7=>?_;subst Y z3 z5 z7 z9;cases(show a6=[] from a7);refine Bk L.CK λkks FM FR gd3=>Ae (Ag (Ax (CD a8 (B2 Av rfl) hr (BF (qv 0) (BY (qv 1) Af) (BY (qv 1) Af) (qv 2)))) (Ag (Ax (CD a9 (B2 Av rfl) hr (BF (qv 0) (Cd E6 (qv 1) (Ca Af) Cm) (Ai (AT Ad)) (qv 2)))) (Al (Aw Fh)))) (Ae rfl (Ae rfl (Bo _ _ 1 _ rfl rfl (.inl (.inl hu)) (Bg (j:=1) rfl) (Ae rfl (Bo _ _ 2 _ rfl rfl (.inl (.inl hu)) (Bg (j:=2) rfl) (Ae rfl (Ct o r fn kn se κ (Hu kks v1 v2 kd t tf rfl L.lk FM FR h1 (Du h2 (hd t (by simp)) (Y0 AR (.inr rfl)) (λhf H1 s1=>?_) λhf H1 s1=>k2 (B6 λκ' kn' e h=>?_) _ (B3 s1))))))))))
  rotate_left
  .refine dd54 (L9 h) λt' f' v' k fl q hq hR a0 _=>?_;cases q;have a1:(se.e κ).R k=some fl:=hR;simp[Nk,hq,a1,a0]at hf
  refine Ae rfl (Ae rfl (Ar 3 rfl (Cj a _ rfl (.inl (.inl (s1 _ _ hu))) (Fq (n:=3) (by decide) (by simp)) λp hp=>?_)));rw[show Ec [v0,v1,v2,v3] (some 3) none=[v3] from D9 _ 3];generalize z:upd H1 p _=H2;obtain⟨s2,q1⟩:=B8 hp z;refine⟨(zl 1),λp2 a5=>?_⟩;generalize z:upd H2 p2 _=H3;obtain⟨s3,O⟩:=B8 a5 z;have I:=s1.trans (s2.trans s3);refine Ae rfl (Ct o r fn kn se κ (Ct kks p p2 kd [v3] [u] (Nj ["number"] rfl (L.lk.same I) (I _ _ FM) FR (.inl (.inl (s3 _ _ q1))) (Du (Ao v3 [] rfl (h3.mono I.AE) rfl) (.inl (.inl O)) (λe a2=>hd e (by rw[JM.mp a2];simp)) (λhk H4 s4=>?_) λhk H4 s4=>k2 (B6 λκ' kn' e h=>?_) _ (B3 (I.trans s4))))))
  .obtain⟨fi,k,fl,rfl,a3,hR,a0⟩:∃fi k fl,tf=.wd fi/\kE (se.e κ) t=some k/\se.R k=some fl/\fi∈fl:=by
    cases tf with
    | num _=>cases hf
    | tup _=>cases hf
    | wd fi=>
     unfold Nk at hf
     cases q:kE (se.e κ) t with
     | none=>rw[q]at hf;cases hf
     | some k=>
      rw[q]at hf;dsimp only at hf
      cases O:(se.e κ).R k with
      | none=>rw[O]at hf;cases hf
      | some fl=>rw[O]at hf;exact Ek fi k fl rfl rfl O (JL hf)
   exact k1 _ _ _ (Sz a3 hR a0 (kLa hk)) _ (B3 (I.trans s4)) (L.same (I.trans s4))
  .refine We (L9 h) λt' f' v' k fl q hq hR a0 hv _=>?_;cases q;exact hk (kLb hv)
theorem Z4 {op:Str}{ws:List Str}(I:op="out"\/op="store")(ht:takes.lookup op=some ws)(h:kL (s.e κ) r=ws.map some):BD s (.tup (.wd op::r)) κ kn=some (κ,kn,false):=by
 rw[Cl];unfold EZ
 rcases I with rfl|rfl
 .cases (show ws=(["number"]:List Str)from(KR ht).symm);rw[AN,AN,AN,AN,AN,AN,AN,JN rfl];unfold EW;exact JN (JO h)
 .cases (show ws=(["list","number","number"]:List Str)from(KR ht).symm);rw[AN,AN,AN,AN,AN,AN,AN,AN,JN rfl];unfold EW;exact JN (JO h)
theorem Mv:AD ["look","statement","kinds"] ["look","statement","kinds"] (Aq Ip):=FS
theorem Ie {n m:Nat}{op:Str}(ho:op="out"\/op="store"){f:Addr}{fd:FuncData}(F:BE K "look_at_known" "look_at_known" Ip f fd)(TT:TxT K w mg aT aR fT)(a2:AU P w K mg base m "look_at_parts" ["look","parts","wanted","kinds"] (Ms K C cR n)):AI P w K mg base (DP P w) (m+1) f fd ["look","statement","kinds"] (IX C cR (n+1) op):=by
 refine F.DM Mv λcdv A outer s H vs Q E hr h=>?_
 .refine Dp h λo r fn kn kd se Y=>?_;refine F3 Y λκ kns v rest z2 L hi a3 hd z3=>?_;clear Y;refine Bu z3 λhb k1 k2=>?_;clear z3;clear h;subst z2
  obtain⟨ws,ht⟩:∃ws,takes.lookup op=some ws:=by rcases ho with rfl|rfl<;>exact⟨_,rfl⟩
  have mt:=Er ht;have one:∀I,(op,I)∈takes->I=ws:=λI h=>by
   have:∀p∈takes,takes.lookup p.1=some p.2:=by decide
   have:=this _ h;rw[ht]at this;exact(KR this).symm
  obtain⟨AR,hd⟩:=Ft hd;refine A0 hi λa us Y hu z2=>?_;refine A0 z2 λv0 vr z3 h0 a1=>?_;clear z2;clear hi;subst Y;subst z3;cases(show v0=.str op from h0);refine Bk L.CK λkks FM FR gd3=>?_;have m1:(op,V.ref (fT op))∈takes.map λp=>(p.1,V.ref (fT p.1)):=JT.mpr (Ae mt rfl);refine Ae (Ag (Ax (CD a2 (B2 Av rfl) hr (BF (qv 0) (Cd E6 (qv 1) (Ca Af) Cm) (Ls TT.takes rfl TT.GY (BY (qv 1) Af) (λ_ _=>rfl)) (qv 2)))) (Al (Aw Fh))) ?_;refine Ae rfl (Ae rfl (Ar 1 rfl (Cj a _ rfl (.inl (.inl hu)) (Fq (n:=1) (by decide) (by simp)) λp hp=>?_)));rw[show Ec (V.str op::vr) (some 1) none=vr from D9 _ 1];generalize z:upd H p _=H1;obtain⟨s1,q1⟩:=B8 hp z;clear z;refine Ae rfl (Bo _ _ 0 _ rfl rfl (.inl (.inl (s1 _ _ hu))) (Bg (j:=0) rfl) (Ao op _ rfl m1 (Ae rfl (Ct o r fn kn se κ (Ct kks p (fT op) kd vr rest (Nj ws rfl (L.lk.same s1) (s1 _ _ FM) FR (.inl (.inl q1)) (Du (a1.mono s1.AE) (TT.tk _ mt _) (λe a0=>hd e (JE _ a0)) (λhe H3 O=>k1 _ _ _ (Z4 ho ht he) _ (B3 (s1.trans O)) (L.same (s1.trans O))) λhe H3 O=>k2 (B6 λκ' kn' e h=>?_) _ (B3 (s1.trans O)))))))));refine Bk (Ig ho h) λI m' a0 _=>?_;rw[one I m']at a0;exact he a0
theorem Q8:AD ["look","statement","kinds"] ["look","statement","kinds"] (Aq My):=FS
theorem Rb (F:BE K "look_at_do" "look_at_do" My f fd)(a4:AU P w K mg base m "kind_looked" ["look","e","kinds"] (Mt C cR n)):AI P w K mg base (DP P w) (m+1) f fd ["look","statement","kinds"] (IX C cR (n+1) "do"):=by
 refine F.DM Q8 λcdv A outer s H vs Q E hr h=>?_
 .refine Dp h λo r fn kn kd se I=>?_;refine F3 I λκ kns v rest O L hi a1 hd Y=>?_;refine Bu Y λhb k1 k2=>?_;subst O;obtain⟨t,rfl⟩:=Aj9 (Kf (k:=1) a1 (by decide));obtain⟨AR,hd⟩:=Ft hd;refine A0 hi λa us I hu O=>?_;refine A0 O λv0 vr Y h0 z4=>?_;refine A0 z4 λv1 a2 z5 h1 a3=>?_;subst I Y z5;cases(show a2=[] from a3);refine Bk L.CK λkks FM FR gd3=>Ae (Ag (Ax (CD a4 (B2 Av rfl) hr (AO (qv 0) (BY (qv 1) Af) (qv 2)))) (Al (Aw Fh))) (Ae rfl (Ae rfl (Bo _ _ 1 _ rfl rfl (.inl (.inl hu)) (Bg (j:=1) rfl) (Ae rfl (Ct o r fn kn se κ (Ch kks v1 kd t rfl L.lk FM FR h1 (Bc (hd t (by simp)) (λkk hk H1 s1=>k1 _ _ _ (S5 hk) _ (B3 s1) (L.same s1)) λhk H1 s1=>k2 (B6 λκ' kn' e h=>(A0 (Up h) λt' k q a0 _=>?_)) _ (B3 s1))))))));cases q;rw[hk]at a0;cases a0
theorem Mu:AD ["look","statement","kinds"] ["look","statement","kinds"] (Aq Im):=FS
theorem M9 (F:BE K "look_at_while" "look_at_while" Im f fd)(a6:AU P w K mg base m "look_at_parts" ["look","parts","wanted","kinds"] (Ms K C cR (n+1)))(a7:AU P w K mg base m "look_at_statements" ["look","statements","around"] (spS C cR n)):AI P w K mg base (DP P w) (m+1) f fd ["look","statement","kinds"] (IX C cR (n+2) "while"):=by
 refine F.DM Mu λcdv A outer s H vs Q E hr h=>?_
 .refine Dp h λo r fn kn kd se I=>?_;refine F3 I λκ kns v rest z2 L hi a2 hd z3=>?_;refine Bu z3 λhb k1 k2=>?_;subst z2;refine Gi (Aj8 (Kf (k:=2) a2 (by decide))) λt x I=>?_;subst I;obtain⟨AR,hd⟩:=Ft hd;rw[Vs]at hb;refine A0 hi λa us I hu z2=>?_;refine A0 z2 λv0 vr z3 h0 z4=>?_;refine A0 z4 λv1 a8 z5 h1 z6=>?_;refine A0 z6 λv2 a4 z7 h2 a5=>?_;subst I z3 z5 z7;cases(show a4=[] from a5);refine Bk L.CK λkks FM FR gd3=>Ae (Ag (Ax (CD a6 (B2 Av rfl) hr (BF (qv 0) (Ai (AT (BY (qv 1) Af))) (Ai (AT Ad)) (qv 2)))) (Ag (Ax (CD a7 (B2 Av rfl) hr (AO (qv 0) (BY (qv 1) Af) (qv 2)))) (Al (Aw Fh)))) ?_;refine Ae rfl (Ae rfl (Ch _ _ 1 _ rfl rfl (.inl (.inl hu)) (Bg (j:=1) rfl) (zl 1) λp hp=>?_));generalize z:upd H p _=H1;obtain⟨s1,q1⟩:=B8 hp z;refine⟨(zl 1),λp2 a3=>?_⟩;generalize z:upd H1 p2 _=H2;obtain⟨s2,q2⟩:=B8 a3 z;have O:=s1.trans s2;refine Ae rfl (Ct o r fn kn se κ (Ct kks p p2 kd [v1] [t] (Nj ["truth"] rfl (L.lk.same O) (O _ _ FM) FR (.inl (.inl (s2 _ _ q1))) (Du (Ao v1 [] rfl (h1.mono O.AE) rfl) (.inl (.inl q2)) (λe a1=>hd e (by rw[JM.mp a1];simp)) (λhk H3 s3=>?_) λhk H3 s3=>k2 (B6 λκ' kn' e h=>?_) _ (B3 (O.trans s3))))))
  rotate_left
  .refine Ut (Fs h) λt' a' κ1 e1 q a0 _=>?_;cases q;exact hk (kLb a0)
  have Y:=O.trans s3;refine Ae rfl (Ae rfl (Bo _ _ 2 _ rfl rfl (.inl (.inl (Y _ _ hu))) (Bg (j:=2) rfl) (Ae rfl (Ct o r fn kn kd se (Ch κ kns v2 x rfl (L.same Y) (h2.mono Y.AE) (hd x (by simp)) hb ⟨λκ1 a9 e1 hx H4 sx L4=>?_,λhx H4 sx=>k2 (B6 λκ' kn' e h=>?_) _ ((B3 Y).trans sx.more)⟩)))))
  .refine Am (Mo hx) λa' I ha=>?_;subst I;exact k1 _ _ _ (Hx (kLa hk) ha) _ ((B3 Y).trans sx.more) L4
  .refine Q0 (Fs h) λt' a' κ1 e1 q a0 ha _=>?_;cases q;rw[show Z0 se (.tup a') κ kns=Cb se a' κ kns from rfl,ha]at hx;cases hx
theorem DV:AD ["look","statement","kinds","first","second"] ["look","statement","kinds"] (Aq Mx):=FS
theorem Ra (F:BE K "look_at_if" "look_at_if" Mx f fd)(aF:AU P w K mg base m "look_at_parts" ["look","parts","wanted","kinds"] (Ms K C cR (n+1)))(a6:AU P w K mg base m "look_at_statements" ["look","statements","around"] (spS C cR n)):AI P w K mg base (DP P w) (m+1) f fd ["look","statement","kinds"] (IX C cR (n+2) "if"):=by
 refine F.DM DV λcdv A outer s H vs Q E hr h=>?_
 .refine Dp h λo r fn kn kd se I=>?_;refine F3 I λκ kns v rest z2 L hi aB hd z3=>?_;refine Bu z3 λhb k1 k2=>?_;subst z2;refine Jg (len3 (Kf (k:=3) aB (by decide))) λt x y I=>?_;subst I;have nd:=DV.nd;obtain⟨AR,hd⟩:=Ft hd;rw[Aj6]at hb;refine A0 hi λa us I hu z2=>?_;refine A0 z2 λv0 vr z3 h0 z4=>?_;refine A0 z4 λv1 aH z5 h1 z6=>?_;refine A0 z6 λv2 aI z7 h2 z8=>?_;refine A0 z8 λv3 aD z9 h3 aE=>?_;subst I z3 z5 z7 z9;cases(show aD=[] from aE);refine Bk L.CK λkks FM FR gd3=>Ae (Ag (Ax (CD aF (B2 Av rfl) hr (BF (qv 0) (Ai (AT (BY (qv 1) Af))) (Ai (AT Ad)) (qv 2)))) (Ag (Bd 3 nd (CD a6 (B2 Av rfl) hr (AO (qv 0) (BY (qv 1) Af) (qv 2)))) (Ag (Bd 4 nd (CD a6 (B2 Av rfl) hr (AO (qv 0) (BY (qv 1) Af) (qv 2)))) (Al (Aw (Dl (qv 3) (Dz (qv 4)))))))) ?_;refine Ae rfl (Ae rfl (Ch _ _ 1 _ rfl rfl (.inl (.inl hu)) (Bg (j:=1) rfl) (zl 1) λp hp=>?_));generalize z:upd H p _=H1;obtain⟨s1,q1⟩:=B8 hp z;refine⟨(zl 1),λp2 aC=>?_⟩;generalize z:upd H1 p2 _=H2;obtain⟨s2,q2⟩:=B8 aC z;have a0:=s1.trans s2;refine Ae rfl (Ct o r fn kn se κ (Ct kks p p2 kd [v1] [t] (Nj ["truth"] rfl (L.lk.same a0) (a0 _ _ FM) FR (.inl (.inl (s2 _ _ q1))) (Du (Ao v1 [] rfl (h1.mono a0.AE) rfl) (.inl (.inl q2)) (λe aA=>hd e (by rw[JM.mp aA];simp)) (λhk H3 s3=>?_) λhk H3 s3=>k2 (B6 λκ' kn' e h=>?_) _ (B3 (a0.trans s3))))))
  rotate_left
  .refine Dp (Kg h) λt' Y b' κ1 kn1 e1 I=>?_;refine A0 I λκ2 e2 q a1 _=>?_;cases q;exact hk (kLb a1)
  have O:=a0.trans s3;refine Ae rfl (Ae rfl (Bo _ _ 2 _ rfl rfl (.inl (.inl (O _ _ hu))) (Bg (j:=2) rfl) (Ae rfl (Ct o r fn kn kd se (Ch κ kns v2 x rfl (L.same O) (h2.mono O.AE) (hd x (by simp)) (by omega) ⟨λκ1 kn1 e1 hx H4 sx L4=>?_,λhx H4 sx=>k2 (B6 λκ' kn' e h=>?_) _ ((B3 O).trans sx.more)⟩)))))
  rotate_left
  .refine Dp (Kg h) λt' Y b' κ1 kn1 e1 I=>?_;refine Gh I λκ2 e2 q a1 ha _=>?_;cases q;rw[show Z0 se (.tup Y) κ kns=Cb se Y κ kns from rfl,ha]at hx;cases hx
  have t4:=O.AE.trans ((L.same O).AE sx.more);refine Am (Mo hx) λY I ha=>?_;subst I;have a8:kn1.length+Nw y<=100:=by
   have:=Aj7 ha;have e:Nw (.tup Y)=Ed Y:=rfl;omega
  refine Ae rfl (Ae rfl (Bo _ _ 3 _ rfl rfl (.inl (.inl (t4 _ _ hu))) (Bg (j:=3) rfl) (Ae rfl (Ct o r fn kn kd se (Ch κ kn1 v3 y rfl L4 (h3.mono t4) (hd y (by simp)) a8 ⟨λκ2 aK e2 hy H5 a3 L5=>?_,λhy H5 a3=>k2 (B6 λκ' kn' e h=>?_) _ (((B3 O).trans sx.more).trans a3.more)⟩)))))
  .refine Am (Mo hy) λb' I a7=>?_;subst I;have a5:Sx [kn,kd] H H5:=((B3 O).trans sx.more).trans a3.more;have k:=k1 _ _ _ (Mq (kLa hk) ha a7)
   cases e1 with
   | true=>exact Ae rfl (Ar true rfl (Ae rfl (k _ a5 L5)))
   | false=>exact Ae rfl (Ar false rfl (k _ a5 L5))
  .refine Dp (Kg h) λt' a2 b' κ1' aJ aG I=>?_;refine Yb I λκ2 e2 q a1 a4 a9 _=>?_;cases q;rw[ha]at a4;cases a4;rw[show Z0 se (.tup b') κ kn1=Cb se b' κ kn1 from rfl,a9]at hy;cases hy
end
structure TxS (K:PySem.W.Frag)(w:World)(mg:Str->Option Value)(aS aL:Addr)(fS:Str->Addr):Prop where
 EM:mg "STATEMENTS"=some (.ref aS)
 IT:mg "LENGTHS"=some (.ref aL)
 stats:FN K w aS (As.map λp=>(p.1,V.ref (fS p.1)))
 lens:FN K w aL (As.map λp=>(p.1,V.int p.2))
 noS:∀op∈hw,As.lookup op=none->PySem.W.nsIn K aS op=some none
theorem Iz (f:Str)(v:V):∀fs:List (Str×V),(G5 f v fs).length<=fs.length+1
 | []=>by simp[G5]
 | (g,x)::r=>by
  unfold G5;split
  .simp
  .simp;exact Iz f v r
noncomputable def knV (kn:List Str):List (Key×V):=kn.map λy=>(Sum.inr y,V.bl true)
def Ae6 (C:Addr):Sp:=λvs H Q _=>∃x dx r fn v f,vs=[.ref x,.ref r,.ref fn,v]/\H x=some (.ins C dx [])/\AS H v (Fc f)/\f.fh.ps.length=f.fh.ks.length/\f.fh.ks.length<=4/\f.fh.ps.Nodup /\
 ∀H' kn fs,H kn=none->Sx [x] H H'->H' x=some (.ins C dx fs)->fs.lookup ("records":Str)=some (V.ref r)->fs.lookup ("functions":Str)=some (V.ref fn)->fs.lookup ("gives":Str)=some (V.str f.fh.k)->fs.lookup ("known":Str)=some (V.ref kn)->H' kn=some (.dK (knV f.fh.ps))->Q .BO H'
def W6 (C cR:Addr)(n:Nat):Sp:=λvs H Q E=>∃o r fn kn s v f,vs=[.ref o,v]/\Lk C H o r fn kn s/\H kn=some (.dK (knV f.fh.ps))/\r≠kn/\fn≠kn/\AS H v (Fc f)/\f.fh.ps.length=f.fh.ks.length/\f.fh.ks.length<=4/\f.fh.ps.Nodup/\(∀t∈f.ts,CH n t=true)/\f.fh.ps.length+Ed f.ts<=100/\FX f.ts=true/\((∃κ' I,Cb s f.ts (FA f.fh.ps f.fh.ks) f.fh.ps=some (κ',I,true))->∀H',Sx [kn] H H'->Q .BO H')/\(Cb s f.ts (FA f.fh.ps f.fh.ks) f.fh.ps=none->∀H',Sx [kn] H H'->E (.ref cR) none H')/\(∀κ' I,Cb s f.ts (FA f.fh.ps f.fh.ks) f.fh.ps≠some (κ',I,false))
theorem L3:∀(more I:List (Key×V)),((I++more).map (·.1)).Nodup->Eb I more=I++more
 | [],I,_=>by simp[Eb]
 | O::rest,I,hn=>by
  have hf:¬(I.any λx=>decide (x.1=O.1))=true:=by
   rw[PM];rintro⟨x,hx,he⟩;rw[KI,JX,LI]at hn;exact hn.2.2 x.1 (List.mem_map_of_mem hx) O.1 (by simp) (JL he)
  have:Eb I (O::rest)=Eb (I++[O]) rest:=by
   show Eb (L2.putK I O.1 O.2) rest=_
   unfold L2.putK;rw[JP hf]
  rw[this,L3 rest (I++[O]) (by simpa using hn)];simp
theorem Ak3 (nd:ps.Nodup)(h:ps.length=ks.length):KdR (Eb [] ((ps.map (Sum.inr:Str->Key)).zip (ks.map V.str))) (FA ps ks)/\(Eb [] ((ps.map (Sum.inr:Str->Key)).zip (ks.map V.str))).length=ps.length:=by
 have e1:((ps.map (Sum.inr:Str->Key)).zip (ks.map V.str)).map (·.1)=ps.map Sum.inr:=by rw[List.map_fst_zip (by rw[JB,JB];omega)]
 have e:Eb [] ((ps.map (Sum.inr:Str->Key)).zip (ks.map V.str))=(ps.map (Sum.inr:Str->Key)).zip (ks.map V.str):=by
  have:=L3 ((ps.map (Sum.inr:Str->Key)).zip (ks.map V.str)) [] (by
   rw[OW,e1]
   exact List.Pairwise.map _ (λa b h z=>h (MD z)) nd)
  simpa using this
 rw[e];refine⟨?_,by rw[List.length_zip,JB,JB];omega⟩;clear e e1 nd;intro x;unfold FA
 induction ps generalizing ks with
 | nil=>rfl
 | cons p ps I=>
  cases ks with
  | nil=>simp at h
  | cons q ks=>
   rw[JX,JX,List.zip_cons_cons,List.zip_cons_cons];by_cases c:p=x
   .rw [C7 (LB Sum.inr c),List.find?_cons_of_pos (by simpa using c)];rfl
   .rw [C8 (λz=>c (MD z)),NH (by simpa using c)];exact I (by simpa using h)
section
variable {P:Program}{w:World}{K:PySem.W.Frag}{mg:Str->Option Value}{base:Heap}{t1 t2 t3 t4:Tok}{C aS aL cR:Addr}{fS:Str->Addr}
theorem BU:AD ["look","statements","around","kinds","ended","statement","action"] ["look","statements","around"] (Aq E7):=FS
theorem Jn (hm:1<=m)(F:BE K "look_at_statements" "look_at_statements" E7 f fd)(T:BH K mg)(TT:TxS K w mg aS aL fS)(a5:AU P w K mg base 1 "want" ["so","why"] (Eo cR))
  (ah:∀h f,(h,V.ref f)∈As.map (λp=>(p.1,V.ref (fS p.1)))->∃fd,AI P w K mg base (DP P w) m f fd ["look","statement","kinds"] (IX C cR n h)/\PySem.W.keepIn K (.ref f)=true/\Binds K fd ["look","statement","kinds"] []):AI P w K mg base (DP P w) (m+1) f fd ["look","statements","around"] (spS C cR n):=by
 refine F.DM BU λcdv A outer s H vs Q E hr h=>?_
 .refine Dp h λo r fn kn kd se O=>?_;refine F3 O λκ kns v t z2 L hi hd hb z3=>?_;subst z2;obtain⟨k1,k2⟩:=z3;have nd:=BU.nd;have aj:(2000000:Nat)<=sizeLine:=by rw[KU];omega
  refine Ae (Ag (Ax (CD a5 (B2 Av rfl) hr (AJ (Bl B7 rfl T.AH Cp (AJ (qv 1) (Dq (v:=.ty "tuple") rfl T.BR NO rfl))) Ad))) (Ag (Bd 3 nd (Cc Ll rfl T.HC boot_dict (AT (qv 2)))) (Ag (Bd 4 nd Fh) (Ag (Ei OF rfl (Hq (qv 1)) (HE 5 nd) (Ag (Ax (CD a5 (B2 Av rfl) hr (AJ (Af8 (qv 4)) Ad))) (Ag (Ax (CD a5 (B2 Av rfl) hr (AJ (Dl (Bl B7 rfl T.AH Cp (AJ (qv 5) (Dq (v:=.ty "tuple") rfl T.BR NO rfl))) (Dz (GC F1 (Ey T.AY (qv 5)) Af))) Ad))) (Ag (Ax (CD a5 (B2 Av rfl) hr (AJ (Dl (Bl B7 rfl T.AH Cp (AJ (BY (qv 5) Af) (Dq (v:=.ty "str") rfl T.FK boot_str rfl))) (Dz (Ty TT.stats rfl TT.EM (BY (qv 5) Af)))) Ad))) (Ag (Ax (CD a5 (B2 Av rfl) hr (AJ (GC B9 (Ey T.AY (qv 5)) (Ls TT.lens rfl TT.IT (BY (qv 5) Af) (λ_ _=>rfl))) Ad))) (Ag (Bd 6 nd (Ls TT.stats rfl TT.EM (BY (qv 5) Af) (λ_ _=>rfl))) (Al (Bd 4 nd (Ag2 ah (B2 Av rfl) (hr.mono (by omega)) (i:=6) rfl (Or.inl rfl) (AO (qv 0) (qv 5) (qv 3))))))))))) (Al (Aw (qv 4))))))) ?_
  cases t with
  | num i=>
   cases(show v=.int i from hi);exact Ae rfl (D6 rfl (.int _) rfl (Au rfl (λz=>(nomatch z)) λ_=>k2 rfl H (B3 (AA.refl H))))
  | wd x=>
   cases(show v=.str x from hi);exact Ae rfl (D6 rfl (.str _) rfl (Au rfl (λz=>(nomatch z)) λ_=>k2 rfl H (B3 (AA.refl H))))
  | tup ts=>
  obtain⟨_,hd⟩:=Ft hd;refine A0 hi λa us O hu hl=>?_;subst O;have len:=hl.len;refine Bk L.CK λkks FM FR gd3=>Ae rfl (D6 rfl (.tup hu) rfl (Au rfl (λ_=>(Ae rfl (Ao kd kks rfl (.of FM) λd aJ=>?_))) λz=>(nomatch z)));generalize z:upd H d _=H0;obtain⟨s0,q0⟩:=B8 aJ z;have a9:∀{b:Addr} {u:HO},H b=some u->b≠d:=λe=>Ah e aJ;refine Bk L.hkn λae aH aP aQ=>?_;obtain⟨⟨_,_⟩,⟨kr,er,_⟩,kf,ef,_⟩:=id L.lk;have L0:HY C H0 o r fn kn d se κ kns:=⟨L.lk.same s0,(B4 ae (s0 _ _ aH) aP aQ),(B4 kks q0 FR gd3),⟨L.d.1.1,a9 er⟩,⟨L.d.2.1.1,a9 ef⟩,a9 aH⟩;have aG:∀{X},Sx [kn,d] H0 X->Sx [kn] H X:=λI b u e nb=>I b u (s0 _ _ e) (by simp at nb;simp[nb,a9 e]);have aZ:∀κ' aN e,Cb se ts κ kns=some (κ',aN,e)->∀H',Sx [kn] H H'->HY C H' o r fn kn kd se κ aN->Q (.bl e) H':=k1;have Y:Cb se ts κ kns=none->∀H',Sx [kn] H H'->E (.ref cR) none H':=k2;have hb:kns.length+Ed ts<=100:=hb;refine Ae rfl (B4 a rfl ⟨_,.inl (.inl (s0 _ _ hu))⟩ ?_);refine Zi (xs:=us) (λi σ H'=>∃e1 κ1 kn1 x1 x2,σ=[some (.ref o),some (.ref a),some (.ref kd),some (.ref d),some (.bl e1),x1,x2]/\Sx [kn,d] H0 H'/\HY C H' o r fn kn d se κ1 kn1/\kns.length<=kn1.length/\kn1.length+Ed (ts.drop i)<=100/\Cb se ts κ kns=(if e1=true then(if(ts.drop i).isEmpty then some (κ1,kn1,true)else none)else Cb se (ts.drop i) κ1 kn1))
   (Ff false κ kns _ _ rfl (B3 (AA.refl _)) L0 (JG _) hb (by rw[AN];rfl)) ?_ ?_ ?_
  .rintro i σ H' _ ⟨e1,κ1,kn1,x1,x2,_,I,_⟩;exact .inl (.inl (L0.AE I _ _ (s0 _ _ hu)))
  .rintro i x σ H' hx ⟨e1,κ1,kn1,x1,x2,rfl,I,L1,aU,aI,R⟩;refine Am (hl.get hx) λth ht ih=>?_;have lt:i<ts.length:=(List.getElem?_eq_some_iff.mp ht).1;have dr:ts.drop i=th::ts.drop (i+1):=by
    rw[List.drop_eq_getElem_cons lt];rw[KN lt]at ht;rw[KR ht]
   rw[dr,Dm]at aI;rw[dr]at R;have tu:EG H H':=s0.AE.trans (L0.AE I);have a4:=aG I;have a6:=hd _ (JU ht)
   cases e1 with
   | true=>
    rw[JN rfl]at R;exact Ae rfl (Ae rfl (Au rfl (λz=>(nomatch z)) λ_=>Y (R.trans rfl) _ a4))
   | false=>
   rw[AN,C5]at R;have a3:BD se th κ1 kn1=none->Cb se ts κ kns=none:=λh=>by rw[R,h]
   refine Ae rfl (Ae rfl (Au rfl (λ_=>?_) λz=>(nomatch z)));have a8:=ih.mono tu
   cases th with
   | num j=>
    cases(show x=.int j from a8);exact Ae rfl (D6 rfl (.int _) rfl (Ae rfl (G6 (Au rfl (λz=>(nomatch z)) λ_=>Y (a3 (by rw[BD])) _ a4))))
   | wd j=>
    cases(show x=.str j from a8);exact Ae rfl (D6 rfl (.str _) rfl (Ae rfl (G6 (Au rfl (λz=>(nomatch z)) λ_=>Y (a3 (by rw[BD])) _ a4))))
   | tup l2=>
   have ac:=a8;refine A0 a8 λa2 aM O aC aK=>?_;subst O;have sq:BW K H' a2 aM:=.inl (.inl aC)
   cases l2 with
   | nil=>
    cases(show aM=[] from aK);exact Ae rfl (D6 rfl (.tup aC) rfl (Ae rfl (Ht (Ae rfl (Ao a2 _ rfl (.inr sq) (Au rfl rfl (Au rfl (λz=>(nomatch z)) λ_=>Y (a3 (by rw[BD])) _ a4)))))))
   | cons h0 rest=>
   refine A0 aK λv0 vr O aD aY=>?_;subst O;have a1:EL (v0::vr) 0=some v0:=Bg (j:=0) rfl;refine Ae rfl (D6 rfl (.tup aC) rfl (Ae rfl (Ht (Ae rfl (Ao a2 _ rfl (.inr sq) (Au rfl rfl (Au rfl (λ_=>?_) λz=>(LW z (by show(0:Int)<((vr.length+1:Nat):Int);omega)).elim)))))))
   cases h0 with
   | num j=>
    cases(show v0=.int j from aD);exact Ae rfl (Bo _ _ 0 _ rfl rfl sq a1 (D6 rfl (.int _) rfl (Ae rfl (G6 (Au rfl (λz=>(nomatch z)) λ_=>Y (a3 (by rw[BD])) _ a4)))))
   | tup l0=>
    refine A0 aD λa0 al O aa _=>?_;subst O;exact Ae rfl (Bo _ _ 0 _ rfl rfl sq a1 (D6 rfl (.tup aa) rfl (Ae rfl (G6 (Au rfl (λz=>(nomatch z)) λ_=>Y (a3 (by rw[BD])) _ a4)))))
   | wd op=>
   cases(show v0=.str op from aD);have lr:vr.length=rest.length:=aY.len;obtain⟨n',aW⟩:∃n',n=n'+1:=by
    cases n with
    | zero=>unfold CH at a6;cases a6
    | succ n'=>exact⟨n',rfl⟩
   have aX:op∈hw:=by subst aW;exact Ai9 (Ft a6).1
   cases a7:As.lookup op with
   | none=>
    have:BD se (.tup (.wd op::rest)) κ1 kn1=none:=B6 λκ' kn' e h=>by
     refine Co (Ju h) λag r' q aB=>?_;cases q;have:∀p∈As,As.lookup p.1≠none:=by decide
     exact this _ aB a7
    exact Ae rfl (Bo _ _ 0 _ rfl rfl sq a1 (D6 rfl (.str _) rfl (Ae rfl (Ht (Ae rfl (Bo _ _ 0 _ rfl rfl sq a1 (Ar op rfl (.inr ⟨TT.noS op aX a7,(Au rfl (λz=>(nomatch z)) λ_=>Y (a3 this) _ a4)⟩))))))))
   | some ln=>
   have aA:=Er a7;have ms:(op,V.ref (fS op))∈As.map (λp=>(p.1,V.ref (fS p.1))):=JT.mpr (Ae aA rfl);have ml:(op,V.int (ln:Int))∈As.map (λp=>(p.1,V.int p.2)):=JT.mpr (Ae aA rfl);refine Ae rfl (Bo _ _ 0 _ rfl rfl sq a1 (D6 rfl (.str _) rfl (Ae rfl (Ht (Ae rfl (Bo _ _ 0 _ rfl rfl sq a1 (Ar op rfl (.inl (Ae ms (Au rfl (λ_=>(Ae rfl (Ao a2 _ rfl (.inr sq) (Ae rfl (Bo _ _ 0 _ rfl rfl sq a1 (Cj op _ rfl ml rfl (Au rfl (λc=>?_) λc=>Y (a3 (B6 λκ' kn' e h=>?_)) _ a4))))))) λz=>(nomatch z)))))))))))
   rotate_left
   .refine Co (Ju h) λag r' q aB=>?_;cases q;have:∀p∈As,As.lookup p.1=some p.2:=by decide
    have:=this _ aB;rw[a7]at this;cases this;exact LW c (LB V.int (by rw[JR,lr]))
   have aV:ln=rest.length+1:=by
    have:=lenI c;rw[JR,lr]at this;omega
   subst aV;refine Ae rfl (Bo _ _ 0 _ rfl rfl sq a1 (Ao op _ rfl ms (Ao op (fS op) rfl ms (Ae rfl (Ae rfl (Ae rfl (Ct o r fn kn d se (Ch κ1 kn1 _ rest rfl L1 ac aA a6 (Bc (by omega) (λκ2 kn2 e2 qq H2 aE L2=>?_) λqq H2 aE=>Y (a3 qq) _ (aG (I.trans aE)))))))))));have ai:=lets_of qq;refine Ff e2 κ2 kn2 _ _ rfl (I.trans aE) L2 (by omega) (by omega) ?_;rw[R,qq]
  .rintro σ H' ⟨e1,κ1,kn1,x1,x2,rfl,I,L1,aU,aI,R⟩;rw[len,List.drop_length]at R;have R':Cb se ts κ kns=some (κ1,kn1,e1):=by
    cases e1 with
    | true=>rw[R];rfl
    | false=>rw[R,AN,Ee]
   have aF:=aG I;exact Ae rfl (aZ _ _ _ R' _ aF (L.move aF.more L1.hkn (B4 kks (aF _ _ FM (by simp[L.d.2.2.symm])) FR (by omega))))
theorem EI:AD ["self","records","functions","fun"] ["self","records","functions","fun"] (Aq Mw):=FS
theorem Ub (F:BE K "__init__" "Look.__init__" Mw f fd)(LT:GU K C):AI P w K mg base BV 1 f fd ["self","records","functions","fun"] (Ae6 C):=by
 refine F.CZ EI λcdv A outer s H vs Q E hr h=>?_
 .refine Wd h λx dx r fn v f Y hx hi a5 a7 z2=>?_;subst Y;obtain⟨GO,k⟩:=z2;have nd:=EI.nd;refine Jf (Jd hi) λa b us Y hu hb a9=>?_;subst Y;have a4:a≠x:=Bb hu hx (by simp);have a6:b≠x:=Bb hb hx (by simp);refine Ae (Ag (Tv (qv 0) (qv 1) rfl) (Ag (Tv (qv 0) (qv 2) rfl) (Ag (Tv (qv 0) (BY (qv 3) Af) rfl) (Al (Tv (qv 0) (Ag1 (N':=["name"]) (n:=1) At.n rfl (Hq (Ev (BY (qv 3) Af) Cm)) (λ_ _ _=>(C6 (GD 0) Dd (qv 0) Fh))) rfl))))) (Ae rfl (Ae rfl (Ch x C dx [] rfl hx LT.cl LT.n1 (by decide) (Ae rfl (Ae rfl (Ch x C dx _ rfl Aj LT.cl LT.n2 (KS (Iz _ _ _) (by decide)) ?_))))));rw[Ln];refine Ae rfl (Bo _ _ 3 _ rfl rfl (.inl (.inl (by rw[Ak a4];exact hu))) (Bg (j:=3) rfl) (Ae rfl (Ch x C dx _ rfl Aj LT.cl LT.n3 (KS (Iz _ _ _) (KS (Nat.add_le_add_right (Iz _ _ _) 1) (by decide))) ?_)));rw[Ln];refine Ae rfl (Bo _ _ 2 _ rfl rfl (.inl (.inl (by rw[Ak a4];exact hu))) (Bg (j:=2) rfl) (Ao b _ rfl (.inl (.inl (by rw[Ak a6];exact hb))) λp O=>(B4 p rfl ⟨_,.inl (.inl Aj)⟩ λD I=>?_)));have ea:alt (((Cf f.fh.ps f.fh.ks).map V.str).drop (HT.BA ((Cf f.fh.ps f.fh.ks).map V.str).length 0 none))=f.fh.ps.map V.str:=Kv a5;rw[ea]at I ⊢;have a1:x≠p:=λz=>by rw[z]at O;rw[Aj]at O;cases O
  have a0:x≠D:=λz=>by rw[z]at I;rw[Ak (λq=>a1 (z.trans q)),Aj]at I;cases I
  have a8:H p=none:=by rw[Ak a1.symm]at O;exact O
  have a3:D≠p:=λz=>by rw[z,Aj]at I;cases I
  have a2:H D=none:=by rw[Ak a3,Ak a0.symm]at I;exact I
  refine R6 (xs:=f.fh.ps.map V.str) (λi ys σ H'=>(∃o,σ=[o])/\H'=upd (upd (upd H x (HO.ins C dx (G5 "gives" (V.str f.fh.k) (G5 "functions" (V.ref fn) (G5 "records" (V.ref r) []))))) p (HO.tup (f.fh.ps.map V.str))) D (.dK ys)/\ys=knV (f.fh.ps.take i)) (JY (by rw[JB,a5];exact a7) (by decide)) (Bc ⟨_,rfl⟩ rfl (by simp[knV])) ?_ ?_ ?_
  .rintro i ys σ H' hi ⟨_,rfl,rfl⟩;refine Bc (.inl (.inl ?_)) Aj (by simp[knV];omega);rw[Ak a3.symm,Aj]
  .rintro i v ys σ H' hv ⟨⟨o,rfl⟩,rfl,rfl⟩;rw[KH]at hv;refine Am (Option.map_eq_some_iff.mp hv) λn hn Y=>?_;subst Y;have tk:=B5 hn;have nm:n∉f.fh.ps.take i:=λz=>by
    have:=GO.sublist (NK (i+1) _);rw[tk,LI]at this;exact this.2.2 n z n (by simp) rfl
   refine Ae rfl (Ou (Sum.inr n) rfl Aj ⟨_,rfl⟩ Ln ?_);rw[tk];exact Qh _ _ nm
  .rintro ys σ H' ⟨_,rfl,rfl⟩;rw[JB,LD];refine Ae rfl (Ch x C dx _ rfl (by rw[Ak a0,Ak a1,Aj]) LT.cl LT.n4 (KS (Iz _ _ _) (KS (Nat.add_le_add_right (JY (Iz _ _ _) (Nat.add_le_add_right (Iz _ _ _) 1)) 1) (by decide))) (k _ D _ a2 (λb u hb nb=>?_) Aj ?_ ?_ ?_ ?_ ?_))
   .have n1:b≠x:=by simpa using nb
    rw[Ak n1,Ak (Ah hb a2),Ak (Ah hb a8),Ak n1];exact hb
   .rw [Cq,JP (by decide +kernel),Cq,JP (by decide +kernel),Cq,JP (by decide +kernel),Cq,JN rfl]
   .rw [Cq,JP (by decide +kernel),Cq,JP (by decide +kernel),Cq,JN rfl]
   .rw [Cq,JP (by decide +kernel),Cq,JN rfl]
   .rw [Cq,JN rfl]
   .rw [Ak a0.symm,Aj]
theorem CY:AD ["look","fun","kinds"] ["look","fun"] (Aq J3):=FS
theorem Om (hm:1<=m)(F:BE K "look_at_body" "look_at_body" J3 f fd)(T:BH K mg)(aC:AU P w K mg base 1 "want" ["so","why"] (Eo cR))(aD:AU P w K mg base m "look_at_statements" ["look","statements","around"] (spS C cR n)):AI P w K mg base (DP P w) (m+1) f fd ["look","fun"] (W6 C cR n):=by
 refine F.DM CY λcdv A outer s H vs Q E hr h=>?_
 .refine Dp h λo r fn kn se v z1=>?_;refine dd15 z1 λf z2 lk hkn d1 d2 z3=>?_;refine G7 z3 λhi a0 aE GO hd z4=>?_;refine Ii z4 λa6 AR k1 k2 k3=>?_;subst z2;have nd:=CY.nd;refine Jf (Jd hi) λa b us z1 hu hb a9=>?_;subst z1;refine Ae (Ag (Bd 2 nd (Ap0 (b:=false) (c:=false) rfl rfl T.HC rfl T.n_zip (AJ (Ev (BY (qv 1) Af) Cm) (Ev (BY (qv 1) Af) (Ca Af))))) (Al (Ax (CD aC (B2 Av rfl) hr (AJ (CD aD (B2 Av rfl) hr (AO (qv 0) (Cd E6 (qv 1) (Ca Af) Cm) (qv 2))) Ad))))) (Ae rfl (Bo _ _ 2 _ rfl rfl (.inl (.inl hu)) (Bg (j:=2) rfl) (Ao b _ rfl (.inl (.inl hb)) λp hp=>?_)));have ea:alt (((Cf f.fh.ps f.fh.ks).map V.str).drop (HT.BA ((Cf f.fh.ps f.fh.ks).map V.str).length 0 none))=f.fh.ps.map V.str:=Kv a0;rw[ea];generalize z:upd H p _=H1;obtain⟨s1,q1⟩:=B8 hp z;refine Ae rfl (Bo _ _ 2 _ rfl rfl (.inl (.inl (s1 _ _ hu))) (Bg (j:=2) rfl) (Ae rfl (Ao b _ rfl (.inl (.inl (s1 _ _ hb))) λp2 a7=>?_)));rw[Al9 a0];generalize z:upd H1 p2 _=H2;obtain⟨s2,q2⟩:=B8 a7 z;have a3:=s1.trans s2;refine Cj p p2 rfl ⟨_,.inl (.inl (s2 _ _ q1))⟩ ⟨_,.inl (.inl q2)⟩ (Ao (f.fh.ps.map Sum.inr) (f.fh.ks.map V.str) (.inl (.inl ?_)) (.inl (.inl q2)) λd a2=>?_)
  .exact (s2 _ _ q1).trans (by rw[List.map_map];rfl)
  obtain⟨aA,aB⟩:=Ak3 GO a0;generalize z:upd H2 d _=H3;obtain⟨s3,q3⟩:=B8 a2 z;have a4:=a3.trans s3;have a1:∀{b:Addr} {u:HO},H b=some u->b≠d:=λe=>Ah (a3 _ _ e) a2;refine Ae rfl (Ae rfl (Ar 4 rfl (Cj a _ rfl (.inl (.inl (a4 _ _ hu))) (Fq (n:=4) (by decide) (by simp)) λp4 a8=>?_)));rw[show Ec (V.str "fun"::V.str f.nm::V.ref b::V.str f.fh.k::us) (some 4) none=us from D9 _ 4];generalize z:upd H3 p4 _=H4;obtain⟨s4,q4⟩:=B8 a8 z;have I:=a4.trans s4;obtain⟨⟨_,_⟩,⟨kr,er,_⟩,kf,ef,_⟩:=id lk;refine Ae rfl (Ct o r fn kn d se (Ch _ f.fh.ps _ (.tup f.ts) rfl ⟨lk.same I,(B0 (I _ _ hkn) (λx=>valS f.fh.ps x) (by unfold knV;rw[JB];exact JG _)),(B0 (s4 _ _ q3) aA (by rw[aB];exact JG _)),⟨d1,a1 er⟩,⟨d2,a1 ef⟩,a1 hkn⟩ (Ao p4 _ rfl q4 (a9.mono I.AE)) (Cr AR hd) a6 ⟨λκ' a5 e hs O Y L5=>?_,λhs O Y=>k2 hs O λq u e n=>Y q u (I _ _ e) n⟩))
  cases e with
  | false=>exact absurd hs (k3 κ' a5)
  | true=>exact Au rfl (λ_=>k1 (Ki κ' a5 hs) O λq u e n=>Y q u (I _ _ e) n) λz=>(nomatch z)
end
local macro_rules|`(tactic| walk_at "n")=>`(tactic| try dsimp only[L2.start,Dw,List.set_cons_succ,List.set_cons_zero,Za,Y9,Zo,Zn,List.length_cons,List.length_nil,Nat.reduceSub,Nat.reduceAdd,List.replicate_succ,List.replicate_zero])
structure TxL (K:PySem.W.Frag)(mg:Str->Option Value)(C fi:Addr)(fdi:FuncData):Prop where
 g_Look:mg "Look"=some (.ref C)
 b_Look:Binds K fdi ["self","records","functions","fun"] []
 mak:Mk K C fi
noncomputable def Yg (AB:List (Str×List Str))(AC:List GN):Th:=.tup (.wd "program"::(AB.map Gp++AC.map Fc))
noncomputable def F4 (AB:List (Str×List Str))(AC:List GN)(f:GN):SR:=Cb ⟨FZ AB,GB AC,f.fh.k⟩ f.ts (FA f.fh.ps f.fh.ks) f.fh.ps
structure TreeX (n:Nat)(AB:List (Str×List Str))(AC:List GN):Prop where
 rn:(AB.map (·.1)).Nodup
 ro:∀n fl,(n,fl)∈AB->Da n=true/\n≠"number"/\n≠"truth"/\n≠"list"/\fl≠[]/\fl.length<=4/\fl.Nodup/\∀x∈fl,Da x=true
 fn:(AC.map (·.nm)).Nodup
 fo:∀f∈AC,Da f.nm=true/\f.fh.ps.length=f.fh.ks.length/\f.fh.ks.length<=4/\f.fh.ps.Nodup/\(∀x∈f.fh.ps,Da x=true)/\(∀k∈f.fh.ks,Ny AB k)/\Ny AB f.fh.k
 mn:∃f∈AC,f.nm="main"/\f.fh.k="number"/\∀k∈f.fh.ks,k="number"
 bo:∀f∈AC,(∀t∈f.ts,CH n t=true)/\f.fh.ps.length+Ed f.ts<=100/\FX f.ts=true/\∀κ kn,F4 AB AC f≠some (κ,kn,false)
def Wy (cR:Addr)(n:Nat):Sp:=λvs H Q E=>∃v AB AC,vs=[v]/\AS H v (Yg AB AC)/\TreeX n AB AC/\AB.length<=10/\AC.length<=10/\((∀f∈AC,(F4 AB AC f).isSome=true)->∀H',AA H H'->Q .BO H')/\((∃f∈AC,F4 AB AC f=none)->∀H',AA H H'->E (.ref cR) none H')
noncomputable def isF (t:Th):Bool:=headT t "fun"
theorem V9:∀l:List (Str×List Str),(l.map Gp).filter isF=[]
 | []=>rfl
 | p::r=>by
  rw[JX,PD,V9 r]
  show ¬decide (("record":Str)="fun")=true
  decide
theorem Wa:∀l:List GN,(l.map Fc).filter isF=l.map Fc
 | []=>rfl
 | p::r=>by
  rw[JX,PB,Wa r]
  show decide (("fun":Str)="fun")=true
  decide
theorem Xj {AB:List (Str×List Str)}{AC:List GN}{t:Th}(h:t∈AB.map Gp++AC.map Fc):∃y r,t=.tup (.wd y::r):=by
 rcases JV.mp h with h|h
 .refine Am (JT.mp h) λp _ I=>?_;subst I;exact L7 rfl
 .refine Am (JT.mp h) λp _ I=>?_;subst I;exact L7 rfl
theorem Yq (h:AS H v (Gp p)):∃a,v=.ref a/\H a=some (.tup (.str "record"::.str p.1::p.2.map V.str)):=by
 refine A0 h λa us O hu Y=>?_;refine A0 Y λI r0 z3 h0 z4=>?_;refine A0 z4 λv1 r1 z5 h1 h2=>?_;subst O z3 z5;cases(show I=.str "record" from h0);cases(show v1=.str p.1 from h1);rw[Jc h2]at hu;exact Ar a rfl hu
theorem Lm {α β:Type}{f:α->β}{l:List α}{i:Nat}{y:β}(h:(l.map f)[i]?=some y):∃x,l[i]?=some x/\y=f x:=by
 rw[KH]at h;refine Am (Option.map_eq_some_iff.mp h) λx hx e=>Ar x hx e.symm
theorem nd_at {α:Type}{key:α->Str}{l:List α}(nd:(l.map key).Nodup){i j:Nat}{x y:α}(hi:l[i]?=some x)(I:l[j]?=some y)(h:j<i):key y≠key x:=by
 intro e;have hk:(l.map key)[i]?=some (key x):=by rw[KH,hi];rfl
 have O:(l.map key)[j]?=some (key y):=by rw[KH,I];rfl
 have hm:key y∈(l.map key).take i:=by
  refine JU (i:=j) ?_;rw[List.getElem?_take,JN h];exact O
 have:=nd.sublist (NK (i+1) _);rw[B5 hk,LI]at this;exact this.2.2 _ hm _ (JM.mpr rfl) e
theorem Kp {ys:List (Key×V)}{x y:Str}{v:V}(h:y≠x):Bm (L2.putK ys (Sum.inr x) v) (Sum.inr y)=Bm ys (Sum.inr y):=by rw[Bx,JP λz=>h (MD z)]
section
variable {P:Program}{w:World}{K:PySem.W.Frag}{mg:Str->Option Value}{base:Heap}{t1 t2 t3 t4:Tok}{C fi cR:Addr}{fdi:FuncData}
theorem DB:AD ["thing","functions","records","record","fields","fun","heads"] ["thing"] (Aq Jx):=FS
theorem Og (hm:4<=m)(F:BE K "look_at_tree" "look_at_tree" Jx f fd)(T:BH K mg)(TM:TxL K mg C fi fdi)(aI:AU P w K mg base 1 "want" ["so","why"] (Eo cR))(aq:AQ P w K mg base 1 "is_headed" ["thing","word"] Te)
  (au:AQ P w K mg base 2 "all_unlike" ["things"] (Vb K))(bN:AQ P w K mg base 4 "look_at_record" ["record"] Ae4)(bL:AQ P w K mg base 4 "look_at_head" ["fun","records"] spHd)(bM:AQ P w K mg base 2 "look_at_main" ["fun"] Wx)
  (bK:AU P w K mg base m "look_at_body" ["look","fun"] (W6 C cR n))(bI:AI P w K mg base (DP P w) 1 fi fdi ["self","records","functions","fun"] (Ae6 C)):AI P w K mg base (DP P w) (m+1) f fd ["thing"] (Wy cR n):=by
 have bJ:=TM.mak;refine F.DM DB λcdv A outer s H vs Q E hr h=>?_
 .refine Rj h λv AB AC I hi TR lr lf z2=>?_;subst I;obtain⟨k1,k2⟩:=z2;have nd:=DB.nd;have bP:(2000000:Nat)<=sizeLine:=by rw[KU];omega
  have ay:=hi;refine A0 hi λa bR I hu z2=>?_;refine A0 z2 λv0 us z3 h0 hl=>?_;subst I z3;cases(show v0=.str "program" from h0);have len:=hl.len;rw[JH,JB,JB]at len;refine Ae (Ag (Ax (CD aI (B2 Av rfl) hr (AJ (qf aq hr (AJ (qv 0) Ad)) Ad))) (Ag (G9 (i0:=1) nd rfl rfl rfl (N':=["part"]) (n:=1) At.n rfl (Hq (Cd E6 (qv 0) (Ca Af) Cm)) (λ_ _ _=>(Bc (GD 0) (O9 (Ho (qf aq hr (AJ (qv 0) Ad)))) (qv 0)))) (Ag (Bd 2 nd (Cd E6 (qv 0) (Ca Af) (Ca (Ap Fk (Ey T.AY (qv 0)) (Ey T.AY (qv 1)))))) (Ag (Ei OF rfl (Hq (qv 2)) (HE 3 nd) (Al (Ax (qf bN hr (AT (qv 3)))))) (Ag (Ax (CD aI (B2 Av rfl) hr (AJ (qf au hr (AT (E9 (N':=["record"]) (n:=1) At.n rfl (Hq (qv 2)) (λ_ _ _=>(Bc (GD 0) Dd (Dv (show IxR _ (Ve K)from Lj) (qv 0) Af (λ_ _=>rfl))))))) Ad))) (Ag (Vf (i0:=4) nd rfl rfl rfl (N':=["record"]) (n:=1) At.n rfl (Hq (qv 2)) (λ_ _ _=>(C6 (GD 0) Dd (Dv (show IxR _ (Ve K)from Lj) (qv 0) Af (λ_ _=>rfl)) (Cd (show SlR _ (rSlT K)from E6) (qv 0) (Ca Af) Cm)))) (Ag (Ei OF rfl (Gf (qv 1)) (HE 5 nd) (Al (Ax (qf bL hr (AJ (qv 5) (qv 4)))))) (Ag (Ax (CD aI (B2 Av rfl) hr (AJ (qf au hr (AT (E9 (N':=["fun"]) (n:=1) At.n rfl (Gf (qv 1)) (λ_ _ _=>(Bc (GD 0) Dd (Dv (show IxR _ (Ve K)from Lj) (qv 0) Af (λ_ _=>rfl))))))) Ad))) (Ag (Vf (i0:=6) nd rfl rfl rfl (N':=["fun"]) (n:=1) At.n rfl (Gf (qv 1)) (λ_ _ _=>(C6 (GD 0) Dd (Dv (show IxR _ (Ve K)from Lj) (qv 0) Af (λ_ _=>rfl)) (qv 0)))) (Ag (Ax (CD aI (B2 Av rfl) hr (AJ (Le (Dn hr) Ad (qv 6)) Ad))) (Ag (Ax (qf bM hr (AT (BP hr (qv 6) Ad)))) (Al (Ei OF rfl (Gf (qv 1)) (HE 5 nd) (Al (Ax (CD bK (B2 Av rfl) hr (AJ (Ao9 bJ bI (hr.mono (by omega)) rfl TM.g_Look TM.b_Look .nil (B2 Av rfl) (AO (qv 4) (qv 6) (qv 5))) (qv 5)))))))))))))))))) ?_;refine Ae rfl (ii42 _ "program" _ "program" rfl ay (Au rfl (λ_=>(Ae rfl (Ar 1 rfl (Cj a _ rfl (.inl (.inl hu)) (Fq (n:=1) (by decide) (by simp)) λp hp=>?_)))) λz=>absurd (JO rfl) (by rw[z];decide)));rw[show Ec (V.str "program"::us) (some 1) none=us from D9 _ 1];generalize z:upd H p _=H1;obtain⟨s1,q1⟩:=B8 hp z;refine B4 p rfl ⟨_,.inl (.inl q1)⟩ λD hD=>Q2 (xs:=us) (λi ys σ H'=>(∃o,σ=[o])/\AA H1 H'/\H' D=some (.lst ys)/\ys.length<=i/\AL H' ys (((AB.map Gp++AC.map Fc).take i).filter isF)) (by omega) (Du ⟨_,rfl⟩ (AA.upd (AA.refl _) hD) Aj (KY _) rfl) ?_ ?_ ?_
  .rintro i ys σ H' a7 ⟨_,Y,O,ly,_⟩;exact Bc (.inl (.inl (Y _ _ q1))) O ly
  .rintro i v ys σ H' hv ⟨⟨o,rfl⟩,Y,O,ly,it⟩;refine Am (hl.get hv) λth ht a7=>?_;refine Gi (Xj (JU ht)) λy r I=>?_;subst I;have ah:=s1.trans Y;refine Ae rfl (ii42 v y r _ rfl (a7.mono ah.AE) (Ae rfl (Bw (λg1=>?_) (λg1=>?_))))
   .refine Ab0 rfl O ⟨_,rfl⟩ (Kw Y hD) Aj ⟨by rw[JH,KJ];omega,?_⟩;rw[B5 ht,No,PB (show isF (.tup (.wd y::r))=true from g1),List.filter_nil];exact(it.append (L8 (a7.mono ah.AE))).mono (E5 O)
   .refine Du ⟨_,rfl⟩ Y O (by omega) ?_;rw[B5 ht,No,PD (show ¬isF (.tup (.wd y::r))=true from g1),List.filter_nil,NB];exact it
  .rintro ys σ H2 ⟨_,Y,O,_,it⟩;rw[LU (by rw[JH,JB,JB,len];exact JG _),No,V9,Wa,OW]at it;have aB:=it.len;rw[JB]at aB;have S2:=s1.trans Y;dsimp only[Dw]
   walk_at "n"
   refine Cs (Ae rfl (Ar 1 rfl (Ae rfl (Ao a _ rfl (.inr (.inl (.inl (S2 _ _ hu)))) (Ae rfl (Ao D ys rfl (.inl (AW.of O)) (Au rfl rfl (Ae rfl (Cj a _ rfl (.inl (.inl (S2 _ _ hu))) (Fq (n:=1) (by decide) (by simp)) λp2 az=>?_)))))))));have bC:Ec (V.str "program"::us) (some 1) (some ((((V.str "program"::us).length:Nat):Int)-((ys.length:Nat):Int)))=us.take AB.length:=by
    unfold Ec;rw[show(((V.str "program"::us).length:Nat):Int)-((ys.length:Nat):Int)=((1+AB.length:Nat):Int)by rw[JR,len,aB];omega,show(some 1:Option Int)=some ((1:Nat):Int)from rfl,HT.BX,HT.BX,JR,MV (show 1<=us.length+1 by omega),MV (show 1+AB.length<=us.length+1 by omega)]
    show(us.take _)=_
    congr 1
    omega
   rw[bC];generalize z:upd H2 p2 _=H3;obtain⟨s3,q3⟩:=B8 az z;have S3:=S2.trans s3;have rl:AL H3 (us.take AB.length) (AB.map Gp):=by
    have:=(hl.take AB.length).mono S3.AE;have e:(AB.map Gp++AC.map Fc).take AB.length=AB.map Gp:=by rw[List.take_append_of_le_length (by rw[JB];exact JG _),LU (by rw[JB];exact JG _)]
    rw[e]at this;exact this
   generalize us.take AB.length=rv at q3 rl;have b5:=s3 _ _ O;have b8:=it.mono s3.AE;have aQ:rv.length=AB.length:=by rw[rl.len,JB]
   walk_at "n"
   refine Ae rfl (B4 p2 rfl ⟨_,.inl (.inl q3)⟩ (Zi (xs:=rv) (λi σ H'=>(∃o,σ=[some (.ref a),some (.ref D),some (.ref p2),o,none,none,none])/\AA H3 H') ⟨⟨_,rfl⟩,AA.refl H3⟩ (λi σ H' _ ⟨_,a0⟩=>.inl (.inl (a0 _ _ q3))) ?_ ?_))
   .rintro i x σ H' hx ⟨⟨o,rfl⟩,a0⟩;refine Am (rl.get hx) λt ht a3=>?_;refine Am (Lm ht) λI a8 z2=>?_;subst z2;obtain⟨nm,fl⟩:=I;exact Ae rfl (Ek x nm fl rfl (a3.mono a0.AE) (TR.ro nm fl (JU a8)) λaC aN=>⟨⟨_,rfl⟩,a0.trans aN⟩)
   rintro σ H4 ⟨⟨o,rfl⟩,s4⟩;refine Ae rfl (B4 p2 rfl ⟨_,.inl (.inl (s4 _ _ q3))⟩ λD2 aU=>Q2 (xs:=rv) (λi ys σ H'=>(∃o,σ=[o])/\AA H4 H'/\H' D2=some (.lst ys)/\ys=((AB.take i).map (·.1)).map V.str) (by omega) (C6 ⟨_,rfl⟩ (AA.upd (AA.refl _) aU) Aj rfl) ?_ ?_ ?_)
   .rintro i ys σ H' a7 ⟨_,Y,O,e⟩;exact Bc (.inl (.inl (Y _ _ (s4 _ _ q3)))) O (by rw[e,JB,JB,LG];omega)
   .rintro i x ys σ H' hx ⟨⟨o,rfl⟩,Y,O,rfl⟩;refine Am (rl.get hx) λt ht a3=>?_;refine Am (Lm ht) λI a8 z2=>?_;subst z2;obtain⟨nm,fl⟩:=I;refine Am (Yq a3) λb I hb=>?_;subst I;refine Ae rfl (Ch _ _ 1 _ rfl rfl (.inl (.inl (Y _ _ (s4 _ _ hb)))) (Bg (j:=1) rfl) O (C6 ⟨_,rfl⟩ (Kw Y aU) Aj ?_));rw[B5 a8,KI,KI];rfl
   rintro bS σ H5 ⟨_,s5,b6,e5⟩;rw[aQ,LD]at e5;subst e5;refine Et true D2 (AB.map (·.1)) rfl (AW.of b6) (by rw[JB];omega) TR.rn λH6 s6=>(Au rfl (λ_=>?_) λz=>(nomatch z));have S6:=s4.trans (s5.trans s6);refine Ae rfl (B4 p2 rfl ⟨_,.inl (.inl (S6 _ _ q3))⟩ λD3 aV=>R6 (xs:=rv) (λi ys σ H'=>(∃o,σ=[o])/\AA H6 H'/\H' D3=some (.dK ys)/\ys.length<=i/\(∀x,x∉(AB.take i).map (·.1)->Bm ys (Sum.inr x)=none)/\∀(j:Nat) n fl,j<i->AB[j]?=some (n,fl)->∃t,Bm ys (Sum.inr n)=some (.ref t)/\H' t=some (.tup (fl.map V.str))) (by omega) (El ⟨_,rfl⟩ (AA.upd (AA.refl _) aV) Aj (KY _) (λx _=>rfl) λj n fl hj=>absurd hj (OB _)) ?_ ?_ ?_)
   .rintro i ys σ H' a7 ⟨_,Y,O,ly,_⟩;exact Bc (.inl (.inl (Y _ _ (S6 _ _ q3)))) O ly
   .rintro i x ys σ H' hx ⟨⟨o,rfl⟩,Y,O,ly,nx,aM⟩;refine Am (rl.get hx) λt ht a3=>?_;refine Am (Lm ht) λI a8 z2=>?_;subst z2;obtain⟨nm,fl⟩:=I;refine Am (Yq a3) λb I hb=>?_;subst I;have aX:=Y _ _ (S6 _ _ hb);refine Ae rfl (Bo _ _ 1 _ rfl rfl (.inl (.inl aX)) (Bg (j:=1) rfl) (Ae rfl (Ar 2 rfl (Cj b _ rfl (.inl (.inl aX)) (Fq (n:=2) (by decide) (by simp)) λpp aA=>(Nj (Sum.inr nm) rfl ?_ ⟨_,rfl⟩ (Kw (Y.upd aA) aV) Aj (Bc (JY BK.1 (by omega)) (λy a9=>?_) λj n' av hj aG=>?_))))))
    .rw [Ak (Ah O aA)];exact O
    .rw [B5 a8,KI,JV,PJ]at a9;rw[Kp (by simpa using a9.2)];exact nx y a9.1
    .rw [show Ec (V.str "record"::V.str nm::fl.map V.str) (some 2) none=fl.map V.str from D9 _ 2];have bE:pp≠D3:=(Ah O aA).symm;by_cases e:j=i
     .subst e;rw[a8]at aG;cases aG;exact Ar pp (by rw[Bx,JN rfl]) (by rw[Ak bE,Aj])
     .refine Am (aM j n' av (by omega) aG) λt' a1 a2=>?_;refine Ar t' (by rw[Kp (nd_at (key:=Prod.fst) TR.rn a8 aG (by omega))];exact a1) ?_;rw[Ak (Bb a2 O (by simp)),Ak (Ah a2 aA)];exact a2
   rintro kr σ H7 ⟨_,s7,aH,l7,ae,al⟩;rw[aQ]at al l7;rw[aQ,LD]at ae;have S7:=S6.trans s7;have hR:∀n fl,(n,fl)∈AB->∃t,Bm kr (Sum.inr n)=some (.ref t)/\H7 t=some (.tup (fl.map V.str)):=λn fl h=>by
    obtain⟨j,hj⟩:=List.getElem?_of_mem h;exact al j n fl (List.getElem?_eq_some_iff.mp hj).1 hj
   have a6:∀{H'},AA H7 H'->AW K H' D ys:=λs'=>AW.of (s' _ _ (S7 _ _ b5));have aD:=b8.mono S7.AE;have bG:∀k,Ny AB k->k="number"\/k="truth"\/k="list"\/(Bm kr (Sum.inr k)).isSome=true:=λk hk=>by
    rcases hk with h|h|h|h
    .exact .inl h
    .exact .inr (.inl h)
    .exact .inr (.inr (.inl h))
    .refine Am (JT.mp h) λpp aA I=>?_;subst I;refine Am (hR pp.1 pp.2 aA) λt a1 _=>?_;exact .inr (.inr (.inr (by rw[a1];rfl)))
   dsimp only[Dw]
   walk_at "n"
   refine Ae rfl (B4 D rfl ⟨_,a6 (AA.refl _)⟩ (Kj (xs:=ys) (λi σ H'=>(∃o5,σ=[some (.ref a),some (.ref D),some (.ref p2),o,some (.ref D3),o5,none])/\AA H7 H') ⟨⟨_,rfl⟩,AA.refl H7⟩ (λi σ H' _ ⟨_,a0⟩=>a6 a0) ?_ ?_))
   .rintro i x σ H' hx ⟨⟨o5,rfl⟩,a0⟩;refine Am (aD.get hx) λt ht a3=>?_;refine Am (Lm ht) λg hg I=>?_;subst I;refine G7 (TR.fo g (JU hg)) λg1 g2 g3 g4 g5 I=>?_;obtain⟨g6,g7⟩:=I;exact Ae rfl (Ae rfl (Bo x g D3 kr rfl (a3.mono a0.AE) (a0 _ _ aH) (El g1 g2 g3 g4 g5 λk hk=>bG k ((JC.mp hk).elim (λz=>z▸g7) (g6 k))) λaC aN=>⟨⟨_,rfl⟩,a0.trans aN⟩))
   rintro σ H8 ⟨⟨o5,rfl⟩,s8⟩;refine Ae rfl (B4 D rfl ⟨_,a6 s8⟩ λD4 aJ=>Nm (xs:=ys) (λi a4 σ H'=>(∃o,σ=[o])/\AA H8 H'/\H' D4=some (.lst a4)/\a4=((AC.take i).map (·.nm)).map V.str) (by omega) aJ (C6 ⟨_,rfl⟩ (AA.upd (AA.refl _) aJ) Aj rfl) ?_ ?_ ?_)
   .rintro i a4 σ H' a7 ⟨_,Y,O,e⟩;exact Bc (a6 (s8.trans Y)) O (by rw[e,JB,JB,LG];omega)
   .rintro i x a4 σ H' hx ⟨⟨o,rfl⟩,Y,O,rfl⟩;refine Am (aD.get hx) λt ht a3=>?_;refine Am (Lm ht) λg hg I=>?_;subst I;refine Gz (Jd a3) λb _ _ I hb _=>?_;subst I;refine Ae rfl (Ch _ _ 1 _ rfl rfl (.inl (.inl (Y _ _ (s8 _ _ hb)))) (Bg (j:=1) rfl) O (C6 ⟨_,rfl⟩ (Kw Y aJ) Aj ?_));rw[B5 hg,KI,KI];rfl
   rintro bT σ H9 ⟨_,s9,b7,e9⟩;rw[aB,LD]at e9;subst e9;refine Et true D4 (AC.map (·.nm)) rfl (AW.of b7) (by rw[JB];omega) TR.fn λHa sa=>(Au rfl (λ_=>?_) λz=>(nomatch z));have Sa:=s8.trans (s9.trans sa);refine Ae rfl (B4 D rfl ⟨_,a6 Sa⟩ λD5 aW=>Yc (xs:=ys) (λi a4 σ H'=>(∃o,σ=[o])/\AA Ha H'/\H' D5=some (.dK a4)/\a4.length<=i/\(∀x,x∉(AC.take i).map (·.nm)->Bm a4 (Sum.inr x)=none)/\∀(j:Nat) g v,j<i->AC[j]?=some g->ys[j]?=some v->Bm a4 (Sum.inr g.nm)=some v) (by omega) (El ⟨_,rfl⟩ (AA.upd (AA.refl _) aW) Aj (KY _) (λx _=>rfl) λj g v hj=>absurd hj (OB _)) ?_ ?_ ?_)
   .rintro i a4 σ H' a7 ⟨_,Y,O,ly,_⟩;exact Bc (a6 (Sa.trans Y)) O ly
   .rintro i x a4 σ H' hx ⟨⟨o,rfl⟩,Y,O,ly,nx,aM⟩;refine Am (aD.get hx) λt ht a3=>?_;refine Am (Lm ht) λg hg I=>?_;subst I;refine Gz (Jd a3) λb _ _ I hb _=>?_;subst I;refine Ae rfl (Bo _ _ 1 _ rfl rfl (.inl (.inl (Y _ _ (Sa _ _ hb)))) (Bg (j:=1) rfl) (Ae rfl (Nj (Sum.inr g.nm) rfl O ⟨_,rfl⟩ (Kw Y aW) Aj (Bc (JY BK.1 (by omega)) (λy a9=>?_) λj g' v' hj aF aK=>?_))))
    .rw [B5 hg,KI,JV,PJ]at a9;rw[Kp (by simpa using a9.2)];exact nx y a9.1
    by_cases e:j=i
    .subst e;rw[hg]at aF;cases aF;rw[hx]at aK;cases aK;rw[Bx,JN rfl]
    .rw [Kp (nd_at (key:=GN.nm) TR.fn hg aF (by omega))];exact aM j g' v' (by omega) aF aK
   rintro kf σ Hb ⟨_,sb,aa,lb,ag,am⟩;rw[aB]at am lb;rw[aB,LD]at ag;have Sb:=Sa.trans sb;have hF:∀g∈AC,∃v,Bm kf (Sum.inr g.nm)=some v/\AS H7 v (Fc g):=λg h=>by
    obtain⟨j,hj⟩:=List.getElem?_of_mem h;refine Am (aD.at (i:=j) (t:=Fc g) (by rw[KH,hj];rfl)) λv hv iv=>?_;exact Ar v (am j g v (List.getElem?_eq_some_iff.mp hj).1 hj hv) iv
   dsimp only[Dw]
   walk_at "n"
   refine Q1 TR.mn λmf aj bA mk b9=>Am (hF mf aj) λmv ac bB=>?_;rw[bA]at ac;have aY:AK Hb D5 (.str "main") (some mv):=by rw[← ac];exact AK.k (k:=Sum.inr "main") aa
   refine Ox (TR.fo mf aj) λm1 m2 m3 _=>Ae rfl (Ao D5 _ rfl aY (Au rfl (λ_=>(Ae rfl (Ao D5 _ rfl aY (Md mv mf rfl (bB.mono Sb.AE) m2 m3 mk ⟨b9,λHc sc=>?_⟩)))) λz=>(nomatch z)));have Sc:=Sb.trans sc;have bU:=Sc _ _ aH;have ai:=sc _ _ aa;refine Ae rfl (B4 D rfl ⟨_,a6 Sc⟩ (Kj (xs:=ys) (λi σ H'=>(∃o5,σ=[some (.ref a),some (.ref D),some (.ref p2),o,some (.ref D3),o5,some (.ref D5)])/\AA Hc H'/\∀g∈AC.take i,(F4 AB AC g).isSome=true) (Bc ⟨_,rfl⟩ (AA.refl Hc) λg h=>by simp at h) (λi σ H' _ ⟨_,a0,_⟩=>a6 (Sc.trans a0)) ?_ ?_))
   .rintro i x σ H' hx ⟨⟨o6,rfl⟩,a0,gd⟩;refine Am (aD.get hx) λt ht a3=>?_;refine Am (Lm ht) λg hg I=>?_;subst I;have gm:=JU hg;refine G7 (TR.fo g gm) λg1 g2 g3 g4 g5 I=>?_;obtain⟨g6,g7⟩:=I;refine Ox (TR.bo g gm) λb1 b2 b3 b4=>?_;have SH:=Sc.trans a0;have bD:=a3.mono SH.AE;refine Ae rfl (Ae rfl (Ae rfl λxo dx aZ ax bO=>?_));have sA:AA H' (upd (upd H' dx (.own xo)) xo (.ins C dx [])):=Kw (Kw (AA.refl H') ax) aZ;refine Hu xo dx D3 D5 x g rfl Aj (bD.mono sA.AE) g2 g3 ⟨g4,λaC kn fs hkn sx b0 f1 f2 f3 f4 hk=>?_⟩;have sB:AA H' aC:=λb u e=>sx b u (sA _ _ e) (by simp;exact Ah e aZ);have aP:H' kn=none:=sA.free hkn;have sC:∀{Hz},Sx [kn] aC Hz->AA H' Hz:=fun {Hz} s3 b u e=>s3 b u (sB _ _ e) (by simp;exact Ah e aP);have aE:=SH.trans sB;have lk:Lk C aC xo D3 D5 kn ⟨FZ AB,GB AC,g.fh.k⟩:=by
     refine⟨(Jp dx fs b0 f1 f2 f3 f4),(B4 kr (aE _ _ aH) (λn fl h=>?_) λn h=>ae n λz=>?_),kf,sB _ _ (a0 _ _ ai),λf' bQ k' h=>?_,λf' h=>ag f' λz=>?_⟩
     .unfold FZ at h;refine Am (Option.map_eq_some_iff.mp h) λpp a5 I=>?_;subst I;have e1:=List.find?_some a5;have e2:pp.1=n:=JL e1;refine Am (hR pp.1 pp.2 (OO a5)) λt a1 a2=>?_;exact Ar t (by rw[← e2];exact a1) (aE _ _ a2)
     .refine Am (JT.mp z) λpp a5 I=>?_;subst I;have h:FZ AB pp.1=none:=h;unfold FZ at h;rw[Option.map_eq_none_iff,List.find?_eq_none]at h;exact h pp a5 (JO rfl)
     .unfold GB at h;refine Am (Option.map_eq_some_iff.mp h) λpp a5 e3=>?_;cases e3;have e1:=List.find?_some a5;have e2:pp.nm=f':=JL e1;have pm:=OO a5;refine Am (hF pp pm) λv' a1 a2=>Ox (TR.fo pp pm) λ_ b2 b3 _=>?_;exact Md v' pp (by rw[← e2];exact a1) (a2.mono aE.AE) rfl rfl b2 b3
     .refine Am (JT.mp z) λpp a5 I=>?_;subst I;have h:GB AC pp.nm=none:=h;unfold GB at h;rw[Option.map_eq_none_iff,List.find?_eq_none]at h;exact h pp a5 (JO rfl)
    refine⟨rfl,(Ae rfl (Ct xo D3 D5 kn _ x (Nj g rfl lk hk (Ah (SH _ _ aH) aP) (Ah (a0 _ _ ai) aP) (El (a3.mono aE.AE) g2 g3 g4 b1 (Du b2 b3 (λ⟨κ',bF,hs⟩ H3 s3=>(Bc ⟨_,rfl⟩ (a0.trans (sC s3)) λg' h'=>?_)) (λhs H3 s3=>k2 (Ar g gm hs) H3 (S3.trans (S7.trans ((Sc.trans a0).trans (sC s3))))) b4)))))⟩;rw[B5 hg,JV,JM]at h'
    rcases h' with h'|rfl
    .exact gd g' h'
    .show (F4 AB AC g').isSome=true
     rw[show F4 AB AC g'=some (κ',bF,true)from hs];rfl
   .rintro σ H' ⟨⟨o6,rfl⟩,a0,gd⟩;rw[aB,LD]at gd;exact k1 gd H' (S3.trans (S7.trans (Sc.trans a0)))
end
section
def KM (E E':CE)(t:Th):Prop:=∀k,kE E t=some k->kE E' t=some k
theorem Ak6 (h:∀t∈l,KM E E' t):∀ws:List Str,kL E l=ws.map some->kL E' l=ws.map some:=by
 induction l with
 | nil=>intro ws e;rw[Cw]at e ⊢;exact e
 | cons a r O=>
  intro ws e;rw[Bf]at e ⊢
  cases ws with
  | nil=>cases e
  | cons w ws=>
   rw[JX]at e ⊢;obtain⟨e1,I⟩:=MS e;rw[h a JJ w e1,O (λt ht=>h t (JE _ ht)) ws I]
theorem kE_step (hR:∀n x,E.R n=some x->E'.R n=some x)(hF:∀n x,E.F n=some x->E'.F n=some x)(h:∀t∈l,KM E E' t):KM E E' (.tup l):=by
 intro k hk;refine Co (Al0 hk) λop r z1 a0=>?_;subst z1;have h':∀t∈r,KM E E' t:=λt ht=>h t (JE _ ht);rw[Ej];unfold HG
 cases a0 with
 | call f es ws I hr hf he=>
  subst I hr;rw[JN rfl,Bf,Ak6 (λt ht=>h' t (JE _ ht)) ws he];simp only[hF _ _ hf,NW]
 | new fl I hr O=>
  subst I hr;rw[AN,JN rfl];simp only[hR _ _ O]
 | get e f k0 fl I hr he O hf Y=>
  subst I hr Y;rw[AN,AN,JN rfl,Bf,Bf,Cw,h' e (by simp) _ he];simp only[hR _ _ O];exact JN hf
 | eq a b k0 I hr ha hb h0 Y=>
  subst I hr Y;rw[AN,AN,AN,JN rfl,Bf,Bf,Cw,h' a (by simp) _ ha,h' b (by simp) _ hb];exact JN ⟨h0,rfl⟩
 | oth ws n1 n2 n3 n4 ht hg he=>
  rw[JP n1,JP n2,JP n3,JP n4,ht,hg,Ak6 h' ws he];exact JN rfl
mutual
theorem Zd (hR:∀n x,E.R n=some x->E'.R n=some x)(hF:∀n x,E.F n=some x->E'.F n=some x)(hκ:E'.κ=E.κ):∀t,KM E E' t
 | .num i=>λk hk=>by rw[kE]at hk ⊢;exact hk
 | .wd x=>λk hk=>by rw[kE]at hk ⊢;rw[hκ];exact hk
 | .tup l=>kE_step hR hF (Uo hR hF hκ l)
theorem Uo (hR:∀n x,E.R n=some x->E'.R n=some x)(hF:∀n x,E.F n=some x->E'.F n=some x)(hκ:E'.κ=E.κ):∀l:List Th,∀t∈l,KM E E' t
 | []=>λt h=>by cases h
 | a::r=>λt h=>by
  rcases JC.mp h with e|h
  .rw [e];exact Zd hR hF hκ a
  .exact Uo hR hF hκ r t h
end
end
section
structure SLe (s s':SE):Prop where
 R:∀n x,s.R n=some x->s'.R n=some x
 F:∀n x,s.F n=some x->s'.F n=some x
 g:s'.g=s.g
theorem SLe.kE (h:SLe s s')(hk:kE (s.e κ) t=some k):T.kE (s'.e κ) t=some k:=Zd (E:=s.e κ) (E':=s'.e κ) h.R h.F rfl t k hk
theorem SLe.kL (h:SLe s s'){κ:Kd}{l:List Th}{ws:List Str}(hk:kL (s.e κ) l=ws.map some):T.kL (s'.e κ) l=ws.map some:=Ak6 (λt ht=>Uo (E:=s.e κ) (E':=s'.e κ) h.R h.F rfl l t ht) ws hk
def SM (s s':SE)(t:Th):Prop:=∀κ kn x,BD s t κ kn=some x->BD s' t κ kn=some x
theorem Sy (h:∀t∈l,SM s s' t):∀κ kn x,Cb s l κ kn=some x->Cb s' l κ kn=some x:=by
 induction l with
 | nil=>intro κ kn x e;rw[Cb]at e ⊢;exact e
 | cons a r I=>
  intro κ kn x e;rw[C5]at e ⊢
  cases q:BD s a κ kn with
  | none=>rw[q]at e;cases e
  | some p=>
   obtain⟨κ1,kn1,e1⟩:=p;rw[q]at e;rw[h a JJ _ _ _ q]
   cases e1 with
   | true=>exact e
   | false=>exact I (λt ht=>h t (JE _ ht)) _ _ _ e
theorem Ao1 (L:SLe s s')(h:∀t∈l,SM s s' t/\∀a,t=.tup a->∀u∈a,SM s s' u):SM s s' (.tup l):=by
 intro κ kn x hx;obtain⟨κ',kn',e⟩:=x;refine Co (Ju hx) λop r e1 hm=>?_;cases e1;by_cases c1:op="let"
 .subst c1;refine Rj (Kt hx) λx u k I hk hn a3 O Y=>?_;subst I O;obtain⟨rfl,rfl⟩:=Y;exact Ik hn a3 (L.kE hk)
 by_cases c2:op="put"
 .subst c2;refine Rj (Ks hx) λx u k I a2 hk O Y z4=>?_;subst I O Y z4;exact O1 a2 (L.kE hk)
 by_cases c3:op="if"
 .subst c3;refine Dp (Kg hx) λt a b κ1 kn1 e1 I=>?_;refine Mg I λκ2 e2 O hk ha hb Y z4=>?_;subst O Y z4;exact Mq (L.kE hk) (Sy (λu hu=>(h (.tup a) (by simp)).2 a rfl u hu) _ _ _ ha) (Sy (λu hu=>(h (.tup b) (by simp)).2 b rfl u hu) _ _ _ hb)
 by_cases c4:op="while"
 .subst c4;refine Us (Fs hx) λt a κ1 e1 I hk ha O Y=>?_;subst I O Y;exact Hx (L.kE hk) (Sy (λu hu=>(h (.tup a) (by simp)).2 a rfl u hu) _ _ _ ha)
 by_cases c5:op="give"
 .subst c5;refine Ow (Ma hx) λt I hk O Y z4=>?_;subst I O Y z4;exact Hy (by rw[L.g];exact L.kE hk)
 by_cases c6:op="fail"
 .subst c6;refine Ow (Mb hx) λt I hk O Y z4=>?_;subst I O Y z4;exact Po hk
 by_cases c7:op="set"
 .subst c7;refine We (L9 hx) λt f v k fl I hk hR hf hv O=>?_;refine Bu O λY z4 z5=>?_;subst I Y z4 z5;exact Sz (L.kE hk) (L.R _ _ hR) hf (L.kE hv)
 by_cases c8:op="out"
 .subst c8;refine Ow (Ig (.inl rfl) hx) λws m hk I O Y=>?_;subst I O Y;have e:ws=(["number"]:List Str):=by
   have:∀p∈takes,p.1="out"->p.2=(["number"]:List Str):=by decide
   exact this _ m rfl
  subst e;refine Am (Ak5 hk) λa I q=>?_;subst I;exact O6 (L.kE q)
 by_cases c9:op="store"
 .subst c9;refine Ow (Ig (.inr rfl) hx) λws m hk I O Y=>?_;subst I O Y;have e:ws=(["list","number","number"]:List Str):=by
   have:∀p∈takes,p.1="store"->p.2=(["list","number","number"]:List Str):=by decide
   exact this _ m rfl
  subst e;have a1:=L.kL hk;rw[Cl];unfold EZ;rw[AN,AN,AN,AN,AN,AN,AN,AN,JN rfl,a1];unfold EW;exact JN (JO rfl)
 by_cases a0:op="do"
 .subst a0;refine Yb (Up hx) λt k I hk O Y z4=>?_;subst I O Y z4;exact S5 (L.kE hk)
 exfalso;simp only[As,JC,OC,JI,KG]at hm;rcases hm with⟨z,_⟩|⟨z,_⟩|⟨z,_⟩|⟨z,_⟩|⟨z,_⟩|⟨z,_⟩|⟨z,_⟩|⟨z,_⟩|⟨z,_⟩|⟨z,_⟩<;>contradiction
mutual
theorem U8 (L:SLe s s'):∀t:Th,SM s s' t/\∀a,t=.tup a->∀u∈a,SM s s' u
 | .num i=>⟨(λκ kn x h=>by rw[BD]at h;cases h),(λa e=>by cases e)⟩
 | .wd i=>⟨(λκ kn x h=>by rw[BD]at h;cases h),(λa e=>by cases e)⟩
 | .tup l=>⟨Ao1 L (Pn L l),λa e u hu=>by cases e;exact(Pn L l u hu).1⟩
theorem Pn (L:SLe s s'):∀l:List Th,∀t∈l,SM s s' t/\∀a,t=.tup a->∀u∈a,SM s s' u
 | []=>λt h=>by cases h
 | a::r=>λt h=>by
  rcases JC.mp h with e|h
  .rw [e];exact U8 L a
  .exact Pn L r t h
end
theorem Ae1 (L:SLe s s')(h:Cb s l κ kn=some x):Cb s' l κ kn=some x:=Sy (λt ht=>(U8 L t).1) _ _ _ h
end
noncomputable def κ0:Kd:=putK (putK (putK (FA ["zza"] ["number"]) "zzt" "truth") "zzr" "zzzzrecs") "zzl" "list"
noncomputable def kn0:List Str:=["zzl","zzr","zzt","zza"]
noncomputable def R7 (n:Str):Option (List Str):=if n="zzzzrecs" then some ["zzx","zzy"] else if n="zzzzothr" then some ["zzw","zzy"] else none
noncomputable def F7 (n:Str):Option (List Str×Str):=if n="zzzzearl" then some (["number","zzzzrecs"],"number")else if n="zzzztake" then some (["zzzzrecs"],"number")else if n="zzzzmain" then some (["number"],"number")else none
noncomputable def zR:List Str:=["list","number","truth","zzzznone","zzzzrecs","zzzzothr"]
noncomputable def zF:List Str:=["zzzztake","zzzzearl","zzzznone","zzzzmain","zzzzrecs"]
section
variable (r:Str->Option (List Str))(f:Str->Option (List Str×Str))
noncomputable def HF:SE:=⟨λn=>if n∈zR then R7 n else r n,λn=>if n∈zF then F7 n else f n,"number"⟩
theorem mkS_eq (hr:∀n∈zR,r n=R7 n)(hf:∀n∈zF,f n=F7 n):HF r f=⟨r,f,"number"⟩:=by
 unfold HF
 congr 1
 .funext n;by_cases c:n∈zR
  .rw [JN c,hr n c]
  .rw [JP c]
 .funext n;by_cases c:n∈zF
  .rw [JN c,hf n c]
  .rw [JP c]
theorem zz_t:kE ((HF r f).e κ0) (.wd "zzt")=some ("truth":Str):=by kernel_rfl
theorem zz_no:kE ((HF r f).e κ0) (.wd "no")=some ("truth":Str):=by kernel_rfl
end
structure Fn (b:Bool)(d:Nat)(t:Th):Prop where
 dg:CH d t=true
 lt:Gv t<=20
 ev:b=true->∀r f,∃κ kn,BD (HF r f) t κ0 kn0=some (κ,kn,false)
 no:b=false->∀r f,BD (HF r f) t κ0 kn0=none
theorem O0 (h:BD s t κ kn=some (κ',kn',e)):Cb s [t] κ kn=some (κ',kn',e):=Ds (ts:=[]) Ee h
theorem Oz (h1:BD s t κ kn=some (κ1,kn1,false))(h:BD s u κ1 kn1=some (κ',kn',e)):Cb s [t,u] κ kn=some (κ',kn',e):=Ds (ts:=[t]) (O0 h1) h
theorem Pl (h:BD s t κ kn=none):Cb s [t] κ kn=none:=by rw[C5,h]
theorem U6 (h1:BD s t κ kn=some (κ1,kn1,false))(h:BD s u κ1 kn1=none):Cb s [t,u] κ kn=none:=by
 rw[C5,h1];dsimp only;rw[AN];exact Pl h
theorem Qz:∀{n m:Nat} {t:Th},CH n t=true->n<=m->CH m t=true
 | _,_,.num _,_,_=>Pc
 | _,_,.wd _,_,_=>Dc
 | 0,_,.tup _,h,_=>by unfold CH at h;cases h
 | n+1,0,.tup _,_,h=>by omega
 | n+1,m+1,.tup l,h,hm=>Cr (Ft h).1 λt ht=>Qz ((Ft h).2 t ht) (by omega)
theorem Am3 (h:CH n a=true)(I:FX [a]=true):CH (n+1) (.tup [a])=true:=Cr I λt ht=>by rw[JM.mp ht];exact h
theorem Am2 (h:CH n a=true)(h':CH n b=true)(I:FX [a,b]=true):CH (n+1) (.tup [a,b])=true:=Cr I λt ht=>by
 rcases JC.mp ht with rfl|ht
 .exact h
 .rw [JM.mp ht];exact h'
theorem Pd (I:FX l=true)(h:l.all (CH n)=true):CH (n+1) (.tup l)=true:=Cr I (LO.mp h)
theorem d_out:CH (n+1) (.tup [.wd "out",.num 1])=true:=Cr (Eg (by decide) (by decide) (by decide) (by decide)) λt ht=>by
 simp only[JC,JI,KG]at ht
 rcases ht with rfl|rfl
 .exact Dc
 .exact Pc
theorem d_put:CH (n+1) (.tup [.wd "put",.wd "zzt",.wd "no"])=true:=Cr (Eg (by decide) (by decide) (by decide) (by decide)) λt ht=>by
 simp only[JC,JI,KG]at ht
 rcases ht with rfl|rfl|rfl<;>exact Dc
noncomputable def Fw:Th->Bool
 | .wd x=>decide (x∈hw)
 | _=>true
theorem Yz (h:Fw a=true):FX [a]=true:=by
 cases a with
 | wd x=>exact h
 | num _=>rfl
 | tup _=>rfl
section
theorem Xw:Ed [t]=Gv t:=by rw[Dm,Gj];rfl
theorem lets0 (h:Gv (.tup (.wd op::a::r))=0):Ed [.tup (.wd op::a::r),t]=Gv t:=by rw[Dm,h,Xw,Nat.zero_add]
theorem lno {op:Str}{a:Th}{r:List Th}(h1:op≠"let")(h2:op≠"if")(h3:op≠"while"):Ed [.tup (.wd op::a::r),t]=Gv t:=lets0 (Uj h1 h2 h3)
theorem wi0 (h:Fn b (d+1) t)(ha:Fw t=true):Fn b (d+3) (.tup [.wd "if",.wd "zzt",.tup [t],.tup []]):=by
 have I:CH (d+2) (.tup [t])=true:=Am3 h.dg (Yz ha);refine⟨Pd (Eg (by decide) (by decide) (by decide) (by decide)) ?_,by rw[Uk,Xw,Gj];exact h.lt,λhb r f=>?_,λhb r f=>B6 λκ' kn' e z=>?_⟩
 .rw [LP,LP,LP,I];rfl
 .refine Gi (h.ev hb r f) λκ kn q=>Ki κ0 kn (Mq (zz_t r f) (O0 q) Ee)
 .refine Dp (Kg z) λt' a Y κ1 kn1 e1 O=>?_;refine Gh O λκ2 e2 q _ ha _=>?_;cases q;rw[Pl (h.no hb r f)]at ha;cases ha
theorem wi1 (h:Fn b (d+1) t):Fn b (d+3) (.tup [.wd "if",.wd "no",.tup [],.tup [.tup [.wd "out",.num 1],t]]):=by
 have e1:∀r f,BD (HF r f) (.tup [.wd "out",.num 1]) κ0 kn0=some (κ0,kn0,false):=λr f=>O6 (Gw (by decide));have O:CH (d+2) (.tup [.tup [.wd "out",.num 1],t])=true:=Am2 d_out h.dg rfl;refine⟨Pd (Eg (by decide) (by decide) (by decide) (by decide)) ?_,by rw[Uk,Gj,lno (by decide) (by decide) (by decide),Nat.zero_add];exact h.lt,λhb r f=>?_,λhb r f=>B6 λκ' kn' e z=>?_⟩
 .rw [LP,LP,LP,LP,O];rfl
 .refine Gi (h.ev hb r f) λκ kn q=>Ki κ0 kn (Mq (zz_no r f) Ee (Oz (e1 r f) q))
 .refine Dp (Kg z) λt' a b' κ1 kn1 a0 Y=>?_;refine Yb Y λκ2 e2 q _ ha I _=>?_;cases q;rw[Ee]at ha;cases ha;rw[U6 (e1 r f) (h.no hb r f)]at I;cases I
theorem wi2 (h:Fn b (d+1) t)(ha:Fw t=true):Fn b (d+3) (.tup [.wd "while",.wd "zzt",.tup [t]]):=by
 have I:CH (d+2) (.tup [t])=true:=Am3 h.dg (Yz ha);refine⟨Pd (Eg (by decide) (by decide) (by decide) (by decide)) ?_,by rw[Lh,Xw];exact h.lt,λhb r f=>?_,λhb r f=>B6 λκ' kn' e z=>?_⟩
 .rw [LP,LP,LP,I];rfl
 .refine Gi (h.ev hb r f) λκ kn q=>Ki κ0 kn (Hx (zz_t r f) (O0 q))
 .refine Q0 (Fs z) λt' a κ1 e1 q _ ha _=>?_;cases q;rw[Pl (h.no hb r f)]at ha;cases ha
theorem wi3 (h:Fn b (d+1) t):Fn b (d+3) (.tup [.wd "while",.wd "zzt",.tup [.tup [.wd "put",.wd "zzt",.wd "no"],t]]):=by
 have e1:∀r f,BD (HF r f) (.tup [.wd "put",.wd "zzt",.wd "no"]) κ0 kn0=some (κ0,kn0,false):=λr f=>O1 (k:="truth") (by kernel_rfl) (zz_no r f);have I:CH (d+2) (.tup [.tup [.wd "put",.wd "zzt",.wd "no"],t])=true:=Am2 d_put h.dg rfl;refine⟨Pd (Eg (by decide) (by decide) (by decide) (by decide)) ?_,by rw[Lh,lno (by decide) (by decide) (by decide)];exact h.lt,λhb r f=>?_,λhb r f=>B6 λκ' kn' e z=>?_⟩
 .rw [LP,LP,LP,I];rfl
 .refine Gi (h.ev hb r f) λκ kn q=>Ki κ0 kn (Hx (zz_t r f) (Oz (e1 r f) q))
 .refine Q0 (Fs z) λt' a κ1 O q _ ha _=>?_;cases q;rw[U6 (e1 r f) (h.no hb r f)]at ha;cases ha
end
noncomputable def Lr (t:Th):List Th:=[.tup [.wd "let",.wd "zzt",.wd "yes"],.tup [.wd "let",.wd "zzr",.tup [.wd "new",.wd "zzzzrecs"]],.tup [.wd "let",.wd "zzl",.tup [.wd "list",.num 2]],t,.tup [.wd "give",.wd "zza"]]
noncomputable def zzF (t:Th):GN:=⟨"zzzzmain",⟨["number"],"number",["zza"]⟩,Lr t⟩
noncomputable def IW:GN:=⟨"zzzzearl",⟨["number","zzzzrecs"],"number",["zzp","zzm"]⟩,[.tup [.wd "let",.wd "zzs",.wd "yes"],.tup [.wd "give",.wd "zzp"]]⟩
noncomputable def IU:GN:=⟨"zzzztake",⟨["zzzzrecs"],"number",["zzm"]⟩,[.tup [.wd "give",.tup [.wd "get",.wd "zzm",.wd "zzx"]]]⟩
noncomputable def D8 (AB:List (Str×List Str)):List (Str×List Str):=("zzzzrecs",["zzx","zzy"])::("zzzzothr",["zzw","zzy"])::AB
noncomputable def Cz (AC:List GN)(t:Th):List GN:=AC++[IW,IU,zzF t]
theorem Vd (r:Str->Option (List Str))(f:Str->Option (List Str×Str)):Cb (HF r f) [.tup [.wd "let",.wd "zzt",.wd "yes"],.tup [.wd "let",.wd "zzr",.tup [.wd "new",.wd "zzzzrecs"]],.tup [.wd "let",.wd "zzl",.tup [.wd "list",.num 2]]] (FA ["zza"] ["number"]) ["zza"]=some (κ0,kn0,false):=by
 have e1:BD (HF r f) (.tup [.wd "let",.wd "zzt",.wd "yes"]) (FA ["zza"] ["number"]) ["zza"]=some (putK (FA ["zza"] ["number"]) "zzt" "truth",(["zzt","zza"]:List Str),false):=Ik (by decide +kernel) (by decide) (Ak9 (.inl rfl));have I:BD (HF r f) (.tup [.wd "let",.wd "zzr",.tup [.wd "new",.wd "zzzzrecs"]]) (putK (FA ["zza"] ["number"]) "zzt" "truth") ["zzt","zza"]=some (putK (putK (FA ["zza"] ["number"]) "zzt" "truth") "zzr" "zzzzrecs",(["zzr","zzt","zza"]:List Str),false):=Ik (by decide +kernel) (by decide) (by kernel_rfl);have O:BD (HF r f) (.tup [.wd "let",.wd "zzl",.tup [.wd "list",.num 2]]) (putK (putK (FA ["zza"] ["number"]) "zzt" "truth") "zzr" "zzzzrecs") ["zzr","zzt","zza"]=some (κ0,kn0,false):=Ik (by decide +kernel) (by decide) (by kernel_rfl);exact Ds (ts:=[_,_]) (Oz e1 I) O
theorem U7:∀{ts us:List Th} {κ:Kd} {kn:List Str} {κ1:Kd} {kn1:List Str},Cb s ts κ kn=some (κ1,kn1,false)->Cb s (ts++us) κ kn=Cb s us κ1 kn1
 | [],us,κ,kn,κ1,kn1,h=>by
  rw[Ee]at h;cases h;rfl
 | t::r,us,κ,kn,κ1,kn1,h=>by
  rw[OL,C5];rw[C5]at h
  cases q:BD s t κ kn with
  | none=>rw[q]at h;cases h
  | some p=>
   obtain⟨κ2,kn2,I⟩:=p;rw[q]at h;dsimp only at h ⊢
   cases I with
   | true=>
    rw[JN rfl]at h;split at h<;>cases h
   | false=>
    rw[AN]at h ⊢;exact U7 h
theorem Ao3 (h:Fn true d t)(r:Str->Option (List Str))(f:Str->Option (List Str×Str)):∃κ kn,Cb (HF r f) (Lr t) (FA ["zza"] ["number"]) ["zza"]=some (κ,kn,true):=by
 refine Gi (h.ev rfl r f) λκ kn h1=>?_;have O:κ "zza"=κ0 "zza":=(Rq t _ _ _ _ _ h1 "zza" (by decide)).1;have Y:κ0 "zza"=some ("number":Str):=by kernel_rfl
 have I:BD (HF r f) (.tup [.wd "give",.wd "zza"]) κ kn=some (κ,kn,true):=Hy (by
  rw[kE,AN]
  exact O.trans Y)
 exact Ki κ kn (Ds (ts:=[_,_,_,_]) (Ds (ts:=[_,_,_]) (Vd r f) h1) I)
theorem Ao4 (h:Fn false d t)(r:Str->Option (List Str))(f:Str->Option (List Str×Str)):Cb (HF r f) (Lr t) (FA ["zza"] ["number"]) ["zza"]=none:=by
 refine(U7 (us:=[t,.tup [.wd "give",.wd "zza"]]) (Vd r f)).trans ?_;rw[C5,h.no rfl r f]
theorem okH_sts (h:Cb s ts κ kn=some x):FX ts=true:=by
 have:=Mn h
 match ts,this with
 | [],_=>rfl
 | t::r,hs=>
  refine Gi (hs t JJ) λop O I=>?_;subst I;rfl
theorem zzE_ok (r:Str->Option (List Str))(f:Str->Option (List Str×Str)):∃κ kn,Cb (HF r f) IW.ts (FA IW.fh.ps IW.fh.ks) IW.fh.ps=some (κ,kn,true):=
 (L7 (Oz (Ik (kd:="truth") (by decide +kernel) (by decide) (Ak9 (.inl rfl))) (Hy (by kernel_rfl))))
theorem zzT_ok (r:Str->Option (List Str))(f:Str->Option (List Str×Str)):∃κ kn,Cb (HF r f) IU.ts (FA IU.fh.ps IU.fh.ks) IU.fh.ps=some (κ,kn,true):=
 (L7 (O0 (Hy (by kernel_rfl))))
theorem skel7 (O:TreeR AB AC)(hr:∀p∈AB,p.1.length<=6)(hf:∀f∈AC,f.nm.length<=6/\∀t∈f.ts,BI 11 t)(h:Fn b 11 t) :
  TreeX 11 (D8 AB) (Cz AC t)/\(b=true->∀f∈Cz AC t,(F4 (D8 AB) (Cz AC t) f).isSome=true)/\(b=false->∃f∈Cz AC t,F4 (D8 AB) (Cz AC t) f=none):=by
 have Y:∀n:Str,6<n.length->n∉AB.map (·.1):=λn hn z=>by
  refine Am (JT.mp z) λp I e=>?_;have:=hr p I;rw[e]at this;omega
 have nF:∀n:Str,6<n.length->n∉AC.map (·.nm):=λn hn z=>by
  refine Am (JT.mp z) λp I e=>?_;have:=(hf p I).1;rw[e]at this;omega
 have nr:((D8 AB).map (·.1)).Nodup:=by
  show(("zzzzrecs":Str)::"zzzzothr"::AB.map (·.1)).Nodup
  refine ML.mpr ⟨λz=>?_,ML.mpr ⟨Y _ (by decide),O.rn⟩⟩
  rcases JC.mp z with z|z
  .exact absurd z (by decide)
  .exact Y _ (by decide) z
 have e7:(Cz AC t).map (·.nm)=AC.map (·.nm)++(["zzzzearl","zzzztake","zzzzmain"]:List Str):=by unfold Cz;rw[KI];rfl
 have nf:((Cz AC t).map (·.nm)).Nodup:=by
  rw[e7];refine LI.mpr (Bc O.fn (by decide) λa ha c hc e=>?_);simp only[JC,JI,KG]at hc
  rcases hc with z|z|z<;>exact nF a (by rw[e,z];decide) ha
 have kk:∀k,Ny AB k->Ny (D8 AB) k:=λk hk=>hk.imp_right λh=>h.imp_right λh=>h.imp_right λh=>JE _ (JE _ h);have aD:∀n∈zR,FZ (D8 AB) n=R7 n:=λn hn=>by
  have no:∀n:Str,n≠"zzzzrecs"->n≠"zzzzothr"->n∉AB.map (·.1)->FZ (D8 AB) n=none:=λn h1 h2 h3=>by
   unfold FZ;rw[Me (key:=Prod.fst) (l:=D8 AB) (λz=>?_)];rfl
   rcases JC.mp z with z|z
   .exact h1 z
   rcases JC.mp z with z|z
   .exact h2 z
   .exact h3 z
  have ow:∀n:Str,n="list"\/n="number"\/n="truth"->n∉AB.map (·.1):=λn hn z=>by
   refine Am (JT.mp z) λz1 I e=>?_;obtain⟨p1,p2⟩:=z1;refine Ii (O.ro p1 p2 I) λ_ a1 a2 a3 _=>?_;have e:p1=n:=e
   rcases hn with q|q|q
   .exact a3 (e.trans q)
   .exact a1 (e.trans q)
   .exact a2 (e.trans q)
  simp only[zR,JC,JI,KG]at hn
  rcases hn with rfl|rfl|rfl|rfl|rfl|rfl
  .rw [no _ (by decide) (by decide) (ow _ (.inl rfl))];decide
  .rw [no _ (by decide) (by decide) (ow _ (.inr (.inl rfl)))];decide
  .rw [no _ (by decide) (by decide) (ow _ (.inr (.inr rfl)))];decide
  .rw [no _ (by decide) (by decide) (Y _ (by decide))];decide
  .exact (Ui nr JJ).trans (by decide)
  .exact (Ui nr (JE _ JJ)).trans (by decide)
 have mE:IW∈Cz AC t:=JZ _ (by simp);have mT:IU∈Cz AC t:=JZ _ (by simp);have mM:zzF t∈Cz AC t:=JZ _ (by simp);have aC:∀n∈zF,GB (Cz AC t) n=F7 n:=λn hn=>by
  have no:∀n:Str,6<n.length->n≠"zzzzearl"->n≠"zzzztake"->n≠"zzzzmain"->GB (Cz AC t) n=none:=λn h1 h2 h3 h4=>by
   unfold GB;rw[Me (key:=GN.nm) (l:=Cz AC t) (λz=>?_)];rfl;rw[e7]at z
   rcases JV.mp z with z|z
   .exact nF n h1 z
   .simp only[JC,JI,KG]at z
    rcases z with z|z|z
    .exact h2 z
    .exact h3 z
    .exact h4 z
  simp only[zF,JC,JI,KG]at hn
  rcases hn with rfl|rfl|rfl|rfl|rfl
  .exact (Pb (f:=IU) nf mT).trans (by decide)
  .exact (Pb (f:=IW) nf mE).trans (by decide)
  .rw [no _ (by decide) (by decide) (by decide) (by decide)];decide
  .exact (Pb (f:=zzF t) nf mM).trans (by show some ((["number"]:List Str),("number":Str))=_;decide)
  .rw [no _ (by decide) (by decide) (by decide) (by decide)];decide
 have mk:=mkS_eq _ _ aD aC;have LR:∀n x,FZ AB n=some x->FZ (D8 AB) n=some x:=λn x hx=>by
  have hn:n∈AB.map (·.1):=by
   unfold FZ at hx;refine Am (Option.map_eq_some_iff.mp hx) λp I _=>?_;have e1:=List.find?_some I;have e:p.1=n:=JL e1;exact JT.mpr (Ar p (OO I) e)
  have n1:("zzzzrecs":Str)≠n:=λz=>Y "zzzzrecs" (by decide) (z▸hn);have n2:("zzzzothr":Str)≠n:=λz=>Y "zzzzothr" (by decide) (z▸hn);unfold FZ D8 at *;rw[NH (by simpa using n1),NH (by simpa using n2)];exact hx
 have LF:∀n x,GB AC n=some x->GB (Cz AC t) n=some x:=λn x hx=>by
  unfold GB Cz at *;rw[List.find?_append];refine Am (Option.map_eq_some_iff.mp hx) λy hy e=>?_;rw[hy];exact LB some e
 have aB:∀g∈AC,∃κ kn,F4 (D8 AB) (Cz AC t) g=some (κ,kn,true)/\kn.length<=100:=λg hm=>by
  refine G7 (O.fo g hm) λa1 a2 a3 a4 a5 z1=>?_;refine Bu z1 λa6 a7 z2=>?_;refine Co z2 λκ kn a8 a9=>Ck κ kn (Ae1 (s:=⟨FZ AB,GB AC,g.fh.k⟩) (s':=⟨FZ (D8 AB),GB (Cz AC t),g.fh.k⟩) ⟨LR,LF,rfl⟩ a8) a9
 have bE:∃κ kn,F4 (D8 AB) (Cz AC t) IW=some (κ,kn,true):=by
  have:=zzE_ok (FZ (D8 AB)) (GB (Cz AC t));rw[mk]at this;exact this
 have bT:∃κ kn,F4 (D8 AB) (Cz AC t) IU=some (κ,kn,true):=by
  have:=zzT_ok (FZ (D8 AB)) (GB (Cz AC t));rw[mk]at this;exact this
 have aA:b=true->∃κ kn,F4 (D8 AB) (Cz AC t) (zzF t)=some (κ,kn,true):=λhb=>by
  subst hb;have:=Ao3 h (FZ (D8 AB)) (GB (Cz AC t));rw[mk]at this;exact this
 have a0:b=false->F4 (D8 AB) (Cz AC t) (zzF t)=none:=λhb=>by
  subst hb;have:=Ao4 h (FZ (D8 AB)) (GB (Cz AC t));rw[mk]at this;exact this
 have cs:∀g,g∈Cz AC t->g∈AC\/g=IW\/g=IU\/g=zzF t:=λg hm=>by
  rcases JV.mp hm with hm|hm
  .exact .inl hm
  .exact .inr (by simpa using hm)
 have kr:Ny (D8 AB) "zzzzrecs":=.inr (.inr (.inr JJ));refine Bc ⟨nr,λn fl hm=>?_,nf,λg hm=>?_,?_,λg hm=>?_⟩ (λhb g hm=>?_) λhb=>(Ae mM (a0 hb))
 .rcases JC.mp hm with e|hm
  .cases e;exact El (by decide +kernel) (by decide) (by decide) (by decide) (by decide) (Bc (by decide) (by decide) (by decide +kernel))
  rcases JC.mp hm with e|hm
  .cases e;exact El (by decide +kernel) (by decide) (by decide) (by decide) (by decide) (Bc (by decide) (by decide) (by decide +kernel))
  .exact O.ro n fl hm
 .rcases cs g hm with hm|rfl|rfl|rfl
  .refine G7 (O.fo g hm) λa1 a2 a3 a4 a5 z1=>?_;refine Bu z1 λa6 a7 _=>El a1 a2 a3 a4 a5 ⟨λk hk=>kk k (a6 k hk),kk _ a7⟩
  .refine El (by decide +kernel) rfl (by decide) (by decide) (by decide +kernel) ⟨λk hk=>?_,.inl rfl⟩
   rcases JC.mp hk with rfl|hk
   .exact .inl rfl
   .rw [JM.mp hk];exact kr
  .exact El (by decide +kernel) rfl (by decide) (by decide) (by decide +kernel) ⟨λk hk=>by rw[JM.mp hk];exact kr,.inl rfl⟩
  .exact El (by show Da "zzzzmain"=true;decide +kernel) rfl (by show 1<=4;decide) (by show(["zza"]:List Str).Nodup;decide) (by show ∀x∈(["zza"]:List Str),Da x=true;decide +kernel) ⟨λk hk=>.inl (JM.mp hk),.inl rfl⟩
 .refine Am O.mn λf h1 h2=>Ar f (LQ _ h1) h2
 .rcases cs g hm with hm|rfl|rfl|rfl
  .refine Co (aB g hm) λκ kn q hl=>?_;obtain⟨d1,l1⟩:=Zj (n:=11) (λt ht=>fine ((hf g hm).2 t ht)) q;exact C6 d1 (by omega) (okH_sts q) λκ' kn' z=>by rw[q]at z;cases z
  .refine Gi bE λκ kn q=>?_;exact C6 (by decide +kernel) (by decide +kernel) rfl λκ' kn' z=>by rw[q]at z;cases z
  .refine Gi bT λκ kn q=>?_;exact C6 (by decide +kernel) (by decide +kernel) rfl λκ' kn' z=>by rw[q]at z;cases z
  .have hl:=h.lt;have l4:Ed (Lr t)=3+Gv t:=by
    unfold Lr;rw[Dm,Dm,Dm,Dm,Dm,Gj,show Gv (.tup [.wd "let",.wd "zzt",.wd "yes"])=1 from by decide +kernel,show Gv (.tup [.wd "let",.wd "zzr",.tup [.wd "new",.wd "zzzzrecs"]])=1 from by decide +kernel,show Gv (.tup [.wd "let",.wd "zzl",.tup [.wd "list",.num 2]])=1 from by decide +kernel,show Gv (.tup [.wd "give",.wd "zza"])=0 from by decide +kernel];omega
   refine C6 (λu hu=>?_) (by show 1+Ed (Lr t)<=100;omega) rfl λκ' kn' z=>?_
   .have hu:u∈Lr t:=hu;simp only[Lr,JC,JI,KG]at hu
    rcases hu with rfl|rfl|rfl|rfl|rfl
    .decide +kernel
    .decide +kernel
    .decide +kernel
    .exact h.dg
    .decide +kernel
   .cases b with
    | true=>refine Gi (aA rfl) λκ kn q=>?_;rw[q]at z;cases z
    | false=>rw[a0 rfl]at z;cases z
 .rcases cs g hm with hm|rfl|rfl|rfl
  .refine Co (aB g hm) λκ kn q _=>?_;rw[q];rfl
  .refine Gi bE λκ kn q=>?_;rw[q];rfl
  .refine Gi bT λκ kn q=>?_;rw[q];rfl
  .refine Gi (aA hb) λκ kn q=>?_;rw[q];rfl
def Tg (K:PySem.W.Frag):Sp:=λvs H Q _=>∃(a:Addr) (ns:List Int) (k:Int),vs=[.ref a,.int k]/\AW K H a (ns.map V.int)/\0<=k/\k<1000000/\∀c:Int,Q (.int c) H
def Tf (K:PySem.W.Frag):Sp:=λvs H Q _=>∃(a:Addr) (ns:List Int) (O I:Int),vs=[.ref a,.int O,.int I]/\AW K H a (ns.map V.int)/\0<=O/\O<=1000/\0<=I/\I<=1000 /\
 ∀(l:Addr) (zs:List Int) (H':Hp),H l=none->AA H H'->H' l=some (.lst (zs.map V.int))->zs.length=I.toNat->Q (.ref l) H'
def Tc (cR:Addr):Sp:=λvs H Q _=>∃a,vs=[.ref a]/\H a=some (.ext (XO a (.ref cR)))/\∀l H',AA H H'->H l=none->H' l=some (.lst [V.str "NoTree"])->Q (.ref l) H'
noncomputable def Zy (b:Bool):List Str:=if b=true then[] else["NoTree"]
def Mr (n:Nat):Sp:=λvs H Q _=>∃v AB AC b,vs=[v]/\AS H v (Yg AB AC)/\TreeX n AB AC/\AB.length<=10/\AC.length<=10/\(b=true->∀f∈AC,(F4 AB AC f).isSome=true)/\(b=false->∃f∈AC,F4 AB AC f=none)/\∀l H',AA H H'->H l=none->H' l=some (.lst ((Zy b).map V.str))->Q (.ref l) H'
def Pp:Sp:=λvs H Q _=>∃v t b,∃c:Int,vs=[v,.int c]/\AS H v t/\Fn b 5 t/\Fw t=true/\∀I t' H',AA H H'->AS H' I t'->Fn b 11 t'->Q I H'
def Wu:Sp:=λvs H Q _=>∃v u AB AC t,vs=[v,u]/\AS H v (Yg AB AC)/\AB.length<=5/\AC.length<=5/\AS H u t/\∀I H',AA H H'->AS H' I (Yg (D8 AB) (Cz AC t))->Q I H'
theorem boot_VE:bootBuiltins "ValueError"=some (.type "ValueError"):=by decide +kernel
theorem slB {K:PySem.W.Frag}{xs:List V}{lo:Option Int}(ha:H a=some (.tup xs))(k:∀p H',AA H H'->H' p=some (.tup (Ec xs lo hi))->Q (.ref p) H'):rSlB K (.ref a) lo hi H Q:=by
 refine Cj a xs rfl (.inl (.inl ha)) (λz=>k a H (AA.refl H) ?_) λ_ p I=>k p _ ((AA.refl H).upd I) Aj;rw[ha];unfold Ec;rw[z.1,z.2,List.drop_zero,Nat.sub_zero,LD]
section
variable {P:Program}{w:World}{K:PySem.W.Frag}{mg:Str->Option Value}{base:Heap}{cP cT cR cM cA cS:Addr}
theorem EX:AD ["_law_script","_law_k","_law_spare"] ["_law_script","_law_k"] (Aq Qa):=FS
theorem Vm (F:BE K "_law_cell" "_law_cell" Qa f fd)(T:BH K mg):AI P w K mg base BV 1 f fd ["_law_script","_law_k"] (Tg K):=by
 refine F.CZ EX λcdv A outer s H vs Q E hr h=>?_
 .refine Kz h λa ns k z1 I h0 h1 Y=>?_;subst z1;have nd:=EX.nd;refine Ae (Ag (Bz (By Vh (qv 1) (Ey T.AY (qv 0))) (Al (Aw (Dv Dj (qv 0) (qv 1) (λ_ _=>rfl)))) Be) (Ag (Bd 2 nd (Ap Fa Af (Ap Fm (Ap Fm Af (qv 1)) (qv 1)))) (Ag (Bz (By F1 (Ey T.AY (qv 0)) Af) (Al (Bd 2 nd (Ap Fa (qv 2) (Ap Fm (Ap Bh (Dv Dj (qv 0) Af (λ_ _=>rfl)) Af) (Ap Fa (Ap Fm Af (qv 1)) Af))))) Be) (Al (Aw (qv 2)))))) (Ae rfl (Ae rfl (Ao a _ rfl (.inl I) (Au rfl rfl (Ae rfl (Bw (λh=>?_) (λh=>?_)))))))
  .have hk:=JL h;rw[JB]at hk;obtain⟨c,O⟩:=Zm h0 hk;exact Ae rfl (Ae rfl (Bo a _ _ _ rfl rfl I O (Y c)))
  .refine Ae rfl (Bp rfl rfl (.inl ⟨by decide,by decide⟩) (Ae rfl (Bp rfl rfl (.inr ⟨by omega,by omega⟩) (Au rfl rfl (Ae rfl (Ao a _ rfl (.inl I) (Au rfl rfl (Ae rfl (Bw (λh=>?_) (λh=>?_))))))))))
   .have hk:=JL h;rw[JB]at hk;obtain⟨c,O⟩:=Zm (Int.le_refl 0) hk;exact Ae rfl (Ae rfl (Bo a _ _ _ rfl rfl I O (Bp rfl rfl (by show(0:Int)<99991;decide) (Ae rfl (Bp rfl rfl (.inl ⟨by decide,by decide⟩) (Au rfl rfl (Bp rfl rfl (.inl ⟨by omega,by omega⟩) (Au rfl rfl (Ae rfl (Y _))))))))))
   .exact Ae rfl (Y _)
theorem DU:AD ["_law_script","_law_at","_law_many","_law_digits","_law_left","_law_k","_law_mixed","_law_draw"] ["_law_script","_law_at","_law_many"] (Aq M5):=FS
theorem T4 (F:BE K "_law_draws" "_law_draws" M5 f fd)(T:BH K mg)(a2:AQ P w K mg base 1 "_law_cell" ["_law_script","_law_k"] (Tg K)):AI P w K mg base BV 2 f fd ["_law_script","_law_at","_law_many"] (Tf K):=by
 refine F.CZ DU λcdv A outer s H vs Q E hr h=>?_
 .refine F3 h λa ns a1 a0 z1 hS a3 a5 a6 z2=>?_;subst z1;obtain⟨a7,k⟩:=z2;have nd:=DU.nd;have a8:(2000000:Nat)<=sizeLine:=by rw[KU];omega
  refine Ae (Ag (Bd 3 nd (Az Cg)) (Ag (Bd 4 nd (Bl (Se rfl) rfl T.n_max boot_max (AJ Af (qf a2 hr (AJ (qv 0) (qv 1)))))) (Ag (Ei MG rfl (Dh rfl T.BJ (AT (qv 2))) (HE 5 nd) (Ag (Ax (Lu KD LM LN Ew (qv 3) (AT (Ap Bh (qv 4) Af)))) (Al (Bd 4 nd (Ap Br (qv 4) Af))))) (Ag (Bz (By F1 (qv 4) Af) (Al (Aw (qv 3))) Be) (Ag (Bd 6 nd (Az Cg)) (Ag (Bd 7 nd (Ap Bh (Ap Fm (Ap Bh (qf a2 hr (AJ (qv 0) (qv 1))) Af) Af) Af)) (Ag (Ei MG rfl (Dh rfl T.BJ (AT (qv 2))) (HE 5 nd) (Ag (Bd 7 nd (Ap Bh (Ap Fa (Ap Fa (Ap Fm (qv 7) Af) (qf a2 hr (AJ (qv 0) (Ap Fa (Ap Fa (qv 1) Af) (Ap Bh (qv 5) Af))))) (Ap Fm (qv 5) (qv 5))) Af)) (Al (Ax (Lu KD LM LN Ew (qv 6) (AT (Ap Br (Ap Bh (Ap Fa (Ap Fm (qv 7) Af) (Ap Fm Af (qv 5))) Af) Af))))))) (Al (Aw (qv 6)))))))))) ?_;refine⟨(zl 0),λd hd=>?_⟩;have s0:=(AA.refl H).upd (o:=.lst []) hd;refine Ae rfl (Ae rfl (Et a ns a1 rfl (s0.seq hS) a3 (by omega) λc=>(Al1 rfl ?_)))
  refine Ae rfl (Cv a0 rfl (by omega) (by omega) (Gk (n:=a0.toNat) (λi σ H'=>∃(Y:Int) (o5:Option V) (zs:List Int),σ=[some (.ref a),some (.int a1),some (.int a0),some (.ref d),some (.int Y),o5,none,none]/\H' d=some (.lst (zs.map V.int))/\zs.length=i/\AA H H')
   (Ek _ _ [] rfl Aj rfl s0) ?_ ?_))
  .rintro i σ H' hi ⟨Y,o5,zs,rfl,O,hz,I⟩;refine B0 rfl (.inl ⟨rfl,_,AW.of O⟩) (Ae rfl (Bp rfl rfl (by show(0:Int)<10000;decide) (Et d _ _ rfl rfl O (by rw[JB];omega) ?_)));exact Ae rfl (Bp rfl rfl ⟨by decide,by decide⟩ (Ek _ _ (zs++[Y%10000]) rfl (by rw[Aj];simp) (by simp[hz]) (Kw I hd)))
  .rintro σ H' ⟨Y,o5,zs,rfl,O,hz,I⟩;refine Ae rfl (Au rfl rfl (Ae rfl (Bw (λh=>(Ae rfl (k d zs H' hd I O hz))) (λh=>?_))));refine⟨(zl 0),λm hm=>?_⟩;have a4:H m=none:=I.free hm;have s1:=I.upd (o:=.lst []) hm;refine Ae rfl (Ae rfl (Et a ns a1 rfl (s1.seq hS) a3 (by omega) λc2=>(Bp rfl rfl (by show(0:Int)<2147483647;decide) (Bp rfl rfl (.inr ⟨by decide,by decide⟩) (Bp rfl rfl (by show(0:Int)<2147483647;decide) ?_)))))
   refine Ae rfl (Cv a0 rfl (by omega) (by omega) (Gk (n:=a0.toNat) (λi σ H'=>∃(Y:Int) (o5:Option V) (draw:Int) (zs:List Int),σ=[some (.ref a),some (.int a1),some (.int a0),some (.ref d),some (.int Y),o5,some (.ref m),some (.int draw)]/\H' m=some (.lst (zs.map V.int))/\zs.length=i/\AA H H')
    (ii43 _ _ _ [] rfl Aj rfl s1) ?_ ?_))
   .rintro i σ H' hi ⟨Y,o5,draw,zs,rfl,O,hz,I⟩;refine Ae rfl (Bp rfl rfl (.inr ⟨by decide,by decide⟩) (Ae rfl (Ae rfl (Au rfl rfl (Ae rfl (Bp rfl rfl (by show(0:Int)<30;decide) (Au rfl rfl (Et a ns _ rfl (I.seq hS) (by omega) (by omega) λc3=>(Au rfl rfl (Ae rfl (Ae rfl (Bp rfl rfl (.inl ⟨by omega,by omega⟩) (Au rfl rfl (Bp rfl rfl (by show(0:Int)<2147483629;decide) ?_))))))))))))));refine B0 rfl (.inl ⟨rfl,_,AW.of O⟩) (Ae rfl (Bp rfl rfl (.inr ⟨by decide,by decide⟩) (Ae rfl (Bp rfl rfl (.inl ⟨by decide,by decide⟩) (Au rfl rfl (Bp rfl rfl (by show(0:Int)<2147483647;decide) (Bp rfl rfl ⟨by decide,by decide⟩ (Et m _ _ rfl rfl O (by rw[JB];omega) ?_))))))));exact ii43 _ _ _ (zs++[_]) rfl (by rw[Aj,KI];rfl) (by simp[hz]) (Kw I a4)
   .rintro σ H' ⟨Y,o5,draw,zs,rfl,O,hz,I⟩;exact Ae rfl (k m zs H' a4 I O hz)
theorem DW:AD ["_law_e","_law_some"] ["_law_e"] (Aq M4):=FS
theorem T0 (F:BE K "_law_kinds" "_law_kinds" M4 f fd)(T:BH K mg)(I:TxX K mg cP cT cR cM cA cS):IF P w K mg base 1 f fd ["_law_e"] (Tc cR):=by
 refine F.FX DW (λvs H Q h=>?_) (λcdv A outer s H vs Q hr h=>?_)
 .refine Am h λa z1 _=>?_;subst z1;rfl
 .refine Bk h λa z1 ha k=>?_;subst z1;have nd:=DW.nd;have a5:(16000000:Nat)<=sizeLine:=by rw[KU];omega
  refine Ae (Ag (Bd 1 nd (Az Cg)) (Ag (Bz (Ho (Bl Rl rfl T.AH Cp (AJ (qv 0) (Ai (AO (Ix rfl I.g_A) (Ix rfl I.g_M) (Ix rfl I.g_S)))))) (Al (Ax (Lu KD LM LN Ew (qv 1) (AT Ad)))) Be) (Ag (Bz (Ho (Bl Jj rfl T.AH Cp (AJ (qv 0) (Ix rfl I.g_T)))) (Al (Ax (Lu KD LM LN Ew (qv 1) (AT Ad)))) Be) (Ag (Bz (Ho (Bl Jj rfl T.AH Cp (AJ (qv 0) (Ix rfl I.g_R)))) (Al (Ax (Lu KD LM LN Ew (qv 1) (AT Ad)))) Be) (Ag (Bz (Qe (Ho (Bl Jj rfl T.AH Cp (AJ (qv 0) (Dq (v:=.ty "ValueError") rfl I.nV boot_VE rfl))))) (Al (Ax (Lu KD LM LN Ew (qv 1) (AT Ad)))) Be) (Al (Aw (qv 1)))))))) ?_;refine⟨(zl 0),λp hp=>?_⟩;have s0:=(AA.refl H).upd (o:=.lst []) hp;have g0:=Aj (H:=H) (a:=p) (o:=.lst []);have a0:=s0 _ _ ha;generalize upd H p (.lst [])=H1 at *;refine B0 rfl (zl 3) λO a3=>?_;have s1:=s0.upd (o:=.tup [V.ref cA,V.ref cM,V.ref cS]) a3;have g1:upd H1 O (.tup [V.ref cA,V.ref cM,V.ref cS]) p=some (.lst []):=by rw[Ak (Ah g0 a3)];exact g0
  have Y:=s1 _ _ ha;have a4:=Aj (H:=H1) (a:=O) (o:=.tup [V.ref cA,V.ref cM,V.ref cS]);refine Ff a cR O _ _ rfl a4 (by intro v hv;simp at hv;rcases hv with rfl|rfl|rfl<;>trivial) Y I.xc ⟨I.i3,(Ae rfl (G6 ?_))⟩;generalize upd H1 O (.tup [V.ref cA,V.ref cM,V.ref cS])=H2 at *;refine Ae rfl (Ch a cR _ _ rfl trivial Y I.xc I.iT (Ae rfl (G6 (Ae rfl (Ch a cR _ _ rfl trivial Y I.xc I.iR (Ae rfl (Ht ?_)))))));refine B0 rfl (.inl ⟨rfl,_,AW.of g1⟩) (Et p _ _ rfl rfl g1 (by show 0+1<=sizeLine;omega) ?_);have s2:AA H (upd H2 p (.lst ([]++[V.str "NoTree"]))):=Kw s1 hp;have a2:=s2 _ _ ha;have g2:=Aj (H:=H2) (a:=p) (o:=.lst ([]++[V.str "NoTree"]));generalize upd H2 p (.lst ([]++[V.str "NoTree"]))=H3 at *;refine Ae rfl (Ch a cR _ _ rfl trivial a2 I.xc I.iV (Ae rfl (G6 (Ae rfl (k p H3 s2 hp g2)))))
theorem DC:AD ["_law_tree_here","_law_kinds_here","_law_e"] ["_law_tree_here"] (Aq J6):=FS
theorem Qm (hk:1<=k)(F:BE K "_law_refused" "_law_refused" J6 f fd)(T:BH K mg)(O:TxX K mg cP cT cR cM cA cS)(a6:AU P w K mg base k "look_at_tree" ["thing"] (Wy cR n))(a5:FnBH P w K mg base 1 "_law_kinds" ["_law_e"] (Tc cR)) :
  AI P w K mg base BV (k+1) f fd ["_law_tree_here"] (Mr n):=by
 refine F.CZ DC λcdv A outer s H vs Q E hr h=>?_
 .refine F3 h λv AB AC b z1 hi a1 lr lf z2=>?_;refine Bu z2 λa3 a2 Y=>?_;subst z1;have nd:=DC.nd;refine Ae (Ag (Bd 1 nd (Az Cg)) (Ag (qs_try (i:=2) nd rfl rfl rfl rfl a6 (hr.mono (by omega)) rfl rfl O.g_P (λ_ _=>(AT (qv 0))) (λ_ _=>(Al (Bd 1 nd (qe_fnH a5 ((hr.mono (by omega)).h _) rfl (AT (qv 2))))))) (Al (Aw (qv 1))))) ?_;refine⟨(by show 0<=sizeLine;rw[KU];omega),λp a0=>?_⟩;have I:=(AA.refl H).upd (o:=.lst []) a0;have g0:=Aj (H:=H) (a:=p) (o:=.lst []);generalize upd H p (.lst [])=H1 at *;have no:b=false->¬∀f∈AC,(F4 AB AC f).isSome=true:=λhb z=>by
   refine Am (a2 hb) λf hf e=>?_;have:=z f hf;rw[e]at this;cases this
  have a4:b=true->¬∃f∈AC,F4 AB AC f=none:=λhb z=>by
   refine Am z λf hf e=>?_;have:=a3 hb f hf;rw[e]at this;cases this
  refine Ae rfl (Kh v AB AC rfl (hi.mono I.AE) a1 lr lf ⟨(λhT H2 s2=>?_),λhF H2 s2=>⟨O.mt,λa ha=>?_⟩⟩)
  .refine Ae rfl (Y p H2 (I.trans s2) a0 ?_)
   cases b with
   | true=>exact s2 _ _ g0
   | false=>exact absurd hT (no rfl)
  .have s3:=(I.trans s2).upd (o:=.ext (XO a (.ref cR))) ha;refine Ae rfl (B4 a rfl Aj λl H4 s4 hl g4=>Ae rfl (Y l H4 (s3.trans s4) (s3.free hl) ?_))
   cases b with
   | true=>exact absurd hF (a4 rfl)
   | false=>exact g4
theorem DG:AD ["_law_more","_law_cell_here","_law_turn","_law_way"] ["_law_more","_law_cell_here"] (Aq Lb):=FS
theorem Rc (F:BE K "_law_within" "_law_within" Lb f fd)(T:BH K mg):AI P w K mg base BV 1 f fd ["_law_more","_law_cell_here"] Pp:=by
 refine F.CZ DG λcdv A outer s H vs Q E hr h=>?_
 .refine Us h λv t b c z1 hi ho a4 k=>?_;subst z1;have nd:=DG.nd;have a7:(2000000:Nat)<=sizeLine:=by rw[KU];omega
  refine Ae (Ag (Ei MG rfl (Dh rfl T.BJ (AT (Ap Bh (qv 1) Af))) (HE 2 nd) (Ag (Bd 3 nd (Ap Bh (Ap Br (qv 1) (Ap Fa Af (Ap Fm Af (qv 2)))) Af)) (Al (Bz (By B9 (qv 3) Af) (Al (Bd 0 nd (Ai (BF Ad Ad (Ai (AT (qv 0))) (Ai Cg))))) (Al (Bz (By B9 (qv 3) Af) (Al (Bd 0 nd (Ai (BF Ad Ad (Ai Cg) (Ai (AJ (Ai (AJ Ad Af)) (qv 0))))))) (Al (Bd 0 nd (Ai (AO Ad Ad (Dv Dj (Az (AJ (Ai (AT (qv 0))) (Ai (AJ (Ai (AO Ad Ad Ad)) (qv 0))))) (Ap Fk (qv 3) Af) (λ_ _=>rfl)))))))))))) (Al (Aw (qv 0)))) ?_;refine Ae rfl (Bp rfl rfl (by show(0:Int)<4;decide) (Cv (c%4) rfl (by omega) (by omega) (Gk (n:=(c%4).toNat) (λi σ X=>∃O t' Y o2,σ=[some O,some (.int c),Y,o2]/\AA H X/\AS X O t'/\Fn b (5+2*i) t'/\Fw t'=true) (Bo v t _ _ rfl (AA.refl H) hi ho a4) ?_ ?_)))
  .rintro i σ X a6 ⟨O,t',Y,o2,rfl,sm,th,ok,al⟩;have ok:Fn b (4+2*i+1) t':=by rw[show 4+2*i+1=5+2*i by omega];exact ok
   refine Am (show ∃j:Nat,c/(4+5*((0:Int)+i))%4=j/\j<4 from Kc (c/(4+5*((0:Int)+i))) 4 (by decide)) λj ej lj=>?_;refine Cs (Ae rfl (Ae rfl (Bp rfl rfl (.inl ⟨by decide,by decide⟩) (Au rfl rfl (Bp rfl rfl (by show(0:Int)<4+5*((0:Int)+i)/\4+5*((0:Int)+i)<1073741824;omega) (Bp rfl rfl (by show(0:Int)<4;decide) ?_))))))
   walk_at "n"
   rw[ej];haveI:=IY.var (σ:=[some O,some (.int c),some (.int (0+i)),some (.int (j:Int))]) (H:=X) (i:=0) (t:=t') rfl th;have fin:∀v2 t2 I,AA X I->AS I v2 t2->Fn b (4+2*i+3) t2->Fw t2=true->∃O t' Y o2,[some v2,some (.int c),some (.int (0+i)),some (.int (j:Int))]=[some O,some (.int c),Y,o2]/\AA H I/\AS I O t'/\Fn b (5+2*(i+1)) t'/\Fw t'=true:=λv2 t2 I s2 a0 a5 a3=>(Bo v2 t2 _ _ rfl (sm.trans s2) a0 (by rw[show 5+2*(i+1)=4+2*i+3 by omega];exact a5) a3)
   match j,lj with
   | 0,_=>
    refine B0 rfl rfl (Ae rfl (Ht (thing (H0:=X) λv2 I s2 a0=>fin v2 _ I s2 a0 (wi0 ok al) rfl)))
   | 1,_=>
    refine B0 rfl rfl (Ae rfl (G6 (B0 rfl rfl (Ae rfl (Ht (thing (H0:=X) λv2 I s2 a0=>fin v2 _ I s2 a0 (wi1 ok) rfl))))))
   | 2,_=>
    refine B0 rfl rfl (Ae rfl (G6 (B0 rfl rfl (Ae rfl (G6 (Lo (Hh (Hh (Am7 (IN (Hi (H0:=X) λp vs X1 hp s1 g1 a1=>?_)))))))))));refine A0 a1 λva r1 z1 ia z2=>?_;refine A0 z2 λvb r2 z3 ib a2=>?_;subst z1 z3;cases(show r2=[] from a2);refine Ae rfl (Au rfl rfl (Ch p _ _ va rfl rfl (AW.of g1) (Bg (j:=0) rfl) (zl 3) λq hq=>?_));have s2:=(AA.refl X1).upd (o:=.tup [.str "while",.str "zzt",va]) hq;exact fin _ (.tup [.wd "while",.wd "zzt",.tup [t']]) _ (s1.trans s2) (Au rfl Aj (Au rfl rfl (Au rfl rfl (Au rfl (ia.mono s2.AE) rfl)))) (wi2 ok al) rfl
   | 3,_=>
    refine B0 rfl rfl (Ae rfl (G6 (B0 rfl rfl (Ae rfl (G6 (Lo (Hh (Hh (Am7 (IN (Hi (H0:=X) λp vs X1 hp s1 g1 a1=>?_)))))))))));refine A0 a1 λva r1 z1 ia z2=>?_;refine A0 z2 λvb r2 z3 ib a2=>?_;subst z1 z3;cases(show r2=[] from a2);refine Ae rfl (Au rfl rfl (Ch p _ _ vb rfl rfl (AW.of g1) (Bg (j:=1) rfl) (zl 3) λq hq=>?_));have s2:=(AA.refl X1).upd (o:=.tup [.str "while",.str "zzt",vb]) hq;exact fin _ (.tup [.wd "while",.wd "zzt",.tup [.tup [.wd "put",.wd "zzt",.wd "no"],t']]) _ (s1.trans s2) (Au rfl Aj (Au rfl rfl (Au rfl rfl (Au rfl (ib.mono s2.AE) rfl)))) (wi3 ok) rfl
  .rintro σ X ⟨O,t',Y,o2,rfl,sm,th,ok,al⟩;exact Ae rfl (k O t' X sm th ⟨Qz ok.dg (by omega),ok.lt,ok.ev,ok.no⟩)
theorem CS:AD ["_law_tree_here","_law_more","_law_records","_law_early","_law_take","_law_rows","_law_function_here"] ["_law_tree_here","_law_more"] (Aq Ir):=FS
theorem Oo (F:BE K "_law_skeleton" "_law_skeleton" Ir f fd):AI P w K mg base BV 1 f fd ["_law_tree_here","_law_more"] Wu:=by
 refine F.CZ CS λcdv A outer s H vs Q E hr h=>?_
 .refine We h λv u AB AC t I hi lr lf hu k=>?_;subst I;have nd:=CS.nd;have aP:(2000000:Nat)<=sizeLine:=by rw[KU];omega
  refine Ae (Ag (Bd 2 nd (Ai (AJ (Ai (BF Ad Ad Ad Ad)) (Ai (BF Ad Ad Ad Ad))))) (Ag (Bd 3 nd (Ai (Bq Ad (Bq Ad (BF (Ai (BF Ad Ad Ad Ad)) Ad (Ai (AO Ad Ad Ad)) (Ai (AJ Ad Ad))))))) (Ag (Bd 4 nd (Ai (Bq Ad (BF Ad (Ai (AJ Ad Ad)) Ad (Ai (AJ Ad (Ai (AO Ad Ad Ad)))))))) (Ag (Bd 5 nd (Ai (BF (Ai (AO Ad Ad Ad)) (Ai (AO Ad Ad (Ai (AJ Ad Ad)))) (Ai (AO Ad Ad (Ai (AJ Ad Af)))) (qv 1)))) (Ag (Bd 6 nd (Ap Ja (Ap Ja (Ai (BF Ad Ad (Ai (AJ Ad Ad)) Ad)) (qv 5)) (Ai (AT (Ai (AJ Ad Ad)))))) (Al (Aw (Ap Ja (Ap Ja (Ap Ja (Cd Yn (qv 0) Cm (Ca Af)) (qv 2)) (Cd Yn (qv 0) (Ca Af) Cm)) (Ai (AO (qv 3) (qv 4) (qv 6))))))))))) (Cs (thing λv1 H1 s1 aF=>?_))
  walk_at "n"
  refine Cs (thing (H0:=H1) λve aC aB aM=>?_)
  walk_at "n"
  refine Cs (thing (H0:=aC) λvt a8 a7 aN=>?_)
  walk_at "n"
  have S1:=s1.trans (aB.trans a7);haveI:=IY.var (σ:=[some v,some u,some v1,some ve,some vt,none,none]) (H:=a8) (i:=1) (t:=t) rfl (hu.mono S1.AE);refine Cs (thing (H0:=a8) λv2 H2 s2 aG=>?_)
  walk_at "n"
  refine Cs (IN (IN (thing (H0:=H2) λv3 H3 s3 aH=>?_)));refine A0 aH λa3 u3 I g3 t3=>?_;subst I;refine A0 aG λa2 u2 I g2 t2=>?_;subst I;have l3:=t3.len;have l2:=t2.len;refine Ae rfl (R9 g3 (s3 _ _ g2) (by rw[l3,l2];show 4+4<=1000;decide) λp4 H4 s4 g4=>thing (H0:=H4) λv5 H5 s5 aI=>?_);refine A0 aI λa5 u5 I g5 t5=>?_;subst I;have l5:=t5.len;refine R9 (s5 _ _ g4) g5 (by rw[JH,l3,l2,l5];show 4+4+1<=1000;decide) λp6 H6 s6 g6=>?_;have a4:=s3.trans (s4.trans (s5.trans s6));have aJ:AL H6 (u3++u2++u5) (.wd "fun"::.wd "zzzzmain"::.tup [.wd "zza",.wd "number"]::.wd "number"::Lr t):=((((t3.mono s4.AE).append ((t2.mono s3.AE).mono s4.AE)).mono s5.AE).append t5).mono s6.AE;have hF:AS H6 (.ref p6) (Fc (zzF t)):=(Au rfl g6 aJ)
  walk_at "n"
  refine A0 hi λa aQ I ha z2=>?_;refine A0 z2 λv0 us z3 h0 hl=>?_;subst I z3;cases(show v0=.str "program" from h0);have a6:=hl.len;rw[JH,JB,JB]at a6;have S6:=S1.trans (s2.trans a4);have aA:=S6 _ _ ha;refine A0 aF λa1 u1 I g1 t1=>?_;subst I;have l1:u1.length=2:=t1.len;have Sr:=aB.trans (a7.trans (s2.trans a4));refine Go (IN (IN (IN (Ae rfl (Ar 1 rfl (slB aA λq7 H7 s7 g7=>?_))))))
  rw[show Ec (V.str "program"::us) none (some 1)=[V.str "program"] by
   unfold Ec
   rw[show(some 1:Option Int)=some ((1:Nat):Int)from rfl,HT.BX,HT.EV,JR,MV (by omega)];rfl]at g7
  refine Ae rfl (R9 g7 (s7 _ _ (Sr _ _ g1)) (by rw[l1];show 1+2<=1000;decide) λq9 H9 s9 g9=>?_);have S9:=s7.trans s9;refine Ae rfl (Ar 1 rfl ?_);dsimp only[Ss];refine slB (S9 _ _ aA) λqa Ha sa ga=>?_;rw[show Ec (V.str "program"::us) (some 1) none=us from D9 _ 1]at ga;refine R9 (sa _ _ g9) ga (by rw[a6,JH,l1];show 1+2+_<=1000;omega) λqb Hb sb gb=>?_;refine Ae rfl (Ae rfl (B0 rfl (zl 3) λqc aD=>?_));generalize z:upd Hb qc _=Hc;obtain⟨sc,gc⟩:=B8 aD z;refine R9 (sc _ _ gb) gc (by rw[JH,JH,a6,l1];show 1+2+_+3<=1000;omega) λqd O sd gd=>?_;have Y:=S9.trans (sa.trans (sb.trans (sc.trans sd)));have Sd:=S6.trans Y;have aT:AL O u1 [Gp ("zzzzrecs",["zzx","zzy"]),Gp ("zzzzothr",["zzw","zzy"])]:=t1.mono (Sr.trans Y).AE;have aE:AS O ve (Fc IW):=aM.mono ((a7.trans (s2.trans a4)).trans Y).AE;have aK:AS O vt (Fc IU):=aN.mono ((s2.trans a4).trans Y).AE;have a0:AL O [V.str "program"] [.wd "program"]:=(Au rfl rfl rfl);have a9:AL O [ve,vt,.ref p6] [Fc IW,Fc IU,Fc (zzF t)]:=(Au rfl aE (Au rfl aK (Au rfl (hF.mono Y.AE) rfl)));have aa:=((a0.append aT).append (hl.mono Sd.AE)).append a9;refine k _ O Sd (Ao qd _ rfl gd ?_);have e:(.wd "program"::((D8 AB).map Gp++(Cz AC t).map Fc):List Th)=[.wd "program"]++[Gp ("zzzzrecs",["zzx","zzy"]),Gp ("zzzzothr",["zzw","zzy"])]++(AB.map Gp++AC.map Fc)++[Fc IW,Fc IU,Fc (zzF t)]:=by simp[D8,Cz]
  rw[e];exact aa
end
noncomputable def vals7:List Th:=[.tup [.wd "+",.num 1,.wd "yes"],
 .tup [.wd "-",.wd "zzl",.num 1],
 .tup [.wd "*",.num 1],
 .tup [.wd "/",.num 1,.num 2,.num 3],
 .wd "zzp",
 .wd "zzm",
 .wd "zzs",
 .tup [.wd "+",.num 1,.wd "zzp"],
 .tup [.wd "get",.wd "zzr",.wd "zzw"],
 .tup [.wd "get",.tup [.wd "new",.wd "zzzzothr"],.wd "zzx"],
 .tup [.wd "get",.wd "zzm",.wd "zzx"],
 .tup [.wd "call",.wd "zzzztake",.tup [.wd "new",.wd "zzzzothr"]],
 .tup [.wd "call",.wd "zzzzearl",.wd "zzr",.num 1],
 .tup [.wd "rest",.wd "zzt",.num 1],
 .tup [.wd "<",.wd "yes",.num 1],
 .tup [.wd "<",.num 1],
 .tup [.wd "=",.num 1,.wd "yes"],
 .tup [.wd "=",.wd "zzr",.wd "zzr"],
 .tup [.wd "=",.wd "zzl",.wd "zzl"],
 .tup [.wd "=",.num 1],
 .tup [.wd "and",.num 1,.wd "yes"],
 .tup [.wd "or",.wd "zzt"],
 .tup [.wd "or",.wd "yes",.num 0],
 .tup [.wd "not",.num 1],
 .tup [.wd "not",.wd "yes",.wd "no"],
 .tup [.wd "not"],
 .tup [.wd "get",.wd "zzr"],
 .tup [.wd "get",.wd "zzl",.wd "zzx"],
 .tup [.wd "get",.wd "zzr",.wd "zzq"],
 .tup [.wd "get",.wd "zzr",.num 0],
 .tup [.wd "get",.wd "zzr",.wd "zzx",.wd "zzy"],
 .tup [.wd "list",.wd "yes"],
 .tup [.wd "list"],
 .tup [.wd "list",.num 1,.num 2],
 .tup [.wd "long",.num 1],
 .tup [.wd "long",.wd "zzr"],
 .tup [.wd "long",.wd "zzl",.wd "zzl"],
 .tup [.wd "long"],
 .tup [.wd "at",.wd "zzr",.num 0],
 .tup [.wd "at",.wd "zzl",.wd "yes"],
 .tup [.wd "at",.wd "zzl"],
 .tup [.wd "at",.wd "zzl",.num 0,.num 1],
 .tup [.wd "new",.wd "list"],
 .tup [.wd "new",.wd "zzzznone"],
 .tup [.wd "new"],
 .tup [.wd "new",.wd "zzzzrecs",.num 1],
 .tup [.wd "call",.wd "zzzznone",.num 1],
 .tup [.wd "call",.wd "zzzzmain"],
 .tup [.wd "call",.wd "zzzzmain",.wd "yes"],
 .tup [.wd "call",.wd "zzzzmain",.num 1,.num 2],
 .tup [.wd "call"],
 .tup [.wd "call",.wd "zzzzrecs"],
 .tup [.wd "mod",.num 1,.num 2],
 .tup [],
 .tup [.tup [],.num 1],
 .tup [.num 1,.num 2],
 .wd "zzn",
 .wd "A",
 .wd "zzu",
 .wd "main",
 .wd "number",
 .tup [.wd "put",.wd "zza",.num 1],
 .tup [.wd "zza"],
 .tup [.wd "yes"],
 .tup [.wd "+",.num 1,.tup [.wd "+",.num 1,.wd "no"]]]
noncomputable def EE:List Th:=[.tup [.wd "let",.wd "zza",.num 1],
 .tup [.wd "let",.wd "zzt",.wd "no"],
 .tup [.wd "let",.wd "yes",.num 1],
 .tup [.wd "put",.wd "zzp",.num 1],
 .tup [.wd "put",.wd "zzs",.wd "yes"],
 .tup [.wd "put",.wd "zzr",.tup [.wd "new",.wd "zzzzothr"]],
 .tup [.wd "set",.wd "zzr",.wd "zzw",.num 1],
 .tup [.wd "out",.wd "zzp"],
 .tup [.wd "set",.tup [.wd "new",.wd "zzzzothr"],.wd "zzx",.num 1],
 .tup [.wd "set",.wd "zzm",.wd "zzx",.num 1],
 .tup [.wd "do",.wd "zzm"],
 .tup [.wd "let",.wd "no",.num 1],
 .tup [.wd "let",.wd "XBC",.num 1],
 .tup [.wd "let",.wd "a1",.num 1],
 .tup [.wd "let",.wd "abcdefghi",.num 1],
 .tup [.wd "let",.num 7,.num 1],
 .tup [.wd "let",.wd "zzu"],
 .tup [.wd "let",.wd "zzu",.num 1,.num 2],
 .tup [.wd "let",.wd "zzu",.wd "zzu"],
 .tup [.wd "put",.wd "zzn",.num 1],
 .tup [.wd "put",.wd "zzt",.num 1],
 .tup [.wd "put",.wd "zzr",.tup [.wd "list",.num 1]],
 .tup [.wd "put",.wd "zza",.wd "no"],
 .tup [.wd "put",.wd "zza"],
 .tup [.wd "put",.wd "zza",.num 1,.num 2],
 .tup [.wd "out",.wd "zzt"],
 .tup [.wd "out"],
 .tup [.wd "out",.num 1,.num 2],
 .tup [.wd "out",.wd "zzn"],
 .tup [.wd "give",.wd "yes"],
 .tup [.wd "give"],
 .tup [.wd "give",.num 1,.num 2],
 .tup [.wd "give",.wd "zzr"],
 .tup [.wd "fail",.wd "zza"],
 .tup [.wd "fail"],
 .tup [.wd "fail",.num 1,.num 2],
 .tup [.wd "if",.num 1,.tup [],.tup []],
 .tup [.wd "if",.wd "zzt",.tup []],
 .tup [.wd "if",.wd "zzt",.tup [],.tup [],.tup []],
 .tup [.wd "if",.wd "zzt",.tup [],.wd "zza"],
 .tup [.wd "if",.wd "zzt",.num 1,.tup []],
 .tup [.wd "if",.wd "yes",.tup [.tup [.wd "let",.wd "zzu",.num 1]],.tup [.tup [.wd "out",.wd "zzu"]]],
 .tup [.wd "while",.num 0,.tup []],
 .tup [.wd "while",.wd "zzt"],
 .tup [.wd "if",.wd "yes",.tup [.tup [.wd "let",.wd "zzu",.num 1]],.tup [.tup [.wd "let",.wd "zzu",.num 2]]],
 .tup [.wd "while",.wd "zzt",.tup [],.tup []],
 .tup [.wd "while",.wd "zzt",.num 1],
 .tup [.wd "while",.wd "zzt",.tup [.tup [.wd "let",.wd "zza",.num 1]]],
 .tup [.wd "set",.wd "zzr",.wd "zzq",.num 1],
 .tup [.wd "set",.wd "zzl",.wd "zzx",.num 1],
 .wd "zza",
 .num 5,
 .tup [.wd "set",.wd "zzr",.wd "zzx",.wd "yes"],
 .tup [.wd "set",.wd "zzr",.wd "zzx"],
 .tup [.wd "set",.wd "zzr",.num 1,.num 1],
 .tup [.wd "set",.wd "zzr",.wd "zzx",.num 1,.num 2],
 .tup [.wd "store",.wd "zzr",.num 0,.num 1],
 .tup [.wd "store",.wd "zzl",.wd "yes",.num 1],
 .tup [.wd "store",.wd "zzl",.num 0,.wd "no"],
 .tup [.wd "store",.wd "zzl",.num 0],
 .tup [.wd "store",.wd "zzl",.num 0,.num 1,.num 2],
 .tup [.wd "do"],
 .tup [.wd "do",.num 1,.num 2],
 .tup [],
 .tup [.wd "jump"],
 .tup [.tup [.wd "out",.num 1]],
 .tup [.wd "+",.num 1,.num 2],
 .tup [.num 1,.num 2],
 .tup [.wd "if",.wd "yes",.tup [.wd "out",.num 1],.tup []],
 .tup [.wd "while",.wd "yes",.tup [.wd "out",.num 1]],
 .tup [.wd "if",.wd "zzt",.tup [.tup [.wd "while",.wd "no",.tup [.tup [.wd "let",.wd "zzu",.num 1]]],.tup [.wd "out",.wd "zzu"]],.tup []],
 .tup [.wd "while",.wd "zzt",.tup [.tup [.wd "while",.wd "no",.tup [.tup [.wd "let",.wd "zzu",.num 1]]],.tup [.wd "put",.wd "zzu",.num 2]]],
 .tup [.wd "if",.wd "zzt",.tup [.tup [.wd "if",.wd "yes",.tup [.tup [.wd "let",.wd "zzu",.num 1]],.tup []],.tup [.wd "out",.wd "zzu"]],.tup []],
 .tup [.wd "while",.wd "zzt",.tup [.tup [.wd "if",.wd "yes",.tup [.tup [.wd "let",.wd "zzu",.num 1]],.tup []],.tup [.wd "put",.wd "zzu",.num 2]]],
 .tup [.wd "if",.wd "zzt",.tup [.tup [.wd "if",.wd "yes",.tup [],.tup [.tup [.wd "let",.wd "zzu",.num 1]]],.tup [.wd "out",.wd "zzu"]],.tup []],
 .tup [.wd "while",.wd "zzt",.tup [.tup [.wd "if",.wd "yes",.tup [],.tup [.tup [.wd "let",.wd "zzu",.num 1]]],.tup [.wd "put",.wd "zzu",.num 2]]],
 .tup [.wd "call",.wd "zzzzmain",.num 1],
 .tup [.wd "record",.wd "a",.wd "b"]]
noncomputable def An1 (r:Str->Option (List Str))(f:Str->Option (List Str×Str))(t:Th):Bool:=(BD (HF r f) t κ0 kn0).isNone&&(CH 5 t&&(decide (Gv t<=20)&&Fw t))
noncomputable def Ac9 (v:Th):List Th:=[.tup [.wd "do",v],.tup [.wd "let",.wd "zzu",v],.tup [.wd "out",.tup [.wd "+",.num 1,v]]]
theorem Z2 (r:Str->Option (List Str))(f:Str->Option (List Str×Str)):EE.all (An1 r f)=true:=by kernel_rfl
theorem Ad0 (r:Str->Option (List Str))(f:Str->Option (List Str×Str)):vals7.all (λv=>(Ac9 v).all (An1 r f))=true:=by kernel_rfl
theorem An0 (h:∀r f,An1 r f t=true):Fn false 5 t/\Fw t=true:=by
 have h0:=h (λ_=>none) (λ_=>none);unfold An1 at h0;rw[JW,JW,JW,LJ]at h0;refine⟨⟨h0.2.1,h0.2.2.1,λz=>(nomatch z),λ_ r f=>?_⟩,h0.2.2.2⟩;have h1:=h r f;unfold An1 at h1;rw[JW]at h1;exact Option.isNone_iff_eq_none.mp h1.1
theorem do_St:Fn true 5 (.tup [.wd "do",.num 1])/\Fw (.tup [.wd "do",.num 1])=true:=
 ⟨⟨by kernel_rfl,by rw[Uj (by decide) (by decide) (by decide)];decide,λ_ r f=>(Ki κ0 kn0 (S5 (Gw (by decide)))),λz=>(nomatch z)⟩,rfl⟩
theorem addN [b:ThA (some (.ref q)::r) H 20 ta ts](s:AA H0 H)(hq:H q=some (.lst xs))(th:AL H xs I)(hl:I.length<=900)(k:∀p H' Y,AA H0 H'->H' p=some (.lst Y)->AL H' Y (I++ts)->u D (some (.ref p)::r) H'):Sq (Sw (IG Ao5 (Zz 0) (Ad7 ta)) (Dw 0)) u D (some (.ref q)::r) H:=by
 refine Cs (IN (Ae rfl (Hi λp vs H1 hp s1 g1 O=>K1 (s1 _ _ hq) g1 ?_ λp2 H2 h2 s2 g2=>k p2 H2 _ (s.trans (s1.trans s2)) g2 ((((th.mono s1.AE).append O)).mono s2.AE))));rw[th.len,O.len];have:=b.len;omega
def Ws:Sp:=λvs H Q _=>vs=[]/\∀l xs H',AA H H'->H' l=some (.lst xs)->AL H' xs vals7->Q (.ref l) H'
section
variable {P:Program}{w:World}{K:PySem.W.Frag}
theorem CG:AD ["_law_some"] [] (Aq Hm):=FS
theorem Ly (F:BE K "_law_bad_values" "_law_bad_values" Hm f fd):AI P w K mg base BV 1 f fd [] Ws:=by
 refine F.CZ CG λcdv A outer s H vs Q E hr h=>?_
 .obtain⟨rfl,k⟩:=h;have nd:=CG.nd;refine Ae (Ag (Bd 0 nd (Az (Bq (Ai (AO Ad Af Ad)) (Bq (Ai (AO Ad Ad Af)) (Bq (Ai (AJ Ad Af)) (Bq (Ai (BF Ad Af Af Af)) (BF Ad Ad Ad (Ai (AO Ad Af Ad))))))))) (Ag (Bd 0 nd (Ap Bj (qv 0) (Az (AO (Ai (AO Ad Ad Ad)) (Ai (AO Ad (Ai (AJ Ad Ad)) Ad)) (Ai (AO Ad Ad Ad)))))) (Ag (Bd 0 nd (Ap Bj (qv 0) (Az (AJ (Ai (AO Ad Ad (Ai (AJ Ad Ad)))) (Ai (BF Ad Ad Ad Af)))))) (Ag (Bd 0 nd (Ap Bj (qv 0) (Az (AO (Ai (AO Ad Ad Af)) (Ai (AO Ad Ad Af)) (Ai (AJ Ad Af)))))) (Ag (Bd 0 nd (Ap Bj (qv 0) (Az (AO (Ai (AO Ad Af Ad)) (Ai (AO Ad Ad Ad)) (Ai (AO Ad Ad Ad)))))) (Ag (Bd 0 nd (Ap Bj (qv 0) (Az (AO (Ai (AJ Ad Af)) (Ai (AO Ad Af Ad)) (Ai (AJ Ad Ad)))))) (Ag (Bd 0 nd (Ap Bj (qv 0) (Az (AO (Ai (AO Ad Ad Af)) (Ai (AJ Ad Af)) (Ai (AO Ad Ad Ad)))))) (Ag (Bd 0 nd (Ap Bj (qv 0) (Az (AO (Ai (AT Ad)) (Ai (AJ Ad Ad)) (Ai (AO Ad Ad Ad)))))) (Ag (Bd 0 nd (Ap Bj (qv 0) (Az (AO (Ai (AO Ad Ad Ad)) (Ai (AO Ad Ad Af)) (Ai (BF Ad Ad Ad Ad)))))) (Ag (Bd 0 nd (Ap Bj (qv 0) (Az (AJ (Ai (AJ Ad Ad)) (Ai (AT Ad)))))) (Ag (Bd 0 nd (Ap Bj (qv 0) (Az (AO (Ai (AO Ad Af Af)) (Ai (AJ Ad Af)) (Ai (AJ Ad Ad)))))) (Ag (Bd 0 nd (Ap Bj (qv 0) (Az (AO (Ai (AO Ad Ad Ad)) (Ai (AT Ad)) (Ai (AO Ad Ad Af)))))) (Ag (Bd 0 nd (Ap Bj (qv 0) (Az (AO (Ai (AO Ad Ad Ad)) (Ai (AJ Ad Ad)) (Ai (BF Ad Ad Af Af)))))) (Ag (Bd 0 nd (Ap Bj (qv 0) (Az (AO (Ai (AJ Ad Ad)) (Ai (AJ Ad Ad)) (Ai (AT Ad)))))) (Ag (Bd 0 nd (Ap Bj (qv 0) (Az (BF (Ai (AO Ad Ad Af)) (Ai (AO Ad Ad Af)) (Ai (AJ Ad Ad)) (Ai (AO Ad Ad Ad)))))) (Ag (Bd 0 nd (Ap Bj (qv 0) (Az (Bq (Ai (BF Ad Ad Af Af)) (BF (Ai (AT Ad)) (Ai (AJ Ad Ad)) (Ai (AO Ad Af Af)) (Ai Cg)))))) (Ag (Bd 0 nd (Ap Bj (qv 0) (Az (BF (Ai (AJ (Ai Cg) Af)) (Ai (AJ Af Af)) Ad Ad)))) (Al (Aw (Ap Bj (qv 0) (Az (Bq Ad (Bq Ad (Bq Ad (BF (Ai (AO Ad Ad Af)) (Ai (AT Ad)) (Ai (AT Ad)) (Ai (AO Ad Af (Ai (AO Ad Af Ad))))))))))))))))))))))))))))) (Cs (Hi λp vs H hp s g th=>?_))
  walk_at "n"
  iterate 16 (refine addN s g th (by decide) λp H xs s g th=>?_)
  refine Go (IN (Ae rfl (Hi λq vs X1 hq I y1 Y=>K1 (I _ _ g) y1 ?_ λq2 X2 a0 O y2=>?_)))
  .rw [th.len,Y.len];decide
  .exact k q2 _ X2 (s.trans (I.trans O)) y2 (((th.mono I.AE).append Y).mono O.AE)
end
noncomputable def HZ:List Th:=[.tup [.wd "while",.wd "no",.tup [.tup [.wd "let",.wd "zzu",.num 1]]],.tup [.wd "if",.wd "yes",.tup [.tup [.wd "let",.wd "zzu",.num 1]],.tup []],.tup [.wd "if",.wd "yes",.tup [],.tup [.tup [.wd "let",.wd "zzu",.num 1]]]]
noncomputable def Ai6 (t:Th):List Th:=[.tup [.wd "if",.wd "zzt",.tup [t,.tup [.wd "out",.wd "zzu"]],.tup []],.tup [.wd "while",.wd "zzt",.tup [t,.tup [.wd "put",.wd "zzu",.num 2]]]]
def Tb:Sp:=λvs H Q _=>vs=[]/\∀l xs H',AA H H'->H' l=some (.lst xs)->AL H' xs EE->Q (.ref l) H'
theorem forN {K:PySem.W.Frag}{te:TE}{g:TG}{tb u:TS}{D:Ends}{σ:L2.St}{H:Hp}(h:te σ H λx H1=>∃a,x=.ref a/\(∃xs,AW K H1 a xs)/\An7 (λσ' H' R=>R (IZ K a) H') g tb {D with nx:=λσ' H'=>u D σ' H'} σ H1):Sq (An7 (Al3 K te) g tb) u D σ H:=h
section
variable {P:Program}{w:World}{K:PySem.W.Frag}
theorem BS:AD ["_law_some","_law_part_here"] [] (Aq E8):=FS
theorem Jo (F:BE K "_law_bad_statements" "_law_bad_statements" E8 f fd):AI P w K mg base BV 1 f fd [] Tb:=by
 refine F.CZ BS λcdv A outer s H vs Q E hr h=>?_
 .obtain⟨rfl,k⟩:=h;have nd:=BS.nd;refine Ae (Ag (Bd 0 nd (Az (Bq (Ai (AO Ad Ad Af)) (BF (Ai (AO Ad Ad Ad)) (Ai (AO Ad Ad Af)) (Ai (AO Ad Ad Af)) (Ai (AO Ad Ad Ad)))))) (Ag (Bd 0 nd (Ap Bj (qv 0) (Az (AO (Ai (AO Ad Ad (Ai (AJ Ad Ad)))) (Ai (BF Ad Ad Ad Af)) (Ai (AJ Ad Ad)))))) (Ag (Bd 0 nd (Ap Bj (qv 0) (Az (AO (Ai (BF Ad (Ai (AJ Ad Ad)) Ad Af)) (Ai (BF Ad Ad Ad Af)) (Ai (AJ Ad Ad)))))) (Ag (Bd 0 nd (Ap Bj (qv 0) (Az (AO (Ai (AO Ad Ad Af)) (Ai (AO Ad Ad Af)) (Ai (AO Ad Ad Af)))))) (Ag (Bd 0 nd (Ap Bj (qv 0) (Az (AO (Ai (AO Ad Ad Af)) (Ai (AO Ad Af Af)) (Ai (AJ Ad Ad)))))) (Ag (Bd 0 nd (Ap Bj (qv 0) (Az (AJ (Ai (BF Ad Ad Af Af)) (Ai (AO Ad Ad Ad)))))) (Ag (Bd 0 nd (Ap Bj (qv 0) (Az (AO (Ai (AO Ad Ad Af)) (Ai (AO Ad Ad Af)) (Ai (AO Ad Ad (Ai (AJ Ad Af)))))))) (Ag (Bd 0 nd (Ap Bj (qv 0) (Az (AJ (Ai (AO Ad Ad Ad)) (Ai (AJ Ad Ad)))))) (Ag (Bd 0 nd (Ap Bj (qv 0) (Az (BF (Ai (BF Ad Ad Af Af)) (Ai (AJ Ad Ad)) (Ai (AT Ad)) (Ai (AO Ad Af Af)))))) (Ag (Bd 0 nd (Ap Bj (qv 0) (Az (AO (Ai (AJ Ad Ad)) (Ai (AJ Ad Ad)) (Ai (AT Ad)))))) (Ag (Bd 0 nd (Ap Bj (qv 0) (Az (Bq (Ai (AO Ad Af Af)) (Bq (Ai (AJ Ad Ad)) (BF (Ai (AJ Ad Ad)) (Ai (AT Ad)) (Ai (AO Ad Af Af)) (Ai (BF Ad Af (Ai Cg) (Ai Cg))))))))) (Ag (Bd 0 nd (Ap Bj (qv 0) (Az (BF (Ai (AO Ad Ad (Ai Cg))) (Ai (Bq Ad (BF Ad (Ai Cg) (Ai Cg) (Ai Cg)))) (Ai (BF Ad Ad (Ai Cg) Ad)) (Ai (BF Ad Ad Af (Ai Cg))))))) (Ag (Bd 0 nd (Ap Bj (qv 0) (Az (AO (Ai (BF Ad Ad (Ai (AT (Ai (AO Ad Ad Af)))) (Ai (AT (Ai (AJ Ad Ad)))))) (Ai (AO Ad Af (Ai Cg))) (Ai (AJ Ad Ad)))))) (Ag (Bd 0 nd (Ap Bj (qv 0) (Az (AJ (Ai (BF Ad Ad (Ai (AT (Ai (AO Ad Ad Af)))) (Ai (AT (Ai (AO Ad Ad Af)))))) (Ai (BF Ad Ad (Ai Cg) (Ai Cg))))))) (Ag (Bd 0 nd (Ap Bj (qv 0) (Az (AT (Ai (AO Ad Ad Af)))))) (Ag (Bd 0 nd (Ap Bj (qv 0) (Az (AO (Ai (AO Ad Ad (Ai (AT (Ai (AO Ad Ad Af)))))) (Ai (BF Ad Ad Ad Af)) (Ai (BF Ad Ad Ad Af)))))) (Ag (Bd 0 nd (Ap Bj (qv 0) (Az (AJ Ad Af)))) (Ag (Bd 0 nd (Ap Bj (qv 0) (Az (AJ (Ai (BF Ad Ad Ad Ad)) (Ai (AO Ad Ad Ad)))))) (Ag (Bd 0 nd (Ap Bj (qv 0) (Az (AJ (Ai (BF Ad Ad Af Af)) (Ai (Bq Ad (BF Ad Ad Af Af))))))) (Ag (Bd 0 nd (Ap Bj (qv 0) (Az (AJ (Ai (BF Ad Ad Af Af)) (Ai (BF Ad Ad Ad Af)))))) (Ag (Bd 0 nd (Ap Bj (qv 0) (Az (AJ (Ai (BF Ad Ad Af Ad)) (Ai (AO Ad Ad Af)))))) (Ag (Bd 0 nd (Ap Bj (qv 0) (Az (BF (Ai (Bq Ad (BF Ad Af Af Af))) (Ai (AT Ad)) (Ai (AO Ad Af Af)) (Ai Cg))))) (Ag (Bd 0 nd (Ap Bj (qv 0) (Az (BF (Ai (AT Ad)) (Ai (AT (Ai (AJ Ad Af)))) (Ai (AO Ad Af Af)) (Ai (AJ Af Af)))))) (Ag (Bd 0 nd (Ap Bj (qv 0) (Az (AJ (Ai (BF Ad Ad (Ai (AJ Ad Af)) (Ai Cg))) (Ai (AO Ad Ad (Ai (AJ Ad Af)))))))) (Ag (Ei MG rfl (Gf (Az (AO (Ai (AO Ad Ad (Ai (AT (Ai (AO Ad Ad Af)))))) (Ai (BF Ad Ad (Ai (AT (Ai (AO Ad Ad Af)))) (Ai Cg))) (Ai (BF Ad Ad (Ai Cg) (Ai (AT (Ai (AO Ad Ad Af))))))))) (HE 1 nd) (Al (Bd 0 nd (Ap Bj (qv 0) (Az (AJ (Ai (BF Ad Ad (Ai (AJ (qv 1) (Ai (AJ Ad Ad)))) (Ai Cg))) (Ai (AO Ad Ad (Ai (AJ (qv 1) (Ai (AO Ad Ad Af)))))))))))) (Al (Aw (Ap Bj (qv 0) (Az (AJ (Ai (AO Ad Ad Af)) (Ai (AO Ad Ad Ad)))))))))))))))))))))))))))))))) (Cs (Hi λp vs H hp s g th=>?_))
  walk_at "n"
  iterate 23 (refine addN s g th (by decide) λp H xs s g th=>?_)
  have a6:AL H xs (EE.take 70):=th;refine forN (Hi λlp a0 X a8 sl gl a7=>(B4 lp rfl ⟨_,AW.of gl⟩ ?_));have a1:AL X a0 HZ:=a7;have lP:a0.length=3:=a1.len;have a5:(EE.take 70).length=70:=by kernel_rfl
  have lf:∀j<3,((HZ.take j).flatMap Ai6).length<=4:=by decide
  refine Kj (xs:=a0) (λi σ Y=>∃q zs o,σ=[some (.ref q),o]/\AA X Y/\Y q=some (.lst zs)/\AL Y zs (EE.take 70++(HZ.take i).flatMap Ai6)) (Ek p xs none rfl (AA.refl X) (sl _ _ g) (by rw[List.take_zero,List.flatMap_nil,NB];exact a6.mono sl.AE)) (λi σ Y _ ⟨_,_,_,_,sm,_⟩=>AW.of (sm _ _ gl)) ?_ ?_
  .rintro i x σ Y hx ⟨q,zs,o,rfl,sm,gq,I⟩;refine Am (a1.get hx) λt ht it=>?_;have li:i<3:=(List.getElem?_eq_some_iff.mp ht).1;haveI:=IY.var (σ:=[some (.ref q),some x]) (H:=Y) (i:=1) (t:=t) rfl (it.mono sm.AE)
   show IG Ao5 (Zz 0) (Ad7 _) [some (.ref q),some x] Y _
   refine IN (Ae rfl (Hi (H0:=Y) λq1 a2 Y1 a3 O w1 z1=>K1 (O _ _ gq) w1 ?_ λq2 Y2 a4 y2 w2=>?_))
   .rw [I.len,z1.len,JH];have:=lf i li;rw[a5]
    show 70+_+2<=1000
    omega
   .refine Ek q2 _ (some x) rfl (sm.trans (O.trans y2)) w2 ?_;have z:AL Y1 a2 (Ai6 t):=z1;rw[B5 ht,List.flatMap_append,← List.append_assoc];exact(((I.mono O.AE).append z).mono y2.AE)
  .rintro σ Y ⟨q,zs,o,rfl,sm,gq,I⟩;rw[lP]at I;have I:AL Y zs (EE.take 76):=I;dsimp only
   walk_at "n"
   refine Go (IN (Ae rfl (Hi λq1 a2 Y1 a3 O w1 z1=>K1 (O _ _ gq) w1 ?_ λq2 Y2 a4 y2 w2=>?_)))
   .rw [I.len,z1.len];decide
   .exact k q2 _ Y2 (s.trans (sl.trans (sm.trans (O.trans y2)))) w2 (((I.mono O.AE).append z1).mono y2.AE)
end
def Yl (K:PySem.W.Frag):Sp:=λvs H Q _=>∃(a:Addr) (ns:List Int),vs=[.ref a]/\AW K H a (ns.map V.int)/\ns.length<=63/\∀H',Q (.bl true) H'
theorem Oy (b:Bool):∀x∈Zy b,PyData.strOk x=true:=by
 cases b<;>decide +kernel
theorem iteBF {A B:Prop}(hb:b=false)(h:B):if b=true then A else B:=by
 rw[hb];exact G6 h
theorem Wq (h:AL H vs l)(m:v∈vs):∃t∈l,AS H v t:=by
 obtain⟨i,hi⟩:=List.mem_iff_getElem?.mp m;refine Am (h.get hi) λt ht z=>Ar t (JU ht) z
theorem Ao0 (h:t∈EE):Fn false 5 t/\Fw t=true:=An0 λr f=>LO.mp (Z2 r f) t h
theorem val_St (h:v∈vals7)(h2:t∈Ac9 v):Fn false 5 t/\Fw t=true:=An0 λr f=>LO.mp (LO.mp (Ad0 r f) v h) t h2
section
variable {P:Program}{w:World}{K:PySem.W.Frag}{mg:Str->Option Value}{base:Heap}
theorem sc_law:AD ["_law_script","_law_tree_here","_law_values","_law_statements","_law_cell_here","_law_bad","_law_value_here"] ["_law_script"] (Aq sLaw):=FS
theorem ok_law (hm:3<=m)(F:BE K "law" "law" sLaw f fd)(T:BH K mg)(aa:AQ P w K mg base 1 "_law_cell" ["_law_script","_law_k"] (Tg K))(ae:AQ P w K mg base 2 "_law_draws" ["_law_script","_law_at","_law_many"] (Tf K))(ac:AQ P w K mg base m "_law_tree" ["_law_draws_here"] Wt)(ag:AQ P w K mg base 1 "_law_bad_values" [] Ws)(ah:AQ P w K mg base 1 "_law_bad_statements" [] Tb)
  (aB:AQ P w K mg base 1 "_law_within" ["_law_more","_law_cell_here"] Pp)(aD:AQ P w K mg base 1 "_law_skeleton" ["_law_tree_here","_law_more"] Wu)(aC:AQ P w K mg base m "_law_refused" ["_law_tree_here"] (Mr 11)):AI P w K mg base BV (m+1) f fd ["_law_script"] (Yl K):=by
 refine F.CZ sc_law λcdv A outer s H vs Q E hr h=>?_
 .refine Gh h λa ns z1 hS hn k=>?_;subst z1;have nd:=sc_law.nd;have aj:(2000000:Nat)<=sizeLine:=by rw[KU];omega
  refine Ae (Ag (Bd 1 nd (qf ac hr (AT (qf ae hr (AO (qv 0) Af Af))))) (Ag (Bd 2 nd (Ag0 ag (hr.mono (by omega)) rfl)) (Ag (Bd 3 nd (Ag0 ah (hr.mono (by omega)) rfl)) (Ag (Ei MG rfl (Gf (Ap Bj (Az (AT (qf aa hr (AJ (qv 0) Af)))) (Cd O8 (qv 0) (Ca Af) (Ca Af)))) (HE 4 nd) (Ag (Bd 5 nd (Dv Dj (qv 3) (Ap Bh (Ap Br (qv 4) Af) (Ey T.AY (qv 3))) (λ_ _=>rfl))) (Ag (Bz (By B9 (Ap Bh (qv 4) Af) Af) (Ag (Bd 6 nd (Dv Dj (qv 2) (Ap Bh (Ap Br (qv 4) Af) (Ey T.AY (qv 2))) (λ_ _=>rfl))) (Al (Bd 5 nd (Dv Dj (Az (AO (Ai (AJ Ad (qv 6))) (Ai (AO Ad Ad (qv 6))) (Ai (AJ Ad (Ai (AO Ad Af (qv 6))))))) (Ap Bh (Ap Br (qv 4) Af) Af) (λ_ _=>rfl))))) Be) (Ag (Bz (By (Yy hr.units) (qf aC hr (AT (qf aD hr (AJ (qv 1) (qf aB hr (AJ (qv 5) (Ap Br (qv 4) Af))))))) (Az (AT Ad))) (Al (Aw Fh)) Be) (Al (Bz (By (Yy hr.units) (qf aC hr (AT (qf aD hr (AJ (qv 1) (qf aB hr (AJ (Ai (AJ Ad Af)) (Ap Br (qv 4) Af))))))) (Az Cg)) (Al (Aw Fh)) Be)))))) (Al (Aw Fh)))))) (Cs (Ae rfl (Ch a ns 0 240 rfl hS (by decide) (by decide) (by decide) ⟨by decide,λad zs H1 hz s1 g1 _=>(Ao ad zs rfl g1 λv t H2 tv tg a6 ai=>?_)⟩)));have a4:AW K H2 a (ns.map V.int):=by
   rcases hS with(h|⟨o,h⟩)|h
   .exact .inl (.inl (a6 _ _ (s1 _ _ h) (Ah h hz)))
   .exact .inl (.inr ⟨o,a6 _ _ (s1 _ _ h) (Ah h hz)⟩)
   .exact .inr h
  refine Mg tg λAB AC z1 TR aH a5 lr lf=>?_;subst z1
  walk_at "n"
  refine Cs ⟨rfl,λpv xv H3 s3 g3 a0=>?_⟩
  walk_at "n"
  refine Cs ⟨rfl,λps xs H4 s4 g4 aY=>?_⟩
  walk_at "n"
  refine forN (K:=K) (IN (Ae rfl (Et a ns 33 rfl (AA.seq (s3.trans s4) a4) (by decide) (by decide) λc=>⟨zl 1,λp Y=>?_⟩)));generalize z:upd H4 p _=H5;obtain⟨s5,g5⟩:=B8 Y z;refine Ae rfl (Ar 34 rfl (Ar 49 rfl (Ao a _ rfl (AA.seq (s3.trans (s4.trans s5)) a4) λp2 aG=>?_)));generalize z:upd H5 p2 _=H6;obtain⟨s6,g6⟩:=B8 aG z;have lc:=Km (ns.map V.int) (some 34) (some 49);rw[JB]at lc;refine K1 (s6 _ _ g5) g6 (by show 1+_<=1000;omega) λp3 H7 h7 s7 g7=>?_;have aA:∀x∈[V.int c]++Ec (ns.map V.int) (some 34) (some 49),∃i:Int,x=.int i:=λx hx=>by
   rcases JV.mp hx with h|h
   .exact⟨c,JM.mp h⟩
   .refine Am (JT.mp (Am6 h)) λi _ e=>⟨i,e.symm⟩
  generalize [V.int c]++Ec (ns.map V.int) (some 34) (some 49)=ys at g7 aA;have O:=s5.trans (s6.trans s7);have a9:=tv.mono (s3.trans (s4.trans O)).AE;have aF:=(s4.trans O) _ _ g3;have aE:=O _ _ g4;have a8:=a0.mono (s4.trans O).AE;have a7:=aY.mono O.AE;refine B4 p3 rfl ⟨_,AW.of g7⟩ ?_;have lv:0<xv.length:=by rw[a8.len];decide
  have ls:0<xs.length:=by rw[a7.len];decide
  refine Kj (xs:=ys) (λi σ X=>(∃o1 o2 o3,σ=[some (.ref a),some v,some (.ref pv),some (.ref ps),o1,o2,o3])/\AA H7 X) ⟨(jj30 rfl),AA.refl H7⟩ (λi σ X _ ⟨_,I⟩=>AW.of (I _ _ g7)) ?_ ?_
  .rintro i x σ X hx ⟨⟨o1,o2,o3,rfl⟩,I⟩;obtain⟨ci,rfl⟩:=aA x (JU hx);have gX:=AW.of (K:=K) (I _ _ aE);refine Am (Ah3 xs (ci/2) xs.length rfl ls) λy hy my=>Am (Wq (a7.mono I.AE) my) λty aQ aM=>?_;refine Cs (Ae rfl (Ae rfl (Bp rfl rfl ⟨by decide,by decide⟩ (Ae rfl (Ao ps _ rfl (.inl gX) (Bp rfl rfl (by show(0:Int)<xs.length;omega) (Bo ps _ _ y rfl rfl gX hy ?_)))))))
   walk_at "n"
   refine join (λσ' X'=>∃y' t' o',σ'=[some (.ref a),some v,some (.ref pv),some (.ref ps),some (.int ci),some y',o']/\AA X X'/\AS X' y' t'/\Fn false 5 t'/\Fw t'=true) ?_ (λhJ=>?_)
   .rintro σ' X' ⟨y',t',o',rfl,sx,it,st,al⟩;have one:∀(b:Bool) (t:Th),Fn b 11 t->_:=λb t st=>skel7 TR aH (λf hf=>⟨(a5 f hf).1,(a5 f hf).2.2⟩) st;have l1:(D8 AB).length<=10:=by show AB.length+2<=10;omega
    have l2:∀t,(Cz AC t).length<=10:=λt=>by unfold Cz;rw[JH];show _+3<=10;omega
    refine Ae rfl (Ae rfl (Ae rfl (Bp rfl rfl ⟨by decide,by decide⟩ (Bo y' t' false _ rfl it st al λv2 t2 X2 s2 aX a1=>(Ff v v2 AB AC t2 rfl (a9.mono (I.trans (sx.trans s2)).AE) lr lf aX λv3 Y1 s1 a0=>(Ch v3 _ _ false rfl a0 ((one false t2 a1).1) l1 (l2 t2) (Bc ((one false t2 a1).2.1) ((one false t2 a1).2.2) λl X3 aV _ g3=>⟨zl 1,λp Y=>(Ch l p (Zy false) (Zy false) rfl rfl (AW.of (((AA.refl _).upd Y) _ _ g3)) (AW.of Aj) (Oy _) ⟨Oy _,(Ae rfl (iteBF (by rw[JO rfl];rfl) ?_))⟩)⟩)))))));have s3:=s1.trans aV;generalize z:upd X3 p _=X4;obtain⟨s4,_⟩:=B8 Y z;have O:=sx.trans (s2.trans (s3.trans s4));refine B0 rfl (zl 2) λq hq=>?_;generalize z:upd X4 q _=X5;obtain⟨s5,g5⟩:=B8 hq z;refine Ae rfl (Bp rfl rfl ⟨by decide,by decide⟩ (Bo _ (.tup [.wd "do",.num 1]) true _ rfl (Au rfl g5 (Au rfl rfl (Au rfl rfl rfl))) do_St.1 do_St.2 λv2 t2 X6 s6 aZ a2=>(Ff v v2 AB AC t2 rfl (a9.mono (I.trans (O.trans (s5.trans s6))).AE) lr lf aZ λv3 Y1 aU a0=>(Ch v3 _ _ true rfl a0 ((one true t2 a2).1) l1 (l2 t2) (Bc ((one true t2 a2).2.1) ((one true t2 a2).2.2) λl X7 s7 _ g7=>⟨zl 0,λp Y=>(Ch l p (Zy true) (Zy true) rfl rfl (AW.of (((AA.refl _).upd Y) _ _ g7)) (AW.of Aj) (Oy _) ⟨Oy _,(Ae rfl (iteBF (by rw[JO rfl];rfl) ⟨(jj30 rfl),(I.trans (O.trans (s5.trans (s6.trans (aU.trans s7))))).upd Y⟩))⟩)⟩)))))
   .refine Ae rfl (Kx rfl rfl (by show(0:Int)<2;decide) rfl (Ae rfl (Bw (λh=>?_) (λh=>?_))))
    .have gV:=AW.of (K:=K) (I _ _ aF);refine Am (Ah3 xv (ci/2) xv.length rfl lv) λu hu mu=>Am (Wq (a8.mono I.AE) mu) λtu aN aJ=>?_;refine Cs (Ae rfl (Ae rfl (Bp rfl rfl ⟨by decide,by decide⟩ (Ae rfl (Ao pv _ rfl (.inl gV) (Bp rfl rfl (by show(0:Int)<xv.length;omega) (Bo pv _ _ u rfl rfl gV hu ?_)))))))
     walk_at "n"
     haveI:=IY.var (σ:=[some (.ref a),some v,some (.ref pv),some (.ref ps),some (.int ci),some y,some u]) (H:=X) (i:=6) (t:=tu) rfl aJ;refine IN (Hi (H0:=X) λp vs X1 Y s1 g1 aW=>?_);have a3:AL X1 vs (Ac9 tu):=aW;refine Am (Ah3 vs (ci/512) 3 (by rw[a3.len];rfl) (by rw[a3.len];exact Nat.succ_pos 2)) λx aI mx=>Am (Wq a3 mx) λtx aP aK=>?_;refine Ae rfl (Bp rfl rfl ⟨by decide,by decide⟩ (Bp rfl rfl (by show(0:Int)<3;decide) (Bo p _ _ x rfl rfl (AW.of g1) aI (hJ _ _ (Ek x tx (some u) rfl s1 aK (val_St aN aP))))))
    .exact hJ _ _ (Ek y ty o3 rfl (AA.refl X) aM (Ao0 aQ))
  .rintro σ X ⟨⟨o1,o2,o3,rfl⟩,I⟩;exact k X
end
end T
namespace L2
open PySem PySem.Spec PyProof.Rows
end L2
namespace T
open PySem PySem.Spec PyProof PyProof.Rows L2
section
variable {P:Program}{w:World}{K:PySem.W.Frag}{mg:Str->Option Value}{base:Heap}{C cR:Addr}
theorem _root_.L2.AQ.lift (h:AQ P w K mg base k x ps sp)(hk:k<=k'):AQ P w K mg base k' x ps sp:=by
 refine Gh h.ex λf fd F a b c=>⟨f,fd,F.mono hk,a,b,c⟩
theorem _root_.L2.AU.lift (h:AU P w K mg base k x ps sp)(hk:k<=k'):AU P w K mg base k' x ps sp:=by
 refine Gh h.ex λf fd F a b c=>⟨f,fd,F.mono hk,a,b,c⟩
theorem _root_.L2.AQ.imp (h:AQ P w K mg base k x ps sp)(e:∀vs H Q E,Y vs H Q E->sp vs H Q E):AQ P w K mg base k x ps Y:=by
 refine Co h.ex λI O z r=>⟨I,O,⟨λvs H Q E h=>z.1 vs H Q E (e _ _ _ _ h),λA outer s H args us vs Q E a b c d h=>z.2 A outer s H args us vs Q E a b c d (e _ _ _ _ h)⟩,r⟩
theorem Ak2 (k0:AU P w K mg base 2 "kind_of_parts" ["look","e","kinds"] (Wz C cR 0))(h1:∀n m,2<=m->AU P w K mg base m "kind_of_parts" ["look","e","kinds"] (Wz C cR n)->AU P w K mg base (m+1) "kind_looked" ["look","e","kinds"] (Mt C cR n))
  (h2:∀n m,1<=m->AU P w K mg base m "kind_looked" ["look","e","kinds"] (Mt C cR n)->AU P w K mg base (m+1) "look_at_parts" ["look","parts","wanted","kinds"] (Ms K C cR n))(h3:∀n m,1<=m->AU P w K mg base m "kind_looked" ["look","e","kinds"] (Mt C cR n)->AU P w K mg base (m+1) "look_at_field" ["look","e","field","kinds"] (Va C cR n))
  (h4:∀n m,1<=m->AU P w K mg base m "kind_looked" ["look","e","kinds"] (Mt C cR n)->AU P w K mg base m "look_at_parts" ["look","parts","wanted","kinds"] (Ms K C cR n)->AU P w K mg base m "look_at_field" ["look","e","field","kinds"] (Va C cR n)->AU P w K mg base (m+1) "kind_of_parts" ["look","e","kinds"] (Wz C cR (n+1))) :
  ∀n,AU P w K mg base (3+3*n) "kind_looked" ["look","e","kinds"] (Mt C cR n)/\AU P w K mg base (4+3*n) "look_at_parts" ["look","parts","wanted","kinds"] (Ms K C cR n)/\AU P w K mg base (4+3*n) "look_at_field" ["look","e","field","kinds"] (Va C cR n)
 | 0=>by
  have a:=h1 0 2 (by decide) k0;exact Bc a (h2 0 3 (by decide) a) (h3 0 3 (by decide) a)
 | n+1=>by
  refine Bu (Ak2 k0 h1 h2 h3 h4 n) λa b c=>?_;have d:=h4 n (4+3*n) (by omega) (a.lift (by omega)) b c;have e:=(h1 (n+1) _ (by omega) d).lift (k':=3+3*(n+1)) (by omega);exact Bc e ((h2 (n+1) _ (by omega) e).lift (by omega)) ((h3 (n+1) _ (by omega) e).lift (by omega))
abbrev Acts (P:Program)(w:World)(K:PySem.W.Frag)(mg:Str->Option Value)(base:Heap)(C cR:Addr)(fS:Str->Addr)(n m:Nat):Prop:=∀h f,(h,V.ref f)∈As.map (λp=>(p.1,V.ref (fS p.1)))->∃fd,AI P w K mg base (DP P w) m f fd ["look","statement","kinds"] (IX C cR n h)/\PySem.W.keepIn K (.ref f)=true/\Binds K fd ["look","statement","kinds"] []
theorem Hv:AI P w K mg base (DP P w) m f fd ps (IX C cR 0 h):=(AI.none λvs H Q E h=>by
 refine Dp h λo r fn kn kd s I=>?_;refine F3 I λκ kns v rest _ _ _ _ hd _=>?_;unfold CH at hd
 cases hd).up
theorem kp_none:AI P w K mg base (DP P w) m f fd ps (Wz C cR 0):=(AI.none λvs H Q E h=>by
 refine Dp h λo r fn kn s κ I=>?_;refine F3 I λkks v kd l _ _ _ _ _ O=>?_;obtain⟨hd,_⟩:=O;unfold CH at hd
 cases hd).up
theorem Ae2 (kl:∀n,AU P w K mg base (3+3*n) "kind_looked" ["look","e","kinds"] (Mt C cR n)/\AU P w K mg base (4+3*n) "look_at_parts" ["look","parts","wanted","kinds"] (Ms K C cR n)/\AU P w K mg base (4+3*n) "look_at_field" ["look","e","field","kinds"] (Va C cR n))
  (O:Acts P w K mg base C cR fS 0 1)
  (Y:∀n m,2<=m->AU P w K mg base m "kind_looked" ["look","e","kinds"] (Mt C cR (n+1))->AU P w K mg base m "look_at_parts" ["look","parts","wanted","kinds"] (Ms K C cR (n+1))->AU P w K mg base m "look_at_field" ["look","e","field","kinds"] (Va C cR (n+1))->AU P w K mg base m "look_at_statements" ["look","statements","around"] (spS C cR n)->Acts P w K mg base C cR fS (n+2) (m+1))
  (I:∀n m,1<=m->Acts P w K mg base C cR fS n m->AU P w K mg base (m+1) "look_at_statements" ["look","statements","around"] (spS C cR n)):∀k,AU P w K mg base (3+6*k) "look_at_statements" ["look","statements","around"] (spS C cR (2*k))
 | 0=>(I 0 1 (by decide) O).lift (by decide)
 | k+1=>by
  refine Bu (kl (2*k+1)) λa b c=>?_;have z:=Ae2 kl O Y I k;exact(I (2*k+2) _ (by omega) (Y (2*k) (7+6*k) (by omega) (a.lift (by omega)) (b.lift (by omega)) (c.lift (by omega)) (z.lift (by omega)))).lift (by omega)
theorem st_odd (h:AU P w K mg base m "look_at_statements" ["look","statements","around"] (spS C cR (n+1))):AU P w K mg base m "look_at_statements" ["look","statements","around"] (spS C cR n):=by
 have e:∀vs H Q E,spS C cR n vs H Q E->spS C cR (n+1) vs H Q E:=λvs H Q E h=>by
  refine Dp h λo r fn kn kd s Y=>?_;refine Us Y λκ kns v t h1 h2 h3 h4 O=>Ct o r fn kn kd s (Bo κ kns v t h1 h2 h3 (Qz h4 (OZ _)) O)
 refine Co h.ex λI a0 z r=>⟨I,a0,⟨λvs H Q E h=>z.1 vs H Q E (e _ _ _ _ h),λA outer s H args us vs Q E a b c d h=>z.2 A outer s H args us vs Q E a b c d (e _ _ _ _ h)⟩,r⟩
end
end T
namespace T
open PySem PySem.Spec PyProof.Rows L2
def Nz (K:PySem.W.Frag)(x:Str):Prop:=PySem.W.nsIn K mainGlobals x=some none
def Nr (K:PySem.W.Frag)(a:Addr)(x:Str)(f:Addr):Prop:=PySem.W.nsIn K a x=some (some (.ref f))
def Ni (K:PySem.W.Frag)(a:Addr)(x:Str)(i:Int)(t:Tok):Prop:=PySem.W.nsIn K a x=some (some (.int i t))
def Nt (K:PySem.W.Frag)(a:Addr)(x s:Str)(t:Tok):Prop:=PySem.W.nsIn K a x=some (some (.str s t))
def Df (K:PySem.W.Frag)(x q:Str)(st:Stmt)(f:Addr):Prop:=∃fd,BE K x q st f fd
def Dg (K:PySem.W.Frag)(x:Str)(st:Stmt)(f:Addr):Prop:=PySem.W.nsIn K mainGlobals x=some (some (.ref f))/\∃fd,BE K x x st f fd
theorem dg {K:PySem.W.Frag}{h:Heap}{mg:Str->Option Value}{x:Str}{st:Stmt}{f:Addr}(X:K.In h)(G:h.Ns mainGlobals mg)(D:Dg K x st f):mg x=some (.ref f)/\PySem.W.keepIn K (.ref f)=true/\∃fd,BE K x x st f fd:=(Bc (LA X G D.1) (D.2.elim λ_ F=>F.kp) D.2)
section
variable {K:PySem.W.Frag}{x q:Str}{st:Stmt}{f:Addr}{oc:Value}{od an:Option Addr}{osl:Array (Option Value)}{kV doc pm cdv ct:Value}
theorem dfm (l:K.lookup f=some ⟨oc,od,.func (PySem.W.fnOf x q (Dk st) (Cn st) (Aq st) .none kV doc pm an cdv ct),osl⟩)(c:PySem.W.codeIn K cdv q=true)(k:PySem.W.keepIn K (.ref f)=true):Df K x q st f:=⟨_,F5 l c k⟩
theorem dgm (a:PySem.W.nsIn K mainGlobals x=some (some (.ref f)))(l:K.lookup f=some ⟨oc,od,.func (PySem.W.fnOf x x (Dk st) (Cn st) (Aq st) .none kV doc pm an cdv ct),osl⟩)(c:PySem.W.codeIn K cdv x=true)(k:PySem.W.keepIn K (.ref f)=true):Dg K x st f:=⟨a,_,F5 l c k⟩
theorem Dx (l:K.lookup a=some ⟨.type "tuple",dd,.seq its n,sl⟩)(z:its.size<=1000)(v:AG xs its.toList):∀H,BW K H a xs:=
 λH=>.inr (Et _ its n l rfl rfl (JY z (by decide)) v)
end
noncomputable def Ab5 (l:List (Str×Addr))(o:Str):Addr:=(l.lookup o).getD 0
noncomputable def noB {α:Type}(K:PySem.W.Frag)(a:Addr)(l:List (Str×α)):Bool:=hw.all λop=>(l.lookup op).isSome||(match PySem.W.nsIn K a op with|some none=>true|_=>false)
theorem Xq {α:Type}{K:PySem.W.Frag}{a:Addr}{l:List (Str×α)}(h:noB K a l=true):∀op∈hw,l.lookup op=none->PySem.W.nsIn K a op=some none:=λop I hl=>by
 have:=LO.mp h op I;rw[hl]at this;revert this
 cases PySem.W.nsIn K a op with
 | none=>exact λz=>nomatch z
 | some o=>cases o with
  | none=>exact λ_=>rfl
  | some _=>exact λz=>nomatch z
section
variable {K:PySem.W.Frag}{x qual:Str}{st:Stmt}{f:Addr}{fd:FuncData}
theorem bz0 (F:BE K x qual st f fd)(h:∀(kV doc pm:Value) (an:Option Addr) (cdv ct:Value),bindArgs (PySem.W.fnOf x qual (Dk st) (Cn st) (Aq st) .none kV doc pm an cdv ct) ⟨[],[]⟩=pure (([]:List Str).zip [])):Binds K fd [] []:=F.binds λkV doc pm an cdv ct us hl=>match us,hl with|[],_=>h kV doc pm an cdv ct
theorem bz1 (F:BE K x qual st f fd)(a:Str)(h:∀(kV doc pm:Value) (an:Option Addr) (cdv ct I:Value),bindArgs (PySem.W.fnOf x qual (Dk st) (Cn st) (Aq st) .none kV doc pm an cdv ct) ⟨[I],[]⟩=pure ([a].zip [I])):Binds K fd [a] []:=F.binds λkV doc pm an cdv ct us hl=>match us,hl with|[I],_=>h kV doc pm an cdv ct I
theorem bz2 (F:BE K x qual st f fd)(a b:Str)(h:∀(kV doc pm:Value) (an:Option Addr) (cdv ct I O:Value),bindArgs (PySem.W.fnOf x qual (Dk st) (Cn st) (Aq st) .none kV doc pm an cdv ct) ⟨[I,O],[]⟩=pure ([a,b].zip [I,O])):Binds K fd [a,b] []:=F.binds λkV doc pm an cdv ct us hl=>match us,hl with|[I,O],_=>h kV doc pm an cdv ct I O
theorem bz3 (F:BE K x qual st f fd)(a b c:Str)(h:∀(kV doc pm:Value) (an:Option Addr) (cdv ct I O Y:Value),bindArgs (PySem.W.fnOf x qual (Dk st) (Cn st) (Aq st) .none kV doc pm an cdv ct) ⟨[I,O,Y],[]⟩=pure ([a,b,c].zip [I,O,Y])):Binds K fd [a,b,c] []:=F.binds λkV doc pm an cdv ct us hl=>match us,hl with|[I,O,Y],_=>h kV doc pm an cdv ct I O Y
theorem bz4 (F:BE K x qual st f fd)(a b c d:Str)(h:∀(kV doc pm:Value) (an:Option Addr) (cdv ct I O Y u4:Value),bindArgs (PySem.W.fnOf x qual (Dk st) (Cn st) (Aq st) .none kV doc pm an cdv ct) ⟨[I,O,Y,u4],[]⟩=pure ([a,b,c,d].zip [I,O,Y,u4])):Binds K fd [a,b,c,d] []:=F.binds λkV doc pm an cdv ct us hl=>match us,hl with|[I,O,Y,u4],_=>h kV doc pm an cdv ct I O Y u4
end
def Gd (K:PySem.W.Frag)(x:Str)(st:Stmt)(f:Addr)(ps:List Str):Prop:=PySem.W.nsIn K mainGlobals x=some (some (.ref f))/\∃fd,BE K x x st f fd/\Binds K fd ps []
section
variable {P:Program}{w:World}{K:PySem.W.Frag}{h base:Heap}{mg:Str->Option Value}{x:Str}{st:Stmt}{f:Addr}{ps:List Str}{k:Nat}{sp:Sp}(D:Gd K x st f ps)(X:K.In h)(G:h.Ns mainGlobals mg)
include D X G
theorem Gd.b (o:∀fd,BE K x x st f fd->AI P w K mg base BV k f fd ps sp):AQ P w K mg base k x ps sp:=let ⟨a,fd,F,c⟩:=D;⟨f,fd,o fd F,LA X G a,F.kp,c⟩
theorem Gd.b1 (o:∀fd,BE K x x st f fd->AI P w K mg base (DP P w) k f fd ps sp):AU P w K mg base k x ps sp:=let ⟨a,fd,F,c⟩:=D;⟨f,fd,o fd F,LA X G a,F.kp,c⟩
theorem Gd.bH (o:∀fd,BE K x x st f fd->IF P w K mg base k f fd ps sp):FnBH P w K mg base k x ps sp:=let ⟨a,fd,F,c⟩:=D;⟨f,fd,o fd F,LA X G a,F.kp,c⟩
theorem Gd.t {CX}(o:∀fd,BE K x x st f fd->AI P w K mg base CX k f fd ps sp):∃fd,AI P w K mg base CX k f fd ps sp/\PySem.W.keepIn K (.ref f)=true/\Binds K fd ps []:=let ⟨_,fd,F,c⟩:=D;(B4 fd (o fd F) F.kp c)
end
section
variable {K:PySem.W.Frag}{x:Str}{st:Stmt}{f:Addr}{oc:Value}{od an:Option Addr}{osl:Array (Option Value)}{kV doc pm cdv ct:Value}(a:PySem.W.nsIn K mainGlobals x=some (some (.ref f)))(l:K.lookup f=some ⟨oc,od,.func (PySem.W.fnOf x x (Dk st) (Cn st) (Aq st) .none kV doc pm an cdv ct),osl⟩)(c:PySem.W.codeIn K cdv x=true)(k:PySem.W.keepIn K (.ref f)=true)
include a l c k
theorem gd0 (h:∀(kV doc pm:Value) (an:Option Addr) (cdv ct:Value),bindArgs (PySem.W.fnOf x x (Dk st) (Cn st) (Aq st) .none kV doc pm an cdv ct) ⟨[],[]⟩=pure (([]:List Str).zip [])):Gd K x st f []:=⟨a,(Ae (F5 l c k) (bz0 (F5 l c k) h))⟩
theorem FM (h:∀(kV doc pm:Value) (an:Option Addr) (cdv ct I:Value),bindArgs (PySem.W.fnOf x x (Dk st) (Cn st) (Aq st) .none kV doc pm an cdv ct) ⟨[I],[]⟩=pure (([O]:List Str).zip [I])):Gd K x st f [O]:=⟨a,(Ae (F5 l c k) (bz1 (F5 l c k) O h))⟩
theorem FR (h:∀(kV doc pm:Value) (an:Option Addr) (cdv ct I O:Value),bindArgs (PySem.W.fnOf x x (Dk st) (Cn st) (Aq st) .none kV doc pm an cdv ct) ⟨[I,O],[]⟩=pure (([Y,x1]:List Str).zip [I,O])):Gd K x st f [Y,x1]:=⟨a,(Ae (F5 l c k) (bz2 (F5 l c k) Y x1 h))⟩
theorem gd3 (h:∀(kV doc pm:Value) (an:Option Addr) (cdv ct I O Y:Value),bindArgs (PySem.W.fnOf x x (Dk st) (Cn st) (Aq st) .none kV doc pm an cdv ct) ⟨[I,O,Y],[]⟩=pure (([x0,x1,x2]:List Str).zip [I,O,Y])):Gd K x st f [x0,x1,x2]:=⟨a,(Ae (F5 l c k) (bz3 (F5 l c k) x0 x1 x2 h))⟩
theorem gd4 (h:∀(kV doc pm:Value) (an:Option Addr) (cdv ct I O Y u3:Value),bindArgs (PySem.W.fnOf x x (Dk st) (Cn st) (Aq st) .none kV doc pm an cdv ct) ⟨[I,O,Y,u3],[]⟩=pure (([x0,x1,x2,x3]:List Str).zip [I,O,Y,u3])):Gd K x st f [x0,x1,x2,x3]:=⟨a,(Ae (F5 l c k) (bz4 (F5 l c k) x0 x1 x2 x3 h))⟩
end
theorem all_mk {l:PySem.W.OpenLaw}{w:World}{K:PySem.W.Frag}{h:Heap}{mg:Str->Option Value}{fa C aO aT aR aS aL cP cT cR cM cA cS f0 f1 f2 f3 f4 f5 f6 f7 f8 f9 bZ ba bb bc a6 a7 a8 a9 aA aB aC a0 aD bd be bf bg bh bi bj bn bp br bt bu bv bw bx bz c0 c1 c2 c3 c4 c5 c6 c7 c8 c9 cB cC cD cE fl fI b0 b1 b2 b3 b4 b5 b6 b7 b8 b9 a2 a3 a4 a5:Addr}(X:K.In h)(G:h.Ns mainGlobals mg)(cG:mg "law"=some (.ref fa))
  {t1 t2 t3 t4 q0 q1 q2 q3 q4 q5 q6 q7 q8 q9 dO dP dQ dR s0 s1 s2 s3 s4 s5 s6 s7 s8 s9:Tok}{eT eR eS eL:Array DictEntry}{nT nR nS nL d3 d4 d5 d6 d7 d8 d9 dA dB dC dD ej ek el em:Nat}{bO bP bQ bR bS bT bU bV bW bX bY eP eQ eU eV:Option Addr}{aN aP aQ aU aV aW aX aY aZ aa ac ah ai aj al:Array Value}{dS dU dV dW dX dY dZ da db dc de en er et eu:Array (Option Value)}
  (cs:Gd K "_law_bad_values" Hm cD [])
  (cu:Gd K "_law_bad_statements" E8 cE [])
  (l0:Gd K "is_number" M6 f0 ["thing"])
  (l1:Gd K "is_of_language" Hn f1 ["thing"])
  (l2:Gd K "first_again" J8 f2 ["things"])
  (l3:Gd K "all_unlike" Ld f3 ["things"])
  (l4:Gd K "is_word" Tn f4 ["thing"])
  (l6:Gd K "is_name" Tp f6 ["thing"])
  (l8:Gd K "look_at_record" Hj f8 ["record"])
  (cO:Gd K "look_at_main" Jy ba ["fun"])
  (cY:Gd K "look_at_tree" Jx bh ["thing"])
  (cb:Gd K "_law_next" P7 bn ["_law_state"])
  (ce:Gd K "_law_kind" P8 bz ["_law_now"])
  (cf:Gd K "_law_let" Tm c0 ["_law_now"])
  (cg:Gd K "_law_put" Tl c1 ["_law_now"])
  (ck:Gd K "_law_tree" P5 c7 ["_law_draws_here"])
  (cm:Gd K "_law_kinds" M4 c8 ["_law_e"])
  (cr:Gd K "_law_refused" J6 cC ["_law_tree_here"])
  (l5:Gd K "want" Yp f5 ["so","why"])
  (l7:Gd K "is_headed" M7 f7 ["thing","word"])
  (l9:Gd K "is_kind" Tq f9 ["thing","records"])
  (cN:Gd K "look_at_head" Jz bZ ["fun","records"])
  (cQ:Gd K "look_at_body" J3 bb ["look","fun"])
  (cZ:Gd K "_law_cell" Qa bi ["_law_script","_law_k"])
  (cc:Gd K "_law_words" Mz bp ["_law_draw","_law_many"])
  (ae:Gd K "_law_plain" M1 br ["_law_now","_law_kind_here"])
  (cd:Gd K "_law_one_of" M3 bx ["_law_now","_law_some"])
  (ci:Gd K "_law_deed" P9 c2 ["_law_now","_law_way"])
  (ag:Gd K "_law_statement" Hl c3 ["_law_now","_law_deep"])
  (aK:Gd K "_law_ending" Lc c5 ["_law_now","_law_deep"])
  (cn:Gd K "_law_skeleton" Ir c9 ["_law_tree_here","_law_more"])
  (cq:Gd K "_law_within" Lb cB ["_law_more","_law_cell_here"])
  (cU:Gd K "look_at_statements" E7 bc ["look","statements","around"])
  (aq:Gd K "look_at_let" La a6 ["look","statement","kinds"])
  (au:Gd K "look_at_put" K9 a7 ["look","statement","kinds"])
  (av:Gd K "look_at_if" Mx a8 ["look","statement","kinds"])
  (ax:Gd K "look_at_while" Im a9 ["look","statement","kinds"])
  (ay:Gd K "look_at_give" J0 aA ["look","statement","kinds"])
  (az:Gd K "look_at_fail" J2 aB ["look","statement","kinds"])
  (bA:Gd K "look_at_set" K8 aC ["look","statement","kinds"])
  (aI:Gd K "look_at_known" Ip a0 ["look","statement","kinds"])
  (bB:Gd K "look_at_do" My aD ["look","statement","kinds"])
  (cV:Gd K "kind_looked" J7 bd ["look","e","kinds"])
  (bC:Gd K "kind_of_parts" Iv be ["look","e","kinds"])
  (ca:Gd K "_law_draws" M5 bj ["_law_script","_law_at","_law_many"])
  (aF:Gd K "_law_call" Qb bt ["_law_now","_law_kind_here","_law_deep"])
  (aG:Gd K "_law_number_deed" Gn bu ["_law_now","_law_way","_law_deep"])
  (aH:Gd K "_law_truth_deed" Hk bv ["_law_now","_law_way","_law_deep"])
  (a1:Gd K "_law_value" M0 bw ["_law_now","_law_kind_here","_law_deep"])
  (cj:Gd K "_law_function" Iu c6 ["_law_now","_law_name","_law_many"])
  (cW:Gd K "look_at_parts" Io bf ["look","parts","wanted","kinds"])
  (cX:Gd K "look_at_field" Iq bg ["look","e","field","kinds"])
  (aJ:Gd K "_law_part" P6 c4 ["_law_now","_law_deep","_law_many","_law_ends"])
  (ll:Dg K "law" sLaw fl)
  (cH:Ni K mainGlobals "LEAST" (-32768) t1)
  (cJ:Ni K mainGlobals "MOST" (32767) t2)
  (cK:Ni K mainGlobals "MOST_FIELDS" (4) t3)
  (cL:Ni K mainGlobals "MOST_VARIABLES" (4) t4)
  (z0:Nz K "len")
  (z1:Nz K "isinstance")
  (z2:Nz K "int")
  (z3:Nz K "bool")
  (z4:Nz K "str")
  (z5:Nz K "tuple")
  (z6:Nz K "list")
  (z7:Nz K "dict")
  (z8:Nz K "zip")
  (z9:Nz K "max")
  (eM:Nz K "range")
  (eN:Nz K "all")
  (eO:Nz K "enumerate")
  (cF:Nr K mainGlobals "Look" C)
  (qC:Cls K C)
  (cz:BL K C "records")
  (d0:BL K C "functions")
  (d1:BL K C "gives")
  (d2:BL K C "known")
  (MC:Mk K C fI)
  (lI:Df K "__init__" "Look.__init__" Mw fI)
  (gO:Nr K mainGlobals "OWN_KINDS" aO)
  (eW:K.lookup aO=some ⟨.type "tuple",bO,.seq aN d3,dS⟩)
  (dw:aN.size<=1000)
  (df:AG [.str "number",.str "truth",.str "list"] aN.toList)
  (gT:Nr K mainGlobals "TAKES" aT)
  (cy:K.lookup aT=some ⟨.type "dict",none,.dict eT nT,#[]⟩)
  (yT:PySem.W.KeysLit w.params eT.toList)
  (oT:(aT==sysModules)=false)
  (gR:Nr K mainGlobals "RESULTS" aR)
  (cw:K.lookup aR=some ⟨.type "dict",none,.dict eR nR,#[]⟩)
  (yR:PySem.W.KeysLit w.params eR.toList)
  (oR:(aR==sysModules)=false)
  (gS:Nr K mainGlobals "STATEMENTS" aS)
  (cx:K.lookup aS=some ⟨.type "dict",none,.dict eS nS,#[]⟩)
  (yS:PySem.W.KeysLit w.params eS.toList)
  (oS:(aS==sysModules)=false)
  (gL:Nr K mainGlobals "LENGTHS" aL)
  (cv:K.lookup aL=some ⟨.type "dict",none,.dict eL nL,#[]⟩)
  (yL:PySem.W.KeysLit w.params eL.toList)
  (oL:(aL==sysModules)=false)
  (u0:Nr K aT "+" b0)
  (eX:K.lookup b0=some ⟨.type "tuple",bP,.seq aP d4,dU⟩)
  (dy:aP.size<=1000)
  (dh:AG [.str "number",.str "number"] aP.toList)
  (u1:Nr K aT "-" b1)
  (eY:K.lookup b1=some ⟨.type "tuple",bQ,.seq aQ d5,dV⟩)
  (dz:aQ.size<=1000)
  (di:AG [.str "number",.str "number"] aQ.toList)
  (u2:Nr K aT "*" b2)
  (eZ:K.lookup b2=some ⟨.type "tuple",bR,.seq aU d6,dW⟩)
  (e0:aU.size<=1000)
  (dj:AG [.str "number",.str "number"] aU.toList)
  (u3:Nr K aT "/" b3)
  (ec:K.lookup b3=some ⟨.type "tuple",bS,.seq aV d7,dX⟩)
  (e2:aV.size<=1000)
  (dk:AG [.str "number",.str "number"] aV.toList)
  (u4:Nr K aT "rest" b4)
  (ed:K.lookup b4=some ⟨.type "tuple",bT,.seq aW d8,dY⟩)
  (e3:aW.size<=1000)
  (dm:AG [.str "number",.str "number"] aW.toList)
  (u5:Nr K aT "<" b5)
  (ee:K.lookup b5=some ⟨.type "tuple",bU,.seq aX d9,dZ⟩)
  (e4:aX.size<=1000)
  (dn:AG [.str "number",.str "number"] aX.toList)
  (u6:Nr K aT "and" b6)
  (ef:K.lookup b6=some ⟨.type "tuple",bV,.seq aY dA,da⟩)
  (e5:aY.size<=1000)
  (dq:AG [.str "truth",.str "truth"] aY.toList)
  (u7:Nr K aT "or" b7)
  (eg:K.lookup b7=some ⟨.type "tuple",bW,.seq aZ dB,db⟩)
  (e6:aZ.size<=1000)
  (dt:AG [.str "truth",.str "truth"] aZ.toList)
  (u8:Nr K aT "not" b8)
  (eh:K.lookup b8=some ⟨.type "tuple",bX,.seq aa dC,dc⟩)
  (e7:aa.size<=1000)
  (du:AG [.str "truth"] aa.toList)
  (u9:Nr K aT "list" b9)
  (ei:K.lookup b9=some ⟨.type "tuple",bY,.seq ac dD,de⟩)
  (e8:ac.size<=1000)
  (dv:AG [.str "number"] ac.toList)
  (fU:Nr K aT "long" a2)
  (fK:K.lookup a2=some ⟨.type "tuple",eP,.seq ah ej,en⟩)
  (fF:ah.size<=1000)
  (fB:AG [.str "list"] ah.toList)
  (fV:Nr K aT "at" a3)
  (fL:K.lookup a3=some ⟨.type "tuple",eQ,.seq ai ek,er⟩)
  (fG:ai.size<=1000)
  (fC:AG [.str "list",.str "number"] ai.toList)
  (fW:Nr K aT "out" a4)
  (fM:K.lookup a4=some ⟨.type "tuple",eU,.seq aj el,et⟩)
  (fH:aj.size<=1000)
  (fD:AG [.str "number"] aj.toList)
  (fX:Nr K aT "store" a5)
  (fN:K.lookup a5=some ⟨.type "tuple",eV,.seq al em,eu⟩)
  (fJ:al.size<=1000)
  (fE:AG [.str "list",.str "number",.str "number"] al.toList)
  (r0:Nt K aR "+" "number" q0)
  (r1:Nt K aR "-" "number" q1)
  (r2:Nt K aR "*" "number" q2)
  (r3:Nt K aR "/" "number" q3)
  (r4:Nt K aR "rest" "number" q4)
  (r5:Nt K aR "<" "truth" q5)
  (r6:Nt K aR "=" "truth" q6)
  (r7:Nt K aR "and" "truth" q7)
  (r8:Nt K aR "or" "truth" q8)
  (r9:Nt K aR "not" "truth" q9)
  (fO:Nt K aR "get" "number" dO)
  (fP:Nt K aR "list" "list" dP)
  (fQ:Nt K aR "long" "number" dQ)
  (fR:Nt K aR "at" "number" dR)
  (p0:Nr K aS "let" a6)
  (p1:Nr K aS "put" a7)
  (p2:Nr K aS "if" a8)
  (p3:Nr K aS "while" a9)
  (p4:Nr K aS "out" a0)
  (p5:Nr K aS "give" aA)
  (p6:Nr K aS "fail" aB)
  (p7:Nr K aS "set" aC)
  (p8:Nr K aS "store" a0)
  (p9:Nr K aS "do" aD)
  (h0:Ni K aL "let" 3 s0)
  (h1:Ni K aL "put" 3 s1)
  (h2:Ni K aL "if" 4 s2)
  (h3:Ni K aL "while" 3 s3)
  (h4:Ni K aL "out" 2 s4)
  (h5:Ni K aL "give" 2 s5)
  (h6:Ni K aL "fail" 2 s6)
  (h7:Ni K aL "set" 4 s7)
  (h8:Ni K aL "store" 4 s8)
  (h9:Ni K aL "do" 2 s9)
  (zV:Nz K "ValueError")
  (dG:Nr K mainGlobals "PassError" cP)
  (dL:Nr K mainGlobals "NoText" cT)
  (dH:Nr K mainGlobals "NoTree" cR)
  (dF:Nr K mainGlobals "NoMiddle" cM)
  (dE:Nr K mainGlobals "NoMachine" cA)
  (dJ:Nr K mainGlobals "NoPass" cS)
  (eA:PySem.W.excIn K cR [.type "ValueError",.type "Exception",.type "BaseException",.type "object"] "ValueError.__new__"=true)
  (eB:PySem.W.findIn K (.ref cR) "__getattribute__"=some (some (.builtin "BaseException.__getattribute__")))
  (eC:PySem.W.findIn K (.ref cR) "__getattr__"=some none)
  (e9:PySem.W.findIn K (.ref cR) "__class__"=some (some (.builtin "object.__class__")))
  (eK:PySem.W.subIn K (.ref cR) (.type "BaseException")=some true)
  (eJ:PySem.W.subIn K (.ref cR) (.type "object")=some true)
  (eH:PySem.W.isClsIn K cR=true)
  (eI:PySem.W.exmOne K (.ref cR) (.ref cP)=some true)
  (eD:PySem.W.kitAny K (.ref cR) [.ref cA,.ref cM,.ref cS]=some false)
  (eF:PySem.W.kitOne K (.ref cR) (.ref cT)=some false)
  (eE:PySem.W.kitOne K (.ref cR) (.ref cR)=some true)
  (eG:PySem.W.kitOne K (.ref cR) (.type "ValueError")=some true)
  (dN:noB K aT takes=true)
  (dM:noB K aR gives=true)
  (noS:noB K aS As=true)
  : ∃fd:FuncData,(∀(s:Shared) (v:Value),BindsTo s fd ⟨[v],[]⟩ [("_law_script",v)])/\∀base:Heap,K.In base->base.Ns mainGlobals mg->AI l.prog w K mg base BV 43 fa fd ["_law_script"] (Yl K):=by
 refine Bu (dg X G ll) λml kl z1=>?_;obtain⟨dl,Fl⟩:=z1;have e:=cG.symm.trans ml;cases e;have I:BH K mg:=⟨KZ X G z0,KZ X G z1,KZ X G z2,KZ X G z3,KZ X G z4,KZ X G z5,KZ X G z6,KZ X G z7,KZ X G z8,KZ X G z9,KZ X G eM,KZ X G eN,KZ X G eO⟩;have TG:TxtG K mg t1 t2 t3 t4:=⟨LA X G cH,LA X G cJ,LA X G cK,LA X G cL⟩;have TE:TxX K mg cP cT cR cM cA cS:=⟨LA X G dG,LA X G dL,LA X G dH,LA X G dF,LA X G dE,LA X G dJ,eA,⟨eB,eC,e9,eK,eJ,eH⟩,eI,eD,eF,eE,eG,KZ X G zV⟩;obtain⟨dI,FI⟩:=lI;have cI:=bz4 FI "self" "records" "functions" "fun" λ_ _ _ _ _ _ _ _ _ _=>rfl;have TK:TxK K mg aO:=⟨LA X G gO,Dx eW dw df⟩;have LT:GU K C:=⟨qC,cz,d0,d1,d2⟩;have TM:TxL K mg C fI dI:=⟨LA X G cF,cI,MC⟩;have fA:FN K w aT (takes.map λp=>(p.1,V.ref ((Ab5 [("+",b0),("-",b1),("*",b2),("/",b3),("rest",b4),("<",b5),("and",b6),("or",b7),("not",b8),("list",b9),("long",a2),("at",a3),("out",a4),("store",a5)]) p.1)):List (Str×V)):=by
  refine⟨(Ck eT nT cy yT),oT,λx v m=>?_⟩;simp only[takes,JX,NG,JC,OC,JI,KG]at m;rcases m with⟨rfl,rfl⟩|⟨rfl,rfl⟩|⟨rfl,rfl⟩|⟨rfl,rfl⟩|⟨rfl,rfl⟩|⟨rfl,rfl⟩|⟨rfl,rfl⟩|⟨rfl,rfl⟩|⟨rfl,rfl⟩|⟨rfl,rfl⟩|⟨rfl,rfl⟩|⟨rfl,rfl⟩|⟨rfl,rfl⟩|⟨rfl,rfl⟩<;>exact Ae rfl (by assumption)
 have ey:FN K w aR (gives.map λp=>(p.1,V.str p.2):List (Str×V)):=by
  refine⟨(Ck eR nR cw yR),oR,λx v m=>?_⟩;simp only[gives,JX,NG,JC,OC,JI,KG]at m;rcases m with⟨rfl,rfl⟩|⟨rfl,rfl⟩|⟨rfl,rfl⟩|⟨rfl,rfl⟩|⟨rfl,rfl⟩|⟨rfl,rfl⟩|⟨rfl,rfl⟩|⟨rfl,rfl⟩|⟨rfl,rfl⟩|⟨rfl,rfl⟩|⟨rfl,rfl⟩|⟨rfl,rfl⟩|⟨rfl,rfl⟩|⟨rfl,rfl⟩<;>exact Ae ⟨_,rfl⟩ (by assumption)
 have ez:FN K w aS (As.map λp=>(p.1,V.ref ((Ab5 [("let",a6),("put",a7),("if",a8),("while",a9),("out",a0),("give",aA),("fail",aB),("set",aC),("store",a0),("do",aD)]) p.1)):List (Str×V)):=by
  refine⟨(Ck eS nS cx yS),oS,λx v m=>?_⟩;simp only[As,JX,NG,JC,OC,JI,KG]at m;rcases m with⟨rfl,rfl⟩|⟨rfl,rfl⟩|⟨rfl,rfl⟩|⟨rfl,rfl⟩|⟨rfl,rfl⟩|⟨rfl,rfl⟩|⟨rfl,rfl⟩|⟨rfl,rfl⟩|⟨rfl,rfl⟩|⟨rfl,rfl⟩<;>exact Ae rfl (by assumption)
 have ew:FN K w aL (As.map λp=>(p.1,V.int p.2):List (Str×V)):=by
  refine⟨(Ck eL nL cv yL),oL,λx v m=>?_⟩;simp only[As,JX,NG,JC,OC,JI,KG]at m;rcases m with⟨rfl,rfl⟩|⟨rfl,rfl⟩|⟨rfl,rfl⟩|⟨rfl,rfl⟩|⟨rfl,rfl⟩|⟨rfl,rfl⟩|⟨rfl,rfl⟩|⟨rfl,rfl⟩|⟨rfl,rfl⟩|⟨rfl,rfl⟩<;>exact Ae ⟨_,rfl⟩ (by assumption)
 have tk:∀p∈takes,∀H,BW K H ((Ab5 [("+",b0),("-",b1),("*",b2),("/",b3),("rest",b4),("<",b5),("and",b6),("or",b7),("not",b8),("list",b9),("long",a2),("at",a3),("out",a4),("store",a5)]) p.1) (p.2.map V.str):=by
  intro p m;simp only[takes,JC,JI,KG]at m
  rcases m with rfl|rfl|rfl|rfl|rfl|rfl|rfl|rfl|rfl|rfl|rfl|rfl|rfl|rfl
  .exact Dx eX dy dh
  .exact Dx eY dz di
  .exact Dx eZ e0 dj
  .exact Dx ec e2 dk
  .exact Dx ed e3 dm
  .exact Dx ee e4 dn
  .exact Dx ef e5 dq
  .exact Dx eg e6 dt
  .exact Dx eh e7 du
  .exact Dx ei e8 dv
  .exact Dx fK fF fB
  .exact Dx fL fG fC
  .exact Dx fM fH fD
  .exact Dx fN fJ fE
 have TT:TxT K w mg aT aR (Ab5 [("+",b0),("-",b1),("*",b2),("/",b3),("rest",b4),("<",b5),("and",b6),("or",b7),("not",b8),("list",b9),("long",a2),("at",a3),("out",a4),("store",a5)]):=⟨LA X G gT,fA,tk,LA X G gR,ey,Xq dN,Xq dM⟩;have TS:TxS K w mg aS aL (Ab5 [("let",a6),("put",a7),("if",a8),("while",a9),("out",a0),("give",aA),("fail",aB),("set",aC),("store",a0),("do",aD)]):=⟨LA X G gS,LA X G gL,ez,ew,Xq noS⟩;refine Ar dl (λs v=>?_) λbase KB _=>?_
 .refine Dp Fl.ex λ_ _ _ _ _ _ z1=>?_;refine Gg z1 λ_ _ _ z2 _=>?_;subst z2;exact .of_eq rfl
 have A1:AQ l.prog w K mg base 1 _ _ (Pq):=l5.b X G λ_ F=>ok_want F;have A2:AQ l.prog w K mg base 1 _ _ (Ae5):=l0.b X G λ_ F=>T5 F I;have A3:AQ l.prog w K mg base 2 _ _ (Ym):=l1.b X G λ_ F=>Lz F TG A2;have A4:AQ l.prog w K mg base 1 _ _ (Ta):=l4.b X G λ_ F=>Xn F I;have am:AQ l.prog w K mg base 2 _ _ (O7):=l6.b X G λ_ F=>Xo F A4;have A5:=am.imp Wv;have A6:AQ l.prog w K mg base 1 _ _ (Te):=l7.b X G λ_ F=>Ua F I;have A7:AQ l.prog w K mg base 1 _ _ (Ae3 K):=l2.b X G λ_ F=>Qo F I;have A8:AQ l.prog w K mg base 2 _ _ (Vb K):=l3.b X G λ_ F=>Rg F A7;have A9:AQ l.prog w K mg base 4 _ _ (Ae4):=l8.b X G λ_ F=>Lw F I TG TK A1 A6 A5 A8;have Aa:AQ l.prog w K mg base 1 _ _ (Td):=l9.b X G λ_ F=>Xp F I TK;have Ab:AQ l.prog w K mg base 4 _ _ (spHd):=cN.b X G λ_ F=>Oi F I TG A1 A5 A8 Aa;have Ac:AQ l.prog w K mg base 2 _ _ (Wx):=cO.b X G λ_ F=>Oh F I A1;have B1:AU l.prog w K mg base 1 _ _ (Eo cR):=l5.b1 X G λ_ F=>Ai8 F TE;have K0:AU l.prog w K mg base 2 _ _ (Wz C cR 0):=bC.b1 X G λ_ F=>kp_none;have KL:=Ak2 K0 (λn m hm z=>cV.b1 X G λ_ F=>Qn hm F I B1 A3 z) (λn m hm z=>cW.b1 X G λ_ F=>Na hm F I B1 z) (λn m hm z=>cX.b1 X G λ_ F=>Nb hm F LT B1 z) (λn m hm z1 z2 z3=>bC.b1 X G λ_ F=>Nc hm F I TT LT B1 z1 z2 z3)
 have ST:=Ae2 (fS:=(Ab5 [("let",a6),("put",a7),("if",a8),("while",a9),("out",a0),("give",aA),("fail",aB),("set",aC),("store",a0),("do",aD)])) KL (by
   intro h f hh;simp only[As,JX,NG,JC,OC,V.ref.injEq,JI,KG]at hh;rcases hh with⟨rfl,rfl⟩|⟨rfl,rfl⟩|⟨rfl,rfl⟩|⟨rfl,rfl⟩|⟨rfl,rfl⟩|⟨rfl,rfl⟩|⟨rfl,rfl⟩|⟨rfl,rfl⟩|⟨rfl,rfl⟩|⟨rfl,rfl⟩
   .exact aq.t X G λ_ F=>Hv
   .exact au.t X G λ_ F=>Hv
   .exact av.t X G λ_ F=>Hv
   .exact ax.t X G λ_ F=>Hv
   .exact aI.t X G λ_ F=>Hv
   .exact ay.t X G λ_ F=>Hv
   .exact az.t X G λ_ F=>Hv
   .exact bA.t X G λ_ F=>Hv
   .exact aI.t X G λ_ F=>Hv
   .exact bB.t X G λ_ F=>Hv) (λn m hm z1 z2 z3 z4=>by
   intro h f hh;simp only[As,JX,NG,JC,OC,V.ref.injEq,JI,KG]at hh;rcases hh with⟨rfl,rfl⟩|⟨rfl,rfl⟩|⟨rfl,rfl⟩|⟨rfl,rfl⟩|⟨rfl,rfl⟩|⟨rfl,rfl⟩|⟨rfl,rfl⟩|⟨rfl,rfl⟩|⟨rfl,rfl⟩|⟨rfl,rfl⟩
   .exact aq.t X G λ_ F=>Ql (by omega) F LT B1 am z1
   .exact au.t X G λ_ F=>Qk (by omega) F I B1 z2
   .exact av.t X G λ_ F=>Ra F z2 z4
   .exact ax.t X G λ_ F=>M9 F z2 z4
   .exact aI.t X G λ_ F=>Ie (.inl rfl) F TT z2
   .exact ay.t X G λ_ F=>Oj F LT z2
   .exact az.t X G λ_ F=>Ol (by omega) F B1 A3
   .exact bA.t X G λ_ F=>Qj F z2 z3
   .exact aI.t X G λ_ F=>Ie (.inr rfl) F TT z2
   .exact bB.t X G λ_ F=>Rb F z1) (λn m hm z=>cU.b1 X G λ_ F=>Jn hm F I TS B1 z) 6
 have Ba:AU l.prog w K mg base 40 _ _ (W6 C cR 11):=cQ.b1 X G λ_ F=>Om (by decide) F I B1 (st_odd ST);have bG:=Ub (P:=l.prog) (w:=w) (mg:=mg) (base:=base) FI LT;have Bt:AU l.prog w K mg base 41 _ _ (Wy cR 11):=cY.b1 X G λ_ F=>Og (by decide) F I TM B1 A6 A8 A9 Ab Ac Ba bG.up;have O:AQ l.prog w K mg base 1 _ _ (Jv):=cb.b X G λ_ F=>Vj F I;have Y:AQ l.prog w K mg base 2 _ _ (Ps):=cd.b X G λ_ F=>Rf F I O;have N3:AQ l.prog w K mg base 3 _ _ (Px):=ce.b X G λ_ F=>Vk F I Y;have Pz:AQ l.prog w K mg base 1 _ _ (λvs H Q E=>false=true/\Gb false vs H Q E):=ae.b X G λ_ F=>AI.none (λvs H Q E h=>by cases h.1);have Pf:AQ l.prog w K mg base 2 _ _ (Gb false):=ae.b X G λ_ F=>Lx (by decide) F I O Pz;have Pg:AQ l.prog w K mg base 2 "_law_plain" ["_law_now","_law_kind_here"] (λvs H Q E=>true=true/\Gb false vs H Q E):=by
  refine Co Pf.ex λf' aE z r=>⟨f',aE,⟨λvs H Q E h=>z.1 vs H Q E h.2,λA outer s H args us vs Q E a b c d h=>z.2 A outer s H args us vs Q E a b c d h.2⟩,r⟩
 have Pt:AQ l.prog w K mg base 3 _ _ (Gb true):=ae.b X G λ_ F=>Lx (by decide) F I O Pg;have V0:AQ l.prog w K mg base 3 _ _ (F8 0):=a1.b X G λ_ F=>AI.none (λvs H Q E h=>by refine Wd h λ_ _ _ _ _ _ _ _ _ _ _ z1=>?_;obtain⟨h,_⟩:=z1;exact OB _ h);have C0:AQ l.prog w K mg base 4 _ _ (Jw 0):=aF.b X G λ_ F=>F2 (by decide) F I V0 Y Pt;have D0:AQ l.prog w K mg base 5 _ _ (Pw 0):=aG.b X G λ_ F=>C9 (m:=4) (by decide) F I (V0.lift (by decide)) Y C0;have E0:AQ l.prog w K mg base 5 _ _ (Pr 0):=aH.b X G λ_ F=>(Di F V0).mono (by decide);have V1:AQ l.prog w K mg base 6 _ _ (F8 1):=a1.b X G λ_ F=>Fb (m:=5) (by decide) F O Pt D0 E0 (C0.lift (by decide));have C1:AQ l.prog w K mg base 7 _ _ (Jw 1):=aF.b X G λ_ F=>F2 (by decide) F I V1 Y Pt;have D1:AQ l.prog w K mg base 8 _ _ (Pw 1):=aG.b X G λ_ F=>C9 (m:=7) (by decide) F I (V1.lift (by decide)) Y C1;have E1:AQ l.prog w K mg base 8 _ _ (Pr 1):=aH.b X G λ_ F=>(Di F V1).mono (by decide);have V2:AQ l.prog w K mg base 9 _ _ (F8 2):=a1.b X G λ_ F=>Fb (m:=8) (by decide) F O Pt D1 E1 (C1.lift (by decide));have C2:AQ l.prog w K mg base 10 _ _ (Jw 2):=aF.b X G λ_ F=>F2 (by decide) F I V2 Y Pt;have D2:AQ l.prog w K mg base 11 _ _ (Pw 2):=aG.b X G λ_ F=>C9 (m:=10) (by decide) F I (V2.lift (by decide)) Y C2;have E2:AQ l.prog w K mg base 11 _ _ (Pr 2):=aH.b X G λ_ F=>(Di F V2).mono (by decide);have V3:AQ l.prog w K mg base 12 _ _ (F8 3):=a1.b X G λ_ F=>Fb (m:=11) (by decide) F O Pt D2 E2 (C2.lift (by decide));have C3:AQ l.prog w K mg base 13 _ _ (Jw 3):=aF.b X G λ_ F=>F2 (by decide) F I V3 Y Pt;have D3:AQ l.prog w K mg base 14 _ _ (Pw 3):=aG.b X G λ_ F=>C9 (m:=13) (by decide) F I (V3.lift (by decide)) Y C3;have E3:AQ l.prog w K mg base 14 _ _ (Pr 3):=aH.b X G λ_ F=>(Di F V3).mono (by decide);have V4:AQ l.prog w K mg base 15 _ _ (F8 4):=a1.b X G λ_ F=>Fb (m:=14) (by decide) F O Pt D3 E3 (C3.lift (by decide));have C4:AQ l.prog w K mg base 16 _ _ (Jw 4):=aF.b X G λ_ F=>F2 (by decide) F I V4 Y Pt;have D4:AQ l.prog w K mg base 17 _ _ (Pw 4):=aG.b X G λ_ F=>C9 (m:=16) (by decide) F I (V4.lift (by decide)) Y C4;have E4:AQ l.prog w K mg base 17 _ _ (Pr 4):=aH.b X G λ_ F=>(Di F V4).mono (by decide);have V5:AQ l.prog w K mg base 18 _ _ (F8 5):=a1.b X G λ_ F=>Fb (m:=17) (by decide) F O Pt D4 E4 (C4.lift (by decide));have Lt:AQ l.prog w K mg base 19 _ _ (Rr (λW=>W≠[]) false):=cf.b X G λ_ F=>Xm (by decide) F N3 V5;have Pu:AQ l.prog w K mg base 19 _ _ (Rr (λ_=>True) false):=cg.b X G λ_ F=>Xl (by decide) F I Y V5;have De:AQ l.prog w K mg base 19 _ _ (W0):=ci.b X G λ_ F=>Vl (by decide) F I N3 Y V5;have bD:AQ l.prog w K mg base 18 _ _ (Nq 0):=aK.b X G λ_ F=>AI.none (λvs H Q E h=>by obtain⟨_,_,_,_,_,_,_,_,_,_,_,_,_,h,_⟩:=h;exact OB _ h);have bK:AQ l.prog w K mg base 18 _ _ (λvs H Q E=>0<0/\Il 1 vs H Q E):=aJ.b X G λ_ F=>AI.none (λvs H Q E h=>MJ _ h.1);have aM:AQ l.prog w K mg base 19 _ _ (Nq 1):=aK.b X G λ_ F=>Hr (by decide) F I O V5 bK bD;have P0:AQ l.prog w K mg base 19 _ _ (Il 0):=aJ.b X G λ_ F=>AI.none (λvs H Q E h=>by obtain⟨_,_,_,_,_,_,_,_,_,_,_,_,_,_,_,h,_⟩:=h;exact OB _ h);have bL:AQ l.prog w K mg base 20 _ _ (Z5 1):=ag.b X G λ_ F=>Fp (n:=0) (m:=19) (by decide) F I O (Lt.lift (by decide)) (Pu.lift (by decide)) (De.lift (by decide)) (V5.lift (by decide)) P0;have P1:AQ l.prog w K mg base 21 _ _ (Il 1):=aJ.b X G λ_ F=>Nv F I bL (aM.lift (by decide));have bM:AQ l.prog w K mg base 22 _ _ (Z5 2):=ag.b X G λ_ F=>Fp (n:=1) (m:=21) (by decide) F I O (Lt.lift (by decide)) (Pu.lift (by decide)) (De.lift (by decide)) (V5.lift (by decide)) P1;have P2:AQ l.prog w K mg base 23 _ _ (Il 2):=aJ.b X G λ_ F=>Nv F I bM (aM.lift (by decide));have bN:AQ l.prog w K mg base 24 _ _ (Z5 3):=ag.b X G λ_ F=>Fp (n:=2) (m:=23) (by decide) F I O (Lt.lift (by decide)) (Pu.lift (by decide)) (De.lift (by decide)) (V5.lift (by decide)) P2;have bI:AQ l.prog w K mg base 21 "_law_part" ["_law_now","_law_deep","_law_many","_law_ends"] (λvs H Q E=>0<1/\Il 1 vs H Q E):=by
  refine Co ((P1.lift (k':=21) (by decide)).ex) λf' aE z r=>⟨f',aE,⟨λvs H Q E h=>z.1 vs H Q E h.2,λA outer s H args us vs Q E a b c d h=>z.2 A outer s H args us vs Q E a b c d h.2⟩,r⟩
 have bJ:AQ l.prog w K mg base 22 "_law_part" ["_law_now","_law_deep","_law_many","_law_ends"] (λvs H Q E=>0<2/\Il 1 vs H Q E):=by
  refine Co ((P1.lift (k':=22) (by decide)).ex) λf' aE z r=>⟨f',aE,⟨λvs H Q E h=>z.1 vs H Q E h.2,λA outer s H args us vs Q E a b c d h=>z.2 A outer s H args us vs Q E a b c d h.2⟩,r⟩
 have bE:AQ l.prog w K mg base 22 _ _ (Nq 2):=aK.b X G λ_ F=>Hr (n:=1) (m:=21) (by decide) F I O (V5.lift (by decide)) bI (aM.lift (by decide));have bF:AQ l.prog w K mg base 23 _ _ (Nq 3):=aK.b X G λ_ F=>Hr (n:=2) (m:=22) (by decide) F I O (V5.lift (by decide)) bJ bE;have Fu:AQ l.prog w K mg base 25 _ _ (Ae7):=cj.b X G λ_ F=>Op (by decide) F I bN (bF.lift (by decide));have Wo:AQ l.prog w K mg base 1 _ _ (S8):=cc.b X G λ_ F=>Tz F I;have Tr:AQ l.prog w K mg base 26 _ _ (Wt):=ck.b X G λ_ F=>Vi (by decide) F I O Wo N3 Fu;have Ce:AQ l.prog w K mg base 1 _ _ (Tg K):=cZ.b X G λ_ F=>Vm F I;have Dr:AQ l.prog w K mg base 2 _ _ (Tf K):=ca.b X G λ_ F=>T4 F I Ce;have Kn:FnBH l.prog w K mg base 1 _ _ (Tc cR):=cm.bH X G λ_ F=>T0 F I TE;have Wi:AQ l.prog w K mg base 1 _ _ (Pp):=cq.b X G λ_ F=>Rc F I;have Sk:AQ l.prog w K mg base 1 _ _ (Wu):=cn.b X G λ_ F=>Oo F;have Re:AQ l.prog w K mg base 42 _ _ (Mr 11):=cr.b X G λ_ F=>Qm (by decide) F I TE Bt Kn;have Bv:AQ l.prog w K mg base 1 _ _ (Ws):=cs.b X G λ_ F=>Ly F;have Bs:AQ l.prog w K mg base 1 _ _ (Tb):=cu.b X G λ_ F=>Jo F;exact ok_law (m:=42) (by decide) Fl I Ce Dr (Tr.lift (by decide)) Bv Bs Wi Sk Re
theorem walk {l:PySem.W.OpenLaw}{q:Program}{a1:List Str}{Y:(Str->Option Value)->Heap->Prop}{I:World->Heap->Prop}{d:DefRec}{K:Params->PySem.W.Frag}(hn:l.most=some 63)(a0:d.params.defaults=[])
   (hY:∀(w:World) (h:Heap),I w h->(K w.params).In h)
   (F:∀(w:World) (mg:Str->Option Value) (O:Addr) (h:Heap),(K w.params).In h->h.Ns mainGlobals mg->mg d.name=some (.ref O) ->
     ∃fd:FuncData,(∀(s:Shared) (u:Value),BindsTo s fd ⟨[u],[]⟩ [("_law_script",u)])/\∀base:Heap,(K w.params).In base->base.Ns mainGlobals mg->AI l.prog w (K w.params) mg base BV 43 O fd ["_law_script"] (Yl (K w.params))) :
   PySem.W.WalkO q a1 Y I l.row.toRowW d [] (λf vs=>PySem.call f vs):=
 L2.walk_of (n:=63) (k:=43) (x:="_law_script") (CX:=λ_=>BV) (sp:=λw=>Yl (K w.params)) hn (by decide) a0 ⟨rfl,by decide,by decide⟩ hY F (λ_ _ a ns hl _ hS=>(Cj a ns rfl hS hl λ_=>rfl)) λ_ _ _ _ _ z=>z
end T
end
namespace PySem.W.Fast
def tw2366527988935442976:=()
def tw17848347346237310594:=()
def tw13107779539232119653:=()
def tw5853412347791858346:=()
def tw10081322629769859903:=()
def tw10406657486791574827:=()
def tw14019432534324129172:=()
def tw3883823042701345828:=()
def tw6277607610700928098:=()
def tw8143512342567632299:=()
def tw5353783392459941596:=()
def tw1046223126276370205:=()
def tw2625802931635381512:=()
def tw626635926515866233:=()
def tw12636798281047996375:=()
def tw2953311657261131222:=()
def tw6204287436034834190:=()
def tw3908508334363128700:=()
def tw9254405348975733649:=()
def tw9275701493639371886:=()
def tw3075394751572034184:=()
def tw5615485051871858679:=()
def tw270884140461846041:=()
def tw5452444902217668941:=()
def tw17077719850051732010:=()
def tw2481386105301731869:=()
def tw12815002415823247467:=()
def tw394540218864129188:=()
def tw11397934542349759516:=()
def tw7672627016352417893:=()
def tw7510579230701652104:=()
def tw16387805917769657653:=()
def tw4033353226906059366:=()
def tw16114491397134338253:=()
def tw3996252826850941237:=()
def tw17885620924599020664:=()
def tw8817501018270506:=()
def tw311460536014489522:=()
def tw7867629618046624425:=()
def tw10106234941146676681:=()
def tw15606662816233797800:=()
def tw9554096717852320027:=()
def tw11956096661756892060:=()
def tw8289488343942571298:=()
def tw7902260796313890470:=()
def tw481056819387609974:=()
def tw6921568138900001917:=()
def tw4221883360272970173:=()
def tw14419965785628468943:=()
def tw10590776440626590528:=()
def tw10977401153312874146:=()
def tw13501941832669220516:=()
def tw7406115548823089856:=()
def tw9230046171871103361:=()
def tw13669566466788984275:=()
def tw12642074341625437017:=()
def tw9953033105626630464:=()
def tw11132046149769798930:=()
def tw2095371609767128534:=()
def tw10138101478315291267:=()
def tw10818998175845214355:=()
def tw7290018859675458720:=()
def tw12484812063077506388:=()
def tw16387910719251669650:=()
def tw7867144015483410099:=()
def tw18264822039521343333:=()
def tw181238376413335066:=()
def tw11367188540394307967:=()
def tw2963266482371349790:=()
def tw5971107101298094789:=()
def tw4179964278670845727:=()
def tw11213663673827704978:=()
def tw12152721078835102196:=()
def tw16376738979758774281:=()
def tw5848738679890577403:=()
def tw1906306793404449152:=()
def tw1725568128348435955:=()
def tw14197120190836855372:=()
def tw1241813091922517922:=()
def tw17075305080690449763:=()
def tw10771564362957934138:=()
def tw15866087679952426675:=()
def tw14433860369397045921:=()
def tw18155934664358897553:=()
def tw4810183368158028744:=()
def tw14435723835866471338:=()
def tw15887055473395879235:=()
def tw10970700044343503517:=()
def tw15124735497041670075:=()
def tw10687553829822157825:=()
def tw4613799490921934232:=()
def tw613988711256581838:=()
def tw14978903547940990046:=()
def tw8394497703458380055:=()
def tw715423091293750723:=()
def tw17791170732880249568:=()
def tw52212461720122027:=()
def tw18178935147094948836:=()
def tw2560358607771382025:=()
def tw16754423558619743317:=()
def tw13004529320921872095:=()
def tw18056757124648347721:=()
def tw8580815134204598536:=()
def tw14594153728377926740:=()
def tw904039377540187523:=()
def tw13851902851785411363:=()
def tw5010574367379082569:=()
def tw16918680973277009117:=()
def tw14189726089838252203:=()
def tw3784754645495547691:=()
def tw17029564261023934633:=()
def tw9600049687835293123:=()
def tw6746808480750784585:=()
def tw13212612603332442918:=()
def tw7922358263057301608:=()
def tw5928214079472163907:=()
def tw8331230977245263973:=()
def tw7571574271788832920:=()
def tw15871868140618840418:=()
def tw14495668868713436973:=()
def tw10670477656564647236:=()
def tw9688659363135506966:=()
def tw888794334835992132:=()
def tw16125228567890323996:=()
def tw13914895972434500318:=()
def tw8183166964795214806:=()
def tw6326777370354431509:=()
def tw12127033988457634830:=()
def tw17542934092907390048:=()
def tw5123150846623132059:=()
def tw7697104891908016981:=()
def tw9191690258393076952:=()
def tw7130029393946262465:=()
def tw9031097731025228811:=()
def tw4268988395665705696:=()
def tw9756147702607672200:=()
def tw1253941484845299502:=()
def tw10796605651279636155:=()
def tw16407509058045972828:=()
def tw14044015158515809717:=()
def tw4709296185938319100:=()
def tw1916582172749010343:=()
def tw312711149352561838:=()
def tw14681521610833766707:=()
def tw9363738909791866530:=()
def tw10430796640031122526:=()
def tw16789716805354843308:=()
def tw4927545106289527005:=()
def tw7023188810439890442:=()
def tw4719610731774032325:=()
def tw4352678472923651264:=()
def tw10037326771819469215:=()
def tw2045954990006815208:=()
def tw7616775543380006480:=()
def tw1572486907591186140:=()
def tw1795245882320958524:=()
def tw12173356525526631763:=()
def tw10842431639955571713:=()
def tw758930689354759500:=()
def tw6659035246018435283:=()
def tw8998307064877728016:=()
def tw4769664642105751475:=()
def tw3901839888631551349:=()
def tw9716812756736390217:=()
def tw11408918540872582173:=()
def tw1734930898000827201:=()
def tw8058353370407538851:=()
def tw6089208258835054324:=()
def tw5853273581223335382:=()
def tw15836455590015788324:=()
def tw16902406195709201186:=()
def tw16389166147409927304:=()
def tw17579676666191619320:=()
def tw7514030836191851348:=()
def tw8505300349297120610:=()
def tw15042202485899530947:=()
def tw1985996358550177948:=()
def tw8979783823565001757:=()
def tw7137564763225943140:=()
def tw16929605802218396023:=()
def tw9055463902945761526:=()
def tw9384367130922255324:=()
def tw16458925757125006482:=()
def tw7005143450664792113:=()
def tw13181322399264280012:=()
def tw16784529234731332161:=()
def tw13376008217717625424:=()
def tw12847651085751416069:=()
def tw13514723099679974489:=()
def tw11601229130529055196:=()
def tw14280119448307367986:=()
def tw6472502986447549299:=()
def tw6245777045382031411:=()
def tw2972430471343489704:=()
def tw17136991177751012829:=()
def tw14031240743897090641:=()
def tw12517065530556198398:=()
def tw2350472476478929161:=()
def tw9227900813374596048:=()
def tw18243217456888651902:=()
def tw6035248040041652255:=()
def tw8733290610130272713:=()
def tw7599127532331515887:=()
def tw4515960158489214517:=()
def tw16373894277629671251:=()
def tw15353379557630851006:=()
def tw11812344077462143308:=()
def tw5484095416553140105:=()
def tw12599228238425438295:=()
def tw7279086552316564922:=()
def tw10595770708208973046:=()
def tw11289854231284688724:=()
def tw10143792713449316076:=()
def tw419708160353101496:=()
def tw11024676155018636209:=()
def tw4840727004289106608:=()
def tw2840492150111884485:=()
def tw3880699975357812014:=()
def tw11760426073601758886:=()
def tw8996003226373070328:=()
def tw4681855054052578921:=()
def tw14486150933932070747:=()
def tw5563021883094879152:=()
def tw6952398380512131868:=()
def tw12634083963720507489:=()
def tw12623002326375617580:=()
def tw6947244626621367445:=()
def tw16887771691300586387:=()
def tw1972155620418392573:=()
def tw4293133695228178:=()
def tw16885844900028745392:=()
def tw1763950940564268284:=()
def tw13891619780210736063:=()
def tw11152757556421169592:=()
def tw10140563988987854447:=()
def tw17798102411380401958:=()
def tw2044298238779423498:=()
def tw16047090191707423984:=()
def tw3422945356991559491:=()
def tw17787095923106774311:=()
def tw14485227021483778532:=()
def tw11808695924757860739:=()
def tw17659382677630306191:=()
def tw3758023139694335704:=()
def tw5273198175449084378:=()
def tw15243463431510578116:=()
def tw12100551161160188869:=()
def tw13836897445587956556:=()
def tw14439015722762715507:=()
def tw12165946443733457302:=()
def tw8380245164599177910:=()
def tw5272487948025632530:=()
def tw6736409490336036340:=()
def tw8859294467322987143:=()
def tw14692906829428933585:=()
def tw2316077676547357619:=()
def tw3350543890123511774:=()
def tw6628462196620013653:=()
def tw3112714663274342190:=()
def tw16614246793803958478:=()
def tw7909645898511474860:=()
def tw4370984688106921493:=()
def tw16862217870513822326:=()
def tw9076349773265014723:=()
def tw7670199731443772825:=()
def tw3471956077157935541:=()
def tw12111217279417165751:=()
def tw3208547102061819900:=()
def tw7621966537126454199:=()
def tw4494979308734312845:=()
def tw2434225285918802343:=()
def tw3663890273326132309:=()
def tw9061913872070145405:=()
def tw14158962968609838077:=()
def tw12188722941385372370:=()
def tw2334309853658396990:=()
def tw16449309035618450455:=()
def tw12239606699879318732:=()
def tw913059751853271901:=()
def tw11197118960011012203:=()
def tw5647524408288268190:=()
def tw8380342378128766370:=()
end PySem.W.Fast
open PySem PySem.W PyProof.Rows L2 T
set_option maxRecDepth 100000 in
set_option maxHeartbeats 0 in
theorem PySem.Challenge.cw_passpapers_k07_kinds_refused_holds : PySem.Challenge.rw_passpapers_k07_kinds_refused.Holds := by
 w_on;o_law;k_head;(case hw=>w_witness2)
 k_fill
 refine T.walk (l:=PySem.Challenge.rw_passpapers_k07_kinds_refused) rfl rfl (fun w h Y=>PySem.W.kIn_of Y) ?yF
 case yF =>
  intro w mg fa h KX GG hmg
  refine' T.all_mk KX GG hmg ?l51 ?l52 ?l0 ?l1 ?l2 ?l3 ?l4 ?l6 ?l8 ?l11 ?l27 ?l30 ?l38 ?l39 ?l40 ?l46 ?l47 ?l50 ?l5 ?l7 ?l9 ?l10 ?l12 ?l28 ?l31 ?l32 ?l37 ?l41 ?l42 ?l44 ?l48 ?l49 ?l13 ?l14 ?l15 ?l16 ?l17 ?l18 ?l19 ?l20 ?l21 ?l22 ?l23 ?l24 ?l29 ?l33 ?l34 ?l35 ?l36 ?l45 ?l25 ?l26 ?l43 ?ll ?it1 ?it2 ?it3 ?it4 ?z0 ?z1 ?z2 ?z3 ?z4 ?z5 ?z6 ?z7 ?z8 ?z9 ?z10 ?z11 ?z12 ?gcC ?qC ?nC0 ?nC1 ?nC2 ?nC3 ?MC ?lI ?gO ?laO_ ?waO ?vaO ?gT ?lT_ ?yT ?oT ?gR ?lR_ ?yR ?oR ?gS ?lS_ ?yS ?oS ?gL ?lL_ ?yL ?oL ?u0 ?lb0_ ?wb0 ?vb0 ?u1 ?lb1_ ?wb1 ?vb1 ?u2 ?lb2_ ?wb2 ?vb2 ?u3 ?lb3_ ?wb3 ?vb3 ?u4 ?lb4_ ?wb4 ?vb4 ?u5 ?lb5_ ?wb5 ?vb5 ?u6 ?lb6_ ?wb6 ?vb6 ?u7 ?lb7_ ?wb7 ?vb7 ?u8 ?lb8_ ?wb8 ?vb8 ?u9 ?lb9_ ?wb9 ?vb9 ?u10 ?lb10_ ?wb10 ?vb10 ?u11 ?lb11_ ?wb11 ?vb11 ?u12 ?lb12_ ?wb12 ?vb12 ?u13 ?lb13_ ?wb13 ?vb13 ?r0 ?r1 ?r2 ?r3 ?r4 ?r5 ?r6 ?r7 ?r8 ?r9 ?r10 ?r11 ?r12 ?r13 ?p0 ?p1 ?p2 ?p3 ?p4 ?p5 ?p6 ?p7 ?p8 ?p9 ?h0 ?h1 ?h2 ?h3 ?h4 ?h5 ?h6 ?h7 ?h8 ?h9 ?zV ?ncP ?ncT ?ncR ?ncM ?ncA ?ncS ?xex ?xga ?xgt ?xcl ?xsb ?xob ?xis ?xmt ?xi3 ?xiT ?xiR ?xiV ?noT ?noR ?noS
  (case l51|l52=>exact gd0 (by k_is) (by k_is) (by k_is) (by k_is) fun _ _ _ _ _ _=>rfl)
  (case l0|l1|l2|l3|l4|l6|l8|l11|l27|l30|l38|l39|l40|l46|l47|l50=>exact FM (by k_is) (by k_is) (by k_is) (by k_is) fun _ _ _ _ _ _ _=>rfl)
  (case l5|l7|l9|l10|l12|l28|l31|l32|l37|l41|l42|l44|l48|l49=>exact FR (by k_is) (by k_is) (by k_is) (by k_is) fun _ _ _ _ _ _ _ _=>rfl)
  (case l13|l14|l15|l16|l17|l18|l19|l20|l21|l22|l23|l24|l29|l33|l34|l35|l36|l45=>exact gd3 (by k_is) (by k_is) (by k_is) (by k_is) fun _ _ _ _ _ _ _ _ _=>rfl)
  (case l25|l26|l43=>exact gd4 (by k_is) (by k_is) (by k_is) (by k_is) fun _ _ _ _ _ _ _ _ _ _=>rfl)
  (case ll=>exact dgm (by k_is) (by k_is) (by k_is) (by k_is))
  (case it1|it2|it3|it4=>unfold Ni;k_is)
  (case z0|z1|z2|z3|z4|z5|z6|z7|z8|z9|z10|z11|z12=>unfold Nz;k_is)
  (case gcC=>unfold Nr;k_is)
  (case qC=>exact⟨by k_is,by k_is,by k_is,by k_is⟩)
  (case nC0|nC1|nC2|nC3=>unfold BL;k_is)
  (case MC=>exact⟨by k_is,by k_is,by k_is,by k_is⟩)
  (case lI=>exact dfm (by k_is) (by k_is) (by k_is))
  (case gO=>unfold Nr;k_is)
  (case laO_=>k_is)
  (case waO=>decide)
  (case vaO=>exact (.cons ⟨_,rfl⟩ (.cons ⟨_,rfl⟩ (.cons ⟨_,rfl⟩ .nil))))
  (case gT=>unfold Nr;k_is)
  (case lT_=>k_is)
  (case yT=>k_keys)
  (case oT=>decide)
  (case gR=>unfold Nr;k_is)
  (case lR_=>k_is)
  (case yR=>k_keys)
  (case oR=>decide)
  (case gS=>unfold Nr;k_is)
  (case lS_=>k_is)
  (case yS=>k_keys)
  (case oS=>decide)
  (case gL=>unfold Nr;k_is)
  (case lL_=>k_is)
  (case yL=>k_keys)
  (case oL=>decide)
  (case u0=>unfold Nr;k_is)
  (case lb0_=>k_is)
  (case wb0=>decide)
  (case vb0=>exact (.cons ⟨_,rfl⟩ (.cons ⟨_,rfl⟩ .nil)))
  (case u1=>unfold Nr;k_is)
  (case lb1_=>k_is)
  (case wb1=>decide)
  (case vb1=>exact (.cons ⟨_,rfl⟩ (.cons ⟨_,rfl⟩ .nil)))
  (case u2=>unfold Nr;k_is)
  (case lb2_=>k_is)
  (case wb2=>decide)
  (case vb2=>exact (.cons ⟨_,rfl⟩ (.cons ⟨_,rfl⟩ .nil)))
  (case u3=>unfold Nr;k_is)
  (case lb3_=>k_is)
  (case wb3=>decide)
  (case vb3=>exact (.cons ⟨_,rfl⟩ (.cons ⟨_,rfl⟩ .nil)))
  (case u4=>unfold Nr;k_is)
  (case lb4_=>k_is)
  (case wb4=>decide)
  (case vb4=>exact (.cons ⟨_,rfl⟩ (.cons ⟨_,rfl⟩ .nil)))
  (case u5=>unfold Nr;k_is)
  (case lb5_=>k_is)
  (case wb5=>decide)
  (case vb5=>exact (.cons ⟨_,rfl⟩ (.cons ⟨_,rfl⟩ .nil)))
  (case u6=>unfold Nr;k_is)
  (case lb6_=>k_is)
  (case wb6=>decide)
  (case vb6=>exact (.cons ⟨_,rfl⟩ (.cons ⟨_,rfl⟩ .nil)))
  (case u7=>unfold Nr;k_is)
  (case lb7_=>k_is)
  (case wb7=>decide)
  (case vb7=>exact (.cons ⟨_,rfl⟩ (.cons ⟨_,rfl⟩ .nil)))
  (case u8=>unfold Nr;k_is)
  (case lb8_=>k_is)
  (case wb8=>decide)
  (case vb8=>exact (.cons ⟨_,rfl⟩ .nil))
  (case u9=>unfold Nr;k_is)
  (case lb9_=>k_is)
  (case wb9=>decide)
  (case vb9=>exact (.cons ⟨_,rfl⟩ .nil))
  (case u10=>unfold Nr;k_is)
  (case lb10_=>k_is)
  (case wb10=>decide)
  (case vb10=>exact (.cons ⟨_,rfl⟩ .nil))
  (case u11=>unfold Nr;k_is)
  (case lb11_=>k_is)
  (case wb11=>decide)
  (case vb11=>exact (.cons ⟨_,rfl⟩ (.cons ⟨_,rfl⟩ .nil)))
  (case u12=>unfold Nr;k_is)
  (case lb12_=>k_is)
  (case wb12=>decide)
  (case vb12=>exact (.cons ⟨_,rfl⟩ .nil))
  (case u13=>unfold Nr;k_is)
  (case lb13_=>k_is)
  (case wb13=>decide)
  (case vb13=>exact (.cons ⟨_,rfl⟩ (.cons ⟨_,rfl⟩ (.cons ⟨_,rfl⟩ .nil))))
  (case r0|r1|r2|r3|r4|r5|r6|r7|r8|r9|r10|r11|r12|r13=>unfold Nt;k_is)
  (case p0|p1|p2|p3|p4|p5|p6|p7|p8|p9=>unfold Nr;k_is)
  (case h0|h1|h2|h3|h4|h5|h6|h7|h8|h9=>unfold Ni;k_is)
  (case zV=>unfold Nz;k_is)
  (case ncP|ncT|ncR|ncM|ncA|ncS=>unfold Nr;k_is)
  (case xex=>kernel_rfl)
  (case xga|xgt|xcl|xsb|xob|xis=>k_is)
  (case xmt|xi3|xiT|xiR|xiV|noT|noR|noS=>kernel_rfl)
